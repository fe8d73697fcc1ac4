import PyProof.Rows.All
import Wide.All
import OpenK.AllK
import Wide.FinOn
import HandS.ForMost
import HandS.Flow
import HandS.IsInst
import HandS.FStr
import HandS.Zip
import HandS.Walk
import HandS.Wide
import HandS.TupAny
import HandS.Defaults
import HandS.Style
import HandS.SetFor
import HandS.Strs
import HandS.SortKw
import KE.DatumOrd
import HandS.NoneIn
import HandS.Conv
import HandS.Rev
import HandS.RevTup
import HandS.MapObj
import HandS.MapJoin
import HandS.Gcd
import PyProof.Rows.SortShellAny
import HandS.FromBytesMap
import KE.GoesMore
import PyProof.TupleOfGen
import HandS.Iter
import KE.KDictZip
import PyProof.ListNew
import HandS.Deep
import KE.GoesNew
import KE.KStar
import HandS.Star
import PyProof.Draws
import KE.GoesEnum
import KE.KRevSl
import HandS.TupMul
import PyProof.ReprRoads
import PyProof.StrLawsRepr
import PyProof.Rows.StrDigits
import PyProof.Rows.RegStrFacts
import KE.RegKIsAll
import PySem.Challenge.RW_shadowruns_k42_gaps_item_by_item
set_option Elab.async false
set_option linter.all false
set_option maxRecDepth 100000
set_option maxHeartbeats 4000000
/-! A layer of its own over the hand layer: values as data, the heap out of sight. -/
namespace Sh
open PySem PySem.Spec PyProof.Rows L2
inductive Dt where
  | non | bl (b : Bool) | int (i : Int) | str (s : Str) | ty (n : String) | tup (l : List Dt) | lst (l : List Dt)
section
variable (K : PySem.W.Frag)
mutual
def RD (G : Hp) : Dt → V → Prop
  | .non, v => v = .non
  | .bl b, v => v = .bl b
  | .int i, v => v = .int i
  | .str s, v => v = .str s
  | .ty n, v => v = .ty n
  | .tup l, v => ∃ a xs, v = .ref a ∧ SqT K G a xs ∧ RDs G l xs
  | .lst l, v => ∃ a xs, v = .ref a ∧ G a = some (.lst xs) ∧ RDs G l xs
def RDs (G : Hp) : List Dt → List V → Prop
  | [], xs => xs = []
  | d :: l, xs => ∃ x r, xs = x :: r ∧ RD G d x ∧ RDs G l r
end
end
section
variable {K : PySem.W.Frag}
theorem same_rd {H H' : Hp} {a : Addr} {u : HO} (e : Same H H') (h : Rd H a u) : Rd H' a u := by
  rcases h with h | ⟨o, h⟩
  · exact .inl (e _ _ h)
  · exact .inr ⟨o, e _ _ h⟩
theorem same_sqT {H H' : Hp} {a : Addr} {xs : List V} (e : Same H H') (h : SqT K H a xs) : SqT K H' a xs := by
  rcases h with h | h
  · exact .inl (same_rd e h)
  · exact .inr h
theorem same_sqL {H H' : Hp} {a : Addr} {xs : List V} (e : Same H H') (h : SqL K H a xs) : SqL K H' a xs := by
  rcases h with h | h
  · exact .inl (same_rd e h)
  · exact .inr h
mutual
theorem RD.same {G G' : Hp} (k : Same G G') : ∀ {d : Dt} {v : V}, RD K G d v → RD K G' d v
  | .non, _, h => h
  | .bl _, _, h => h
  | .int _, _, h => h
  | .str _, _, h => h
  | .ty _, _, h => h
  | .tup _, _, ⟨a, xs, e, q, r⟩ => ⟨a, xs, e, same_sqT k q, RDs.same k r⟩
  | .lst _, _, ⟨a, xs, e, q, r⟩ => ⟨a, xs, e, k _ _ q, RDs.same k r⟩
theorem RDs.same {G G' : Hp} (k : Same G G') : ∀ {l : List Dt} {xs : List V}, RDs K G l xs → RDs K G' l xs
  | [], _, h => h
  | _ :: _, _, ⟨x, r, e, h1, h2⟩ => ⟨x, r, e, RD.same k h1, RDs.same k h2⟩
end
theorem RDs.length {G : Hp} : ∀ {l : List Dt} {xs : List V}, RDs K G l xs → xs.length = l.length
  | [], _, h => by rw [show _ = [] from h]; rfl
  | _ :: _, _, ⟨x, r, e, h1, h2⟩ => by rw [e, List.length_cons, List.length_cons, RDs.length h2]
theorem RDs.get {G : Hp} : ∀ {l : List Dt} {xs : List V} {i : Nat} {d : Dt}, RDs K G l xs → l[i]? = some d → ∃ x, xs[i]? = some x ∧ RD K G d x
  | [], _, i, _, h, e => by simp at e
  | d :: l, _, 0, _, ⟨y, r, e1, h1, h2⟩, e => by
    cases e; subst e1; exact ⟨y, rfl, h1⟩
  | d :: l, _, i + 1, _, ⟨y, r, e1, h1, h2⟩, e => by
    subst e1
    obtain ⟨x, q1, q2⟩ := RDs.get (i := i) h2 (by simpa using e)
    exact ⟨x, by simpa using q1, q2⟩
theorem RDs.back {G : Hp} : ∀ {l : List Dt} {xs : List V} {i : Nat} {x : V}, RDs K G l xs → xs[i]? = some x → ∃ d, l[i]? = some d ∧ RD K G d x
  | [], _, i, x, h, e => by rw [show _ = [] from h] at e; simp at e
  | d :: l, _, 0, x, ⟨y, r, e1, h1, h2⟩, e => by
    rw [e1] at e; cases e; exact ⟨d, rfl, h1⟩
  | d :: l, _, i + 1, x, ⟨y, r, e1, h1, h2⟩, e => by
    rw [e1] at e
    obtain ⟨d', q1, q2⟩ := RDs.back (i := i) h2 (by simpa using e)
    exact ⟨d', by simpa using q1, q2⟩
theorem RDs.snoc {G : Hp} : ∀ {l : List Dt} {xs : List V} {d : Dt} {x : V}, RDs K G l xs → RD K G d x → RDs K G (l ++ [d]) (xs ++ [x])
  | [], _, d, x, h, r => by rw [show _ = [] from h]; exact ⟨x, [], rfl, r, rfl⟩
  | d :: l, _, _, x, ⟨y, r, e1, h1, h2⟩, q => ⟨y, r ++ [x], by rw [e1]; rfl, h1, RDs.snoc h2 q⟩
theorem RDs.app {G : Hp} : ∀ {l m : List Dt} {xs ys : List V}, RDs K G l xs → RDs K G m ys → RDs K G (l ++ m) (xs ++ ys)
  | [], _, _, _, h, r => by rw [show _ = [] from h]; exact r
  | d :: l, _, _, ys, ⟨y, r, e1, h1, h2⟩, q => ⟨y, r ++ ys, by rw [e1]; rfl, h1, RDs.app h2 q⟩
theorem RDs.take {G : Hp} : ∀ {l : List Dt} {xs : List V} (n : Nat), RDs K G l xs → RDs K G (l.take n) (xs.take n)
  | _, _, 0, h => by rw [List.take_zero, List.take_zero]; rfl
  | [], _, n + 1, h => by rw [show _ = [] from h]; rfl
  | d :: l, _, n + 1, ⟨y, r, e1, h1, h2⟩ => ⟨y, r.take n, by rw [e1]; rfl, h1, RDs.take n h2⟩
theorem RDs.drop {G : Hp} : ∀ {l : List Dt} {xs : List V} (n : Nat), RDs K G l xs → RDs K G (l.drop n) (xs.drop n)
  | _, _, 0, h => h
  | [], _, n + 1, h => by rw [show _ = [] from h]; rfl
  | d :: l, _, n + 1, ⟨y, r, e1, h1, h2⟩ => by rw [e1]; exact RDs.drop n h2
theorem RDs.bls {G : Hp} : ∀ {ns : List Bool} {xs : List V}, RDs K G (ns.map Dt.bl) xs → xs = ns.map V.bl
  | [], _, h => h
  | n :: ns, _, ⟨y, r, e1, h1, h2⟩ => by rw [e1, show y = V.bl n from h1, RDs.bls h2]; rfl
theorem RDs.one {G : Hp} {d : Dt} {xs : List V} (h : RDs K G [d] xs) : ∃ x, xs = [x] ∧ RD K G d x := by
  obtain ⟨x, r, rfl, h1, rfl⟩ := h
  exact ⟨x, rfl, h1⟩
theorem RDs.two {G : Hp} {d e : Dt} {xs : List V} (h : RDs K G [d, e] xs) : ∃ x y, xs = [x, y] ∧ RD K G d x ∧ RD K G e y := by
  obtain ⟨x, r, rfl, h1, y, r2, rfl, h2, rfl⟩ := h
  exact ⟨x, y, rfl, h1, h2⟩
theorem same_up {H : Hp} {p : Addr} {o : HO} (h : H p = none) : Same H (upd H p o) := fun b x e => by
  rw [upd_ne (ne_of_none e h)]; exact e
theorem same_upd {G H : Hp} {p : Addr} {o : HO} (h : Same G H) : Same (upd G p o) (upd H p o) := fun b x e => by
  by_cases z : b = p
  · subst z; rw [upd_same] at e ⊢; exact e
  · rw [upd_ne z] at e ⊢; exact h _ _ e
/-! ### what stands in the slots -/
def BxM : Int := 1000000000000
def Bx (H : Hp) (b : Addr) (y c : Int) : Prop := ∃ x : Int, H b = some (.lst [.int x, .int y, .int c]) ∧ 0 ≤ x ∧ 0 ≤ y ∧ y < 4611686018427387904
inductive En where
  | no | da (d : Dt) | own (l : List Dt) | bx (b : Addr) (f : Nat)
def En.isOwn : En → Prop
  | .own _ => True
  | .bx _ _ => True
  | _ => False
end
/-- G: what is data; H: all; B: what others hold and is no data -/
structure Mt (K : PySem.W.Frag) (B : Addr → Prop) (ρ : List En) (σ : L2.St) (G H : Hp) : Prop where
  sub : Same G H
  pro : ∀ a, B a → G a = none ∧ H a ≠ none
  len : σ.length = ρ.length
  da : ∀ (i : Nat) (d : Dt), ρ[i]? = some (.da d) → ∃ v, σ[i]? = some (some v) ∧ RD K G d v
  own : ∀ (i : Nat) (l : List Dt), ρ[i]? = some (.own l) → ∃ (q : Addr) (xs : List V), σ[i]? = some (some (V.ref q)) ∧ H q = some (.lst xs) ∧ RDs K G l xs ∧ G q = none ∧ ¬ B q
  bx : ∀ (i : Nat) (b : Addr) (f : Nat), ρ[i]? = some (.bx b f) → ∃ (y c : Int), σ[i]? = some (some (V.ref b)) ∧ Bx H b y c ∧ 0 ≤ c ∧ c + f ≤ BxM ∧ G b = none ∧ ¬ B b
  dis : ∀ (i j : Nat) (e e' : En) (a : Addr), ρ[i]? = some e → ρ[j]? = some e' → e.isOwn → e'.isOwn → i ≠ j → σ[i]? = some (some (V.ref a)) → σ[j]? = some (some (V.ref a)) → False
/-- what others hold stays -/
def Tr (B : Addr → Prop) (H H' : Hp) : Prop := ∀ a o, B a → H a = some o → H' a = some o
theorem Tr.refl {B : Addr → Prop} {H : Hp} : Tr B H H := fun _ _ _ e => e
theorem Tr.trans {B : Addr → Prop} {H H1 H2 : Hp} (x : Tr B H H1) (y : Tr B H1 H2) : Tr B H H2 := fun a o b e => y a o b (x a o b e)
theorem Tr.same {B : Addr → Prop} {H H' : Hp} (x : Same H H') : Tr B H H' := fun a o _ e => x a o e
/-- a step that only lays new data -/
structure Nw (G H G' H' : Hp) : Prop where
  g : Same G G'
  s : Same G' H'
  h : Same H H'
  f : ∀ a, G a = none → H a ≠ none → G' a = none
theorem Nw.refl {G H : Hp} (s : Same G H) : Nw G H G H := ⟨Same.refl _, s, Same.refl _, fun _ h _ => h⟩
theorem Nw.trans {G H G1 H1 G2 H2 : Hp} (x : Nw G H G1 H1) (y : Nw G1 H1 G2 H2) : Nw G H G2 H2 :=
  ⟨x.g.trans y.g, y.s, x.h.trans y.h, fun a h1 h2 => y.f a (x.f a h1 h2) (fun z => by
    cases e : H a with
    | none => exact h2 e
    | some o => rw [x.h _ _ e] at z; cases z)⟩
theorem Nw.new {G H : Hp} {p : Addr} {o : HO} (s : Same G H) (n : H p = none) : Nw G H (upd G p o) (upd H p o) :=
  ⟨same_up (s.free n), same_upd s, same_up n, fun a h1 h2 => by
    rw [upd_ne (fun z => h2 (by rw [z]; exact n))]; exact h1⟩
section
variable {K : PySem.W.Frag} {B : Addr → Prop} {ρ : List En} {σ : L2.St} {G H G' H' : Hp}
theorem ne_none {H H' : Hp} {a : Addr} (s : Same H H') (h : H a ≠ none) : H' a ≠ none := fun z => h (s.free z)
theorem some_ne {H : Hp} {a : Addr} {o : HO} (e : H a = some o) : H a ≠ none := fun z => by rw [z] at e; cases e
theorem Bx.ne {b : Addr} {y c : Int} (h : Bx H b y c) : H b ≠ none := by
  obtain ⟨x, e, _⟩ := h
  exact some_ne e
theorem Bx.same {b : Addr} {y c : Int} (s : Same H H') (h : Bx H b y c) : Bx H' b y c := by
  obtain ⟨x, e, r⟩ := h
  exact ⟨x, s _ _ e, r⟩
theorem Mt.nw (m : Mt K B ρ σ G H) (n : Nw G H G' H') : Mt K B ρ σ G' H' where
  sub := n.s
  pro := fun a b => ⟨n.f a (m.pro a b).1 (m.pro a b).2, ne_none n.h (m.pro a b).2⟩
  len := m.len
  da := fun i d e => by
    obtain ⟨v, h1, h2⟩ := m.da i d e
    exact ⟨v, h1, h2.same n.g⟩
  own := fun i l e => by
    obtain ⟨q, xs, h1, h2, h3, h4, h5⟩ := m.own i l e
    exact ⟨q, xs, h1, n.h _ _ h2, h3.same n.g, n.f q h4 (some_ne h2), h5⟩
  bx := fun i b f e => by
    obtain ⟨y, c, h1, h2, h3, h4, h5, h6⟩ := m.bx i b f e
    exact ⟨y, c, h1, h2.same n.h, h3, h4, n.f b h5 h2.ne, h6⟩
  dis := m.dis
theorem get_set {α : Type} {l : List α} {i j : Nat} {x y : α} (h : (l.set i x)[j]? = some y) : (i = j ∧ y = x ∧ i < l.length) ∨ (i ≠ j ∧ l[j]? = some y) := by
  rw [List.getElem?_set] at h
  by_cases e : i = j
  · rw [if_pos e] at h
    split at h
    · cases h; exact .inl ⟨e, rfl, by assumption⟩
    · cases h
  · rw [if_neg e] at h; exact .inr ⟨e, h⟩
theorem set_at {α : Type} {l : List α} {i : Nat} {x : α} (h : i < l.length) : (l.set i x)[i]? = some x := by
  rw [List.getElem?_set, if_pos rfl, if_pos h]
theorem set_off {α : Type} {l : List α} {i j : Nat} {x : α} (h : i ≠ j) : (l.set i x)[j]? = l[j]? := by
  rw [List.getElem?_set, if_neg h]
/-- a slot gets data -/
theorem Mt.set (m : Mt K B ρ σ G H) (i : Nat) {d : Dt} {v : V} (r : RD K G d v) : Mt K B (ρ.set i (.da d)) (σ.set i (some v)) G H where
  sub := m.sub
  pro := m.pro
  len := by rw [List.length_set, List.length_set]; exact m.len
  da := fun j e h => by
    rcases get_set h with ⟨rfl, z, lt⟩ | ⟨ne, z⟩
    · cases z; exact ⟨v, set_at (by rw [m.len]; exact lt), r⟩
    · rw [set_off ne]; exact m.da j e z
  own := fun j l h => by
    rcases get_set h with ⟨rfl, z, lt⟩ | ⟨ne, z⟩
    · cases z
    · rw [set_off ne]; exact m.own j l z
  bx := fun j b f h => by
    rcases get_set h with ⟨rfl, z, lt⟩ | ⟨ne, z⟩
    · cases z
    · rw [set_off ne]; exact m.bx j b f z
  dis := fun j k e e' a h1 h2 o1 o2 ne s1 s2 => by
    rcases get_set h1 with ⟨rfl, z, lt⟩ | ⟨n1, z1⟩
    · subst z; exact o1
    · rcases get_set h2 with ⟨rfl, z, lt⟩ | ⟨n2, z2⟩
      · subst z; exact o2
      · rw [set_off n1] at s1; rw [set_off n2] at s2; exact m.dis j k e e' a z1 z2 o1 o2 ne s1 s2
/-- a slot is forgotten -/
theorem Mt.drop (m : Mt K B ρ σ G H) (i : Nat) (o : Option V) : Mt K B (ρ.set i .no) (σ.set i o) G H where
  sub := m.sub
  pro := m.pro
  len := by rw [List.length_set, List.length_set]; exact m.len
  da := fun j e h => by
    rcases get_set h with ⟨rfl, z, lt⟩ | ⟨ne, z⟩
    · cases z
    · rw [set_off ne]; exact m.da j e z
  own := fun j l h => by
    rcases get_set h with ⟨rfl, z, lt⟩ | ⟨ne, z⟩
    · cases z
    · rw [set_off ne]; exact m.own j l z
  bx := fun j b f h => by
    rcases get_set h with ⟨rfl, z, lt⟩ | ⟨ne, z⟩
    · cases z
    · rw [set_off ne]; exact m.bx j b f z
  dis := fun j k e e' a h1 h2 o1 o2 ne s1 s2 => by
    rcases get_set h1 with ⟨rfl, z, lt⟩ | ⟨n1, z1⟩
    · subst z; exact o1
    · rcases get_set h2 with ⟨rfl, z, lt⟩ | ⟨n2, z2⟩
      · subst z; exact o2
      · rw [set_off n1] at s1; rw [set_off n2] at s2; exact m.dis j k e e' a z1 z2 o1 o2 ne s1 s2
/-- less is protected -/
theorem Mt.less (m : Mt K B ρ σ G H) {B' : Addr → Prop} (h : ∀ a, B' a → B a) : Mt K B' ρ σ G H where
  sub := m.sub
  pro := fun a b => m.pro a (h a b)
  len := m.len
  da := m.da
  own := fun i l e => by
    obtain ⟨q, xs, h1, h2, h3, h4, h5⟩ := m.own i l e
    exact ⟨q, xs, h1, h2, h3, h4, fun z => h5 (h _ z)⟩
  bx := fun i b f e => by
    obtain ⟨y, c, h1, h2, h3, h4, h5, h6⟩ := m.bx i b f e
    exact ⟨y, c, h1, h2, h3, h4, h5, fun z => h6 (h _ z)⟩
  dis := m.dis
/-- a new object that is no data is protected, too -/
theorem Mt.guard (m : Mt K B ρ σ G H) {p : Addr} {o : HO} (n : H p = none) : Mt K (fun a => B a ∨ a = p) ρ σ G (upd H p o) where
  sub := m.sub.trans (same_up n)
  pro := fun a b => by
    rcases b with b | rfl
    · exact ⟨(m.pro a b).1, ne_none (same_up n) (m.pro a b).2⟩
    · exact ⟨m.sub.free n, some_ne upd_same⟩
  len := m.len
  da := m.da
  own := fun i l e => by
    obtain ⟨q, xs, h1, h2, h3, h4, h5⟩ := m.own i l e
    exact ⟨q, xs, h1, same_up n _ _ h2, h3, h4, fun z => z.elim h5 (ne_of_none h2 n)⟩
  bx := fun i b f e => by
    obtain ⟨y, c, h1, h2, h3, h4, h5, h6⟩ := m.bx i b f e
    exact ⟨y, c, h1, h2.same (same_up n), h3, h4, h5, fun z => z.elim h6 (fun w => h2.ne (by rw [w]; exact n))⟩
  dis := m.dis
/-- a protected object changes -/
theorem Mt.turn (m : Mt K B ρ σ G H) {p : Addr} {o : HO} (bp : B p) : Mt K B ρ σ G (upd H p o) where
  sub := fun a u e => by
    rw [upd_ne (fun z => by rw [z, (m.pro p bp).1] at e; cases e)]; exact m.sub _ _ e
  pro := fun a ba => ⟨(m.pro a ba).1, by
    by_cases z : a = p
    · subst z; exact some_ne upd_same
    · rw [upd_ne z]; exact (m.pro a ba).2⟩
  len := m.len
  da := m.da
  own := fun i l e => by
    obtain ⟨q, xs, h1, h2, h3, h4, h5⟩ := m.own i l e
    exact ⟨q, xs, h1, by rw [upd_ne (fun z => h5 (by rw [z]; exact bp))]; exact h2, h3, h4, h5⟩
  bx := fun i b f e => by
    obtain ⟨y, k, h1, ⟨x, h2, h2'⟩, h3, h4, h5, h6⟩ := m.bx i b f e
    exact ⟨y, k, h1, ⟨x, by rw [upd_ne (fun z => h6 (by rw [z]; exact bp))]; exact h2, h2'⟩, h3, h4, h5, h6⟩
  dis := m.dis
/-- an own list becomes data -/
theorem Mt.frz (m : Mt K B ρ σ G H) {i : Nat} {l : List Dt} (e : ρ[i]? = some (.own l)) : ∃ G', Mt K B (ρ.set i (.da (.lst l))) σ G' H ∧ Same G G' := by
  obtain ⟨q, xs, h1, h2, h3, h4, h5⟩ := m.own i l e
  have sg : Same G (upd G q (.lst xs)) := same_up h4
  have li : i < ρ.length := (List.getElem?_eq_some_iff.mp e).1
  refine ⟨upd G q (.lst xs), ⟨?_, ?_, ?_, ?_, ?_, ?_, ?_⟩, sg⟩
  · intro a o z
    by_cases w : a = q
    · subst w; rw [upd_same] at z; cases z; exact h2
    · rw [upd_ne w] at z; exact m.sub _ _ z
  · exact fun a b => ⟨by rw [upd_ne (fun z => h5 (by rw [← z]; exact b))]; exact (m.pro a b).1, (m.pro a b).2⟩
  · rw [List.length_set]; exact m.len
  · intro j d h
    rcases get_set h with ⟨rfl, z, lt⟩ | ⟨ne, z⟩
    · cases z; exact ⟨_, h1, q, xs, rfl, upd_same, h3.same sg⟩
    · obtain ⟨v, z1, z2⟩ := m.da j d z
      exact ⟨v, z1, z2.same sg⟩
  · intro j k h
    rcases get_set h with ⟨rfl, z, lt⟩ | ⟨ne, z⟩
    · cases z
    · obtain ⟨q', ys, z1, z2, z3, z4, z5⟩ := m.own j k z
      exact ⟨q', ys, z1, z2, z3.same sg, by rw [upd_ne (fun w => m.dis i j _ _ q e z trivial trivial ne h1 (by rw [← w]; exact z1))]; exact z4, z5⟩
  · intro j b f h
    rcases get_set h with ⟨rfl, z, lt⟩ | ⟨ne, z⟩
    · cases z
    · obtain ⟨y, c, z1, z2, z3, z4, z5, z6⟩ := m.bx j b f z
      exact ⟨y, c, z1, z2, z3, z4, by rw [upd_ne (fun w => m.dis i j _ _ q e z trivial trivial ne h1 (by rw [← w]; exact z1))]; exact z5, z6⟩
  · intro j k e1 e2 a g1 g2 o1 o2 ne s1 s2
    rcases get_set g1 with ⟨rfl, z, lt⟩ | ⟨n1, z1⟩
    · subst z; exact o1
    · rcases get_set g2 with ⟨rfl, z, lt⟩ | ⟨n2, z2⟩
      · subst z; exact o2
      · exact m.dis j k e1 e2 a z1 z2 o1 o2 ne s1 s2
end
end Sh
set_option Elab.async false
set_option linter.all false
set_option maxRecDepth 100000
set_option maxHeartbeats 4000000
namespace Sh
open PySem PySem.Spec PyProof.Rows L2
section
variable (K : PySem.W.Frag)
/-- what must hold so that an expression gives d, leaving ρ', of which Ψ d ρ' holds: of data alone -/
def AE (te : TE) (ρ : List En) (Ψ : Dt → List En → Prop) : Prop := ∀ B σ G H, Mt K B ρ σ G H → ∀ Q : VK, (∀ v d ρ' G' H', Mt K B ρ' σ G' H' → Same G G' → Tr B H H' → RD K G' d v → Ψ d ρ' → Q v H') → te σ H Q
def AT (tt : TT) (ρ : List En) (Ψ : Bool → List En → Prop) : Prop := ∀ B σ G H, Mt K B ρ σ G H → ∀ Q : Bool → Hp → Prop, (∀ b ρ' G' H', Mt K B ρ' σ G' H' → Same G G' → Tr B H H' → Ψ b ρ' → Q b H') → tt σ H Q
def AA (ta : TA) (ρ : List En) (Ψ : List Dt → List En → Prop) : Prop := ∀ B σ G H, Mt K B ρ σ G H → ∀ Q : List V → Hp → Prop, (∀ vs ds ρ' G' H', Mt K B ρ' σ G' H' → Same G G' → Tr B H H' → RDs K G' ds vs → Ψ ds ρ' → Q vs H') → ta σ H Q
/-- a block: N of what it goes on with, R of what it returns -/
def AS (ts : TS) (ρ : List En) (N : List En → Prop) (R : Dt → List En → Prop) : Prop := ∀ B σ G H, Mt K B ρ σ G H → ∀ D : Ends,
  (∀ σ' ρ' G' H', Mt K B ρ' σ' G' H' → Same G G' → Tr B H H' → N ρ' → D.nx σ' H') →
  (∀ v d σ' ρ' G' H', Mt K B ρ' σ' G' H' → Same G G' → Tr B H H' → RD K G' d v → R d ρ' → D.rt v H') → ts D σ H
/-- by values: of data to data, only new data laid -/
def AR (r : R2) (d1 d2 : Dt) (Φ : Dt → Prop) : Prop := ∀ G H, Same G H → ∀ x y, RD K G d1 x → RD K G d2 y → ∀ Q : VK, (∀ v d G' H', Nw G H G' H' → RD K G' d v → Φ d → Q v H') → r x y H Q
def AU (r : V → Hp → VK → Prop) (d1 : Dt) (Φ : Dt → Prop) : Prop := ∀ G H, Same G H → ∀ x, RD K G d1 x → ∀ Q : VK, (∀ v d G' H', Nw G H G' H' → RD K G' d v → Φ d → Q v H') → r x H Q
def AC (r : List V → Hp → VK → Prop) (ds : List Dt) (Φ : Dt → Prop) : Prop := ∀ G H, Same G H → ∀ vs, RDs K G ds vs → ∀ Q : VK, (∀ v d G' H', Nw G H G' H' → RD K G' d v → Φ d → Q v H') → r vs H Q
end
section
variable {K : PySem.W.Frag} {ρ : List En} {Ψ : Dt → List En → Prop} {ΨT : Bool → List En → Prop} {ΨA : List Dt → List En → Prop} {N : List En → Prop} {R : Dt → List En → Prop} {Φ : Dt → Prop}
theorem ae_var {i : Nat} {d : Dt} (e : ρ[i]? = some (.da d)) (h : Ψ d ρ) : AE K (tVar i) ρ Ψ := fun B σ G H m Q q => by
  obtain ⟨v, h1, h2⟩ := m.da i d e
  exact ⟨v, h1, q v d ρ G H m (Same.refl _) Tr.refl h2 h⟩
theorem ae_c {v : V} (d : Dt) (e : ∀ G, RD K G d v) (h : Ψ d ρ) : AE K (tC v) ρ Ψ := fun B σ G H m Q q => q v d ρ G H m (Same.refl _) Tr.refl (e G) h
theorem ae_int {i : Int} (h : Ψ (.int i) ρ) : AE K (tC (.int i)) ρ Ψ := ae_c (.int i) (fun _ => rfl) h
theorem ae_non (h : Ψ .non ρ) : AE K (tC .non) ρ Ψ := ae_c .non (fun _ => rfl) h
theorem ae_bl {b : Bool} (h : Ψ (.bl b) ρ) : AE K (tC (.bl b)) ρ Ψ := ae_c (.bl b) (fun _ => rfl) h
theorem ae_mono {te : TE} {Ψ' : Dt → List En → Prop} (h : AE K te ρ Ψ') (k : ∀ d ρ', Ψ' d ρ' → Ψ d ρ') : AE K te ρ Ψ := fun B σ G H m Q q =>
  h B σ G H m Q fun v d ρ' G' H' m' s t r p => q v d ρ' G' H' m' s t r (k d ρ' p)
theorem ae_op {r : R2} {ta tb : TE} (h : AE K ta ρ fun d1 ρ1 => AE K tb ρ1 fun d2 ρ2 => AR K r d1 d2 fun d => Ψ d ρ2) : AE K (tOp r ta tb) ρ Ψ := fun B σ G H m Q q =>
  h B σ G H m _ fun x d1 ρ1 G1 H1 m1 s1 t1 r1 h1 => h1 B σ G1 H1 m1 _ fun y d2 ρ2 G2 H2 m2 s2 t2 r2 h2 =>
    h2 G2 H2 m2.sub x y (r1.same s2) r2 Q fun v d G3 H3 n3 r3 p3 => q v d ρ2 G3 H3 (m2.nw n3) ((s1.trans s2).trans n3.g) ((t1.trans t2).trans (Tr.same n3.h)) r3 p3
theorem ae_un {r : V → Hp → VK → Prop} {ta : TE} (h : AE K ta ρ fun d1 ρ1 => AU K r d1 fun d => Ψ d ρ1) : AE K (tUn r ta) ρ Ψ := fun B σ G H m Q q =>
  h B σ G H m _ fun x d1 ρ1 G1 H1 m1 s1 t1 r1 h1 => h1 G1 H1 m1.sub x r1 Q fun v d G3 H3 n3 r3 p3 => q v d ρ1 G3 H3 (m1.nw n3) (s1.trans n3.g) (t1.trans (Tr.same n3.h)) r3 p3
theorem aa_nil (h : ΨA [] ρ) : AA K tNil ρ ΨA := fun B σ G H m Q q => q [] [] ρ G H m (Same.refl _) Tr.refl rfl h
theorem aa_cons {ta : TE} {tr : TA} (h : AE K ta ρ fun d ρ1 => AA K tr ρ1 fun ds ρ2 => ΨA (d :: ds) ρ2) : AA K (tCons ta tr) ρ ΨA := fun B σ G H m Q q =>
  h B σ G H m _ fun x d ρ1 G1 H1 m1 s1 t1 r1 h1 => h1 B σ G1 H1 m1 _ fun xs ds ρ2 G2 H2 m2 s2 t2 r2 h2 =>
    q (x :: xs) (d :: ds) ρ2 G2 H2 m2 (s1.trans s2) (t1.trans t2) ⟨x, xs, rfl, r1.same s2, r2⟩ h2
theorem ae_cb {r : List V → Hp → VK → Prop} {ta : TA} (h : AA K ta ρ fun ds ρ1 => AC K r ds fun d => Ψ d ρ1) : AE K (tCB r ta) ρ Ψ := fun B σ G H m Q q =>
  h B σ G H m _ fun x d1 ρ1 G1 H1 m1 s1 t1 r1 h1 => h1 G1 H1 m1.sub x r1 Q fun v d G3 H3 n3 r3 p3 => q v d ρ1 G3 H3 (m1.nw n3) (s1.trans n3.g) (t1.trans (Tr.same n3.h)) r3 p3
theorem ae_tup {ta : TA} (h : AA K ta ρ fun ds ρ1 => ds.length ≤ sizeLine ∧ Ψ (.tup ds) ρ1) : AE K (tTup ta) ρ Ψ := fun B σ G H m Q q =>
  h B σ G H m _ fun xs ds ρ1 G1 H1 m1 s1 t1 r1 h1 => ⟨by rw [r1.length]; exact h1.1, fun p hp => by
    have n := Nw.new (o := .tup xs) m1.sub hp
    exact q _ (.tup ds) ρ1 _ _ (m1.nw n) (s1.trans n.g) (t1.trans (Tr.same n.h)) ⟨p, xs, rfl, SqT.of upd_same, r1.same n.g⟩ h1.2⟩
theorem ae_lst {ta : TA} (h : AA K ta ρ fun ds ρ1 => ds.length ≤ sizeLine ∧ Ψ (.lst ds) ρ1) : AE K (tLst ta) ρ Ψ := fun B σ G H m Q q =>
  h B σ G H m _ fun xs ds ρ1 G1 H1 m1 s1 t1 r1 h1 => ⟨by rw [r1.length]; exact h1.1, fun p hp => by
    have n := Nw.new (o := .lst xs) m1.sub hp
    exact q _ (.lst ds) ρ1 _ _ (m1.nw n) (s1.trans n.g) (t1.trans (Tr.same n.h)) ⟨p, xs, rfl, upd_same, r1.same n.g⟩ h1.2⟩
theorem ae_if {tt : TT} {ta tb : TE} (h : AT K tt ρ fun b ρ1 => (b = true → AE K ta ρ1 Ψ) ∧ (b = false → AE K tb ρ1 Ψ)) : AE K (tIf tt ta tb) ρ Ψ := fun B σ G H m Q q =>
  h B σ G H m _ fun b ρ1 G1 H1 m1 s1 t1 h1 => by
    cases b
    · rw [if_neg (by decide)]; exact h1.2 rfl B σ G1 H1 m1 Q fun v d ρ' G' H' m' s t r p => q v d ρ' G' H' m' (s1.trans s) (t1.trans t) r p
    · rw [if_pos rfl]; exact h1.1 rfl B σ G1 H1 m1 Q fun v d ρ' G' H' m' s t r p => q v d ρ' G' H' m' (s1.trans s) (t1.trans t) r p
theorem at_test {te : TE} (h : AE K te ρ fun d ρ1 => ∃ b, d = .bl b ∧ ΨT b ρ1) : AT K (tTest te) ρ ΨT := fun B σ G H m Q q =>
  h B σ G H m _ fun v d ρ1 G1 H1 m1 s1 t1 r1 ⟨b, e, p⟩ => by
    subst e; exact ⟨b, r1, q b ρ1 G1 H1 m1 s1 t1 p⟩
theorem at_b {te : TE} (h : AE K te ρ fun d ρ1 => ∃ b, d = .bl b ∧ ΨT b ρ1) : AT K (tB te) ρ ΨT := at_test h
theorem at_and {t u : TT} (h : AT K t ρ fun b ρ1 => (b = true → AT K u ρ1 ΨT) ∧ (b = false → ΨT false ρ1)) : AT K (tAnd t u) ρ ΨT := fun B σ G H m Q q =>
  h B σ G H m _ fun b ρ1 G1 H1 m1 s1 t1 h1 => by
    cases b
    · rw [if_neg (by decide)]; exact q false ρ1 G1 H1 m1 s1 t1 (h1.2 rfl)
    · rw [if_pos rfl]; exact h1.1 rfl B σ G1 H1 m1 Q fun d ρ' G' H' m' s t p => q d ρ' G' H' m' (s1.trans s) (t1.trans t) p
theorem at_or {t u : TT} (h : AT K t ρ fun b ρ1 => (b = true → ΨT true ρ1) ∧ (b = false → AT K u ρ1 ΨT)) : AT K (tOr t u) ρ ΨT := fun B σ G H m Q q =>
  h B σ G H m _ fun b ρ1 G1 H1 m1 s1 t1 h1 => by
    cases b
    · rw [if_neg (by decide)]; exact h1.2 rfl B σ G1 H1 m1 Q fun d ρ' G' H' m' s t p => q d ρ' G' H' m' (s1.trans s) (t1.trans t) p
    · rw [if_pos rfl]; exact q true ρ1 G1 H1 m1 s1 t1 (h1.1 rfl)
theorem at_not {t : TT} (h : AT K t ρ fun b ρ1 => ΨT (!b) ρ1) : AT K (tNot t) ρ ΨT := fun B σ G H m Q q =>
  h B σ G H m _ fun b ρ1 G1 H1 m1 s1 t1 h1 => q (!b) ρ1 G1 H1 m1 s1 t1 h1
theorem ae_andV {ta tb : TE} (h : AE K ta ρ fun d ρ1 => ∃ b, d = .bl b ∧ (b = true → AE K tb ρ1 Ψ) ∧ (b = false → Ψ (.bl false) ρ1)) : AE K (tAndV ta tb) ρ Ψ := fun B σ G H m Q q =>
  h B σ G H m _ fun v d ρ1 G1 H1 m1 s1 t1 r1 ⟨b, e, h1, h2⟩ => by
    subst e
    refine ⟨b, r1, ?_⟩
    cases b
    · rw [if_neg (by decide)]; exact q _ (.bl false) ρ1 G1 H1 m1 s1 t1 rfl (h2 rfl)
    · rw [if_pos rfl]; exact h1 rfl B σ G1 H1 m1 Q fun v d ρ' G' H' m' s t r p => q v d ρ' G' H' m' (s1.trans s) (t1.trans t) r p
theorem ae_orV {ta tb : TE} (h : AE K ta ρ fun d ρ1 => ∃ b, d = .bl b ∧ (b = true → Ψ (.bl true) ρ1) ∧ (b = false → AE K tb ρ1 Ψ)) : AE K (tOrV ta tb) ρ Ψ := fun B σ G H m Q q =>
  h B σ G H m _ fun v d ρ1 G1 H1 m1 s1 t1 r1 ⟨b, e, h1, h2⟩ => by
    subst e
    refine ⟨b, r1, ?_⟩
    cases b
    · rw [if_neg (by decide)]; exact h2 rfl B σ G1 H1 m1 Q fun v d ρ' G' H' m' s t r p => q v d ρ' G' H' m' (s1.trans s) (t1.trans t) r p
    · rw [if_pos rfl]; exact q _ (.bl true) ρ1 G1 H1 m1 s1 t1 rfl (h1 rfl)
theorem ae_notV {ta : TE} (h : AE K ta ρ fun d ρ1 => ∃ b, d = .bl b ∧ Ψ (.bl (!b)) ρ1) : AE K (tNotV ta) ρ Ψ := fun B σ G H m Q q =>
  h B σ G H m _ fun v d ρ1 G1 H1 m1 s1 t1 r1 ⟨b, e, h1⟩ => by
    subst e
    exact ⟨b, r1, q _ (.bl (!b)) ρ1 G1 H1 m1 s1 t1 rfl h1⟩
/-! statements -/
theorem as_seq {t u : TS} (h : AS K t ρ (fun ρ1 => AS K u ρ1 N R) R) : AS K (tSeq t u) ρ N R := fun B σ G H m D qn qr =>
  h B σ G H m { D with nx := u D } (fun σ1 ρ1 G1 H1 m1 s1 t1 h1 => h1 B σ1 G1 H1 m1 D (fun σ' ρ' G' H' m' s t p => qn σ' ρ' G' H' m' (s1.trans s) (t1.trans t) p) fun v d σ' ρ' G' H' m' s t r p => qr v d σ' ρ' G' H' m' (s1.trans s) (t1.trans t) r p) qr
theorem as_next (h : N ρ) : AS K tNext ρ N R := fun B σ G H m D qn qr => qn σ ρ G H m (Same.refl _) Tr.refl h
theorem as_ret {te : TE} (h : AE K te ρ R) : AS K (tRet te) ρ N R := fun B σ G H m D qn qr => h B σ G H m _ fun v d ρ1 G1 H1 m1 s1 t1 r1 h1 => qr v d σ ρ1 G1 H1 m1 s1 t1 r1 h1
theorem as_if {c : TT} {t u : TS} (h : AT K c ρ fun b ρ1 => (b = true → AS K t ρ1 N R) ∧ (b = false → AS K u ρ1 N R)) : AS K (tIfS c t u) ρ N R := fun B σ G H m D qn qr =>
  h B σ G H m _ fun b ρ1 G1 H1 m1 s1 t1 h1 => by
    cases b
    · rw [if_neg (by decide)]
      exact h1.2 rfl B σ G1 H1 m1 D (fun σ' ρ' G' H' m' s t p => qn σ' ρ' G' H' m' (s1.trans s) (t1.trans t) p) fun v d σ' ρ' G' H' m' s t r p => qr v d σ' ρ' G' H' m' (s1.trans s) (t1.trans t) r p
    · rw [if_pos rfl]
      exact h1.1 rfl B σ G1 H1 m1 D (fun σ' ρ' G' H' m' s t p => qn σ' ρ' G' H' m' (s1.trans s) (t1.trans t) p) fun v d σ' ρ' G' H' m' s t r p => qr v d σ' ρ' G' H' m' (s1.trans s) (t1.trans t) r p
theorem as_set {te : TE} {i : Nat} (h : AE K te ρ fun d ρ1 => N (ρ1.set i (.da d))) : AS K (tAsg te (gName i)) ρ N R := fun B σ G H m D qn qr =>
  h B σ G H m _ fun v d ρ1 G1 H1 m1 s1 t1 r1 h1 => qn _ _ G1 H1 (m1.set i r1) s1 t1 h1
theorem as_par {ta : TA} {i j : Nat} (h : AA K ta ρ fun ds ρ1 => ∃ d e, ds = [d, e] ∧ N ((ρ1.set i (.da d)).set j (.da e))) : AS K (tPar i j ta) ρ N R := fun B σ G H m D qn qr =>
  h B σ G H m _ fun vs ds ρ1 G1 H1 m1 s1 t1 r1 ⟨d, e, z, h1⟩ => by
    subst z
    obtain ⟨x, y, rfl, r2, r3⟩ := r1.two
    exact ⟨x, y, rfl, qn _ _ G1 H1 ((m1.set i r2).set j r3) s1 t1 h1⟩
/-- targets -/
def AG (K : PySem.W.Frag) (g : TG) (d : Dt) (ρ : List En) (N : List En → Prop) : Prop := ∀ B σ G H, Mt K B ρ σ G H → ∀ v, RD K G d v → ∀ Q : L2.St → Hp → Prop, (∀ σ' ρ' G' H', Mt K B ρ' σ' G' H' → Same G G' → Tr B H H' → N ρ' → Q σ' H') → g v σ H Q
def AGs (K : PySem.W.Frag) (g : TGs) (ds : List Dt) (ρ : List En) (N : List En → Prop) : Prop := ∀ B σ G H, Mt K B ρ σ G H → ∀ vs, RDs K G ds vs → ∀ Q : L2.St → Hp → Prop, (∀ σ' ρ' G' H', Mt K B ρ' σ' G' H' → Same G G' → Tr B H H' → N ρ' → Q σ' H') → g vs σ H Q
theorem ag_name {i : Nat} {d : Dt} (h : N (ρ.set i (.da d))) : AG K (gName i) d ρ N := fun B σ G H m v r Q q => q _ _ G H (m.set i r) (Same.refl _) Tr.refl h
theorem ags_nil (h : N ρ) : AGs K gNil [] ρ N := fun B σ G H m vs r Q q => ⟨r, q σ ρ G H m (Same.refl _) Tr.refl h⟩
theorem ags_cons {t : TG} {u : TGs} {d : Dt} {ds : List Dt} (h : AG K t d ρ fun ρ1 => AGs K u ds ρ1 N) : AGs K (gCons t u) (d :: ds) ρ N := fun B σ G H m vs r Q q => by
  obtain ⟨x, xs, rfl, r1, r2⟩ := r
  exact ⟨x, xs, rfl, h B σ G H m x r1 _ fun σ1 ρ1 G1 H1 m1 s1 t1 h1 => h1 B σ1 G1 H1 m1 xs (r2.same s1) Q fun σ' ρ' G' H' m' s t p => q σ' ρ' G' H' m' (s1.trans s) (t1.trans t) p⟩
theorem ag_tup {t : TGs} {n : Nat} {ds : List Dt} (hn : ds.length = n) (h : AGs K t ds ρ N) : AG K (gTup K n t) (.tup ds) ρ N := fun B σ G H m v r Q q => by
  obtain ⟨a, xs, rfl, r1, r2⟩ := r
  exact ⟨a, xs, rfl, same_sqT m.sub r1, by rw [r2.length]; exact hn, h B σ G H m xs r2 Q q⟩
/-! own lists -/
theorem Mt.setOwn {B : Addr → Prop} {σ : L2.St} {G H : Hp} (m : Mt K B ρ σ G H) (i : Nat) {p : Addr} {xs : List V} {l : List Dt} (n : H p = none) (r : RDs K G l xs) : Mt K B (ρ.set i (.own l)) (σ.set i (some (.ref p))) G (upd H p (.lst xs)) where
  sub := m.sub.trans (same_up n)
  pro := fun a b => ⟨(m.pro a b).1, ne_none (same_up n) (m.pro a b).2⟩
  len := by rw [List.length_set, List.length_set]; exact m.len
  da := fun j e h => by
    rcases get_set h with ⟨rfl, z, lt⟩ | ⟨ne, z⟩
    · cases z
    · rw [set_off ne]; exact m.da j e z
  own := fun j k h => by
    rcases get_set h with ⟨rfl, z, lt⟩ | ⟨ne, z⟩
    · cases z
      exact ⟨p, xs, set_at (by rw [m.len]; exact lt), upd_same, r, m.sub.free n, fun b => (m.pro p b).2 n⟩
    · rw [set_off ne]
      obtain ⟨q, ys, z1, z2, z3, z4, z5⟩ := m.own j k z
      exact ⟨q, ys, z1, same_up n _ _ z2, z3, z4, z5⟩
  bx := fun j b f h => by
    rcases get_set h with ⟨rfl, z, lt⟩ | ⟨ne, z⟩
    · cases z
    · rw [set_off ne]
      obtain ⟨y, c, z1, z2, z3⟩ := m.bx j b f z
      exact ⟨y, c, z1, z2.same (same_up n), z3⟩
  dis := fun j k e e' a h1 h2 o1 o2 ne s1 s2 => by
    have there : ∀ (j : Nat) (e : En), ρ[j]? = some e → e.isOwn → σ[j]? = some (some (V.ref a)) → H a ≠ none := fun j e h o s => by
      cases e with
      | no => exact o.elim
      | da d => exact o.elim
      | own l => obtain ⟨q, ys, z1, z2, _⟩ := m.own j l h; rw [z1] at s; cases s; exact some_ne z2
      | bx b f => obtain ⟨y, c, z1, z2, _⟩ := m.bx j b f h; rw [z1] at s; cases s; exact z2.ne
    rcases get_set h1 with ⟨rfl, z, lt⟩ | ⟨n1, z1⟩
    · rcases get_set h2 with ⟨w, z', lt'⟩ | ⟨n2, z2⟩
      · exact ne w
      · rw [set_at (by rw [m.len]; exact lt)] at s1
        cases s1
        rw [set_off n2] at s2
        exact there k e' z2 o2 s2 n
    · rcases get_set h2 with ⟨rfl, z, lt⟩ | ⟨n2, z2⟩
      · rw [set_at (by rw [m.len]; exact lt)] at s2
        cases s2
        rw [set_off n1] at s1
        exact there j e z1 o1 s1 n
      · rw [set_off n1] at s1; rw [set_off n2] at s2; exact m.dis j k e e' a z1 z2 o1 o2 ne s1 s2
/-- xs = [e, ..], a list that will grow -/
theorem as_own {ta : TA} {i : Nat} (h : AA K ta ρ fun ds ρ1 => ds.length ≤ sizeLine ∧ N (ρ1.set i (.own ds))) : AS K (tAsg (tLst ta) (gName i)) ρ N R := fun B σ G H m D qn qr =>
  h B σ G H m _ fun vs ds ρ1 G1 H1 m1 s1 t1 r1 h1 => ⟨by rw [r1.length]; exact h1.1, fun p hp => qn _ _ G1 _ (m1.setOwn i hp r1) s1 (t1.trans (Tr.same (same_up hp))) h1.2⟩
/-- an own list's content changes -/
theorem Mt.chOwn {B : Addr → Prop} {σ : L2.St} {G H : Hp} (m : Mt K B ρ σ G H) {i : Nat} {p : Addr} {xs : List V} {l l' : List Dt} (e : ρ[i]? = some (.own l)) (s : σ[i]? = some (some (.ref p))) (r : RDs K G l' xs) : Mt K B (ρ.set i (.own l')) σ G (upd H p (.lst xs)) := by
  obtain ⟨q, ys, h1, h2, h3, h4, h5⟩ := m.own i l e
  rw [h1] at s
  cases s
  have keep : ∀ {a : Addr} {o : HO}, a ≠ p → H a = some o → (upd H p (.lst xs)) a = some o := fun n z => by rw [upd_ne n]; exact z
  refine ⟨?_, ?_, ?_, ?_, ?_, ?_, ?_⟩
  · intro a o z
    exact keep (fun w => by rw [w, h4] at z; cases z) (m.sub _ _ z)
  · exact fun a b => ⟨(m.pro a b).1, by rw [upd_ne (fun w => h5 (by rw [← w]; exact b))]; exact (m.pro a b).2⟩
  · rw [List.length_set]; exact m.len
  · intro j d h
    rcases get_set h with ⟨rfl, z, lt⟩ | ⟨ne, z⟩
    · cases z
    · exact m.da j d z
  · intro j k h
    rcases get_set h with ⟨rfl, z, lt⟩ | ⟨ne, z⟩
    · cases z; exact ⟨p, xs, h1, upd_same, r, h4, h5⟩
    · obtain ⟨q', zs, z1, z2, z3⟩ := m.own j k z
      exact ⟨q', zs, z1, keep (fun w => m.dis i j _ _ p e z trivial trivial ne h1 (by rw [← w]; exact z1)) z2, z3⟩
  · intro j b f h
    rcases get_set h with ⟨rfl, z, lt⟩ | ⟨ne, z⟩
    · cases z
    · obtain ⟨y, c, z1, ⟨x, z2, z2'⟩, z3⟩ := m.bx j b f z
      exact ⟨y, c, z1, ⟨x, keep (fun w => m.dis i j _ _ p e z trivial trivial ne h1 (by rw [← w]; exact z1)) z2, z2'⟩, z3⟩
  · intro j k e1 e2 a g1 g2 o1 o2 ne s1 s2
    rcases get_set g1 with ⟨rfl, z, lt⟩ | ⟨n1, z1⟩
    · rcases get_set g2 with ⟨w, z', lt'⟩ | ⟨n2, z2⟩
      · exact ne w
      · exact m.dis i k _ e2 a e z2 trivial o2 ne s1 s2
    · rcases get_set g2 with ⟨rfl, z, lt⟩ | ⟨n2, z2⟩
      · exact m.dis j i e1 _ a z1 e o1 trivial ne s1 s2
      · exact m.dis j k e1 e2 a z1 z2 o1 o2 ne s1 s2
/-- xs.append(e) -/
theorem as_append {te : TE} {i : Nat} (h : AE K te ρ fun d ρ1 => ∃ l, ρ1[i]? = some (.own l) ∧ l.length < sizeLine ∧ N (ρ1.set i (.own (l ++ [d])))) (o : ∃ l, ρ[i]? = some (.own l)) : AS K (tDrop (tBM K "list" rAppend (tVar i) (tCons te tNil))) ρ N R := fun B σ G H m D qn qr => by
  obtain ⟨l0, e0⟩ := o
  obtain ⟨p0, xs0, a1, a2, _⟩ := m.own i l0 e0
  refine ⟨_, a1, .inl ⟨rfl, _, SqL.of a2⟩, ?_⟩
  refine h B σ G H m _ fun v d ρ1 G1 H1 m1 s1 t1 r1 ⟨l, e, hl, n⟩ => ?_
  obtain ⟨p, xs, b1, b2, b3, b4, b5⟩ := m1.own i l e
  rw [a1] at b1
  cases b1
  refine ⟨p0, xs, v, rfl, rfl, b2, by rw [b3.length]; exact hl, ?_⟩
  exact qn _ _ G1 _ (m1.chOwn e a1 (b3.snoc r1)) s1 (t1.trans fun a o b z => by rw [upd_ne (fun w => b5 (by rw [← w]; exact b))]; exact z) n
/-- from here on the list is data -/
theorem ae_frz {te : TE} {i : Nat} {l : List Dt} (e : ρ[i]? = some (.own l)) (h : AE K te (ρ.set i (.da (.lst l))) Ψ) : AE K te ρ Ψ := fun B σ G H m Q q => by
  obtain ⟨G1, m1, s1⟩ := m.frz e
  exact h B σ G1 H m1 Q fun v d ρ' G' H' m' s t r p => q v d ρ' G' H' m' (s1.trans s) t r p
theorem as_frz {ts : TS} {i : Nat} {l : List Dt} (e : ρ[i]? = some (.own l)) (h : AS K ts (ρ.set i (.da (.lst l))) N R) : AS K ts ρ N R := fun B σ G H m D qn qr => by
  obtain ⟨G1, m1, s1⟩ := m.frz e
  exact h B σ G1 H m1 D (fun σ' ρ' G' H' m' s t p => qn σ' ρ' G' H' m' (s1.trans s) t p) fun v d σ' ρ' G' H' m' s t r p => qr v d σ' ρ' G' H' m' (s1.trans s) t r p
end
end Sh
set_option Elab.async false
set_option linter.all false
set_option maxRecDepth 100000
set_option maxHeartbeats 4000000
namespace Sh
open PySem PySem.Spec PyProof.Rows L2
section
variable {K : PySem.W.Frag} {ρ : List En} {Ψ : Dt → List En → Prop} {ΨT : Bool → List En → Prop} {ΨA : List Dt → List En → Prop} {N : List En → Prop} {R : Dt → List En → Prop} {Φ : Dt → Prop}
/-! ### operators -/
theorem ar_I0i {g : Int → Int → Int} {i j : Int} (h : Φ (.int (g i j))) : AR K (rI0 fun i j => .int (g i j)) (.int i) (.int j) Φ := fun G H s x y r1 r2 Q q =>
  ⟨i, j, r1, r2, q _ (.int (g i j)) G H (Nw.refl s) rfl h⟩
theorem ar_I0b {g : Int → Int → Bool} {i j : Int} (h : Φ (.bl (g i j))) : AR K (rI0 fun i j => .bl (g i j)) (.int i) (.int j) Φ := fun G H s x y r1 r2 Q q =>
  ⟨i, j, r1, r2, q _ (.bl (g i j)) G H (Nw.refl s) rfl h⟩
theorem ar_Ii {C : Int → Int → Prop} {g : Int → Int → Int} {i j : Int} (c : C i j) (h : Φ (.int (g i j))) : AR K (rI C fun i j => .int (g i j)) (.int i) (.int j) Φ := fun G H s x y r1 r2 Q q =>
  ⟨i, j, r1, r2, c, q _ (.int (g i j)) G H (Nw.refl s) rfl h⟩
theorem au_Ui {g : Int → Int} {i : Int} (h : Φ (.int (g i))) : AU K (rU fun i => .int (g i)) (.int i) Φ := fun G H s x r1 Q q => ⟨i, r1, q _ (.int (g i)) G H (Nw.refl s) rfl h⟩
def Dt.isNon : Dt → Bool
  | .non => true
  | _ => false
theorem RD.isNon {G : Hp} : ∀ {d : Dt} {x : V}, RD K G d x → decide (x = V.non) = d.isNon
  | .non, _, r => by rw [show _ = V.non from r]; rfl
  | .bl _, _, r => by rw [show _ = V.bl _ from r]; rfl
  | .int _, _, r => by rw [show _ = V.int _ from r]; rfl
  | .str _, _, r => by rw [show _ = V.str _ from r]; rfl
  | .ty _, _, r => by rw [show _ = V.ty _ from r]; rfl
  | .tup _, _, ⟨a, _, e, _⟩ => by rw [e]; rfl
  | .lst _, _, ⟨a, _, e, _⟩ => by rw [e]; rfl
theorem ar_isN {d : Dt} (h : Φ (.bl d.isNon)) : AR K (fun x y H Q => y = .non ∧ Q (.bl (decide (x = .non))) H) d .non Φ := fun G H s x y r1 r2 Q q =>
  ⟨r2, q _ (.bl d.isNon) G H (Nw.refl s) (by rw [r1.isNon]; rfl) h⟩
theorem ar_notN {d : Dt} (h : Φ (.bl (!d.isNon))) : AR K (fun x y H Q => y = .non ∧ Q (.bl (!decide (x = .non))) H) d .non Φ := fun G H s x y r1 r2 Q q =>
  ⟨r2, q _ (.bl (!d.isNon)) G H (Nw.refl s) (by rw [r1.isNon]; rfl) h⟩
/-- flat data as a value -/
def Dt.v? : Dt → Option V
  | .non => some .non
  | .bl b => some (.bl b)
  | .int i => some (.int i)
  | .str s => some (.str s)
  | _ => none
theorem RD.v {G : Hp} : ∀ {d : Dt} {x y : V}, d.v? = some y → RD K G d x → x = y
  | .non, _, _, e, r => by cases e; exact r
  | .bl _, _, _, e, r => by cases e; exact r
  | .int _, _, _, e, r => by cases e; exact r
  | .str _, _, _, e, r => by cases e; exact r
theorem ar_eq {d e : Dt} {x y : V} (h1 : d.v? = some x) (h2 : e.v? = some y) (hs : scal x y = true) (h : Φ (.bl (decide (x = y)))) : AR K rEq d e Φ := fun G H s x' y' r1 r2 Q q => by
  cases RD.v h1 r1; cases RD.v h2 r2
  exact ⟨hs, q _ (.bl (decide (x = y))) G H (Nw.refl s) rfl h⟩
theorem ar_ne {d e : Dt} {x y : V} (h1 : d.v? = some x) (h2 : e.v? = some y) (hs : scal x y = true) (h : Φ (.bl (!decide (x = y)))) : AR K rNe d e Φ := fun G H s x' y' r1 r2 Q q => by
  cases RD.v h1 r1; cases RD.v h2 r2
  exact ⟨hs, q _ (.bl (!decide (x = y))) G H (Nw.refl s) rfl h⟩
def vs? : List Dt → Option (List V)
  | [] => some []
  | d :: l => match d.v?, vs? l with
    | some x, some xs => some (x :: xs)
    | _, _ => none
theorem RDs.v {G : Hp} : ∀ {l : List Dt} {xs ys : List V}, vs? l = some ys → RDs K G l xs → xs = ys
  | [], _, _, e, r => by cases e; exact r
  | d :: l, _, ys, e, ⟨x, r, e1, h1, h2⟩ => by
    unfold vs? at e
    cases q1 : d.v? with
    | none => rw [q1] at e; cases e
    | some z =>
      cases q2 : vs? l with
      | none => rw [q1, q2] at e; cases e
      | some zs => rw [q1, q2] at e; cases e; rw [e1, RD.v q1 h1, RDs.v q2 h2]
theorem ar_inT {neg : Bool} {d : Dt} {l : List Dt} {x : V} {xs : List V} (h1 : d.v? = some x) (h2 : vs? l = some xs) (f1 : flatV x = true) (f2 : xs.all flatV = true) (h : Φ (.bl (if neg then !inV x xs else inV x xs))) : AR K (rIn K neg) d (.tup l) Φ := fun G H s x' y' r1 ⟨a, ys, e, q1, q2⟩ Q q => by
  cases RD.v h1 r1; cases RDs.v h2 q2
  exact ⟨a, xs, e, .inr (same_sqT s q1), f1, f2, q _ (.bl (if neg then !inV x xs else inV x xs)) G H (Nw.refl s) rfl h⟩
/-! places -/
theorem atI_get {l : List Dt} {xs : List V} {G : Hp} {i : Int} {d : Dt} (r : RDs K G l xs) (e : atI l i = some d) : ∃ x, atI xs i = some x ∧ RD K G d x := by
  unfold atI at e ⊢
  rw [r.length]
  cases q : ixN l.length i with
  | none => rw [q] at e; cases e
  | some j =>
    rw [q] at e
    obtain ⟨x, h1, h2⟩ := r.get (i := j) e
    exact ⟨x, h1, h2⟩
theorem ar_ixT {l : List Dt} {i : Int} {d : Dt} (e : atI l i = some d) (h : Φ d) : AR K (rIxT K) (.tup l) (.int i) Φ := fun G H s x y ⟨a, xs, e1, q1, q2⟩ r2 Q q => by
  obtain ⟨z, h1, h2⟩ := atI_get q2 e
  exact ⟨a, xs, i, z, e1, r2, same_sqT s q1, h1, q _ d G H (Nw.refl s) h2 h⟩
theorem ar_ixL {l : List Dt} {i : Int} {d : Dt} (e : atI l i = some d) (h : Φ d) : AR K (rIxL K) (.lst l) (.int i) Φ := fun G H s x y ⟨a, xs, e1, q1, q2⟩ r2 Q q => by
  obtain ⟨z, h1, h2⟩ := atI_get q2 e
  exact ⟨a, xs, i, z, e1, r2, SqL.of (s _ _ q1), h1, q _ d G H (Nw.refl s) h2 h⟩
def sq (k : Bool) (l : List Dt) : Dt := if k then .tup l else .lst l
theorem ar_ix {k : Bool} {l : List Dt} {i : Int} {d : Dt} (e : atI l i = some d) (h : Φ d) : AR K (rIx K) (sq k l) (.int i) Φ := fun G H s x y r1 r2 Q q => by
  cases k
  · exact .inl (ar_ixL e h G H s x y r1 r2 Q q)
  · exact .inr (.inl (ar_ixT e h G H s x y r1 r2 Q q))
/-! ### built-ins -/
theorem ac_max2 {i j : Int} (h : Φ (.int (if j > i then j else i))) : AC K (fun xs H Q => ∃ i j, xs = [.int i, .int j] ∧ Q (.int (if j > i then j else i)) H) [.int i, .int j] Φ := fun G H s vs r Q q => by
  obtain ⟨x, y, rfl, h1, h2⟩ := r.two
  exact ⟨i, j, by rw [show x = V.int i from h1, show y = V.int j from h2], q _ (.int (if j > i then j else i)) G H (Nw.refl s) rfl h⟩
theorem ac_min2 {i j : Int} (h : Φ (.int (if j < i then j else i))) : AC K (fun xs H Q => ∃ i j, xs = [.int i, .int j] ∧ Q (.int (if j < i then j else i)) H) [.int i, .int j] Φ := fun G H s vs r Q q => by
  obtain ⟨x, y, rfl, h1, h2⟩ := r.two
  exact ⟨i, j, by rw [show x = V.int i from h1, show y = V.int j from h2], q _ (.int (if j < i then j else i)) G H (Nw.refl s) rfl h⟩
theorem ac_lenT {l : List Dt} (h : Φ (.int (l.length : Nat))) : AC K (fun xs H Q => ∃ p ys, xs = [.ref p] ∧ (SqL K H p ys ∨ SqT K H p ys) ∧ Q (.int ys.length) H) [.tup l] Φ := fun G H s vs r Q q => by
  obtain ⟨x, rfl, a, xs, rfl, h1, h2⟩ := r.one
  exact ⟨a, xs, rfl, .inr (same_sqT s h1), q _ (.int (l.length : Nat)) G H (Nw.refl s) (by rw [h2.length]; rfl) h⟩
theorem ac_lenL {l : List Dt} (h : Φ (.int (l.length : Nat))) : AC K (fun xs H Q => ∃ p ys, xs = [.ref p] ∧ (SqL K H p ys ∨ SqT K H p ys) ∧ Q (.int ys.length) H) [.lst l] Φ := fun G H s vs r Q q => by
  obtain ⟨x, rfl, a, xs, rfl, h1, h2⟩ := r.one
  exact ⟨a, xs, rfl, .inl (SqL.of (s _ _ h1)), q _ (.int (l.length : Nat)) G H (Nw.refl s) (by rw [h2.length]; rfl) h⟩
theorem ac_tupL {l : List Dt} (h : Φ (.tup l)) : AC K (fun xs H Q => ∃ p ys, xs = [.ref p] ∧ ((SqL K H p ys ∧ ∀ l, H l = none → Q (.ref l) (upd H l (.tup ys))) ∨ (SqT K H p ys ∧ Q (.ref p) H))) [.lst l] Φ := fun G H s vs r Q q => by
  obtain ⟨x, rfl, a, xs, rfl, h1, h2⟩ := r.one
  refine ⟨a, xs, rfl, .inl ⟨SqL.of (s _ _ h1), fun p hp => ?_⟩⟩
  have n := Nw.new (o := .tup xs) s hp
  exact q _ (.tup l) _ _ n ⟨p, xs, rfl, SqT.of upd_same, h2.same n.g⟩ h
theorem ac_all {bs : List Bool} (h : Φ (.bl (bs.all id))) : AC K (rAll K) [.lst (bs.map Dt.bl)] Φ := fun G H s vs r Q q => by
  obtain ⟨x, rfl, a, xs, rfl, h1, h2⟩ := r.one
  cases h2.bls
  exact ⟨a, bs, rfl, SqL.of (s _ _ h1), q _ (.bl (bs.all id)) G H (Nw.refl s) rfl h⟩
theorem ac_intB {b : Bool} (h : Φ (.int (if b then 1 else 0))) : AC K (fun xs H Q => (∃ i, xs = [.int i] ∧ Q (.int i) H) ∨ ∃ k, xs = [.bl k] ∧ Q (.int (if k then 1 else 0)) H) [.bl b] Φ := fun G H s vs r Q q => by
  obtain ⟨x, rfl, h1⟩ := r.one
  exact .inr ⟨b, by rw [show x = V.bl b from h1], q _ (.int (if b then 1 else 0)) G H (Nw.refl s) rfl h⟩
/-! kinds -/
def Dt.kind : Dt → String
  | .non => "NoneType" | .bl _ => "bool" | .int _ => "int" | .str _ => "str" | .ty _ => "type" | .tup _ => "tuple" | .lst _ => "list"
def Dt.noTy : Dt → Bool
  | .ty _ => false
  | _ => true
theorem RD.kind {G H : Hp} (s : Same G H) : ∀ {d : Dt} {x : V}, d.noTy = true → RD K G d x → TyX K H x (.type d.kind)
  | .non, _, _, r => by cases (show _ = V.non from r); exact .base .non
  | .bl _, _, _, r => by cases (show _ = V.bl _ from r); exact .base (.bl _)
  | .int _, _, _, r => by cases (show _ = V.int _ from r); exact .base (.int _)
  | .str _, _, _, r => by cases (show _ = V.str _ from r); exact .base (.str _)
  | .tup _, _, _, ⟨a, xs, e, q, _⟩ => by
    subst e
    rcases q with (q | ⟨o, q⟩) | ⟨o, its, n, q1, q2, _⟩
    · exact .base (.tup (s _ _ q))
    · exact .fTuple (s _ _ q)
    · exact .kTuple q1 q2
  | .lst _, _, _, ⟨a, xs, e, q, _⟩ => by subst e; exact .base (.lst (s _ _ q))
theorem ac_isi {d : Dt} {T : String} {b : Bool} (n : d.noTy = true) (hb : kitB d.kind T = some b) (h : Φ (.bl b)) : AC K (rIsi K) [d, .ty T] Φ := fun G H s vs r Q q => by
  obtain ⟨x, y, rfl, h1, h2⟩ := r.two
  cases (show y = V.ty T from h2)
  exact ⟨x, .ty T, _, _, b, rfl, .ty T, h1.kind s n, kit_ty hb, q _ (.bl b) G H (Nw.refl s) rfl h⟩
theorem kit_2 {a S T : String} {r : Bool} (h1 : kitB a S = some false) (h2 : kitB a T = some r) : PySem.W.kitAny K (.type a) [.type S, .type T] = some r :=
  kitAny_cons (kit_ty h1) (fun _ => kitAny_cons (kit_ty h2) (fun e => by rw [e]; exact kitAny_nil) (fun e => e)) (fun e => nomatch e)
theorem kit_1 {a S T : String} (h1 : kitB a S = some true) : PySem.W.kitAny K (.type a) [.type S, .type T] = some true :=
  kitAny_cons (kit_ty h1) (fun e => nomatch e) (fun _ => rfl)
/-- isinstance(e, (S, T)) -/
theorem ae_isi2 {te : TE} {S T : String} (h : AE K te ρ fun d ρ1 => d.noTy = true ∧ ∃ b, ((kitB d.kind S = some true ∧ b = true) ∨ (kitB d.kind S = some false ∧ kitB d.kind T = some b)) ∧ Ψ (.bl b) ρ1) :
    AE K (tCB (rIsiT K) (tCons te (tCons (tTup (tCons (tC (.ty S)) (tCons (tC (.ty T)) tNil))) tNil))) ρ Ψ := fun B σ G H m Q q =>
  h B σ G H m _ fun v d ρ1 G1 H1 m1 s1 t1 r1 ⟨n, b, hb, p⟩ => by
    refine ⟨by show 2 ≤ sizeLine; decide, fun a ha => ?_⟩
    have k : PySem.W.kitAny K (.type d.kind) [.type S, .type T] = some b := by
      rcases hb with ⟨h1, rfl⟩ | ⟨h1, h2⟩
      · exact kit_1 h1
      · exact kit_2 h1 h2
    have nw := Nw.new (o := .tup [V.ty S, V.ty T]) m1.sub ha
    exact ⟨v, a, _, _, _, b, rfl, upd_same, .cons (.ty _) (.cons (.ty _) .nil), (r1.same nw.g).kind nw.s n, k, q _ (.bl b) ρ1 _ _ (m1.nw nw) (s1.trans nw.g) (t1.trans (Tr.same nw.h)) rfl p⟩
theorem ae_ty {T : String} (h : Ψ (.ty T) ρ) : AE K (tC (.ty T)) ρ Ψ := ae_c (.ty T) (fun _ => rfl) h
/-! ### deep equality -/
mutual
def Dt.pd : Dt → PyData
  | .non => .none | .bl b => .bool b | .int i => .int i | .str s => .str s | .ty _ => .none
  | .tup l => .tuple (pds l)
  | .lst l => .list (pds l)
def pds : List Dt → List PyData
  | [] => []
  | d :: l => d.pd :: pds l
def Dt.pl : Dt → Bool
  | .ty _ => false
  | .tup l => pls l
  | .lst l => pls l
  | _ => true
def pls : List Dt → Bool
  | [] => true
  | d :: l => d.pl && pls l
end
mutual
theorem RD.dp {G H : Hp} (s : Same G H) : ∀ {d : Dt} {v : V}, d.pl = true → RD K G d v → Dp K H v d.pd
  | .non, v, _, h => by cases (show v = .non from h); exact .non
  | .bl b, v, _, h => by cases (show v = .bl b from h); exact .bl b
  | .int i, v, _, h => by cases (show v = .int i from h); exact .int i
  | .str z, v, _, h => by cases (show v = .str z from h); exact .str z
  | .tup l, _, p, ⟨a, xs, e, ha, r⟩ => by subst e; exact .tup (same_sqT s ha) (RDs.dp s p r)
  | .lst l, _, p, ⟨a, xs, e, ha, r⟩ => by subst e; exact .lst (SqL.of (s _ _ ha)) (RDs.dp s p r)
theorem RDs.dp {G H : Hp} (s : Same G H) : ∀ {l : List Dt} {xs : List V}, pls l = true → RDs K G l xs → DpAll K H xs (pds l)
  | [], xs, _, h => by cases (show xs = [] from h); exact .nil
  | d :: l, _, p, ⟨x, r, e, h1, h2⟩ => by
    subst e
    have p' : (d.pl && pls l) = true := p
    rw [Bool.and_eq_true] at p'
    exact .cons (RD.dp s p'.1 h1) (RDs.dp s p'.2 h2)
end
theorem ar_eqD {d e : Dt} (p1 : d.pl = true) (p2 : e.pl = true) (s1 : SeqAt.shaped d.pd = true) (s2 : SeqAt.shaped e.pd = true) (h : Φ (.bl (PyData.eqv d.pd e.pd))) : AR K (rEqD K) d e Φ := fun G H s x y r1 r2 Q q =>
  ⟨d.pd, e.pd, r1.dp s p1, r2.dp s p2, s1, s2, q _ (.bl (PyData.eqv d.pd e.pd)) G H (Nw.refl s) rfl h⟩
end
end Sh
set_option Elab.async false
set_option linter.all false
set_option maxRecDepth 100000
set_option maxHeartbeats 4000000
namespace Sh
open PySem PySem.Spec PyProof.Rows L2
section
variable {K : PySem.W.Frag} {ρ : List En} {Ψ : Dt → List En → Prop} {ΨT : Bool → List En → Prop} {ΨA : List Dt → List En → Prop} {N : List En → Prop} {R : Dt → List En → Prop} {Φ : Dt → Prop}
/-! ### walks -/
def Wj (K : PySem.W.Frag) (J : It) (l : List Dt) (G0 : Hp) : Prop :=
  (∀ i H, i < l.length → Same G0 H → J.go i H) ∧ (∀ H, Same G0 H → J.stop l.length H) ∧ ∀ i G H x H', i < l.length → Same G0 G → Same G H → J.yld i H x H' → ∃ G' d, Nw G H G' H' ∧ l[i]? = some d ∧ RD K G' d x
theorem Wj.walk {J : It} {l : List Dt} {G0 : Hp} (w : Wj K J l G0) : Walk J l.length (fun H => Same G0 H) fun i H x H' => ∀ G, Same G0 G → Same G H → ∃ G' d, Nw G H G' H' ∧ l[i]? = some d ∧ RD K G' d x :=
  ⟨fun i H hi s => w.1 i H hi s, fun H s => w.2.1 H s, fun i H x H' hi s y G s1 s2 => w.2.2 i G H x H' hi s1 s2 y⟩
def AI (K : PySem.W.Frag) (wi : TI) (ρ : List En) (Θ : List Dt → List En → Prop) : Prop := ∀ B σ G H, Mt K B ρ σ G H → ∀ R : It → Hp → Prop, (∀ J l ρ' G' H', Mt K B ρ' σ G' H' → Same G G' → Tr B H H' → Wj K J l G' → Θ l ρ' → R J H') → wi σ H R
theorem wj_list {a : Addr} {xs : List V} {l : List Dt} {G : Hp} (h : G a = some (.lst xs)) (r : RDs K G l xs) : Wj K (Itl K a) l G := by
  have e := r.length
  refine ⟨fun i H hi s => ⟨xs, xs[i]'(by omega), SqL.of (s _ _ h), by simp [show i < xs.length by omega]⟩, fun H s => ⟨xs, SqL.of (s _ _ h), by omega⟩, fun i G1 H x H' hi s1 s2 y => ?_⟩
  obtain ⟨d, h1, h2⟩ := r.back (i := i) (y.2 xs (SqL.of (s2 _ _ (s1 _ _ h))))
  refine ⟨G1, d, ?_, h1, h2.same s1⟩
  rw [y.1]; exact Nw.refl s2
theorem wj_tup {a : Addr} {xs : List V} {l : List Dt} {G : Hp} (h : SqT K G a xs) (r : RDs K G l xs) : Wj K (Itt K a) l G := by
  have e := r.length
  refine ⟨fun i H hi s => ⟨xs, xs[i]'(by omega), same_sqT s h, by simp [show i < xs.length by omega]⟩, fun H s => ⟨xs, same_sqT s h, by omega⟩, fun i G1 H x H' hi s1 s2 y => ?_⟩
  obtain ⟨d, h1, h2⟩ := r.back (i := i) (y.2 xs (same_sqT s2 (same_sqT s1 h)))
  refine ⟨G1, d, ?_, h1, h2.same s1⟩
  rw [y.1]; exact Nw.refl s2
def rgD (lo : Int) (n : Nat) : List Dt := (List.range n).map fun i => .int (lo + (i : Nat))
theorem wj_range {lo : Int} {n : Nat} {G : Hp} : Wj K (Itr lo n) (rgD lo n) G := by
  have e : (rgD lo n).length = n := by unfold rgD; rw [List.length_map, List.length_range]
  refine ⟨fun i H hi s => by rw [e] at hi; exact hi, fun H s => by rw [e]; exact Nat.le_refl _, fun i G1 H x H' hi s1 s2 y => ⟨G1, .int (lo + (i : Nat)), ?_, ?_, y.2⟩⟩
  · rw [y.1]; exact Nw.refl s2
  · rw [e] at hi; unfold rgD; rw [List.getElem?_map, List.getElem?_range hi]; rfl
theorem ai_list {te : TE} {Θ : List Dt → List En → Prop} (h : AE K te ρ fun d ρ1 => ∃ l, d = .lst l ∧ Θ l ρ1) : AI K (iList K te) ρ Θ := fun B σ G H m Rr q =>
  h B σ G H m _ fun v d ρ1 G1 H1 m1 s1 t1 r1 ⟨l, e, p⟩ => by
    subst e
    obtain ⟨a, xs, e, h1, h2⟩ := r1
    exact ⟨a, e, ⟨xs, SqL.of (m1.sub _ _ h1)⟩, q _ l ρ1 G1 H1 m1 s1 t1 (wj_list h1 h2) p⟩
theorem ai_tup {te : TE} {Θ : List Dt → List En → Prop} (h : AE K te ρ fun d ρ1 => ∃ l, d = .tup l ∧ Θ l ρ1) : AI K (iTup K te) ρ Θ := fun B σ G H m Rr q =>
  h B σ G H m _ fun v d ρ1 G1 H1 m1 s1 t1 r1 ⟨l, e, p⟩ => by
    subst e
    obtain ⟨a, xs, e, h1, h2⟩ := r1
    exact ⟨a, e, ⟨xs, same_sqT m1.sub h1⟩, q _ l ρ1 G1 H1 m1 s1 t1 (wj_tup h1 h2) p⟩
theorem pi_or {X : Cx} {tg l : Expr} {w1 w2 : TI} (h1 : PI X tg l w1) (h2 : PI X tg l w2) : PI X tg l (fun σ H R => w1 σ H R ∨ w2 σ H R) :=
  ⟨fun pins s σ H R I h => h.elim (h1.run pins s σ H R I) (h2.run pins s σ H R I)⟩
theorem ai_or1 {w1 w2 : TI} {Θ : List Dt → List En → Prop} (h : AI K w1 ρ Θ) : AI K (fun σ H R => w1 σ H R ∨ w2 σ H R) ρ Θ := fun B σ G H m Rr q => .inl (h B σ G H m Rr q)
theorem ai_or2 {w1 w2 : TI} {Θ : List Dt → List En → Prop} (h : AI K w2 ρ Θ) : AI K (fun σ H R => w1 σ H R ∨ w2 σ H R) ρ Θ := fun B σ G H m Rr q => .inr (h B σ G H m Rr q)
theorem ai_rng1 {ta : TA} {Θ : List Dt → List En → Prop} (h : AA K ta ρ fun ds ρ1 => ∃ j : Int, ds = [.int j] ∧ -(2 ^ 62) ≤ j ∧ j < 2 ^ 62 ∧ Θ (rgD 0 j.toNat) ρ1) : AI K (iRng1 ta) ρ Θ := fun B σ G H m Rr q =>
  h B σ G H m _ fun vs ds ρ1 G1 H1 m1 s1 t1 r1 ⟨j, e, p1, p2, p⟩ => by
    subst e
    obtain ⟨x, rfl, h1⟩ := r1.one
    cases (show x = .int j from h1)
    exact ⟨j, rfl, p1, p2, q _ _ ρ1 G1 H1 m1 s1 t1 wj_range p⟩
/-! new pairs -/
theorem nw_pair {G H : Hp} {T : Addr} {x y : V} {d e : Dt} (s : Same G H) (n : H T = none) (r1 : RD K G d x) (r2 : RD K G e y) : ∃ G', Nw G H G' (upd H T (.tup [x, y])) ∧ RD K G' (.tup [d, e]) (.ref T) := by
  have nw := Nw.new (o := .tup [x, y]) s n
  exact ⟨_, nw, T, _, rfl, SqT.of upd_same, x, [y], rfl, r1.same nw.g, y, [], rfl, r2.same nw.g, rfl⟩
theorem zip_get {α β : Type} : ∀ {xs : List α} {ys : List β} {i : Nat} {x : α} {y : β}, xs[i]? = some x → ys[i]? = some y → (xs.zip ys)[i]? = some (x, y)
  | a :: xs, b :: ys, 0, _, _, h1, h2 => by cases h1; cases h2; rfl
  | a :: xs, b :: ys, i + 1, x, y, h1, h2 => by
    have := zip_get (i := i) (by simpa using h1) (by simpa using h2)
    simpa using this
  | [], _, _, _, _, h1, _ => by simp at h1
  | _ :: _, [], _, _, _, _, h2 => by simp at h2
def zpD (l m : List Dt) : List Dt := (l.zip m).map fun p => .tup [p.1, p.2]
theorem zpD_len {l m : List Dt} : (zpD l m).length = min l.length m.length := by unfold zpD; rw [List.length_map, List.length_zip]
theorem zpD_get {l m : List Dt} {i : Nat} {d e : Dt} (h1 : l[i]? = some d) (h2 : m[i]? = some e) : (zpD l m)[i]? = some (.tup [d, e]) := by
  unfold zpD; rw [List.getElem?_map, zip_get h1 h2]; rfl
theorem wj_zipL {a b : Addr} {xs ys : List V} {l m : List Dt} {G : Hp} (h : G a = some (.lst xs)) (h' : G b = some (.lst ys)) (r : RDs K G l xs) (r' : RDs K G m ys) : Wj K (Itz K a b) (zpD l m) G := by
  have e := r.length
  have e' := r'.length
  have w := walk_zip (K := K) (a := a) (b := b) (xs := xs) (ys := ys) rfl
  have el : (zpD l m).length = min xs.length ys.length := by rw [zpD_len, e, e']
  refine ⟨fun i H hi s => w.goes i H (by rw [el] at hi; exact hi) ⟨SqL.of (s _ _ h), SqL.of (s _ _ h')⟩, fun H s => by rw [el]; exact w.stops H ⟨SqL.of (s _ _ h), SqL.of (s _ _ h')⟩, fun i G1 H x H' hi s1 s2 y => ?_⟩
  obtain ⟨T, u, v, rfl, nT, rfl, f1, f2⟩ := w.yields i H x H' (by rw [el] at hi; exact hi) ⟨SqL.of (s2 _ _ (s1 _ _ h)), SqL.of (s2 _ _ (s1 _ _ h'))⟩ y
  obtain ⟨d1, g1, q1⟩ := r.back f1
  obtain ⟨d2, g2, q2⟩ := r'.back f2
  obtain ⟨G', n, rd⟩ := nw_pair s2 nT (q1.same s1) (q2.same s1)
  exact ⟨G', _, n, zpD_get g1 g2, rd⟩
theorem walk_zipT {a b : Addr} {xs ys : List V} : Walk (RZ.ItzT K a b) (min xs.length ys.length) (fun H => SqT K H a xs ∧ SqT K H b ys) (YPair (fun i => xs[i]?) (fun i => ys[i]?)) := by
  refine ⟨fun i H hi q => ?_, fun _ q => ⟨xs, ys, q.1, q.2, by omega⟩, fun _ _ _ _ _ q ⟨T, x, y, e1, e2, e3, f, g⟩ => ⟨T, x, y, e1, e2, e3, f xs q.1, g ys q.2⟩⟩
  have h1 : i < xs.length := by omega
  have h2 : i < ys.length := by omega
  exact ⟨xs, ys, xs[i], ys[i], q.1, q.2, List.getElem?_eq_getElem h1, List.getElem?_eq_getElem h2⟩
theorem wj_zipT {a b : Addr} {xs ys : List V} {l m : List Dt} {G : Hp} (h : SqT K G a xs) (h' : SqT K G b ys) (r : RDs K G l xs) (r' : RDs K G m ys) : Wj K (RZ.ItzT K a b) (zpD l m) G := by
  have e := r.length
  have e' := r'.length
  have w := walk_zipT (K := K) (a := a) (b := b) (xs := xs) (ys := ys)
  have el : (zpD l m).length = min xs.length ys.length := by rw [zpD_len, e, e']
  refine ⟨fun i H hi s => w.goes i H (by rw [el] at hi; exact hi) ⟨same_sqT s h, same_sqT s h'⟩, fun H s => by rw [el]; exact w.stops H ⟨same_sqT s h, same_sqT s h'⟩, fun i G1 H x H' hi s1 s2 y => ?_⟩
  obtain ⟨T, u, v, rfl, nT, rfl, f1, f2⟩ := w.yields i H x H' (by rw [el] at hi; exact hi) ⟨same_sqT s2 (same_sqT s1 h), same_sqT s2 (same_sqT s1 h')⟩ y
  obtain ⟨d1, g1, q1⟩ := r.back f1
  obtain ⟨d2, g2, q2⟩ := r'.back f2
  obtain ⟨G', n, rd⟩ := nw_pair s2 nT (q1.same s1) (q2.same s1)
  exact ⟨G', _, n, zpD_get g1 g2, rd⟩
theorem ai_zipL {ta : TA} {Θ : List Dt → List En → Prop} (h : AA K ta ρ fun ds ρ1 => ∃ l m, ds = [.lst l, .lst m] ∧ Θ (zpD l m) ρ1) : AI K (RZ.iZipA K ta) ρ Θ := fun B σ G H mm Rr q =>
  h B σ G H mm _ fun vs ds ρ1 G1 H1 m1 s1 t1 r1 ⟨l, m, e, p⟩ => by
    subst e
    obtain ⟨x, y, rfl, ⟨a, xs, rfl, h1, h2⟩, ⟨b, ys, rfl, h3, h4⟩⟩ := r1.two
    exact ⟨a, b, xs, ys, rfl, .inl ⟨SqL.of (m1.sub _ _ h1), SqL.of (m1.sub _ _ h3), q _ _ ρ1 G1 H1 m1 s1 t1 (wj_zipL h1 h3 h2 h4) p⟩⟩
theorem ai_zipT {ta : TA} {Θ : List Dt → List En → Prop} (h : AA K ta ρ fun ds ρ1 => ∃ l m, ds = [.tup l, .tup m] ∧ Θ (zpD l m) ρ1) : AI K (RZ.iZipA K ta) ρ Θ := fun B σ G H mm Rr q =>
  h B σ G H mm _ fun vs ds ρ1 G1 H1 m1 s1 t1 r1 ⟨l, m, e, p⟩ => by
    subst e
    obtain ⟨x, y, rfl, ⟨a, xs, rfl, h1, h2⟩, ⟨b, ys, rfl, h3, h4⟩⟩ := r1.two
    exact ⟨a, b, xs, ys, rfl, .inr ⟨same_sqT m1.sub h1, same_sqT m1.sub h3, q _ _ ρ1 G1 H1 m1 s1 t1 (wj_zipT h1 h3 h2 h4) p⟩⟩
def enD (l : List Dt) : List Dt := (List.range l.length).zipWith (fun (i : Nat) d => .tup [.int ((i : Nat) : Int), d]) l
theorem enD_len {l : List Dt} : (enD l).length = l.length := by unfold enD; simp
theorem enD_get {l : List Dt} {i : Nat} {d : Dt} (h : l[i]? = some d) : (enD l)[i]? = some (.tup [.int ((i : Nat) : Int), d]) := by
  have hi := (List.getElem?_eq_some_iff.mp h).1
  unfold enD
  rw [List.getElem?_zipWith, List.getElem?_range hi, h]
theorem wj_enum {a : Addr} {xs : List V} {l : List Dt} {G : Hp} (h : G a = some (.lst xs)) (r : RDs K G l xs) : Wj K (Ite K a) (enD l) G := by
  have e := r.length
  have w := walk_enum (K := K) (a := a) (xs := xs)
  have el : (enD l).length = xs.length := by rw [enD_len, e]
  refine ⟨fun i H hi s => w.goes i H (by rw [el] at hi; exact hi) (SqL.of (s _ _ h)), fun H s => by rw [el]; exact w.stops H (SqL.of (s _ _ h)), fun i G1 H x H' hi s1 s2 y => ?_⟩
  obtain ⟨T, u, v, rfl, nT, rfl, f1, f2⟩ := w.yields i H x H' (by rw [el] at hi; exact hi) (SqL.of (s2 _ _ (s1 _ _ h))) y
  cases f1
  obtain ⟨d2, g2, q2⟩ := r.back f2
  obtain ⟨G', n, rd⟩ := nw_pair (K := K) (d := .int ((i : Nat) : Int)) s2 nT rfl (q2.same s1)
  exact ⟨G', _, n, enD_get g2, rd⟩
theorem ai_enum {ta : TA} {Θ : List Dt → List En → Prop} (h : AA K ta ρ fun ds ρ1 => ∃ l, ds = [.lst l] ∧ Θ (enD l) ρ1) : AI K (iEnum K ta) ρ Θ := fun B σ G H mm Rr q =>
  h B σ G H mm _ fun vs ds ρ1 G1 H1 m1 s1 t1 r1 ⟨l, e, p⟩ => by
    subst e
    obtain ⟨x, rfl, ⟨a, xs, rfl, h1, h2⟩⟩ := r1.one
    exact ⟨a, xs, rfl, SqL.of (m1.sub _ _ h1), q _ _ ρ1 G1 H1 m1 s1 t1 (wj_enum h1 h2) p⟩
/-! ### for -/
theorem as_for {wi : TI} {g : TG} {tb : TS} (h : AI K wi ρ fun l ρ1 => ∃ I : Nat → List En → Prop, I 0 ρ1 ∧ (∀ i d ρ2, l[i]? = some d → I i ρ2 → AG K g d ρ2 fun ρ3 => AS K tb ρ3 (I (i + 1)) R) ∧ ∀ ρ2, I l.length ρ2 → N ρ2) : AS K (tFor wi g tb) ρ N R := fun B σ G H m D qn qr =>
  h B σ G H m _ fun J l ρ1 G1 H1 m1 s1 t1 w ⟨I, i0, is, ie⟩ => by
    refine for_it w.walk (fun i σ2 H2 => ∃ ρ2 G2, Mt K B ρ2 σ2 G2 H2 ∧ Same G1 G2 ∧ Tr B H1 H2 ∧ I i ρ2) ⟨ρ1, G1, m1, Same.refl _, Tr.refl, i0⟩ (fun i σ2 H2 _ ⟨ρ2, G2, m2, s2, t2, p⟩ => s2.trans m2.sub) ?_ ?_
    · rintro i x σ2 H2 H3 hi ⟨ρ2, G2, m2, s2, t2, p⟩ y
      obtain ⟨G3, d, n3, hd, rd⟩ := y G2 s2 m2.sub
      refine is i d ρ2 hd p B σ2 G3 H3 (m2.nw n3) x rd _ fun σ4 ρ4 G4 H4 m4 s4 t4 h4 => ?_
      refine h4 B σ4 G4 H4 m4 _ (fun σ5 ρ5 G5 H5 m5 s5 t5 p5 => ⟨ρ5, G5, m5, (((s2.trans n3.g).trans s4).trans s5), (((t2.trans (Tr.same n3.h)).trans t4).trans t5), p5⟩) ?_
      exact fun v d σ5 ρ5 G5 H5 m5 s5 t5 r5 p5 => qr v d σ5 ρ5 G5 H5 m5 ((((s1.trans s2).trans n3.g).trans s4).trans s5) ((((t1.trans t2).trans (Tr.same n3.h)).trans t4).trans t5) r5 p5
    · rintro σ2 H2 ⟨ρ2, G2, m2, s2, t2, p⟩
      exact qn σ2 ρ2 G2 H2 m2 (s1.trans s2) (t1.trans t2) (ie ρ2 p)
/-! ### comprehensions -/
def wipeE (ρ : List En) : List Nat → List En
  | [] => ρ
  | v :: vs => (wipeE ρ vs).set v .no
theorem Mt.wipe {B : Addr → Prop} {σ : L2.St} {G H : Hp} (m : Mt K B ρ σ G H) : ∀ vs : List Nat, Mt K B (wipeE ρ vs) (L2.wipe σ vs) G H
  | [] => m
  | v :: vs => (Mt.wipe m vs).drop v none
/-- the slots may be others where nothing is known -/
theorem Mt.other {B : Addr → Prop} {σ σ' : L2.St} {G H : Hp} (m : Mt K B ρ σ G H) (hl : σ'.length = σ.length) (h : ∀ i : Nat, ρ[i]? = some En.no ∨ σ'[i]? = σ[i]?) : Mt K B ρ σ' G H where
  sub := m.sub
  pro := m.pro
  len := hl.trans m.len
  da := fun i d e => by
    rcases h i with z | z
    · rw [z] at e; cases e
    · rw [z]; exact m.da i d e
  own := fun i d e => by
    rcases h i with z | z
    · rw [z] at e; cases e
    · rw [z]; exact m.own i d e
  bx := fun i b f e => by
    rcases h i with z | z
    · rw [z] at e; cases e
    · rw [z]; exact m.bx i b f e
  dis := fun i j e e' a h1 h2 o1 o2 ne s1 s2 => by
    rcases h i with z | z
    · rw [z] at h1; cases h1; exact o1
    · rcases h j with z' | z'
      · rw [z'] at h2; cases h2; exact o2
      · rw [z] at s1; rw [z'] at s2; exact m.dis i j e e' a h1 h2 o1 o2 ne s1 s2
/-- off vs the slots are the same -/
def Off (vs : List Nat) (σ σ' : L2.St) : Prop := σ'.length = σ.length ∧ ∀ i, i ∉ vs → σ'[i]? = σ[i]?
theorem wipe_in {σ : L2.St} {i : Nat} : ∀ {vs : List Nat}, i ∈ vs → i < σ.length → (L2.wipe σ vs)[i]? = some none
  | v :: vs, h, lt => by
    unfold L2.wipe
    by_cases e : v = i
    · subst e; exact set_at (by rw [wipe_length]; exact lt)
    · rw [set_off e]
      exact wipe_in (by rcases List.mem_cons.mp h with z | z; exact absurd z.symm e; exact z) lt
theorem Off.wipe {vs : List Nat} {σ σ' : L2.St} (o : Off vs σ σ') : L2.wipe σ' vs = L2.wipe σ vs := by
  apply List.ext_getElem?
  intro i
  by_cases h : i ∈ vs
  · by_cases lt : i < σ.length
    · rw [wipe_in h lt, wipe_in h (by rw [o.1]; exact lt)]
    · rw [List.getElem?_eq_none (by rw [wipe_length, o.1]; omega), List.getElem?_eq_none (by rw [wipe_length]; omega)]
  · rw [wipe_out h, wipe_out h, o.2 i h]
theorem wipe_off (vs : List Nat) (σ : L2.St) : Off vs (L2.wipe σ vs) σ := ⟨(wipe_length σ vs).symm, fun i h => (wipe_out h).symm⟩
def AGv (K : PySem.W.Frag) (vs : List Nat) (g : TG) (d : Dt) (ρ : List En) (N : List En → Prop) : Prop := ∀ B σ G H, Mt K B ρ σ G H → ∀ v, RD K G d v → ∀ Q : L2.St → Hp → Prop, (∀ σ' ρ' G' H', Mt K B ρ' σ' G' H' → Same G G' → Tr B H H' → Off vs σ σ' → N ρ' → Q σ' H') → g v σ H Q
def AGvs (K : PySem.W.Frag) (vs : List Nat) (g : TGs) (ds : List Dt) (ρ : List En) (N : List En → Prop) : Prop := ∀ B σ G H, Mt K B ρ σ G H → ∀ xs, RDs K G ds xs → ∀ Q : L2.St → Hp → Prop, (∀ σ' ρ' G' H', Mt K B ρ' σ' G' H' → Same G G' → Tr B H H' → Off vs σ σ' → N ρ' → Q σ' H') → g xs σ H Q
theorem agv_name {vs : List Nat} {i : Nat} {d : Dt} (hi : i ∈ vs) (h : N (ρ.set i (.da d))) : AGv K vs (gName i) d ρ N := fun B σ G H m v r Q q => q _ _ G H (m.set i r) (Same.refl _) Tr.refl ⟨List.length_set, fun j hj => set_off (fun z => hj (by rw [← z]; exact hi))⟩ h
theorem agvs_nil {vs : List Nat} (h : N ρ) : AGvs K vs gNil [] ρ N := fun B σ G H m xs r Q q => ⟨r, q σ ρ G H m (Same.refl _) Tr.refl ⟨rfl, fun _ _ => rfl⟩ h⟩
theorem agvs_cons {vs : List Nat} {t : TG} {u : TGs} {d : Dt} {ds : List Dt} (h : AGv K vs t d ρ fun ρ1 => AGvs K vs u ds ρ1 N) : AGvs K vs (gCons t u) (d :: ds) ρ N := fun B σ G H m xs r Q q => by
  obtain ⟨x, ys, rfl, r1, r2⟩ := r
  exact ⟨x, ys, rfl, h B σ G H m x r1 _ fun σ1 ρ1 G1 H1 m1 s1 t1 o1 h1 => h1 B σ1 G1 H1 m1 ys (r2.same s1) Q fun σ' ρ' G' H' m' s t o p => q σ' ρ' G' H' m' (s1.trans s) (t1.trans t) ⟨o.1.trans o1.1, fun i hi => (o.2 i hi).trans (o1.2 i hi)⟩ p⟩
theorem agv_tup {vs : List Nat} {t : TGs} {n : Nat} {ds : List Dt} (hn : ds.length = n) (h : AGvs K vs t ds ρ N) : AGv K vs (gTup K n t) (.tup ds) ρ N := fun B σ G H m v r Q q => by
  obtain ⟨a, xs, rfl, r1, r2⟩ := r
  exact ⟨a, xs, rfl, same_sqT m.sub r1, by rw [r2.length]; exact hn, h B σ G H m xs r2 Q q⟩
theorem at_yes (h : ΨT true ρ) : AT K tYes ρ ΨT := fun B σ G H m Q q => q true ρ G H m (Same.refl _) Tr.refl h
/-- [e for .. in ..]: ρ is silent about the slots of the targets -/
theorem ae_lc {wi : TI} {g : TG} {tt : TT} {te : TE} {vs : List Nat}
    (h : AI K wi ρ fun l ρ1 => ∃ I : Nat → List Dt → List En → Prop, I 0 [] (wipeE ρ1 vs) ∧
      (∀ i d acc ρ2, l[i]? = some d → I i acc ρ2 → AGv K vs g d ρ2 fun ρ3 => AT K tt ρ3 fun b ρ4 => (b = true → AE K te ρ4 fun e ρ5 => acc.length < sizeLine ∧ I (i + 1) (acc ++ [e]) (wipeE ρ5 vs)) ∧ (b = false → I (i + 1) acc (wipeE ρ4 vs))) ∧
      ∀ acc ρ2, I l.length acc ρ2 → (∀ i ∈ vs, i < ρ2.length → ρ2[i]? = some En.no) ∧ Ψ (.lst acc) ρ2) : AE K (tLc wi g tt te vs) ρ Ψ := fun B σ G H m Q q =>
  h B σ G H m _ fun J l ρ1 G1 H1 m1 s1 t1 w ⟨I, i0, is, ie⟩ => fun D hD => by
    have back : ∀ {σ2 : L2.St} {ρ2 : List En} {B' : Addr → Prop} {G2 H2 : Hp}, L2.wipe σ2 vs = L2.wipe σ vs → Mt K B' ρ2 σ2 G2 H2 → Mt K B' (wipeE ρ2 vs) (L2.wipe σ vs) G2 H2 := fun e m2 => by
      rw [← e]; exact m2.wipe vs
    have mg := m1.guard (o := .lst []) hD
    refine lc_it w.walk (fun i H2 => ∃ (acc : List Dt) (xs : List V) (ρ2 : List En) (G2 : Hp), Mt K (fun a => B a ∨ a = D) ρ2 (L2.wipe σ vs) G2 H2 ∧ Same G1 G2 ∧ Tr B H1 H2 ∧ H2 D = some (.lst xs) ∧ RDs K G2 acc xs ∧ I i acc ρ2)
      ⟨[], [], wipeE ρ1 vs, G1, mg.wipe vs, Same.refl _, Tr.same (same_up hD), upd_same, rfl, i0⟩ (fun i H2 _ ⟨acc, xs, ρ2, G2, m2, s2, t2, e2, r2, p⟩ => s2.trans m2.sub) ?_ ?_
    · rintro i x H2 H3 hi ⟨acc, xs, ρ2, G2, m2, s2, t2, e2, r2, p⟩ y
      obtain ⟨G3, d, n3, hd, rd⟩ := y G2 s2 m2.sub
      have m3 := m2.nw n3
      refine is i d acc ρ2 hd p _ (L2.wipe σ vs) G3 H3 m3 x rd _ fun σ4 ρ4 G4 H4 m4 s4 t4 o4 h4 => ?_
      have ew : L2.wipe σ4 vs = L2.wipe σ vs := by
        rw [o4.wipe]
        exact (Off.wipe (wipe_off vs σ)).symm
      have e3 := n3.h _ _ e2
      have e4 := t4 _ _ (.inr rfl) e3
      have tB3 : Tr B H1 H4 := (t2.trans (Tr.same n3.h)).trans fun a o b e => t4 a o (.inl b) e
      refine ⟨ew, ?_⟩
      refine h4 _ σ4 G4 H4 m4 _ fun b ρ5 G5 H5 m5 s5 t5 h5 => ?_
      have e5 := t5 _ _ (.inr rfl) e4
      have tB5 : Tr B H1 H5 := tB3.trans fun a o b e => t5 a o (.inl b) e
      have s15 : Same G1 G5 := ((s2.trans n3.g).trans s4).trans s5
      cases b
      · rw [if_neg (by decide)]
        exact ⟨acc, xs, wipeE ρ5 vs, G5, back ew m5, s15, tB5, e5, ((r2.same n3.g).same s4).same s5, h5.2 rfl⟩
      · rw [if_pos rfl]
        refine h5.1 rfl _ σ4 G5 H5 m5 _ fun v e ρ6 G6 H6 m6 s6 t6 r6 h6 => ?_
        have e6 := t6 _ _ (.inr rfl) e5
        have rr : RDs K G6 acc xs := (((r2.same n3.g).same s4).same s5).same s6
        refine ⟨xs, e6, by rw [rr.length]; exact h6.1, acc ++ [e], xs ++ [v], wipeE ρ6 vs, G6, (back ew m6).turn (.inr rfl), s15.trans s6, ?_, upd_same, rr.snoc r6, h6.2⟩
        intro a o b z
        have z1 := t6 a o (.inl b) (tB5 a o b z)
        rw [upd_ne (fun z' => (m1.pro a b).2 (by rw [z']; exact hD))]; exact z1
    · rintro H2 ⟨acc, xs, ρ2, G2, m2, s2, t2, e2, r2, p⟩
      obtain ⟨hn, hp⟩ := ie acc ρ2 p
      have m3 : Mt K (fun a => B a ∨ a = D) ρ2 σ G2 H2 := m2.other (wipe_length σ vs).symm fun i => by
        by_cases hi : i ∈ vs
        · by_cases lt : i < ρ2.length
          · exact .inl (hn i hi lt)
          · exact .inr (by rw [List.getElem?_eq_none (by have := m2.len; rw [wipe_length] at this; omega), List.getElem?_eq_none (by have := m2.len; omega)])
        · exact .inr (wipe_out hi).symm
      have nD : G2 D = none := (m2.pro D (.inr rfl)).1
      have mB : Mt K B ρ2 σ G2 H2 := m3.less fun a b => .inl b
      -- the new list becomes data
      have sg : Same G2 (upd G2 D (.lst xs)) := same_up nD
      have mF : Mt K B ρ2 σ (upd G2 D (.lst xs)) H2 := ⟨fun a o z => by
          by_cases w : a = D
          · subst w; rw [upd_same] at z; cases z; exact e2
          · rw [upd_ne w] at z; exact m2.sub _ _ z,
        fun a b => ⟨by rw [upd_ne (fun w => (m1.pro a b).2 (by rw [w]; exact hD))]; exact (mB.pro a b).1, (mB.pro a b).2⟩, mB.len, fun i d e => by
          obtain ⟨v, z1, z2⟩ := mB.da i d e
          exact ⟨v, z1, z2.same sg⟩, fun i k e => by
          obtain ⟨q', ys, z1, z2, z3, z4, z5⟩ := m3.own i k e
          exact ⟨q', ys, z1, z2, z3.same sg, by rw [upd_ne (fun w => z5 (.inr w))]; exact z4, fun b => z5 (.inl b)⟩, fun i b f e => by
          obtain ⟨y, c, z1, z2, z3, z4, z5, z6⟩ := m3.bx i b f e
          exact ⟨y, c, z1, z2, z3, z4, by rw [upd_ne (fun w => z6 (.inr w))]; exact z5, fun b => z6 (.inl b)⟩, mB.dis⟩
      exact q _ (.lst acc) ρ2 _ H2 mF ((s1.trans s2).trans sg) (t1.trans t2) ⟨D, xs, rfl, upd_same, r2.same sg⟩ hp
end
end Sh
set_option Elab.async false
set_option linter.all false
set_option maxRecDepth 100000
set_option maxHeartbeats 4000000
namespace Sh
open PySem PySem.Spec PyProof.Rows L2
/-! ### promises over data -/
def spP (K : PySem.W.Frag) (S : List Dt → Dt → Prop) : Sp := fun vs H Q _ => ∃ G ds r, Same G H ∧ RDs K G ds vs ∧ S ds r ∧ ∀ v G' H', Nw G H G' H' → RD K G' r v → Q v H'
def But (b : Addr) (H H' : Hp) : Prop := ∀ a o, a ≠ b → H a = some o → H' a = some o
theorem but_upd {H : Hp} {b : Addr} {o : HO} : But b H (upd H b o) := fun a u n e => by rw [upd_ne n]; exact e
structure Nb (b : Addr) (G H G' H' : Hp) : Prop where
  g : Same G G'
  s : Same G' H'
  h : But b H H'
  f : ∀ a, G a = none → H a ≠ none → G' a = none
def spB (K : PySem.W.Frag) (n : Nat) (dom : List Dt → Prop) (post : List Dt → Dt → Prop) : Sp := fun vs H Q _ => ∃ G ds b us y c, ∃ F : Nat, vs = .ref b :: us ∧ Same G H ∧ Bx H b y c ∧ 0 ≤ c ∧ c + (F + n : Nat) ≤ BxM ∧ G b = none ∧ RDs K G ds us ∧ dom ds ∧
  ∀ v d G' H' y' c', Nb b G H G' H' → Bx H' b y' c' → 0 ≤ c' → c' + F ≤ BxM → RD K G' d v → post ds d → Q v H'
section
variable {K : PySem.W.Frag} {ρ : List En} {Ψ : Dt → List En → Prop} {ΨT : Bool → List En → Prop} {ΨA : List Dt → List En → Prop} {N : List En → Prop} {R : Dt → List En → Prop} {Φ : Dt → Prop}
theorem ae_call {S : List Dt → Dt → Prop} {E : XK} {ta : TA} (h : AA K ta ρ fun ds ρ1 => ∃ r, S ds r ∧ Ψ r ρ1) : AE K (tCall (spP K S) [] E ta) ρ Ψ := fun B σ G H m Q q =>
  h B σ G H m _ fun vs ds ρ1 G1 H1 m1 s1 t1 r1 ⟨r, hs, p⟩ => ⟨G1, ds, r, m1.sub, by rw [List.append_nil]; exact r1, hs, fun v G2 H2 n r2 => q v r ρ1 G2 H2 (m1.nw n) (s1.trans n.g) (t1.trans (Tr.same n.h)) r2 p⟩
/-- a box has been drawn from -/
theorem Mt.box {B : Addr → Prop} {σ : L2.St} {G H G' H' : Hp} (m : Mt K B ρ σ G H) {i f : Nat} {b : Addr} {y c : Int} (e : ρ[i]? = some (.bx b f)) (n : Nb b G H G' H') {F : Nat} (h : Bx H' b y c) (c0 : 0 ≤ c) (c1 : c + F ≤ BxM) : Mt K B (ρ.set i (.bx b F)) σ G' H' ∧ Tr B H H' := by
  obtain ⟨y0, k0, z1, z2, z3, z4, z5, z6⟩ := m.bx i b f e
  have tr : Tr B H H' := fun a o ba e => n.h a o (fun w => z6 (by rw [← w]; exact ba)) e
  refine ⟨⟨n.s, fun a ba => ⟨n.f a (m.pro a ba).1 (m.pro a ba).2, ?_⟩, by rw [List.length_set]; exact m.len, ?_, ?_, ?_, ?_⟩, tr⟩
  · intro z
    cases q : H a with
    | none => exact (m.pro a ba).2 q
    | some o => rw [tr a o ba q] at z; cases z
  · intro j d hj
    rcases get_set hj with ⟨rfl, w, lt⟩ | ⟨ne, w⟩
    · cases w
    · obtain ⟨v, w1, w2⟩ := m.da j d w
      exact ⟨v, w1, w2.same n.g⟩
  · intro j l hj
    rcases get_set hj with ⟨rfl, w, lt⟩ | ⟨ne, w⟩
    · cases w
    · obtain ⟨q, xs, w1, w2, w3, w4, w5⟩ := m.own j l w
      exact ⟨q, xs, w1, n.h _ _ (fun z => m.dis i j _ _ b e w trivial trivial ne z1 (by rw [← z]; exact w1)) w2, w3.same n.g, n.f q w4 (some_ne w2), w5⟩
  · intro j b' f' hj
    rcases get_set hj with ⟨rfl, w, lt⟩ | ⟨ne, w⟩
    · cases w
      exact ⟨y, c, z1, h, c0, c1, n.f b z5 z2.ne, z6⟩
    · obtain ⟨y', c', w1, ⟨x, w2, w2'⟩, w3, w4, w5, w6⟩ := m.bx j b' f' w
      exact ⟨y', c', w1, ⟨x, n.h _ _ (fun z => m.dis i j _ _ b e w trivial trivial ne z1 (by rw [← z]; exact w1)) w2, w2'⟩, w3, w4, n.f b' w5 (some_ne w2), w6⟩
  · intro j k e1 e2 a g1 g2 o1 o2 ne s1 s2
    rcases get_set g1 with ⟨rfl, z, lt⟩ | ⟨n1, z1'⟩
    · rcases get_set g2 with ⟨w, z', lt'⟩ | ⟨n2, z2'⟩
      · exact ne w
      · exact m.dis i k _ e2 a e z2' trivial o2 ne s1 s2
    · rcases get_set g2 with ⟨rfl, z, lt⟩ | ⟨n2, z2'⟩
      · exact m.dis j i e1 _ a z1' e o1 trivial ne s1 s2
      · exact m.dis j k e1 e2 a z1' z2' o1 o2 ne s1 s2
theorem ae_draw {n : Nat} {dom : List Dt → Prop} {post : List Dt → Dt → Prop} {E : XK} {ta : TA} {i : Nat} {b : Addr} {f0 : Nat} (e0 : ρ[i]? = some (.bx b f0))
    (h : AA K ta ρ fun ds ρ1 => dom ds ∧ ∃ F, ρ1[i]? = some (.bx b (F + n)) ∧ ∀ d, post ds d → Ψ d (ρ1.set i (.bx b F))) : AE K (tCall (spB K n dom post) [] E (tCons (tVar i) ta)) ρ Ψ := fun B σ G H m Q q => by
  obtain ⟨y0, k0, z1, _⟩ := m.bx i b f0 e0
  refine ⟨_, z1, h B σ G H m _ fun vs ds ρ1 G1 H1 m1 s1 t1 r1 ⟨hd, F, e, p⟩ => ?_⟩
  obtain ⟨y, c, w1, w2, w3, w4, w5, w6⟩ := m1.bx i b (F + n) e
  refine ⟨G1, ds, b, vs, y, c, F, by rw [List.append_nil], m1.sub, w2, w3, w4, w5, r1, hd, fun v d G2 H2 y' c' nb hb c0 c1 r2 hp => ?_⟩
  obtain ⟨m2, t2⟩ := m1.box e nb hb c0 c1
  exact q v d _ G2 H2 m2 (s1.trans nb.g) (t1.trans t2) r2 (p d hp)
/-! ### a def keeps such a promise -/
def env0 (N : List Str) (ds : List Dt) : List En := ds.map En.da ++ List.replicate (N.length - ds.length) .no
def envB (N : List Str) (b : Addr) (f : Nat) (ds : List Dt) : List En := .bx b f :: (ds.map En.da ++ List.replicate (N.length - (ds.length + 1)) .no)
theorem rep_get {n i : Nat} {e : En} (h : (List.replicate n En.no)[i]? = some e) : e = .no := by
  rw [List.getElem?_replicate] at h
  split at h
  · cases h; rfl
  · cases h
theorem da_get {ds : List Dt} {n i : Nat} {e : En} (h : (ds.map En.da ++ List.replicate n En.no)[i]? = some e) : e = .no ∨ ∃ d, ds[i]? = some d ∧ e = .da d := by
  by_cases lt : i < ds.length
  · rw [List.getElem?_append_left (by rw [List.length_map]; exact lt), List.getElem?_map] at h
    obtain ⟨d, h1, h2⟩ := Option.map_eq_some_iff.mp h
    exact .inr ⟨d, h1, h2.symm⟩
  · rw [List.getElem?_append_right (by rw [List.length_map]; omega)] at h
    exact .inl (rep_get h)
theorem start_get {N : List Str} {vs : List V} {i : Nat} {x : V} (h : vs[i]? = some x) : (L2.start N vs)[i]? = some (some x) := by
  have lt := (List.getElem?_eq_some_iff.mp h).1
  unfold L2.start
  rw [List.getElem?_append_left (by rw [List.length_map]; exact lt), List.getElem?_map, h]; rfl
theorem mt_start {N : List Str} {ds : List Dt} {vs : List V} {G H : Hp} (s : Same G H) (r : RDs K G ds vs) : Mt K (fun a => H a ≠ none ∧ G a = none) (env0 N ds) (L2.start N vs) G H where
  sub := s
  pro := fun a b => ⟨b.2, b.1⟩
  len := by unfold L2.start env0; simp [r.length]
  da := fun i d e => by
    rcases da_get e with z | ⟨d', z1, z2⟩
    · cases z
    · cases z2
      obtain ⟨x, h1, h2⟩ := r.get z1
      exact ⟨x, start_get h1, h2⟩
  own := fun i l e => by rcases da_get e with z | ⟨d', z1, z2⟩ <;> contradiction
  bx := fun i b f e => by rcases da_get e with z | ⟨d', z1, z2⟩ <;> contradiction
  dis := fun i j e e' a h1 h2 o1 o2 ne s1 s2 => by
    rcases da_get h1 with z | ⟨d', z1, z2⟩
    · subst z; exact o1
    · subst z2; exact o1
theorem mt_startB {N : List Str} {ds : List Dt} {vs : List V} {G H : Hp} {b : Addr} {y c : Int} {f : Nat} (s : Same G H) (r : RDs K G ds vs) (hb : Bx H b y c) (c0 : 0 ≤ c) (c1 : c + f ≤ BxM) (gb : G b = none) : Mt K (fun a => H a ≠ none ∧ G a = none ∧ a ≠ b) (envB N b f ds) (L2.start N (.ref b :: vs)) G H where
  sub := s
  pro := fun a b => ⟨b.2.1, b.1⟩
  len := by unfold L2.start envB; simp [r.length]
  da := fun i d e => by
    cases i with
    | zero => cases e
    | succ i =>
      rcases da_get (show _ = some _ from e) with z | ⟨d', z1, z2⟩
      · cases z
      · cases z2
        obtain ⟨x, h1, h2⟩ := r.get z1
        exact ⟨x, start_get (vs := .ref b :: vs) (i := i + 1) h1, h2⟩
  own := fun i l e => by
    cases i with
    | zero => cases e
    | succ i => rcases da_get (show _ = some _ from e) with z | ⟨d', z1, z2⟩ <;> contradiction
  bx := fun i b' f' e => by
    cases i with
    | zero => cases e; exact ⟨y, c, rfl, hb, c0, c1, gb, fun z => z.2.2 rfl⟩
    | succ i => rcases da_get (show _ = some _ from e) with z | ⟨d', z1, z2⟩ <;> contradiction
  dis := fun i j e e' a h1 h2 o1 o2 ne s1 s2 => by
    cases i with
    | zero =>
      cases j with
      | zero => exact ne rfl
      | succ j => rcases da_get (show _ = some _ from h2) with z | ⟨d', z1, z2⟩ <;> (subst_vars; exact o2)
    | succ i => rcases da_get (show _ = some _ from h1) with z | ⟨d', z1, z2⟩ <;> (subst_vars; exact o1)
end
section
variable {P : Program} {w : World} {K : PySem.W.Frag} {mg : Str → Option Value} {base : Heap}
theorem okP {x qual : Str} {st : Stmt} {f : Addr} {fd : FuncData} {N ps : List Str} {k : Nat} {S : List Dt → Dt → Prop} (F : Fun K x qual st f fd) (sc : FnScope N ps (defScope st)) (len : ∀ ds r, S ds r → ds.length = ps.length)
    (body : ∀ (cdv : Value) (A : Around) (outer : List Env) (s : Shared) (H : Hp) (E : XK), Room k (A.deeper (envOfC qual (defScope st) s.heap.objs.size f cdv)) → ∀ ds r, S ds r →
      ∃ t, PSs (cxOf CX0 P w K mg base N qual (defScope st) f cdv A outer s H E).nox (defBody st) t ∧ AS K t (env0 N ds) (fun _ => r = .non) (fun d _ => d = r)) : FnOk P w K mg base CX0 (k + 1) f fd ps (spP K S) := by
  refine F.ok sc (fun vs H Q E h => ?_) (fun cdv A outer s H vs Q E hr h => ?_)
  · obtain ⟨G, ds, r, s, rd, hs, _⟩ := h
    rw [rd.length]; exact len ds r hs
  · obtain ⟨G, ds, r, sm, rd, hs, q⟩ := h
    obtain ⟨t, ht, ha⟩ := body cdv A outer s H E hr ds r hs
    refine ⟨t, ht, ha _ _ G H (mt_start sm rd) _ (fun σ' ρ' G' H' m' s' t' e => ?_) (fun v d σ' ρ' G' H' m' s' t' rv e => ?_)⟩
    all_goals
      have nw : Nw G H G' H' := ⟨s', m'.sub, fun a o e => by
          cases z : G a with
          | none => exact t' a o ⟨some_ne e, z⟩ e
          | some o' => rw [sm _ _ z] at e; cases e; exact m'.sub _ _ (s' _ _ z), fun a h1 h2 => (m'.pro a ⟨h2, h1⟩).1⟩
    · exact q .non G' H' nw (by rw [e]; rfl)
    · exact q v G' H' nw (by rw [← e]; exact rv)
theorem okB {x qual : Str} {st : Stmt} {f : Addr} {fd : FuncData} {N ps : List Str} {k n : Nat} {dom : List Dt → Prop} {post : List Dt → Dt → Prop} (F : Fun K x qual st f fd) (sc : FnScope N ps (defScope st)) (len : ∀ ds, dom ds → ds.length + 1 = ps.length)
    (body : ∀ (cdv : Value) (A : Around) (outer : List Env) (s : Shared) (H : Hp) (E : XK), Room k (A.deeper (envOfC qual (defScope st) s.heap.objs.size f cdv)) → ∀ ds, dom ds →
      ∃ t, PSs (cxOf CX0 P w K mg base N qual (defScope st) f cdv A outer s H E).nox (defBody st) t ∧ ∀ (b : Addr) (F : Nat), AS K t (envB N b (F + n) ds) (fun ρ => post ds .non ∧ ∃ f, ρ[0]? = some (.bx b f) ∧ F ≤ f) (fun d ρ => post ds d ∧ ∃ f, ρ[0]? = some (.bx b f) ∧ F ≤ f)) : FnOk P w K mg base CX0 (k + 1) f fd ps (spB K n dom post) := by
  refine F.ok sc (fun vs H Q E h => ?_) (fun cdv A outer s H vs Q E hr h => ?_)
  · obtain ⟨G, ds, b, us, y, c, F', rfl, sm, hb, c0, c1, gb, rd, hd, _⟩ := h
    rw [List.length_cons, rd.length]; exact len ds hd
  · obtain ⟨G, ds, b, us, y, c, F', rfl, sm, hb, c0, c1, gb, rd, hd, q⟩ := h
    obtain ⟨t, ht, ha⟩ := body cdv A outer s H E hr ds hd
    refine ⟨t, ht, ha b F' _ _ G H (mt_startB sm rd hb c0 c1 gb) _ (fun σ' ρ' G' H' m' s' t' e => ?_) (fun v d σ' ρ' G' H' m' s' t' rv e => ?_)⟩
    all_goals
      obtain ⟨hp, f', he, hf⟩ := e
      have nb : Nb b G H G' H' := ⟨s', m'.sub, fun a o ne e => by
          cases z : G a with
          | none => exact t' a o ⟨some_ne e, z, ne⟩ e
          | some o' => rw [sm _ _ z] at e; cases e; exact m'.sub _ _ (s' _ _ z), fun a h1 h2 => by
          by_cases w : a = b
          · subst w
            obtain ⟨_, _, _, _, _, _, z, _⟩ := m'.bx 0 a f' he
            exact z
          · exact (m'.pro a ⟨h2, h1, w⟩).1⟩
      obtain ⟨y', c', w1, w2, w3, w4, w5, w6⟩ := m'.bx 0 b f' he
    · exact q .non .non G' H' y' c' nb w2 w3 (by omega) rfl hp
    · exact q v d G' H' y' c' nb w2 w3 (by omega) rv hp
end
/-! ### calls by keywords alone -/
def tCallK0 (m : Nat) (sp : Sp) (gV : List V → List V) (E : XK) (tk : TA) : TE := fun σ H Q => tk σ H fun zs H2 => zs.length = m ∧ sp (gV zs) H2 Q E
structure KB0 (K : PySem.W.Frag) (fd : FuncData) (ps ks : List Str) (g : List Value → List Value) (gV : List V → List V) : Prop where
  to : ∀ (s : Shared) (ws : List Value), ws.length = ks.length → BindsTo s fd ⟨[], ks.zip ws⟩ (ps.zip (g ws))
  rel : ∀ {zs : List V} {ws : List Value}, Vals zs ws → zs.length = ks.length → Vals (gV zs) (g ws)
section
variable {X : Cx} {CX : CXT} {k n : Nat} {f : Addr} {fd : FuncData} {ps ks : List Str} {sp : Sp} {E : XK} {x : Str} {p pos : Pos} {kws : List Keyword} {tk : TA} {g : List Value → List Value} {gV : List V → List V}
theorem run_fnK0 {pins : List (Addr × Obj)} {σ : L2.St} {H : Hp} {s : Shared} {Q : VK} {ws : List Value} {zs : List V} (F : FnOk X.prog X.w X.K X.mg X.base CX k f fd ps sp) (hr : Room k X.A) (hb : KB0 X.K fd ps ks g gV) (hx : Passes CX X E)
    (I : Inv X pins σ H s) (rz : Vals zs ws) (l2 : zs.length = ks.length) (h : sp (gV zs) H Q E) : wpAny (model X.prog X.w) X.A (call (.ref f) [] (ks.zip ws)) (EP X pins σ Q) X.xe s := by
  have r2 := hb.rel rz l2
  refine wpAny_call (codeAny_mono (F.run X.A X.stack s H ⟨[], ks.zip ws⟩ (g ws) (gV zs) Q E hr I.env0 (hb.to s ws (rz.length.symm.trans l2)) r2 h) fun r s' hq => ?_)
  cases r with
  | error e => exact hx pins σ H s e s' I hq
  | ok fl =>
    cases fl with
    | ret u => exact I.after hq
    | next => exact False.elim hq
    | brk => exact False.elim hq
    | cont => exact False.elim hq
theorem pe_callK0 (F : FnOk X.prog X.w X.K X.mg X.base CX k f fd ps sp) (hr : Room k X.A) (hg : Gl X x) (hm : X.mg x = some (.ref f)) (hk : PySem.W.keepIn X.K (.ref f) = true) (hb : KB0 X.K fd ps ks g gV) (hx : Passes CX X E)
    (hkw : PK X kws tk) (hall : (backToKw pos (keywordEach kws X.env)).all (·.1.isSome) = true := by rfl) (hks : (backToKw pos (keywordEach kws X.env)).filterMap (·.1) = ks := by rfl)
    (hdb : (x == ("__debug__" : Str)) = false := by decide) (hpl : ((backTo pos (starEach [] X.env)).any (·.1) || (backToKw pos (keywordEach kws X.env)).any (·.1.isNone)) = false := by rfl) :
    PE X (.Call (.Name x p) [] kws pos) (tCallK0 ks.length sp gV E tk) := by
  refine ⟨fun pins s σ H Q I h => ?_⟩
  refine wpAny_Call_Name_kw (ld_glob I hg hm ?_ hdb)
  refine PySem.W.callWith_KW0 (h₀ := X.base) I.ok.mod.kin hk hall ?_ hpl
  refine thn (hkw.run pos pins s σ H _ I h) fun ws s2 ⟨zs, H2, I2, rz, l2, q2⟩ => ⟨I2.kIn, ?_⟩
  rw [hks]
  exact run_fnK0 F hr hb hx I2 rz l2 q2
end
section
variable {K : PySem.W.Frag} {ρ : List En} {Ψ : Dt → List En → Prop} {E : XK} {tk : TA}
theorem ae_callK {m : Nat} {S : List Dt → Dt → Prop} {gV : List V → List V} (gD : List Dt → List Dt) (hg : ∀ {G : Hp} {ds : List Dt} {vs : List V}, RDs K G ds vs → ds.length = m → RDs K G (gD ds) (gV vs)) (h : AA K tk ρ fun ds ρ1 => ds.length = m ∧ ∃ r, S (gD ds) r ∧ Ψ r ρ1) : AE K (tCallK0 m (spP K S) gV E tk) ρ Ψ := fun B σ G H mm Q q =>
  h B σ G H mm _ fun vs ds ρ1 G1 H1 m1 s1 t1 r1 ⟨l, r, hs, p⟩ => ⟨by rw [r1.length]; exact l, G1, gD ds, r, m1.sub, hg r1 l, hs, fun v G2 H2 n r2 => q v r ρ1 G2 H2 (m1.nw n) (s1.trans n.g) (t1.trans (Tr.same n.h)) r2 p⟩
end
end Sh
set_option Elab.async false
set_option linter.all false
set_option maxRecDepth 100000
set_option maxHeartbeats 4000000
namespace Sh
open PySem PySem.Spec PyProof.Rows L2
/-- a def that may be called: its promise, how its arguments bind -/
structure Cal (P : Program) (w : World) (K : PySem.W.Frag) (mg : Str → Option Value) (base : Heap) (n : Nat) (x : Str) (ps : List Str) (sp : Sp) (g : Addr) (d : FuncData) : Prop where
  ok : FnOk P w K mg base CX0 n g d ps sp
  bi : Binds K d ps []
  kp : PySem.W.keepIn K (.ref g) = true
  mg : mg x = some (.ref g)
structure Blts (mg : Str → Option Value) : Prop where
  len : mg "len" = none
  abs : mg "abs" = none
  int : mg "int" = none
  list : mg "list" = none
  tuple : mg "tuple" = none
  bool : mg "bool" = none
  str : mg "str" = none
  enumerate : mg "enumerate" = none
  isinstance : mg "isinstance" = none
  all : mg "all" = none
  any : mg "any" = none
  zip : mg "zip" = none
  range : mg "range" = none
  min : mg "min" = none
  max : mg "max" = none
  set : mg "set" = none
  sorted : mg "sorted" = none
  repr : mg "repr" = none
  sum : mg "sum" = none
section
variable {K : PySem.W.Frag} {ρ : List En} {N : List En → Prop} {R : Dt → List En → Prop}
theorem as_par3 {ta : TA} {i j l : Nat} (h : AA K ta ρ fun ds ρ1 => ∃ d e f, ds = [d, e, f] ∧ N (((ρ1.set i (.da d)).set j (.da e)).set l (.da f))) : AS K (tPar3 i j l ta) ρ N R := fun B σ G H m D qn qr =>
  h B σ G H m _ fun vs ds ρ1 G1 H1 m1 s1 t1 r1 ⟨d, e, f, z, h1⟩ => by
    subst z
    obtain ⟨x, r, rfl, r2, r3⟩ := r1
    obtain ⟨y, z, rfl, r4, r5⟩ := r3.two
    exact ⟨x, y, z, rfl, qn _ _ G1 H1 (((m1.set i r2).set j r4).set l r5) s1 t1 h1⟩
theorem ar_eq3 {d e : Dt} {x y : V} {Φ : Dt → Prop} (c : d.v? = some x ∧ e.v? = some y ∧ scal x y = true) (h : Φ (.bl (decide (x = y)))) : AR K rEq d e Φ := ar_eq c.1 c.2.1 c.2.2 h
theorem ar_ne3 {d e : Dt} {x y : V} {Φ : Dt → Prop} (c : d.v? = some x ∧ e.v? = some y ∧ scal x y = true) (h : Φ (.bl (!decide (x = y)))) : AR K rNe d e Φ := ar_ne c.1 c.2.1 c.2.2 h
theorem ac_isi1 {d : Dt} {T : String} {b : Bool} {Φ : Dt → Prop} (c : d.noTy = true ∧ kitB d.kind T = some b) (h : Φ (.bl b)) : AC K (rIsi K) [d, .ty T] Φ := ac_isi c.1 c.2 h
theorem kb_NoneType_list : kitB "NoneType" "list" = some false := by decide +kernel
theorem kb_NoneType_tuple : kitB "NoneType" "tuple" = some false := by decide +kernel
theorem kb_NoneType_bool : kitB "NoneType" "bool" = some false := by decide +kernel
theorem kb_NoneType_int : kitB "NoneType" "int" = some false := by decide +kernel
theorem kb_NoneType_str : kitB "NoneType" "str" = some false := by decide +kernel
theorem kb_bool_list : kitB "bool" "list" = some false := by decide +kernel
theorem kb_bool_tuple : kitB "bool" "tuple" = some false := by decide +kernel
theorem kb_bool_bool : kitB "bool" "bool" = some true := by decide +kernel
theorem kb_bool_int : kitB "bool" "int" = some true := by decide +kernel
theorem kb_bool_str : kitB "bool" "str" = some false := by decide +kernel
theorem kb_int_list : kitB "int" "list" = some false := by decide +kernel
theorem kb_int_tuple : kitB "int" "tuple" = some false := by decide +kernel
theorem kb_int_bool : kitB "int" "bool" = some false := by decide +kernel
theorem kb_int_int : kitB "int" "int" = some true := by decide +kernel
theorem kb_int_str : kitB "int" "str" = some false := by decide +kernel
theorem kb_str_list : kitB "str" "list" = some false := by decide +kernel
theorem kb_str_tuple : kitB "str" "tuple" = some false := by decide +kernel
theorem kb_str_bool : kitB "str" "bool" = some false := by decide +kernel
theorem kb_str_int : kitB "str" "int" = some false := by decide +kernel
theorem kb_str_str : kitB "str" "str" = some true := by decide +kernel
theorem kb_tuple_list : kitB "tuple" "list" = some false := by decide +kernel
theorem kb_tuple_tuple : kitB "tuple" "tuple" = some true := by decide +kernel
theorem kb_tuple_bool : kitB "tuple" "bool" = some false := by decide +kernel
theorem kb_tuple_int : kitB "tuple" "int" = some false := by decide +kernel
theorem kb_tuple_str : kitB "tuple" "str" = some false := by decide +kernel
theorem kb_list_list : kitB "list" "list" = some true := by decide +kernel
theorem kb_list_tuple : kitB "list" "tuple" = some false := by decide +kernel
theorem kb_list_bool : kitB "list" "bool" = some false := by decide +kernel
theorem kb_list_int : kitB "list" "int" = some false := by decide +kernel
theorem kb_list_str : kitB "list" "str" = some false := by decide +kernel
theorem ar_eqS {d : Dt} {Φ : Dt → Prop} (c : d.pl = true ∧ SeqAt.shaped d.pd = true) (h : Φ (.bl true)) : AR K (rEqD K) d d Φ := ar_eqD c.1 c.1 c.2 c.2 (by rw [SeqAt.eqv_refl d.pd (SeqAt.canLay_of_shaped c.2)]; exact h)
theorem ac_len {k : Bool} {l : List Dt} {Φ : Dt → Prop} (h : Φ (.int (l.length : Nat))) : AC K (fun xs H Q => ∃ p ys, xs = [.ref p] ∧ (SqL K H p ys ∨ SqT K H p ys) ∧ Q (.int ys.length) H) [sq k l] Φ := by
  cases k
  · exact ac_lenL h
  · exact ac_lenT h
theorem wipe_no {ρ : List En} {i : Nat} : ∀ {vs : List Nat}, i ∈ vs → i < ρ.length → (wipeE ρ vs)[i]? = some En.no
  | v :: vs, h, lt => by
    have hl : ∀ ws : List Nat, (wipeE ρ ws).length = ρ.length := fun ws => by
      induction ws with
      | nil => rfl
      | cons w ws ih => unfold wipeE; rw [List.length_set, ih]
    unfold wipeE
    by_cases e : v = i
    · subst e; exact set_at (by rw [hl]; exact lt)
    · rw [set_off e]
      exact wipe_no (by rcases List.mem_cons.mp h with z | z; exact absurd z.symm e; exact z) lt
theorem wipeE_len {ρ : List En} (ws : List Nat) : (wipeE ρ ws).length = ρ.length := by
  induction ws with
  | nil => rfl
  | cons w ws ih => unfold wipeE; rw [List.length_set, ih]
/-- a comprehension item by item -/
theorem ae_lcMap {Ψ : Dt → List En → Prop} {wi : TI} {g : TG} {te : TE} {vs : List Nat} (f : Dt → Dt)
    (h : AI K wi ρ fun l ρ1 => l.length < sizeLine ∧ (∀ d ∈ l, AGv K vs g d (wipeE ρ1 vs) fun ρ3 => AE K te ρ3 fun e ρ5 => e = f d ∧ wipeE ρ5 vs = wipeE ρ1 vs) ∧ Ψ (.lst (l.map f)) (wipeE ρ1 vs)) : AE K (tLc wi g tYes te vs) ρ Ψ := by
  refine ae_lc (fun B σ G H m R q => h B σ G H m R fun J l ρ1 G1 H1 m1 s1 t1 w ⟨h1, h2, h3⟩ => q J l ρ1 G1 H1 m1 s1 t1 w ⟨fun i acc ρ2 => i ≤ l.length ∧ acc = (l.take i).map f ∧ ρ2 = wipeE ρ1 vs, ⟨Nat.zero_le _, rfl, rfl⟩, ?_, ?_⟩)
  · rintro i d acc ρ2 hd ⟨hi, rfl, rfl⟩
    have lt := (List.getElem?_eq_some_iff.mp hd).1
    have hm := List.mem_of_getElem? hd
    intro B σ G H m v r Q q
    refine h2 d hm B σ G H m v r Q fun σ' ρ' G' H' m' s t o p => q σ' ρ' G' H' m' s t o (at_yes ⟨fun _ => ?_, fun z => nomatch z⟩)
    refine ae_mono p fun e ρ5 ⟨e1, e2⟩ => ⟨?_, lt, ?_, e2⟩
    · rw [List.length_map, List.length_take]; exact Nat.lt_of_le_of_lt (Nat.min_le_right _ _) h1
    · rw [e1, List.take_succ, hd, List.map_append]; rfl
  · rintro acc ρ2 ⟨_, rfl, rfl⟩
    refine ⟨fun i hi lt => wipe_no hi (by rw [wipeE_len] at lt; exact lt), ?_⟩
    rw [List.take_length]; exact h3
theorem sz60' {n : Nat} (h : n ≤ 60) : n < sizeLine := Nat.lt_of_le_of_lt h (by decide)
theorem cxOf_K {CX : CXT} {P : Program} {w : World} {mg : Str → Option Value} {base : Heap} {N : List Str} {q : Str} {sc : Scope} {f : Addr} {cdv : Value} {A : Around} {outer : List Env} {s : Shared} {H : Hp} {E : XK} : (cxOf CX P w K mg base N q sc f cdv A outer s H E).K = K := rfl
end
def oD : Option Int → Dt
  | none => .non
  | some i => .int i
theorem oD_some {i : Int} : oD (some i) = .int i := rfl
theorem oD_none : oD none = .non := rfl
end Sh
set_option Elab.async false
set_option linter.all false
set_option maxRecDepth 100000
set_option maxHeartbeats 4000000
/-! ### set(xs) of a list of whole numbers; max, min of one with a default -/
set_option Elab.async false
set_option linter.all false
set_option maxRecDepth 100000
set_option maxHeartbeats 4000000
set_option Elab.async false
set_option linter.all false
set_option maxRecDepth 100000
set_option maxHeartbeats 4000000
namespace Sh
open PySem PySem.Spec PyProof.Rows L2
section
variable {K : PySem.W.Frag} {ρ : List En} {N : List En → Prop} {Φ : Dt → Prop}
theorem cxOf_w {CX : CXT} {P : Program} {w : World} {mg : Str → Option Value} {base : Heap} {N : List Str} {q : Str} {sc : Scope} {f : Addr} {cdv : Value} {A : Around} {outer : List Env} {s : Shared} {H : Hp} {E : XK} : (cxOf CX P w K mg base N q sc f cdv A outer s H E).w = w := rfl
theorem RDs.rev {G : Hp} : ∀ {ds : List Dt} {vs : List V}, RDs K G ds vs → RDs K G ds.reverse vs.reverse
  | [], _, h => by cases (show _ = [] from h); rfl
  | d :: ds, _, ⟨x, r, e, h1, h2⟩ => by
    subst e
    rw [List.reverse_cons, List.reverse_cons]
    exact (RDs.rev h2).snoc h1
theorem vals_rev : ∀ {zs : List V} {ws : List Value}, Vals zs ws → Vals zs.reverse ws.reverse
  | _, _, .nil => .nil
  | _, _, .cons (l₁ := zs) (l₂ := ws) r t => by
    rw [List.reverse_cons, List.reverse_cons]
    exact (vals_rev t).append (.cons r .nil)
end
end Sh
set_option Elab.async false
set_option linter.all false
set_option maxRecDepth 100000
set_option maxHeartbeats 4000000
namespace Sh
open PySem PySem.Spec PyProof.Rows L2
def topS (i : Nat) : Stmt := PySem.Challenge.pw_shadowruns_k42_gaps_item_by_item.main.body.getD i (.Pass ⟨0, 0, 0, 0⟩)
abbrev sBox : Stmt := topS 15
abbrev sTake : Stmt := topS 16
abbrev sCells : Stmt := topS 17
abbrev sOf : Stmt := topS 18
theorem scBox : FnScope ["_law_script", "_law_k", "_law_cell"] ["_law_script", "_law_k"] (defScope sBox) := ⟨rfl, rfl, rfl, by decide +kernel, rfl, by decide +kernel, by decide +kernel⟩
theorem scTake : FnScope ["_law_box_here", "_law_below_here", "_law_found", "_law_once", "_law_twice"] ["_law_box_here", "_law_below_here"] (defScope sTake) := ⟨rfl, rfl, rfl, by decide +kernel, rfl, by decide +kernel, by decide +kernel⟩
theorem scCells : FnScope ["_law_script", "_law_most", "_law_cells_here", "_law_k", "_law_cell"] ["_law_script", "_law_most"] (defScope sCells) := ⟨rfl, rfl, rfl, by decide +kernel, rfl, by decide +kernel, by decide +kernel⟩
/-! numbers -/
theorem fm0 {a b : Int} (h : 0 < b) : 0 ≤ a.fmod b := Int.fmod_nonneg_of_pos a h
theorem fm1 {a b : Int} (h : 0 < b) : a.fmod b < b := Int.fmod_lt_of_pos a h
theorem fd0 {a b : Int} (h : 0 ≤ a) (hb : 0 ≤ b) : 0 ≤ a.fdiv b := Int.fdiv_nonneg h hb
theorem fdle {a b : Int} (h : 0 ≤ a) (hb : 0 < b) : a.fdiv b ≤ a := by
  rw [Int.fdiv_eq_ediv_of_nonneg _ (by omega)]
  exact Int.ediv_le_self b h
theorem b01 (c : Bool) : (if c = true then (1 : Int) else 0) = 0 ∨ (if c = true then (1 : Int) else 0) = 1 := by cases c <;> simp
theorem b01s (c : Bool) : -(2 ^ 64) < (if c = true then (1 : Int) else 0) ∧ (if c = true then (1 : Int) else 0) < 2 ^ 64 := by cases c <;> decide
theorem nz (k : Int) (h : decide (k = 0) = false := by decide) : k ≠ 0 := of_decide_eq_false h
theorem But.of {b : Addr} {H H' : Hp} (h : Same H H') : But b H H' := fun a o _ e => h a o e
theorem But.refl {b : Addr} {H : Hp} : But b H H := fun _ _ _ e => e
theorem But.trans {b : Addr} {H H1 H2 : Hp} (x : But b H H1) (y : But b H1 H2) : But b H H2 := fun a o n e => y a o n (x a o n e)
section
variable {P : Program} {w : World} {K : PySem.W.Frag} {mg : Str → Option Value} {base : Heap}
/-! ### _law_box -/
def spBox (K : PySem.W.Frag) : Sp := fun vs H Q _ => ∃ (a : Addr) (ns : List Int) (k : Int), vs = [.ref a, .int k] ∧ SqL K H a (ns.map V.int) ∧ ns.length ≤ 1000 ∧ 0 ≤ k ∧ k ≤ 1000 ∧
  ∀ p x y, H p = none → 0 ≤ x → 0 ≤ y → y < 4611686018427387904 → Q (.ref p) (upd H p (.lst [.int x, .int y, .int 0]))
/-- what is left behind the cell z -/
theorem box_tail {H : Hp} {Q : VK} {k z : Int} (hq : ∀ p x y, H p = none → 0 ≤ x → 0 ≤ y → y < 4611686018427387904 → Q (.ref p) (upd H p (.lst [.int x, .int y, .int 0]))) (k0 : 0 ≤ k) (k1 : k ≤ 1000)
    {p : Addr} (hp : H p = none) (j : Int) (hj : j = 0 ∨ j = 1) : Q (.ref p) (upd H p (.lst [.int ((if z < 0 then -z else z) * j), .int (z.fmod 2305843009213693951 + 39373 * k + 71), .int 0])) := by
  have e0 : (0 : Int) ≤ z.fmod 2305843009213693951 := fm0 (by decide)
  have e1 : z.fmod 2305843009213693951 < 2305843009213693951 := fm1 (by decide)
  refine hq p _ _ hp ?_ (by omega) (by omega)
  have a0 : 0 ≤ (if z < 0 then -z else z) := by split <;> omega
  rcases hj with rfl | rfl
  · rw [Int.mul_zero] <;> decide
  · rw [Int.mul_one]; exact a0
theorem ok_box {f : Addr} {fd : FuncData} {n : Nat} (F : Fun K "_law_box" "_law_box" sBox f fd) (ml : mg "len" = none) (ma : mg "abs" = none) (mi : mg "int" = none) : FnOk P w K mg base CX0 (n + 1) f fd ["_law_script", "_law_k"] (spBox K) := by
  refine F.ok scBox (fun vs H Q E h => ?_) (fun cdv A outer s H vs Q E hr h => ?_)
  · obtain ⟨a, ns, k, rfl, _⟩ := h
    rfl
  obtain ⟨a, ns, k, rfl, hS, hlen, k0, k1, q⟩ := h
  refine ⟨_, pss_cons (ps_set (i := 2) scBox.nd rfl (Or.inl rfl) (pe_ifExp (pt_cmpR op_lt (pv 1) (pe_callB call_len_seq rfl ml PySem.boot_len (pa_cons (pv 0) pa_nil)) (nomark _)) (pe_ix ix_list (pv 0) (pv 1) (fun _ _ => rfl)) pe_int))
    (pss_one (ps_ret (pe_lst (pa_cons (pe_op op_mul (pe_callB call_abs rfl ma (by decide +kernel) (pa_cons (pv 2) pa_nil)) (pe_callTy call_int1 rfl mi (by decide +kernel) (pa_cons (pe_cmpR op_ge (pe_callB call_abs rfl ma (by decide +kernel) (pa_cons (pv 2) pa_nil)) (pe_op op_pow pe_int pe_int) (nomark _)) pa_nil)))
      (pa_cons (pe_op op_add (pe_op op_add (pe_op op_modN (pv 2) pe_int) (pe_op op_mul pe_int (pv 1))) pe_int) (pa_cons pe_int pa_nil)))))), ?_⟩
  have hl : (ns.map V.int).length = ns.length := List.length_map _
  refine ⟨_, rfl, _, rfl, a, _, rfl, .inl hS, _, _, rfl, rfl, _, rfl, ?_⟩
  have hr64 : (0 : Int) < 2305843009213693951 := by decide
  refine ite2 (fun c => ?_) (fun c => ?_)
  have c' : k < (((ns.map V.int).length : Nat) : Int) := of_decide_eq_true c
  rw [hl] at c'
  have hk : k.toNat < ns.length := by omega
  have ek : k = ((k.toNat : Nat) : Int) := by omega
  have g : atI (ns.map V.int) k = some (.int ns[k.toNat]) := at_of ek (by rw [List.getElem?_map, List.getElem?_eq_getElem hk] <;> rfl)
  refine ⟨_, rfl, _, rfl, a, _, _, _, rfl, rfl, hS, g, ?_⟩
  generalize ns[k.toNat] = z
  all_goals
    refine ⟨_, rfl, _, rfl, _, rfl, _, rfl, _, _, rfl, rfl, ⟨by decide, by decide, by decide⟩, _, _, rfl, rfl, .inr ⟨_, rfl, _, _, rfl, rfl, .inr (b01s _), ?_⟩⟩
    refine ⟨_, rfl, _, _, rfl, rfl, (nz _), _, rfl, _, _, rfl, rfl, .inl ⟨by decide, by decide⟩, _, _, rfl, rfl, _, _, rfl, rfl, (by show 3 ≤ sizeLine; decide), fun p hp => ?_⟩
    exact box_tail q k0 k1 hp _ (b01 _)
/-! ### _law_take -/
def spTake : Sp := fun vs H Q _ => ∃ (b : Addr) (m y c : Int), vs = [.ref b, .int m] ∧ Bx H b y c ∧ 0 ≤ c ∧ c < 1000000000000 ∧ 1 ≤ m ∧ m ≤ 10000000 ∧
  ∀ v c' H', 0 ≤ v → v < m → c ≤ c' → c' ≤ c + 1 → Bx H' b y c' → But b H H' → Q (.int v) H'
theorem bx_up {H : Hp} {b : Addr} {x y c : Int} {xs : List V} (e : xs = [.int x, .int y, .int c]) (h : 0 ≤ x) (h1 : 0 ≤ y) (h2 : y < 4611686018427387904) : Bx (upd H b (.lst xs)) b y c := ⟨x, by rw [e, upd_same], h, h1, h2⟩
theorem tw_ok {o c y : Int} (c0 : 0 ≤ c) (c1 : c < 1000000000000) (y0 : 0 ≤ y) (y1 : y < 4611686018427387904) : -(2 ^ 64) < o.fmod 2147483647 + (c + 1) + y.fdiv 1000003 ∧ o.fmod 2147483647 + (c + 1) + y.fdiv 1000003 < 2 ^ 64 := by
  have h0 : (0 : Int) ≤ o.fmod 2147483647 := fm0 (by decide)
  have h1 : o.fmod 2147483647 < 2147483647 := fm1 (by decide)
  have h2 : 0 ≤ y.fdiv 1000003 := fd0 y0 (by decide)
  have h3 : y.fdiv 1000003 ≤ y := fdle y0 (by decide)
  refine ⟨?_, ?_⟩ <;> omega
theorem tw_ok2 {o : Int} : -(2 ^ 64) < o.fmod 2147483629 ∧ o.fmod 2147483629 < 2 ^ 64 := by
  have h0 : (0 : Int) ≤ o.fmod 2147483629 := fm0 (by decide)
  have h1 : o.fmod 2147483629 < 2147483629 := fm1 (by decide)
  refine ⟨?_, ?_⟩ <;> omega
theorem ok_take {f : Addr} {fd : FuncData} {n : Nat} (F : Fun K "_law_take" "_law_take" sTake f fd) : FnOk P w K mg base CX0 (n + 1) f fd ["_law_box_here", "_law_below_here"] spTake := by
  refine F.ok scTake (fun vs H Q E h => ?_) (fun cdv A outer s H vs Q E hr h => ?_)
  · obtain ⟨b, m, y, c, rfl, _⟩ := h
    rfl
  obtain ⟨b, m, y, c, rfl, ⟨x, hB, x0, y0, y1⟩, c0, c1, m0, m1, q⟩ := h
  refine ⟨_, pss_cons (ps_if (pt_cmpR op_gt (pe_ix ix_list (pv 0) pe_int (fun _ _ => rfl)) pe_int (nomark _))
      (pss_cons (ps_set (i := 2) scTake.nd rfl (Or.inl rfl) (pe_op op_modN (pe_ix ix_list (pv 0) pe_int (fun _ _ => rfl)) (pv 1)))
      (pss_cons (ps_asg (pe_op op_fdivN (pe_ix ix_list (pv 0) pe_int (fun _ _ => rfl)) (pv 1)) (pg_sub (pv 0) pe_int set_list))
      (pss_one (ps_ret (pv 2))))) pss_nil)
    (pss_cons (ps_if (pt_cmpR op_gt (pv 1) (pe_op op_pow pe_int pe_int) (nomark _)) pss_never pss_nil)
    (pss_cons (ps_asg (pe_op op_add (pe_ix ix_list (pv 0) pe_int (fun _ _ => rfl)) pe_int) (pg_sub (pv 0) pe_int set_list))
    (pss_cons (ps_set (i := 3) scTake.nd rfl (Or.inl rfl) (pe_op op_modN (pe_op op_mul (pe_op op_add (pe_ix ix_list (pv 0) pe_int (fun _ _ => rfl)) (pe_op op_mul pe_int (pe_ix ix_list (pv 0) pe_int (fun _ _ => rfl)))) (pe_op op_add pe_int (pe_ix ix_list (pv 0) pe_int (fun _ _ => rfl)))) pe_int))
    (pss_cons (ps_set (i := 4) scTake.nd rfl (Or.inl rfl) (pe_op op_modN (pe_op op_mul (pe_op op_add (pe_op op_add (pv 3) (pe_ix ix_list (pv 0) pe_int (fun _ _ => rfl))) (pe_op op_fdivN (pe_ix ix_list (pv 0) pe_int (fun _ _ => rfl)) pe_int)) (pe_op op_add (pe_op op_modN (pv 3) pe_int) pe_int)) pe_int))
    (pss_one (ps_ret (pe_op op_modN (pe_op op_fdivN (pe_op op_modN (pe_op op_add (pe_op op_mul (pv 4) pe_int) (pv 3)) pe_int) pe_int) (pv 1)))))))), ?_⟩
  refine ⟨_, rfl, b, _, _, _, rfl, rfl, SqL.of hB, at_of (j := 0) rfl rfl, _, _, rfl, rfl, _, rfl, ?_⟩
  refine ite2 (fun t => ?_) (fun t => ?_)
  · have t' : x > 0 := of_decide_eq_true t
    refine ⟨_, rfl, b, _, _, _, rfl, rfl, SqL.of hB, at_of (j := 0) rfl rfl, _, rfl, _, _, rfl, rfl, (by omega), ?_⟩
    refine ⟨_, rfl, b, _, _, _, rfl, rfl, SqL.of hB, at_of (j := 0) rfl rfl, _, rfl, _, _, rfl, rfl, ⟨by omega, by omega⟩, ?_⟩
    refine ⟨_, rfl, b, _, _, 0, rfl, rfl, hB, rfl, _, rfl, ?_⟩
    exact q _ c _ (fm0 (by omega)) (fm1 (by omega)) (by omega) (by omega) (bx_up rfl (fd0 x0 (by omega)) y0 y1) but_upd
  · refine ⟨_, rfl, _, _, rfl, rfl, ⟨by decide, by decide, by decide⟩, _, _, rfl, rfl, _, rfl, ?_⟩
    refine ite2 (fun t2 => ?_) (fun t2 => ?_)
    · exfalso
      have t3 : m > 10 ^ 7 := of_decide_eq_true t2
      have t4 : (10 : Int) ^ 7 = 10000000 := by decide
      omega
    · have hB1 : (upd H b (.lst [.int x, .int y, .int (c + 1)])) b = some (.lst [.int x, .int y, .int (c + 1)]) := upd_same
      refine ⟨_, rfl, b, _, _, _, rfl, rfl, SqL.of hB, at_of (j := 2) rfl rfl, _, _, rfl, rfl, _, rfl, b, _, _, 2, rfl, rfl, hB, rfl, ?_⟩
      refine ⟨_, rfl, b, _, _, _, rfl, rfl, SqL.of hB1, at_of (j := 1) rfl rfl, _, rfl, b, _, _, _, rfl, rfl, SqL.of hB1, at_of (j := 2) rfl rfl, _, _, rfl, rfl, .inl ⟨by decide, by decide⟩, _, _, rfl, rfl,
        _, rfl, b, _, _, _, rfl, rfl, SqL.of hB1, at_of (j := 2) rfl rfl, _, _, rfl, rfl, _, _, rfl, rfl, .inl ⟨by omega, by omega⟩, _, _, rfl, rfl, (nz _), ?_⟩
      refine ⟨_, rfl, _, rfl, b, _, _, _, rfl, rfl, SqL.of hB1, at_of (j := 2) rfl rfl, _, _, rfl, rfl, _, rfl, b, _, _, _, rfl, rfl, SqL.of hB1, at_of (j := 1) rfl rfl, _, _, rfl, rfl, ⟨by decide, by decide⟩, _, _, rfl, rfl,
        _, rfl, _, _, rfl, rfl, (nz _), _, _, rfl, rfl, _, _, rfl, rfl, .inl (tw_ok c0 c1 y0 y1), _, _, rfl, rfl, (nz _), ?_⟩
      refine ⟨_, rfl, _, _, rfl, rfl, .inl tw_ok2, _, rfl, _, _, rfl, rfl, _, _, rfl, rfl, (nz _), _, _, rfl, rfl, ⟨by decide, by decide⟩, _, rfl, _, _, rfl, rfl, (by omega), ?_⟩
      exact q _ (c + 1) _ (fm0 (by omega)) (fm1 (by omega)) (by omega) (by omega) (bx_up rfl x0 y0 y1) but_upd
/-! ### _law_of -/
theorem But.seq {b a : Addr} {H H' : Hp} {xs : List V} (e : But b H H') (n : a ≠ b) (h : SqL K H a xs) : SqL K H' a xs := by
  rcases h with (h | ⟨o, h⟩) | h
  · exact .inl (.inl (e _ _ n h))
  · exact .inl (.inr ⟨o, e _ _ n h⟩)
  · exact .inr h
/-! ### _law_cells -/
theorem fm_nat (i m : Nat) : (i : Int).fmod (m : Int) = ((i % m : Nat) : Int) := by
  rw [Int.fmod_eq_emod_of_nonneg _ (Int.natCast_nonneg m)]; exact (Int.natCast_emod i m).symm
theorem cut_to (ns : List Int) (m : Nat) : cutV (ns.map V.int) none (some (m : Int)) = (ns.take m).map V.int := by
  unfold cutV
  rw [HT.sIx_none, HT.sIx_nat, List.length_map, List.drop_zero, Nat.sub_zero, List.map_take]
  by_cases h : m ≤ ns.length
  · rw [Nat.min_eq_left h]
  · rw [Nat.min_eq_right (by omega), List.take_of_length_le (by rw [List.length_map]; exact Nat.le_refl _), List.take_of_length_le (by rw [List.length_map]; omega)]
theorem cut_from (ns : List Int) (m : Nat) (h : ns.length ≤ 63) : cutV (ns.map V.int) (some (m : Int)) (some 63) = (ns.drop m).map V.int := by
  unfold cutV
  have e63 : HT.sIx (ns.map V.int).length (ns.map V.int).length (some 63) = min 63 (ns.map V.int).length := HT.sIx_nat _ _ 63
  rw [HT.sIx_nat, e63, List.length_map, Nat.min_eq_right h, List.map_drop]
  by_cases hm : m ≤ ns.length
  · rw [Nat.min_eq_left hm, List.take_of_length_le (by rw [List.length_drop, List.length_map]; exact Nat.le_refl _)]
  · rw [Nat.min_eq_right (by omega), List.drop_eq_nil_of_le (by rw [List.length_map]; exact Nat.le_refl _), List.drop_eq_nil_of_le (by rw [List.length_map]; omega), List.take_nil]
def cells0 (ns : List Int) (m : Nat) : List Int := if ns.take m = [] then [0] else ns.take m
theorem cells0_pos {ns : List Int} {m : Nat} : 1 ≤ (cells0 ns m).length := by
  unfold cells0
  split
  · exact Nat.le_refl _
  · rename_i h
    exact List.length_pos_iff.mpr h
theorem cells0_le {ns : List Int} {m : Nat} (hm : 1 ≤ m) : (cells0 ns m).length ≤ m := by
  unfold cells0
  split
  · exact hm
  · rw [List.length_take]; omega
theorem cells0_full {ns : List Int} {m : Nat} (hm : 1 ≤ m) (h : m ≤ ns.length) : (cells0 ns m).length = m := by
  unfold cells0
  have e : (ns.take m).length = m := by rw [List.length_take]; omega
  rw [if_neg (fun z => by rw [z] at e; simp at e; omega), e]
def spCells (K : PySem.W.Frag) : Sp := fun vs H Q _ => ∃ (a : Addr) (ns : List Int) (m : Nat), vs = [.ref a, .int (m : Int)] ∧ SqL K H a (ns.map V.int) ∧ ns.length ≤ 63 ∧ 1 ≤ m ∧ m ≤ 63 ∧
  ∀ p (ms : List Int) H', H p = none → Same H H' → H' p = some (.lst (ms.map V.int)) → 1 ≤ ms.length → ms.length ≤ m → Q (.ref p) H'
theorem ok_cells {f : Addr} {fd : FuncData} {n : Nat} (F : Fun K "_law_cells" "_law_cells" sCells f fd) (ml : mg "list" = none) (me : mg "enumerate" = none) : FnOk P w K mg base CX0 (n + 1) f fd ["_law_script", "_law_most"] (spCells K) := by
  refine F.ok scCells (fun vs H Q E h => ?_) (fun cdv A outer s H vs Q E hr h => ?_)
  · obtain ⟨a, ns, m, rfl, _⟩ := h
    rfl
  obtain ⟨a, ns, m, rfl, hS, hn, m1, m2, q⟩ := h
  refine ⟨_, pss_cons (ps_set (i := 2) scCells.nd rfl (Or.inl rfl) (pe_orT (pe_callTy call_list_of rfl ml (by decide +kernel) (pa_cons (pe_slice sl_list (pv 0) po_none (po_some (pv 1))) pa_nil)) (pe_one (pe_lst (pa_cons pe_int pa_nil)))))
    (pss_cons (ps_for PassesOwn.never rfl (pi_enum rfl me (pa_cons (pe_slice sl_list (pv 0) (po_some (pv 1)) (po_some pe_int)) pa_nil)) (pg_tup rfl (pgs_cons (pg_name (i := 3) scCells.nd rfl (Or.inl rfl)) (pgs_cons (pg_name (i := 4) scCells.nd rfl (Or.inl rfl)) pgs_nil)))
      (pss_one (ps_asg (pe_op op_add (pe_ix ix_list (pv 2) (pe_op op_modN (pv 3) (pv 1)) (fun _ _ => rfl)) (pe_op op_mul (pv 4) (pe_op op_add (pv 3) pe_int))) (pg_sub (pv 2) (pe_op op_modN (pv 3) (pv 1)) set_list))))
    (pss_one (ps_ret (pv 2)))), ?_⟩
  refine ⟨_, rfl, _, rfl, _, rfl, a, _, rfl, hS, fun c nc => ?_⟩
  rw [cut_to]
  refine ⟨c, _, rfl, .inl (SqL.of upd_same), fun l nl => ?_⟩
  have sc1 : Same H (upd H c (.lst ((ns.take m).map V.int))) := same_up nc
  have sl1 := sc1.trans (same_up (o := .lst ((ns.take m).map V.int)) nl)
  have nl0 : H l = none := sc1.free nl
  refine ⟨_, .inl ⟨_, SqL.of upd_same, rfl⟩, ?_⟩
  refine ite2 (fun t => ?_) (fun t => ?_)
  rotate_left
  have et : ns.take m = [] := by
    cases e : ns.take m with
    | nil => rfl
    | cons z r => rw [e] at t; exact absurd rfl t
  refine ⟨by show 1 ≤ sizeLine; decide, fun p np => ?_⟩
  have nl0 : H p = none := sl1.free np
  have sl1 := sl1.trans (same_up (o := .lst [.int 0]) np)
  have hp : (upd (upd (upd H c (.lst ((ns.take m).map V.int))) l (.lst ((ns.take m).map V.int))) p (.lst [.int 0])) p = some (.lst ((cells0 ns m).map V.int)) := by rw [upd_same, cells0, if_pos et]; rfl
  generalize upd (upd (upd H c (.lst ((ns.take m).map V.int))) l (.lst ((ns.take m).map V.int))) p (.lst [.int 0]) = H1 at hp sl1 ⊢
  rotate_left
  have et : ns.take m ≠ [] := fun e => by
    rw [e] at t
    exact absurd t (by decide)
  have hp : (upd (upd H c (.lst ((ns.take m).map V.int))) l (.lst ((ns.take m).map V.int))) l = some (.lst ((cells0 ns m).map V.int)) := by rw [upd_same, cells0, if_neg et]
  generalize upd (upd H c (.lst ((ns.take m).map V.int))) l (.lst ((ns.take m).map V.int)) = H1 at hp sl1 ⊢
  obtain ⟨p, ep⟩ : ∃ p, p = l := ⟨_, rfl⟩
  subst ep
  all_goals
    refine ⟨_, rfl, _, rfl, _, rfl, 63, rfl, a, _, rfl, sl1.seq hS, fun d nd => ?_⟩
    rw [cut_from ns m hn]
    have sd := sl1.trans (same_up (o := .lst ((ns.drop m).map V.int)) nd)
    have hd : (upd H1 d (.lst ((ns.drop m).map V.int))) d = some (.lst ((ns.drop m).map V.int)) := upd_same
    have hpd : (upd H1 d (.lst ((ns.drop m).map V.int))) p = some (.lst ((cells0 ns m).map V.int)) := by rw [upd_ne (ne_of_none hp nd)]; exact hp
    have ndp : d ≠ p := (ne_of_none hp nd).symm
    generalize upd H1 d (.lst ((ns.drop m).map V.int)) = H2 at sd hd hpd ⊢
    refine ⟨d, _, rfl, SqL.of hd, for_it walk_enum (fun i σ H3 => ∃ y3 y4, ∃ ms : List Int, σ = [some (.ref a), some (.int (m : Int)), some (.ref p), y3, y4] ∧ Same H H3 ∧ H3 d = some (.lst ((ns.drop m).map V.int)) ∧ H3 p = some (.lst (ms.map V.int)) ∧ ms.length = (cells0 ns m).length)
      ⟨none, none, _, rfl, sd, hd, hpd, rfl⟩ (fun i σ H3 _ ⟨_, _, _, _, _, e, _⟩ => SqL.of e) ?_ ?_⟩
    · rintro i x σ H3 H4 hi ⟨y3, y4, ms, rfl, s3, e3, ep, el⟩ ⟨T, v1, v2, rfl, nT, rfl, f1, f2⟩
      cases f1
      have hi' : i < (ns.drop m).length := by rw [List.length_map] at hi; exact hi
      have f2' : some (V.int (ns.drop m)[i]) = some v2 := by rw [← f2]; show _ = (List.map V.int (List.drop m ns))[i]?; rw [List.getElem?_map, List.getElem?_eq_getElem hi'] <;> rfl
      cases f2'
      rw [List.length_drop] at hi'
      have lm : ms.length = m := by rw [el]; exact cells0_full m1 (by omega)
      have hk : i % m < ms.length := by rw [lm]; exact Nat.mod_lt _ (by omega)
      have hA : atI (ms.map V.int) ((i : Int).fmod (m : Int)) = some (.int ms[i % m]) := at_of (fm_nat i m) (by rw [List.getElem?_map, List.getElem?_eq_getElem hk] <;> rfl)
      have hX : ixN (ms.map V.int).length ((i : Int).fmod (m : Int)) = some (i % m) := by
        rw [fm_nat]
        unfold ixN
        rw [if_pos (Int.natCast_nonneg _), if_pos (by rw [List.length_map]; exact Int.ofNat_lt.mpr hk), Int.toNat_natCast]
      have mz : (m : Int) ≠ 0 := by omega
      have sT : Same H3 (upd H3 T (.tup [.int (i : Int), .int (ns.drop m)[i]])) := same_up nT
      have eT := sT _ _ ep
      refine ⟨T, _, rfl, .inl (.inl upd_same), rfl, _, _, rfl, _, _, rfl, rfl, ?_⟩
      refine ⟨_, rfl, _, rfl, _, rfl, _, _, rfl, rfl, mz, p, _, _, _, rfl, rfl, SqL.of eT, hA, _, rfl, _, rfl, _, _, rfl, rfl, _, _, rfl, rfl, .inr ⟨by omega, by omega⟩, _, _, rfl, rfl, _, rfl, _, rfl, _, rfl, _, _, rfl, rfl, mz, p, _, _, _, rfl, rfl, eT, hX, ?_⟩
      refine ⟨_, _, ms.set (i % m) (ms[i % m] + (ns.drop m)[i] * ((i : Int) + 2)), rfl, fun b z e => ?_, ?_, ?_, ?_⟩
      rotate_left 2
      · rw [upd_same, List.map_set]
      · rw [List.length_set]; exact el
      · rw [upd_ne (ne_of_none e nl0)]; exact sT _ _ (s3 _ _ e)
      · rw [upd_ne ndp]; exact sT _ _ e3
    · rintro σ H3 ⟨y3, y4, ms, rfl, s3, e3, ep, el⟩
      exact ⟨_, rfl, q p ms H3 nl0 s3 ep (by rw [el]; exact cells0_pos) (by rw [el]; exact cells0_le m1)⟩
abbrev p_l_take : List Str := ["_law_box_here", "_law_below_here"]
/-! the layer's promises of them -/
def domT (ds : List Dt) : Prop := ∃ m : Int, ds = [.int m] ∧ 1 ≤ m ∧ m ≤ 10000000
def postT (ds : List Dt) (d : Dt) : Prop := ∃ m v : Int, ds = [.int m] ∧ d = .int v ∧ 0 ≤ v ∧ v < m
theorem take_B {f : Addr} {fd : FuncData} {n : Nat} {ps : List Str} (C : FnOk P w K mg base CX0 n f fd ps spTake) : FnOk P w K mg base CX0 n f fd ps (spB K 1 domT postT) := C.imp fun vs H Q E h => by
  obtain ⟨G, ds, b, us, y, c, F, rfl, sm, hb, c0, c1, gb, rd, ⟨m, rfl, m1, m2⟩, q⟩ := h
  obtain ⟨x, rfl, e⟩ := rd.one
  have c2 : c + ((F + 1 : Nat) : Int) ≤ 1000000000000 := c1
  refine ⟨b, m, y, c, by rw [show x = V.int m from e], hb, c0, by omega, m1, m2, fun v c' H' v0 v1 e0 e1 hb' bt => ?_⟩
  refine q (.int v) (.int v) G H' y c' ⟨Same.refl _, fun a o z => bt a o (fun w => by rw [w, gb] at z; cases z) (sm _ _ z), bt, fun a h1 h2 => h1⟩ hb' (by omega) ?_ rfl ⟨m, v, rfl, rfl, v0, v1⟩
  show c' + (F : Int) ≤ 1000000000000
  omega
theorem ae_take {ρ : List En} {Ψ : Dt → List En → Prop} {E : XK} {te : TE} {i : Nat} {b : Addr} {f0 : Nat} (e0 : ρ[i]? = some (.bx b f0))
    (h : AE K te ρ fun d ρ1 => ∃ m : Int, d = .int m ∧ 1 ≤ m ∧ m ≤ 10000000 ∧ ∃ F, ρ1[i]? = some (.bx b (F + 1)) ∧ ∀ v : Int, 0 ≤ v → v < m → Ψ (.int v) (ρ1.set i (.bx b F))) : AE K (tCall (spB K 1 domT postT) [] E (tCons (tVar i) (tCons te tNil))) ρ Ψ :=
  ae_draw e0 (aa_cons (ae_mono h fun d ρ1 ⟨m, e, m1, m2, F, e1, k⟩ => aa_nil ⟨⟨m, by rw [e], m1, m2⟩, F, e1, fun d' hp => by
    obtain ⟨m', v, z1, z2, z3, z4⟩ := hp
    rw [e] at z1
    cases z1
    rw [z2]; exact k v z3 z4⟩))
def domO (ds : List Dt) : Prop := ∃ k l, ds = [sq k l] ∧ 1 ≤ l.length ∧ l.length ≤ 1000
def postO (ds : List Dt) (d : Dt) : Prop := ∀ k l, ds = [sq k l] → d ∈ l
theorem sq_inj {k k' : Bool} {l l' : List Dt} (h : sq k l = sq k' l') : l = l' := by
  cases k <;> cases k' <;> first | (cases h; rfl) | (exact absurd h (fun z => nomatch z))
theorem ae_ofL {ρ : List En} {Ψ : Dt → List En → Prop} {E : XK} {te : TE} {i : Nat} {b : Addr} {f0 : Nat} (e0 : ρ[i]? = some (.bx b f0))
    (h : AE K te ρ fun d ρ1 => ∃ l, d = .lst l ∧ 1 ≤ l.length ∧ l.length ≤ 1000 ∧ ∃ F, ρ1[i]? = some (.bx b (F + 1)) ∧ ∀ d, d ∈ l → Ψ d (ρ1.set i (.bx b F))) : AE K (tCall (spB K 1 domO postO) [] E (tCons (tVar i) (tCons te tNil))) ρ Ψ :=
  ae_draw e0 (aa_cons (ae_mono h fun d ρ1 ⟨l, e, m1, m2, F, e1, k⟩ => aa_nil ⟨⟨false, l, by rw [e]; rfl, m1, m2⟩, F, e1, fun d' hp => k d' (hp false l (by rw [e]; rfl))⟩))
abbrev s_l_of : Stmt := topS 18
abbrev N_l_of : List Str := ["_law_box_here", "_law_some"]
abbrev p_l_of : List Str := ["_law_box_here", "_law_some"]
theorem sc_l_of : FnScope N_l_of p_l_of (defScope s_l_of) := ⟨rfl, rfl, rfl, by decide +kernel, rfl, by decide +kernel, by decide +kernel⟩
theorem ok_l_of (bl : Blts mg) {g_l_take : Addr} {d_l_take : FuncData} (c_l_take : Cal P w K mg base 2 "_law_take" p_l_take (spB K 1 domT postT) g_l_take d_l_take)  {f : Addr} {fd : FuncData} (F : Fun K "_law_of" "_law_of" s_l_of f fd) : FnOk P w K mg base CX0 3 f fd p_l_of (spB K 1 (domO) (postO)) := by
  refine okB F sc_l_of (fun ds h => ?_) (fun cdv A outer s H E hr ds h => ?_)
  · obtain ⟨k, l, rfl, l0, l1⟩ := h
    rfl
  obtain ⟨k, l, rfl, l0, l1⟩ := h
  refine ⟨_, (pss_one (ps_ret (pe_ix ix_seq (pv 1) (pe_call c_l_take.ok (hr.mono (by decide)) rfl c_l_take.mg c_l_take.kp c_l_take.bi .nil pass0 (pa_cons (pv 0) (pa_cons (pe_callB call_len_seq rfl bl.len (by decide +kernel) (pa_cons (pv 1) pa_nil)) pa_nil))) (fun _ _ => rfl)))), fun b F => ?_⟩
  change AS K _ [En.bx _ _, En.da _] _ _
  try simp only [cxOf_K, cxOf_w]
  repeat' (first
    | ((with_reducible apply ae_take); · rfl)
    | with_reducible apply ac_len
    | refine ⟨_, rfl, by omega, by omega, _, rfl, fun v v0 v1 => ?_⟩
    | with_reducible apply as_ret
    | ((with_reducible apply ae_var); · rfl)
    | with_reducible apply ae_op
    | with_reducible apply aa_nil
    | with_reducible apply aa_cons
    | with_reducible apply ae_cb
    | fail)
  have hv : v.toNat < l.length := by omega
  have ev : v = ((v.toNat : Nat) : Int) := by omega
  refine ar_ix (d := l[v.toNat]) ?_ ?_
  · have e := atI_nat (List.getElem?_eq_getElem hv)
    rw [← ev] at e; exact e
  · refine ⟨fun k' l' z => ?_, _, rfl, Nat.le_refl _⟩
    rw [← sq_inj (List.cons.inj z).1]
    exact List.getElem_mem hv
end
end Sh
set_option Elab.async false
set_option linter.all false
set_option maxRecDepth 100000
set_option maxHeartbeats 4000000
set_option Elab.async false
set_option linter.all false
set_option maxRecDepth 100000
set_option maxHeartbeats 4000000
namespace Sh
open PySem PySem.Spec PyProof.Rows L2
section
variable {K : PySem.W.Frag} {ρ : List En} {Ψ : Dt → List En → Prop} {ΨT : Bool → List En → Prop} {ΨA : List Dt → List En → Prop} {N : List En → Prop} {R : Dt → List En → Prop} {Φ : Dt → Prop}
theorem wipe2 {σ : L2.St} {vs vs1 : List Nat} (hv : ∀ i ∈ vs1, i ∈ vs) : L2.wipe (L2.wipe σ vs1) vs = L2.wipe σ vs := Off.wipe (vs := vs) ⟨wipe_length σ vs1, fun i h => wipe_out fun z => h (hv i z)⟩
/-- [e for .. in .. for .. in ..] -/
theorem ae_lc2 {wi wi1 : TI} {g g1 : TG} {tt tt1 : TT} {te : TE} {vs vs1 : List Nat} (hv : ∀ i ∈ vs1, i ∈ vs)
    (h : AI K wi ρ fun l ρ1 => ∃ I : Nat → List Dt → List En → Prop, I 0 [] (wipeE ρ1 vs) ∧
      (∀ i d acc ρ2, l[i]? = some d → I i acc ρ2 → AGv K vs g d ρ2 fun ρ3 => AT K tt ρ3 fun b ρ4 =>
        (b = true → AI K wi1 ρ4 fun l1 ρ5 => ∃ I1 : Nat → List Dt → List En → Prop, I1 0 acc (wipeE ρ5 vs1) ∧
          (∀ j d1 acc1 ρ6, l1[j]? = some d1 → I1 j acc1 ρ6 → AGv K vs1 g1 d1 ρ6 fun ρ7 => AT K tt1 ρ7 fun b1 ρ8 => (b1 = true → AE K te ρ8 fun e ρ9 => acc1.length < sizeLine ∧ I1 (j + 1) (acc1 ++ [e]) (wipeE ρ9 vs1)) ∧ (b1 = false → I1 (j + 1) acc1 (wipeE ρ8 vs1))) ∧
          ∀ acc1 ρ6, I1 l1.length acc1 ρ6 → I (i + 1) acc1 (wipeE ρ6 vs)) ∧
        (b = false → I (i + 1) acc (wipeE ρ4 vs))) ∧
      ∀ acc ρ2, I l.length acc ρ2 → (∀ i ∈ vs, i < ρ2.length → ρ2[i]? = some En.no) ∧ Ψ (.lst acc) ρ2) : AE K (tLc2 wi g tt wi1 g1 tt1 te vs vs1) ρ Ψ := fun B σ G H m Q q =>
  h B σ G H m _ fun J l ρ1 G1 H1 m1 s1 t1 w ⟨I, i0, is, ie⟩ => fun D hD => by
    have back : ∀ {vs : List Nat} {σ2 σ : L2.St} {ρ2 : List En} {B' : Addr → Prop} {G2 H2 : Hp}, L2.wipe σ2 vs = L2.wipe σ vs → Mt K B' ρ2 σ2 G2 H2 → Mt K B' (wipeE ρ2 vs) (L2.wipe σ vs) G2 H2 := fun {vs} _ _ _ _ _ _ e m2 => by
      rw [← e]; exact m2.wipe vs
    have mg := m1.guard (o := .lst []) hD
    have fin : ∀ H2, (∃ (acc : List Dt) (xs : List V) (ρ2 : List En) (G2 : Hp), Mt K (fun a => B a ∨ a = D) ρ2 (L2.wipe σ vs) G2 H2 ∧ Same G1 G2 ∧ Tr B H1 H2 ∧ H2 D = some (.lst xs) ∧ RDs K G2 acc xs ∧ I l.length acc ρ2) → Q (.ref D) H2 := by
      rintro H2 ⟨acc, xs, ρ2, G2, m2, s2, t2, e2, r2, p⟩
      obtain ⟨hn, hp⟩ := ie acc ρ2 p
      have m3 : Mt K (fun a => B a ∨ a = D) ρ2 σ G2 H2 := m2.other (wipe_length σ vs).symm fun i => by
        by_cases hi : i ∈ vs
        · by_cases lt : i < ρ2.length
          · exact .inl (hn i hi lt)
          · exact .inr (by rw [List.getElem?_eq_none (by have := m2.len; rw [wipe_length] at this; omega), List.getElem?_eq_none (by have := m2.len; omega)])
        · exact .inr (wipe_out hi).symm
      have nD : G2 D = none := (m2.pro D (.inr rfl)).1
      have mB : Mt K B ρ2 σ G2 H2 := m3.less fun a b => .inl b
      -- the new list becomes data
      have sg : Same G2 (upd G2 D (.lst xs)) := same_up nD
      have mF : Mt K B ρ2 σ (upd G2 D (.lst xs)) H2 := ⟨fun a o z => by
          by_cases w : a = D
          · subst w; rw [upd_same] at z; cases z; exact e2
          · rw [upd_ne w] at z; exact m2.sub _ _ z,
        fun a b => ⟨by rw [upd_ne (fun w => (m1.pro a b).2 (by rw [w]; exact hD))]; exact (mB.pro a b).1, (mB.pro a b).2⟩, mB.len, fun i d e => by
          obtain ⟨v, z1, z2⟩ := mB.da i d e
          exact ⟨v, z1, z2.same sg⟩, fun i k e => by
          obtain ⟨q', ys, z1, z2, z3, z4, z5⟩ := m3.own i k e
          exact ⟨q', ys, z1, z2, z3.same sg, by rw [upd_ne (fun w => z5 (.inr w))]; exact z4, fun b => z5 (.inl b)⟩, fun i b f e => by
          obtain ⟨y, c, z1, z2, z3, z4, z5, z6⟩ := m3.bx i b f e
          exact ⟨y, c, z1, z2, z3, z4, by rw [upd_ne (fun w => z6 (.inr w))]; exact z5, fun b => z6 (.inl b)⟩, mB.dis⟩
      exact q _ (.lst acc) ρ2 _ H2 mF ((s1.trans s2).trans sg) (t1.trans t2) ⟨D, xs, rfl, upd_same, r2.same sg⟩ hp
    let P : Nat → Hp → Prop := fun i H2 => ∃ (acc : List Dt) (xs : List V) (ρ2 : List En) (G2 : Hp), Mt K (fun a => B a ∨ a = D) ρ2 (L2.wipe σ vs) G2 H2 ∧ Same G1 G2 ∧ Tr B H1 H2 ∧ H2 D = some (.lst xs) ∧ RDs K G2 acc xs ∧ I i acc ρ2
    refine ⟨fun i m H => m = l.length - i ∧ i ≤ l.length ∧ P i H, ⟨l.length, rfl, Nat.zero_le _, [], [], wipeE ρ1 vs, G1, mg.wipe vs, Same.refl _, Tr.same (same_up hD), upd_same, rfl, i0⟩, ?_⟩
    rintro i mm H2 ⟨rfl, hi, pp⟩
    obtain ⟨acc, xs, ρ2, G2, m2, s2, t2, e2, r2, p⟩ := id pp
    have q0 : Same G1 H2 := s2.trans m2.sub
    by_cases hlt : i < l.length
    · refine .inr ⟨w.walk.goes i H2 hlt q0, P (i + 1), fun H' p' => ⟨l.length - (i + 1), by omega, rfl, hlt, p'⟩, fun x H3 y => ?_⟩
      obtain ⟨G3, d, n3, hd, rd⟩ := (w.walk.yields i H2 x H3 hlt q0 y) G2 s2 m2.sub
      have m3 := m2.nw n3
      refine is i d acc ρ2 hd p _ (L2.wipe σ vs) G3 H3 m3 x rd _ fun σ4 ρ4 G4 H4 m4 s4 t4 o4 h4 => ?_
      have ew : L2.wipe σ4 vs = L2.wipe σ vs := by
        rw [o4.wipe]
        exact (Off.wipe (wipe_off vs σ)).symm
      have e3 := n3.h _ _ e2
      have e4 := t4 _ _ (.inr rfl) e3
      have tB3 : Tr B H1 H4 := (t2.trans (Tr.same n3.h)).trans fun a o b e => t4 a o (.inl b) e
      refine ⟨ew, ?_⟩
      refine h4 _ σ4 G4 H4 m4 _ fun b ρ5 G5 H5 m5 s5 t5 h5 => ?_
      have e5 := t5 _ _ (.inr rfl) e4
      have tB5 : Tr B H1 H5 := tB3.trans fun a o b e => t5 a o (.inl b) e
      have s15 : Same G1 G5 := ((s2.trans n3.g).trans s4).trans s5
      have r5 : RDs K G5 acc xs := ((r2.same n3.g).same s4).same s5
      cases b
      · rw [if_neg (by decide)]
        exact ⟨acc, xs, wipeE ρ5 vs, G5, back ew m5, s15, tB5, e5, r5, h5.2 rfl⟩
      · rw [if_pos rfl]
        refine h5.1 rfl _ σ4 G5 H5 m5 _ fun J1 l1 ρ6 G6 H6 m6 s6 t6 w1 ⟨I1, j0, js, je⟩ => ?_
        have e6 := t6 _ _ (.inr rfl) e5
        have tB6 : Tr B H1 H6 := tB5.trans fun a o b e => t6 a o (.inl b) e
        let P1 : Nat → Hp → Prop := fun j H7 => ∃ (acc1 : List Dt) (xs1 : List V) (ρ7 : List En) (G7 : Hp), Mt K (fun a => B a ∨ a = D) ρ7 (L2.wipe σ4 vs1) G7 H7 ∧ Same G6 G7 ∧ Tr B H1 H7 ∧ H7 D = some (.lst xs1) ∧ RDs K G7 acc1 xs1 ∧ I1 j acc1 ρ7
        refine ⟨fun j m H => m = l1.length - j ∧ j ≤ l1.length ∧ P1 j H, ⟨l1.length, rfl, Nat.zero_le _, acc, xs, wipeE ρ6 vs1, G6, m6.wipe vs1, Same.refl _, tB6, e6, r5.same s6, j0⟩, ?_⟩
        rintro j k H7 ⟨rfl, hj, acc1, xs1, ρ7, G7, m7, s7, t7, e7, r7, p7⟩
        have q1 : Same G6 H7 := s7.trans m7.sub
        by_cases hlt1 : j < l1.length
        · refine .inr ⟨w1.walk.goes j H7 hlt1 q1, P1 (j + 1), fun H' p' => ⟨l1.length - (j + 1), by omega, rfl, hlt1, p'⟩, fun x1 H8 y1 => ?_⟩
          obtain ⟨G8, d1, n8, hd1, rd1⟩ := (w1.walk.yields j H7 x1 H8 hlt1 q1 y1) G7 s7 m7.sub
          have m8 := m7.nw n8
          refine js j d1 acc1 ρ7 hd1 p7 _ (L2.wipe σ4 vs1) G8 H8 m8 x1 rd1 _ fun σ9 ρ9 G9 H9 m9 s9 t9 o9 h9 => ?_
          have ew1 : L2.wipe σ9 vs1 = L2.wipe σ4 vs1 := by
            rw [o9.wipe]
            exact (Off.wipe (wipe_off vs1 σ4)).symm
          have e8 := n8.h _ _ e7
          have e9 := t9 _ _ (.inr rfl) e8
          have tB9 : Tr B H1 H9 := (t7.trans (Tr.same n8.h)).trans fun a o b e => t9 a o (.inl b) e
          refine ⟨ew1, ?_⟩
          refine h9 _ σ9 G9 H9 m9 _ fun b1 ρ10 G10 H10 m10 s10 t10 h10 => ?_
          have e10 := t10 _ _ (.inr rfl) e9
          have tB10 : Tr B H1 H10 := tB9.trans fun a o b e => t10 a o (.inl b) e
          have s610 : Same G6 G10 := ((s7.trans n8.g).trans s9).trans s10
          have r10 : RDs K G10 acc1 xs1 := ((r7.same n8.g).same s9).same s10
          cases b1
          · rw [if_neg (by decide)]
            exact ⟨acc1, xs1, wipeE ρ10 vs1, G10, back ew1 m10, s610, tB10, e10, r10, h10.2 rfl⟩
          · rw [if_pos rfl]
            refine h10.1 rfl _ σ9 G10 H10 m10 _ fun v e ρ11 G11 H11 m11 s11 t11 r11 h11 => ?_
            have e11 := t11 _ _ (.inr rfl) e10
            have rr : RDs K G11 acc1 xs1 := r10.same s11
            refine ⟨xs1, e11, by rw [rr.length]; exact h11.1, acc1 ++ [e], xs1 ++ [v], wipeE ρ11 vs1, G11, (back ew1 m11).turn (.inr rfl), s610.trans s11, ?_, upd_same, rr.snoc r11, h11.2⟩
            intro a o b z
            have z1 := t11 a o (.inl b) (tB10 a o b z)
            rw [upd_ne (fun z' => (m1.pro a b).2 (by rw [z']; exact hD))]; exact z1
        · have ej : j = l1.length := by omega
          subst ej
          have mw : Mt K (fun a => B a ∨ a = D) (wipeE ρ7 vs) (L2.wipe σ vs) G7 H7 := back (by rw [wipe2 hv]; exact ew) m7
          exact .inl ⟨w1.walk.stops H7 q1, acc1, xs1, wipeE ρ7 vs, G7, mw, (s15.trans s6).trans s7, t7, e7, r7, je acc1 ρ7 p7⟩
    · have ei : i = l.length := by omega
      subst ei
      exact .inl ⟨w.walk.stops H2 q0, fin H2 pp⟩
end
end Sh
set_option Elab.async false
set_option linter.all false
set_option maxRecDepth 100000
set_option maxHeartbeats 4000000
set_option Elab.async false
set_option linter.all false
set_option maxRecDepth 100000
set_option maxHeartbeats 4000000
namespace Sh
open PySem PySem.Spec PyProof.Rows L2
section
variable {K : PySem.W.Frag} {ρ : List En} {N : List En → Prop} {R : Dt → List En → Prop} {Φ : Dt → Prop}
theorem ae_lc2Map {Ψ : Dt → List En → Prop} {wi wi1 : TI} {g g1 : TG} {te : TE} {vs vs1 : List Nat} (f : Dt → Dt → Dt) (L1 : Dt → List Dt) (hv : ∀ i ∈ vs1, i ∈ vs)
    (h : AI K wi ρ fun l ρ1 => (l.flatMap fun d => (L1 d).map (f d)).length < sizeLine ∧ (∀ d ∈ l, AGv K vs g d (wipeE ρ1 vs) fun ρ3 => AI K wi1 ρ3 fun l1 ρ4 => l1 = L1 d ∧ wipeE (wipeE ρ4 vs1) vs = wipeE ρ1 vs ∧ ∀ d1 ∈ L1 d, AGv K vs1 g1 d1 (wipeE ρ4 vs1) fun ρ5 => AE K te ρ5 fun e ρ6 => e = f d d1 ∧ wipeE ρ6 vs1 = wipeE ρ4 vs1) ∧ Ψ (.lst (l.flatMap fun d => (L1 d).map (f d))) (wipeE ρ1 vs)) : AE K (tLc2 wi g tYes wi1 g1 tYes te vs vs1) ρ Ψ := by
  refine ae_lc2 hv (fun B σ G H m R q => h B σ G H m R fun J l ρ1 G1 H1 m1 s1 t1 w ⟨h1, h2, h3⟩ => q J l ρ1 G1 H1 m1 s1 t1 w ⟨fun i acc ρ2 => i ≤ l.length ∧ acc = ((l.take i).flatMap fun d => (L1 d).map (f d)) ∧ ρ2 = wipeE ρ1 vs, ⟨Nat.zero_le _, rfl, rfl⟩, ?_, ?_⟩)
  · rintro i d acc ρ2 hd ⟨hi, rfl, rfl⟩
    have lt := (List.getElem?_eq_some_iff.mp hd).1
    have hm := List.mem_of_getElem? hd
    have cut : l.flatMap (fun d => (L1 d).map (f d)) = (l.take i).flatMap (fun d => (L1 d).map (f d)) ++ ((L1 d).map (f d) ++ (l.drop (i + 1)).flatMap fun d => (L1 d).map (f d)) := by
      have e : l = l.take i ++ d :: l.drop (i + 1) := by
        have e1 := (List.getElem?_eq_some_iff.mp hd).2
        rw [← e1, ← List.drop_eq_getElem_cons lt, List.take_append_drop]
      conv => lhs; rw [e, List.flatMap_append, List.flatMap_cons]
    rw [cut, List.length_append, List.length_append] at h1
    intro B σ G H m v r Q q
    refine h2 d hm B σ G H m v r Q fun σ' ρ' G' H' m' s t o p => q σ' ρ' G' H' m' s t o (at_yes ⟨fun _ => ?_, fun z => nomatch z⟩)
    intro B2 σ2 G2 H2 m2 R2 q2
    refine p B2 σ2 G2 H2 m2 R2 fun J1 l1 ρ4 G4 H4 m4 s4 t4 w4 ⟨e1, e2, k⟩ => q2 J1 l1 ρ4 G4 H4 m4 s4 t4 w4 ?_
    subst e1
    refine ⟨fun j acc1 ρ6 => j ≤ (L1 d).length ∧ acc1 = ((l.take i).flatMap fun d => (L1 d).map (f d)) ++ ((L1 d).take j).map (f d) ∧ ρ6 = wipeE ρ4 vs1, ⟨Nat.zero_le _, by simp, rfl⟩, ?_, ?_⟩
    · rintro j d1 acc1 ρ6 hd1 ⟨hj, rfl, rfl⟩
      have lt1 := (List.getElem?_eq_some_iff.mp hd1).1
      have hm1 := List.mem_of_getElem? hd1
      intro B5 σ5 G5 H5 m5 v5 r5 Q5 q5
      refine k d1 hm1 B5 σ5 G5 H5 m5 v5 r5 Q5 fun σ' ρ' G' H' m' s t o p => q5 σ' ρ' G' H' m' s t o (at_yes ⟨fun _ => ?_, fun z => nomatch z⟩)
      refine ae_mono p fun e ρ9 ⟨z1, z2⟩ => ⟨?_, lt1, ?_, z2⟩
      · rw [List.length_append, List.length_map, List.length_take]
        rw [List.length_map] at h1
        have := Nat.min_le_right j (L1 d).length
        omega
      · rw [z1, List.take_succ, hd1, List.map_append, List.append_assoc]; rfl
    · rintro acc1 ρ6 ⟨_, rfl, rfl⟩
      refine ⟨lt, ?_, e2⟩
      rw [List.take_length, List.take_succ, hd, List.flatMap_append]
      simp
  · rintro acc ρ2 ⟨_, rfl, rfl⟩
    refine ⟨fun i hi lt => wipe_no hi (by rw [wipeE_len] at lt; exact lt), ?_⟩
    rw [List.take_length]; exact h3
end
end Sh
set_option Elab.async false
set_option linter.all false
set_option maxRecDepth 100000
set_option maxHeartbeats 4000000
set_option Elab.async false
set_option linter.all false
set_option maxRecDepth 100000
set_option maxHeartbeats 4000000
/-! a pair backwards, extend of a list of one's own, None in a list -/
set_option Elab.async false
set_option linter.all false
set_option maxRecDepth 100000
set_option maxHeartbeats 4000000
/-! texts: join of a list backwards, f-strings, str, a loop that is not entered, a name that stands for a number, or of tuples -/
set_option Elab.async false
set_option linter.all false
set_option maxRecDepth 100000
set_option maxHeartbeats 4000000
set_option Elab.async false
set_option linter.all false
set_option maxRecDepth 100000
set_option maxHeartbeats 4000000
/-! gcd of three, is True, slices of four -/
set_option Elab.async false
set_option linter.all false
set_option maxRecDepth 100000
set_option maxHeartbeats 4000000
/-! loops by a measure, quotients by great numbers, chains of comparisons, gcd of two -/
set_option Elab.async false
set_option linter.all false
set_option maxRecDepth 100000
set_option maxHeartbeats 4000000
namespace Sh
open PySem PySem.Spec PyProof.Rows L2
/-! sorted(set(xs)), ints, as many as a set's bound lets -/
section
variable {K : PySem.W.Frag} {ρ : List En} {Ψ : Dt → List En → Prop}
theorem ar_catL {Φ : Dt → Prop} {l l' : List Dt} (hz : l.length + l'.length ≤ sizeLine) (h : Φ (.lst (l ++ l'))) : AR K rCat (.lst l) (.lst l') Φ := fun G H s x y r1 r2 Q q => by
  obtain ⟨a, xs, rfl, h1, h2⟩ := r1
  obtain ⟨b, ys, rfl, h3, h4⟩ := r2
  refine ⟨a, b, xs, ys, rfl, rfl, s _ _ h1, s _ _ h3, (by rw [h2.length, h4.length]; exact hz), fun p hp => ?_⟩
  have n := Nw.new (o := .lst (xs ++ ys)) s hp
  exact q _ (.lst (l ++ l')) _ _ n ⟨p, _, rfl, upd_same, (h2.same n.g).app (h4.same n.g)⟩ h
end
end Sh
set_option Elab.async false
set_option linter.all false
set_option maxRecDepth 100000
set_option maxHeartbeats 4000000
set_option Elab.async false
set_option linter.all false
set_option maxRecDepth 100000
set_option maxHeartbeats 4000000
/-! tuple(map(f, xs)), f a def of one's own that may lay out -/
namespace MpT
open PySem PySem.Spec PyProof.Rows L2 FbM
theorem Vals.snoc {xs : List V} {us : List Value} {x : V} {u : Value} (r : Vals xs us) (q : RelV x u) : Vals (xs ++ [x]) (us ++ [u]) := r.append (.cons q .nil)
end MpT
set_option Elab.async false
set_option linter.all false
set_option maxRecDepth 100000
set_option maxHeartbeats 4000000
set_option Elab.async false
set_option linter.all false
set_option maxRecDepth 100000
set_option maxHeartbeats 4000000
namespace Sh
open PySem PySem.Spec PyProof.Rows L2
section
variable {K : PySem.W.Frag} {ρ : List En} {Ψ : Dt → List En → Prop} {ΨT : Bool → List En → Prop} {Φ : Dt → Prop} {N : List En → Prop} {R : Dt → List En → Prop}
/-! slices with any bounds -/
def AO (K : PySem.W.Frag) (to : TO) (ρ : List En) (Φo : Option Int → List En → Prop) : Prop := ∀ B σ G H, Mt K B ρ σ G H → ∀ Q : Option Int → Hp → Prop, (∀ o ρ' G' H', Mt K B ρ' σ G' H' → Same G G' → Tr B H H' → Φo o ρ' → Q o H') → to σ H Q
def cutD (l : List Dt) (lo hi : Option Int) : List Dt := (l.drop (HT.sIx l.length 0 lo)).take (HT.sIx l.length l.length hi - HT.sIx l.length 0 lo)
theorem RDs.cut {G : Hp} {l : List Dt} {xs : List V} {lo hi : Option Int} (r : RDs K G l xs) : RDs K G (cutD l lo hi) (cutV xs lo hi) := by
  unfold cutD cutV
  rw [r.length]
  exact (r.drop _).take _
theorem ao_none {Φo : Option Int → List En → Prop} (k : Φo none ρ) : AO K (fun _ H Q => Q none H) ρ Φo := fun B σ G H m Q q => q none ρ G H m (Same.refl _) Tr.refl k
theorem ao_some {te : TE} {Φo : Option Int → List En → Prop} (h : AE K te ρ fun d ρ1 => ∃ i : Int, d = .int i ∧ Φo (some i) ρ1) : AO K (tPart te) ρ Φo := fun B σ G H m Q q =>
  h B σ G H m _ fun v d ρ1 G1 H1 m1 s1 t1 r1 ⟨i, ed, k⟩ => by
    subst ed
    exact ⟨i, r1, q _ ρ1 G1 H1 m1 s1 t1 k⟩
end
end Sh
set_option Elab.async false
set_option linter.all false
set_option maxRecDepth 100000
set_option maxHeartbeats 4000000
namespace Sh
open PySem PySem.Spec PyProof.Rows L2
theorem inV_intsP {x : Int} : ∀ {ns : List Int}, inV (.int x) (ns.map V.int) = decide (x ∈ ns)
  | [] => by simp [inV]
  | n :: ns => by
    have := @inV_intsP x ns
    unfold inV at this ⊢
    rw [List.map_cons, List.any_cons, this]
    show (n == x || decide (x ∈ ns)) = decide (x ∈ n :: ns)
    by_cases h : x = n
    · subst h; simp
    · have : (n == x) = false := by simp [Ne.symm h]
      rw [this]; simp [h]
end Sh
set_option Elab.async false
set_option linter.all false
set_option maxRecDepth 100000
set_option maxHeartbeats 4000000
/-! list(zip(xs, ys)), of two lists -/
namespace Sh
open PySem PySem.Spec PyProof.Rows L2
/-- new pairs, laid one after another -/
inductive NP : Hp → List V → List (V × V) → Hp → Prop where
  | nil {H : Hp} : NP H [] [] H
  | snoc {H H' : Hp} {ts : List V} {ps : List (V × V)} {T : Addr} {x y : V} : NP H ts ps H' → H' T = none → NP H (ts ++ [.ref T]) (ps ++ [(x, y)]) (upd H' T (.tup [x, y]))
theorem NP.len {H H' : Hp} {ts : List V} {ps : List (V × V)} (h : NP H ts ps H') : ts.length = ps.length := by
  induction h with
  | nil => rfl
  | snoc _ _ ih => rw [List.length_append, List.length_append, ih]; rfl
theorem NP.same {H H' : Hp} {ts : List V} {ps : List (V × V)} (h : NP H ts ps H') : Same H H' := by
  induction h with
  | nil => exact Same.refl _
  | snoc _ n ih => exact ih.trans (same_up n)
/-- where a zip stands -/
structure ZSt (z TI TO i1 i2 l1 l2 S : Addr) (i : Nat) (h : Heap) : Prop where
  ti : IsPair h TI (.ref i1) (.ref i2)
  a : h.IsListIter i1 l1 i
  b : h.IsListIter i2 l2 i
  s : (IsZip h z TI TO .none ∧ ∃ x y, IsPair h TO x y) ∨ ∃ T f oT, IsZipHeld h z TI TO T f ∧ h.get? T = some oT ∧ T ≠ z ∧ T ≠ i1 ∧ T ≠ i2 ∧ T ≠ S
theorem ZSt.keep {z TI TO i1 i2 l1 l2 S : Addr} {i : Nat} {h h' : Heap} (st : ZSt z TI TO i1 i2 l1 l2 S i h) (n : z ≠ S ∧ TI ≠ S ∧ TO ≠ S ∧ i1 ≠ S ∧ i2 ≠ S) (k : ∀ c o, c ≠ S → h.get? c = some o → h'.get? c = some o) : ZSt z TI TO i1 i2 l1 l2 S i h' where
  ti := k _ _ n.2.1 st.ti
  a := st.a.at fun o e => k _ o n.2.2.2.1 e
  b := st.b.at fun o e => k _ o n.2.2.2.2 e
  s := by
    rcases st.s with ⟨hz, x, y, h2⟩ | ⟨T, f, oT, hz, hT, r1, r2, r3, r4⟩
    · exact .inl ⟨k _ _ n.1 hz, x, y, k _ _ n.2.2.1 h2⟩
    · exact .inr ⟨T, f, oT, k _ _ n.1 hz, k _ _ r4 hT, r1, r2, r3, r4⟩
end Sh
set_option Elab.async false
set_option linter.all false
set_option maxRecDepth 100000
set_option maxHeartbeats 4000000
set_option Elab.async false
set_option linter.all false
set_option maxRecDepth 100000
set_option maxHeartbeats 4000000
/-! a range as a value, walked more than once -/
set_option Elab.async false
set_option linter.all false
set_option maxRecDepth 100000
set_option maxHeartbeats 4000000
/-! for x, y in zip(a, b), a and b lists or tuples in any mix -/
namespace Sh
open PySem PySem.Spec PyProof.Rows L2
def SqK (K : PySem.W.Frag) (k : Bool) (H : Hp) (a : Addr) (xs : List V) : Prop := match k with
  | true => SqT K H a xs
  | false => SqL K H a xs
def IsIt (k : Bool) (h : Heap) (i l : Addr) (n : Nat) : Prop := match k with
  | true => h.IsTupleIter i l n
  | false => h.IsListIter i l n
def IsSq (k : Bool) (h : Heap) (l : Addr) (its : Array Value) : Prop := match k with
  | true => h.IsTuple l its
  | false => h.IsList l its
theorem IsIt.at {k : Bool} {h h' : Heap} {i l : Addr} {n : Nat} (x : IsIt k h i l n) (e : ∀ o, h.get? i = some o → h'.get? i = some o) : IsIt k h' i l n := by
  cases k
  · exact Heap.IsListIter.at x e
  · exact Heap.IsTupleIter.at x e
theorem IsIt.obj {k : Bool} {h : Heap} {i l : Addr} {n : Nat} (x : IsIt k h i l n) : ∃ o, h.get? i = some o ∧ ∀ v, o.data ≠ .cell v := by
  cases k
  · obtain ⟨o, e, _, d⟩ := x
    exact ⟨o, e, fun v q => by rw [d] at q; cases q⟩
  · obtain ⟨o, e, _, d⟩ := x
    exact ⟨o, e, fun v q => by rw [d] at q; cases q⟩
theorem draws_k {prog : Program} {w : World} {A : Around} (hh : A.handled = none) (k : Bool) (it l : Addr) (hne : l ≠ it) (items : Array Value) :
    Draws prog w A it [it, l] items.size (fun i v => items[i]? = some v) (fun i h => IsIt k h it l i ∧ IsSq k h l items) := by
  cases k
  · exact Draws.list hh it l hne items
  · exact Draws.tuple hh it l hne items
theorem inv_sq {X : Cx} {pins : List (Addr × Obj)} {σ : L2.St} {H : Hp} {s : Shared} {k : Bool} {a : Addr} {xs : List V} (I : Inv X pins σ H s) (h : SqK X.K k H a xs) : ∃ its, Vals xs its ∧ IsSq k s.heap a its.toArray ∧ a < s.heap.objs.size ∧ xs.length ≤ sizeLine := by
  cases k
  · obtain ⟨its, rv, p, z⟩ := I.list h
    exact ⟨its, rv, p.isList, p.lt, z⟩
  · obtain ⟨its, rv, p, z⟩ := I.tuple h
    obtain ⟨o, ho, _⟩ := id p
    exact ⟨its, rv, p, Heap.lt_size ho, z⟩
theorem inv_inj {X : Cx} {pins : List (Addr × Obj)} {σ : L2.St} {H : Hp} {s : Shared} {k : Bool} {a : Addr} {xs ys : List V} (I : Inv X pins σ H s) (h : SqK X.K k H a xs) (h' : SqK X.K k H a ys) : xs = ys := by
  cases k
  · exact I.list_inj h h'
  · exact I.tuple_inj h h'
def ItzK (K : PySem.W.Frag) (k1 k2 : Bool) (a b : Addr) : It :=
  ⟨fun i H => ∃ (xs ys : List V) (x y : V), SqK K k1 H a xs ∧ SqK K k2 H b ys ∧ xs[i]? = some x ∧ ys[i]? = some y,
    fun i H v H' => ∃ T x y, v = .ref T ∧ H T = none ∧ H' = upd H T (.tup [x, y]) ∧ (∀ xs, SqK K k1 H a xs → xs[i]? = some x) ∧ ∀ ys, SqK K k2 H b ys → ys[i]? = some y,
    fun i H => ∃ xs ys : List V, SqK K k1 H a xs ∧ SqK K k2 H b ys ∧ i = min xs.length ys.length⟩
theorem turn_zipK {P : Program} {w : World} {K : PySem.W.Frag} {elts : List Expr} {kk : Nat} {tpos : Pos} {k1 k2 : Bool} {a b z TI TO i1 i2 : Addr} (S : ZipSep2 z TI TO i1 i2 [i1, a] [i2, b]) (na : a ≠ i1) (nb : b ≠ i2) :
    Turn P w K (.Tuple elts kk tpos) (ItzK K k1 k2 a b) [z, TI, TO, i1, i2] z (fun i h => IsZip h z TI TO .none ∧ IsTupOf2 h TI (.ref i1) (.ref i2) ∧ (∃ x y, IsTupOf2 h TO x y) ∧ IsIt k1 h i1 a i ∧ IsIt k2 h i2 b i) where
  mem := by simp
  obj := fun i h st c hc => by
    obtain ⟨hz, hTI, ⟨x, y, hTO⟩, h1, h2⟩ := st
    have e' : c = z ∨ c = TI ∨ c = TO ∨ c = i1 ∨ c = i2 := by simpa using hc
    rcases e' with q | q | q | q | q
    · rw [q]; exact ⟨_, hz, fun v q => nomatch q⟩
    · rw [q]; exact ⟨_, hTI, fun v q => nomatch q⟩
    · rw [q]; exact ⟨_, hTO, fun v q => nomatch q⟩
    · rw [q]; exact h1.obj
    · rw [q]; exact h2.obj
  keep := fun i h h' st k => by
    obtain ⟨hz, hTI, ⟨x, y, hTO⟩, h1, h2⟩ := st
    exact ⟨k z (by simp) _ hz, k TI (by simp) _ hTI, ⟨x, y, k TO (by simp) _ hTO⟩, h1.at fun o q => k i1 (by simp) o q, h2.at fun o q => k i2 (by simp) o q⟩
  item := by
    intro X hP hw hK hc i pins s σ H E I hf st hg
    subst hP hw hK
    obtain ⟨hz, hTI, hTO, h1, h2⟩ := st
    obtain ⟨xs, ys, x, y, hqx, hqy, hx, hy⟩ := hg
    obtain ⟨its, rv, p, la, _⟩ := inv_sq I hqx
    obtain ⟨its2, rv2, p2, lb, _⟩ := inv_sq I hqy
    obtain ⟨u, hu, ru⟩ := rv.get hx
    obtain ⟨u2, hu2, ru2⟩ := rv2.get hy
    have hh : X.A.in1.handled = none := I.ok.hd hc
    have W := GoesN.zip2 (prog := X.prog) (w := X.w) (A := X.A) (elts := elts) (x1 := kk) (pos := tpos) S (draws_k (A := X.A.in1) hh k1 i1 a na its.toArray) (draws_k (A := X.A.in1) hh k2 i2 b nb its2.toArray)
    have hlt : i < min its.toArray.size its2.toArray.size := by
      have e1 := (List.getElem?_eq_some_iff.mp hu).1
      have e2 := (List.getElem?_eq_some_iff.mp hu2).1
      simp only [List.size_toArray]
      omega
    refine W.goes i s _ _ hlt ⟨hz, hTI, hTO, ⟨h1, p⟩, ⟨h2, p2⟩⟩ fun v h' tk hY st' hk htk => ?_
    obtain ⟨T, u', u2', rfl, hT, e1, e2, tp⟩ := hY
    have e1' : u' = u := by
      have : some u' = some u := e1.symm.trans (by simpa using hu)
      cases this; rfl
    have e2' : u2' = u2 := by
      have : some u2' = some u2 := e2.symm.trans (by simpa using hu2)
      cases this; rfl
    subst e1' e2'
    have new : ObjOk X.prog X.w (upd H T (.tup [x, y])) h' T (.tup [x, y]) := ⟨by show 2 ≤ sizeLine; decide, [u', u2'], .cons ru (.cons ru2 .nil), tp⟩
    have I1 : Inv X pins σ (upd H T (.tup [x, y])) { s with heap := h', toks := tk } :=
      I.turnedNew (t' := tk) (ch := [z, TI, TO, i1, i2]) (fun c o hb q => hk c o (fun q' => hb (by
        have e' : c = z ∨ c = TO ∨ c = i1 ∨ c = i2 := by simpa using q'
        rcases e' with q | q | q | q <;> simp [q])) q) hf hT new
    obtain ⟨z', ti', to', ⟨a', _⟩, ⟨b', _⟩⟩ := st'
    refine ⟨.ref T, _, I1, rfl, ⟨_, x, y, rfl, I.hok.fresh hT, rfl, fun l hl => by rw [inv_inj I hl hqx]; exact hx, fun l hl => by rw [inv_inj I hl hqy]; exact hy⟩, ⟨z', ti', to', a', b'⟩, fun c hcm => ?_⟩
    obtain ⟨o, ho, _⟩ : ∃ o, s.heap.get? c = some o ∧ True := by
      obtain ⟨x0, y0, hTO⟩ := hTO
      have e' : c = z ∨ c = TI ∨ c = TO ∨ c = i1 ∨ c = i2 := by simpa using hcm
      rcases e' with q | q | q | q | q
      · rw [q]; exact ⟨_, hz, trivial⟩
      · rw [q]; exact ⟨_, hTI, trivial⟩
      · rw [q]; exact ⟨_, hTO, trivial⟩
      · rw [q]; obtain ⟨o, e, _⟩ := h1.obj; exact ⟨o, e, trivial⟩
      · rw [q]; obtain ⟨o, e, _⟩ := h2.obj; exact ⟨o, e, trivial⟩
    rw [upd_ne (Nat.ne_of_lt (Nat.lt_of_lt_of_le (Heap.lt_size ho) hT))]
    exact (hf c hcm).1
  done := by
    intro X hP hw hK hc i pins s σ H E I hf st hg
    subst hP hw hK
    obtain ⟨hz, hTI, hTO, h1, h2⟩ := st
    obtain ⟨xs, ys, hqx, hqy, hend⟩ := hg
    obtain ⟨its, rv, p, la, _⟩ := inv_sq I hqx
    obtain ⟨its2, rv2, p2, lb, _⟩ := inv_sq I hqy
    have hh : X.A.in1.handled = none := I.ok.hd hc
    have W := GoesN.zip2 (prog := X.prog) (w := X.w) (A := X.A) (elts := elts) (x1 := kk) (pos := tpos) S (draws_k (A := X.A.in1) hh k1 i1 a na its.toArray) (draws_k (A := X.A.in1) hh k2 i2 b nb its2.toArray)
    have e1 := rv.length
    have e2 := rv2.length
    have hi : i = min its.toArray.size its2.toArray.size := by
      simp only [List.size_toArray]
      rw [hend, e1, e2]
    subst hi
    exact W.stops s (fun s1 => Inv X pins σ H s1) _ ⟨hz, hTI, hTO, ⟨h1, p⟩, ⟨h2, p2⟩⟩ fun h' tk hk htk => I.turnedL (t' := tk) (ch := [z, TI, TO, i1, i2]) (fun c o hb q => hk c o (fun q' => hb (by
      have e' : c = z ∨ c = TO ∨ c = i1 ∨ c = i2 := by simpa using q'
      rcases e' with q | q | q | q <;> simp [q])) q) hf
  self := fun A i s Q E st h => wpAny_pyIter_zip st.1 h
def iZipK (K : PySem.W.Frag) (ta : TA) : TI := fun σ H R => ta σ H fun vs H1 => ∃ a b xs ys k1 k2, vs = [V.ref a, V.ref b] ∧ SqK K k1 H1 a xs ∧ SqK K k2 H1 b ys ∧ R (ItzK K k1 k2 a b) H1
theorem begins_k (k : Bool) (l : Addr) (items : Array Value) : ∃ o, Begins (.ref l) o (fun h => IsSq k h l items) ∧ ∀ (h : Heap) (i : Addr), h.get? i = some o → IsIt k h i l 0 := by
  cases k
  · exact ⟨_, begins_list l items, fun h i e => ⟨_, e, rfl, rfl⟩⟩
  · exact ⟨_, begins_tuple l items, fun h i e => ⟨_, e, rfl, rfl⟩⟩
theorem pi_zipK {X : Cx} {e e2 : Expr} {ta : TA} {p pos tpos : Pos} {elts : List Expr} {kk : Nat} (hg : Gl X "zip") (hm : X.mg "zip" = none) (ha : PA X [e, e2] ta)
    (hs : starEach [e, e2] X.env = (false, eval e X.env) :: starEach [e2] X.env := by rfl) (hpl : (backTo pos (starEach [e2] X.env)).any (·.1) = false := by rfl) :
    PI X (.Tuple elts kk tpos) (.Call (.Name "zip" p) [e, e2] [] pos) (iZipK X.K ta) := by
  refine ⟨fun pins s σ H R I h => ?_⟩
  refine Call_ (ld_blt I hg hm PyProof.Rows.boot_zip (PyProof.Rows.callWith_type1 (thn (ha.run pos pins s σ H _ I h) fun us s1 ⟨vs, H1, I1, r1, q1⟩ => ?_) hs hpl))
  obtain ⟨a, b, xs, ys, k1, k2, ex, hqx, hqy, q⟩ := q1
  subst ex
  cases r1 with
  | cons r rr =>
    cases rr with
    | cons r' rr =>
      cases rr
      cases r
      cases r'
      obtain ⟨its, rv, p1, la, _⟩ := inv_sq I1 hqx
      obtain ⟨its2, rv2, p2, lb, _⟩ := inv_sq I1 hqy
      obtain ⟨o1, B1, it1⟩ := begins_k k1 a its.toArray
      obtain ⟨o2, B2, it2⟩ := begins_k k2 b its2.toArray
      refine zip_begins2 B1 B2 p1 p2 fun h' hz hTI hTO h1 h2 hsz hk => wpAny_pyIter_zip hz ?_
      have I2 : Inv X pins σ H1 { s1 with heap := h' } := I1.kept (t' := s1.toks) hk
      have fresh5 : ∀ c, c ∈ [s1.heap.objs.size + 4, s1.heap.objs.size + 2, s1.heap.objs.size + 3, s1.heap.objs.size, s1.heap.objs.size + 1] → FpOk X pins H1 c := fun c hcm => by
        have e' : c = s1.heap.objs.size + 4 ∨ c = s1.heap.objs.size + 2 ∨ c = s1.heap.objs.size + 3 ∨ c = s1.heap.objs.size ∨ c = s1.heap.objs.size + 1 := by simpa using hcm
        have hle : s1.heap.objs.size ≤ c := by
          rcases e' with z | z | z | z | z
          · rw [z]; exact Nat.le_add_right _ _
          · rw [z]; exact Nat.le_add_right _ _
          · rw [z]; exact Nat.le_add_right _ _
          · rw [z]; exact Nat.le_refl _
          · rw [z]; exact Nat.le_add_right _ _
        exact I1.fpOk hle (I1.hok.fresh hle)
      have S := zip_sep2 (N := s1.heap.objs.size) (fp1 := [a]) (fp2 := [b]) (fun c hc => by rw [List.mem_singleton.mp hc]; exact la) (fun c hc => by rw [List.mem_singleton.mp hc]; exact lb)
      exact ⟨s1.heap.objs.size + 4, [s1.heap.objs.size + 4, s1.heap.objs.size + 2, s1.heap.objs.size + 3, s1.heap.objs.size, s1.heap.objs.size + 1], _, _, H1, rfl, I2, turn_zipK S (Nat.ne_of_lt la) (Nat.ne_of_lt (Nat.lt_succ_of_lt lb)), ⟨hz, hTI, ⟨_, _, hTO⟩, it1 _ _ h1, it2 _ _ h2⟩, fresh5, q⟩
section
variable {K : PySem.W.Frag} {ρ : List En}
theorem sqK_of {G H : Hp} (s : Same G H) {k : Bool} {l : List Dt} {x : V} (r : RD K G (sq k l) x) : ∃ a xs, x = .ref a ∧ SqK K k G a xs ∧ RDs K G l xs := by
  cases k
  · obtain ⟨a, xs, e, h1, h2⟩ := r
    exact ⟨a, xs, e, SqL.of h1, h2⟩
  · obtain ⟨a, xs, e, h1, h2⟩ := r
    exact ⟨a, xs, e, h1, h2⟩
theorem same_sqK {H H' : Hp} {k : Bool} {a : Addr} {xs : List V} (e : Same H H') (h : SqK K k H a xs) : SqK K k H' a xs := by
  cases k
  · exact same_sqL e h
  · exact same_sqT e h
theorem wj_zipK {k1 k2 : Bool} {a b : Addr} {xs ys : List V} {l m : List Dt} {G : Hp} (h : SqK K k1 G a xs) (h' : SqK K k2 G b ys) (r : RDs K G l xs) (r' : RDs K G m ys) : Wj K (ItzK K k1 k2 a b) (zpD l m) G := by
  have e := r.length
  have e' := r'.length
  have el : (zpD l m).length = min xs.length ys.length := by rw [zpD_len, e, e']
  refine ⟨fun i H hi s => ?_, fun H s => ⟨xs, ys, same_sqK s h, same_sqK s h', el⟩, fun i G1 H x H' hi s1 s2 y => ?_⟩
  · rw [el] at hi
    have h1 : i < xs.length := by omega
    have h2 : i < ys.length := by omega
    exact ⟨xs, ys, xs[i], ys[i], same_sqK s h, same_sqK s h', List.getElem?_eq_getElem h1, List.getElem?_eq_getElem h2⟩
  · obtain ⟨T, u, v, rfl, nT, rfl, f1, f2⟩ := y
    obtain ⟨d1, g1, q1⟩ := r.back (f1 xs (same_sqK s2 (same_sqK s1 h)))
    obtain ⟨d2, g2, q2⟩ := r'.back (f2 ys (same_sqK s2 (same_sqK s1 h')))
    obtain ⟨G', n, rd⟩ := nw_pair s2 nT (q1.same s1) (q2.same s1)
    exact ⟨G', _, n, zpD_get g1 g2, rd⟩
theorem ai_zipK {ta : TA} {Θ : List Dt → List En → Prop} (h : AA K ta ρ fun ds ρ1 => ∃ k1 k2 l m, ds = [sq k1 l, sq k2 m] ∧ Θ (zpD l m) ρ1) : AI K (iZipK K ta) ρ Θ := fun B σ G H mm Rr q =>
  h B σ G H mm _ fun vs ds ρ1 G1 H1 m1 s1 t1 r1 ⟨k1, k2, l, m, e, p⟩ => by
    subst e
    obtain ⟨x, y, rfl, r2, r3⟩ := r1.two
    obtain ⟨a, xs, rfl, h1, h2⟩ := sqK_of m1.sub r2
    obtain ⟨b, ys, rfl, h3, h4⟩ := sqK_of m1.sub r3
    exact ⟨a, b, xs, ys, k1, k2, rfl, same_sqK m1.sub h1, same_sqK m1.sub h3, q _ _ ρ1 G1 H1 m1 s1 t1 (wj_zipK h1 h3 h2 h4) p⟩
end
end Sh
set_option Elab.async false
set_option linter.all false
set_option maxRecDepth 100000
set_option maxHeartbeats 4000000
/-! for t in zip(a, b), and for x, y in zip(*t); a and b lists or tuples in any mix -/
namespace Sh
open PySem PySem.Spec PyProof.Rows L2
abbrev IsZf (h : Heap) (z TI TO : Addr) (last : Value) (f : Bool) : Prop := h.get? z = some { cls := .type "zip", dict := none, data := .fields #[last, .bool f, .bool false, .ref TI, .ref TO], slots := #[] }
section
variable {prog : Program} {w : World} {A : Around} {E : Value → Shared → Prop} {s : Shared} {z TI TO i1 i2 : Addr} {fp1 fp2 : List Addr} {n1 n2 i : Nat} {P1 P2 : Nat → Value → Prop} {St1 St2 : Nat → Heap → Prop} {a1 a2 last : Value} {f : Bool}
theorem zf_alive {a : Addr} {Q : Option Obj → Shared → Prop} (h : Q (s.heap.get? a) s) : wpAny (model prog w) A (loadIfAlive a) Q E s := fun _ _ _ => h
theorem zf_free {Q : Bool → Shared → Prop} (hz : IsZf s.heap z TI TO last f) (hl : last = .none ∨ ∃ T : Addr, last = rawInt T) (h1 : Q true s) (h2 : ∀ h', IsZf h' z TI TO last true → Heap.SameBut z s.heap h' → Q false { s with heap := h' }) :
    wpAny (model prog w) A (Builtin.SmallTypes.ownedTupleIsFree (.ref z)) Q E s := by
  unfold Builtin.SmallTypes.ownedTupleIsFree
  refine wpAny_bind (wpAny_field hz rfl (x := last) rfl ?_)
  rcases hl with rfl | ⟨T, rfl⟩
  · exact wpAny_pure h1
  · show wpAny _ _ (loadIfAlive ((T : Int).toNat) >>= _) _ _ _
    rw [Int.toNat_natCast]
    refine wpAny_bind (zf_alive ?_)
    cases s.heap.get? T with
    | none =>
      simp only [Option.isNone_none, if_true]
      exact wpAny_pure h1
    | some o =>
      simp only [Option.isNone_some, Bool.false_eq_true, if_false]
      refine wpAny_bind (wpAny_field hz rfl (x := .bool f) rfl ?_)
      cases f with
      | true =>
        rw [if_neg (show ¬ ((Value.bool true != Value.bool true) = true) from Bool.false_ne_true)]
        exact wpAny_pure (h2 s.heap hz (Heap.SameBut.refl _ _))
      | false =>
        rw [if_pos (show (Value.bool false != Value.bool true) = true from rfl)]
        exact wpAny_bind (wpAny_setField_rec hz (by simp) fun h₁ hz₁ hs₁ => wpAny_pure (h2 h₁ hz₁ hs₁))
theorem zf_next_item {Q : Value → Shared → Prop} (S : ZipSep2 z TI TO i1 i2 fp1 fp2) (D1 : Draws prog w A i1 fp1 n1 P1 St1) (D2 : Draws prog w A i2 fp2 n2 P2 St2)
    (hz : IsZf s.heap z TI TO last f) (hl : last = .none ∨ ∃ T : Addr, last = rawInt T) (hTI : IsTupOf2 s.heap TI (.ref i1) (.ref i2)) (hTO : IsTupOf2 s.heap TO a1 a2) (st1 : St1 i s.heap) (st2 : St2 i s.heap) (hlt1 : i < n1) (hlt2 : i < n2)
    (hQ : ∀ x1 x2 h' tk last' f', P1 i x1 → P2 i x2 → IsZf h' z TI TO last' f' → (last' = .none ∨ ∃ T : Addr, last' = rawInt T) → (∃ b1 b2, IsTupOf2 h' TO b1 b2) → St1 (i + 1) h' → St2 (i + 1) h' → IsTupOf2 h' s.heap.objs.size x1 x2 → h'.objs.size = s.heap.objs.size + 1 →
      (∀ c o, c ≠ z → c ≠ TO → c ≠ i1 → c ≠ i2 → s.heap.get? c = some o → h'.get? c = some o) → Q (.ref s.heap.objs.size) { s with heap := h', toks := tk }) :
    wpAny (model prog w) A (Builtin.«zip.__next__» ⟨[.ref z], []⟩) (fun fin s' => ∃ v, fin = .done (.ret v) ∧ Q v s') E s := by
  obtain ⟨hp, g, d, tk0, os⟩ := s
  show wpAny _ _ (field (.ref z) 2 >>= _) _ _ _
  refine wpAny_bind (wpAny_field hz rfl (x := .bool false) rfl ?_)
  show wpAny _ _ (field (.ref z) 3 >>= _) _ _ _
  refine wpAny_bind (wpAny_field hz rfl (x := .ref TI) rfl ?_)
  refine wpAny_bind (wpAny_seqItems hTI rfl ?_)
  show wpAny _ _ (Builtin.SmallTypes.ownedTupleIsFree (.ref z) >>= _) _ _ _
  refine wpAny_bind (zf_free hz hl ?_ fun h₁ hz₁ hs₁ => ?_)
  · simp only [if_true]
    refine wpAny_bind (wpAny_rule ?_)
    refine wpAny_bind (wpAny_field hz rfl (x := .ref TO) rfl ?_)
    refine wpAny_bind (wpAny_setField_rec hz (by simp) fun g0 hz0 hs0 => ?_)
    replace hz0 : IsZf g0 z TI TO .ellipsis f := hz0
    replace hs0 : Heap.SameBut z hp g0 := hs0
    refine wpAny_bind ?_
    simp only [List.zipIdx_cons, List.zipIdx_nil, List.forIn_cons, List.forIn_nil]
    refine wpAny_bind (wpAny_bind (wpAny_onRaise ?_))
    show wpAny _ _ (Builtin.SmallTypes.nextOf (.ref i1) >>= _) _ _ ⟨g0, g, d, tk0, os⟩
    refine wpAny_bind (D1.item i _ _ _ hlt1 (D1.over st1 hs0 S.zf1) fun x1 p1 tk1 hx1 sn1 hp1 => wpAny_pure ?_)
    replace hp1 : Heap.SameBut i1 g0 p1 := hp1
    have hU1 : IsTupOf2 p1 TO a1 a2 := hp1.extBut _ _ S.Ti1 (hs0.extBut _ _ S.TOz hTO)
    refine wpAny_bind (wpAny_seqItems (s := ⟨p1, g, d, tk1, os⟩) hU1 rfl ?_)
    refine wpAny_bind (updateSeq_IsTupOf2 (s := ⟨p1, g, d, tk1, os⟩) hU1 fun g1 hT1 hs1 => ?_)
    replace hT1 : IsTupOf2 g1 TO x1 a2 := hT1
    replace hs1 : Heap.SameBut TO p1 g1 := hs1
    refine wpAny_bind (wpAny_letGo (wpAny_pure ?_))
    refine wpAny_bind (wpAny_bind (wpAny_onRaise ?_))
    show wpAny _ _ (Builtin.SmallTypes.nextOf (.ref i2) >>= _) _ _ ⟨g1, g, d, tk1, os⟩
    refine wpAny_bind (D2.item i _ _ _ hlt2 (D2.over (D2.over (D2.over st2 hs0 S.zf2) hp1 S.sep1_2) hs1 S.Tf2) fun x2 p2 tk2 hx2 sn2 hp2 => wpAny_pure ?_)
    replace hp2 : Heap.SameBut i2 g1 p2 := hp2
    have hU2 : IsTupOf2 p2 TO x1 a2 := hp2.extBut _ _ S.Ti2 hT1
    refine wpAny_bind (wpAny_seqItems (s := ⟨p2, g, d, tk2, os⟩) hU2 rfl ?_)
    refine wpAny_bind (updateSeq_IsTupOf2 (s := ⟨p2, g, d, tk2, os⟩) hU2 fun g2 hT2 hs2 => ?_)
    replace hT2 : IsTupOf2 g2 TO x1 x2 := hT2
    replace hs2 : Heap.SameBut TO p2 g2 := hs2
    refine wpAny_bind (wpAny_letGo (wpAny_pure (wpAny_pure ?_)))
    refine wpAny_bind (wpAny_seqItems (s := ⟨g2, g, d, tk2, os⟩) hT2 rfl ?_)
    refine wpAny_bind (wpAny_newTuple ?_)
    have hsz : g2.objs.size = hp.objs.size := by rw [hs2.1, hp2.1, hs1.1, hp1.1, hs0.1]
    have hzz : IsZf g2 z TI TO .ellipsis f := (hs2.extBut _ _ S.TOz.symm (hp2.extBut _ _ S.zi2 (hs1.extBut _ _ S.TOz.symm (hp1.extBut _ _ S.zi1 hz0))))
    have hkk : ∀ c o, c ≠ z → c ≠ TO → c ≠ i1 → c ≠ i2 → hp.get? c = some o → g2.get? c = some o := fun c o cz cT c1 c2 e =>
      (hs2.extBut _ _ cT (hp2.extBut _ _ c2 (hs1.extBut _ _ cT (hp1.extBut _ _ c1 (hs0.extBut _ _ cz e)))))
    have hj1 : St1 (i + 1) g2 := (D1.over (D1.over (D1.over sn1 hs1 S.Tf1) hp2 S.sep2_1) hs2 S.Tf1)
    have hj2 : St2 (i + 1) g2 := (D2.over sn2 hs2 S.Tf2)
    have hzlt : z < g2.objs.size := Heap.lt_size hzz
    show wpAny _ _ (Builtin.SmallTypes.ownedTupleHandOut (.ref z) (.ref g2.objs.size) >>= _) _ _ ⟨g2.push { cls := .type "tuple", data := .seq #[x1, x2] }, g, d, tk2, os⟩
    refine wpAny_bind ?_
    unfold Builtin.SmallTypes.ownedTupleHandOut
    have hz₆ : IsZf (g2.push { cls := .type "tuple", data := .seq #[x1, x2] }) z TI TO .ellipsis f := Heap.get?_push_of_some _ hzz
    refine wpAny_bind (wpAny_setField_rec hz₆ (by simp) fun h₇ hz₇ hs₇ => ?_)
    replace hz₇ : IsZf h₇ z TI TO (rawInt g2.objs.size) f := hz₇
    refine wpAny_setField_rec hz₇ (by simp) fun h₈ hz₈ hs₈ => ?_
    replace hz₈ : IsZf h₈ z TI TO (rawInt g2.objs.size) false := hz₈
    replace hs₇ : Heap.SameBut z (g2.push { cls := .type "tuple", data := .seq #[x1, x2] }) h₇ := hs₇
    replace hs₈ : Heap.SameBut z h₇ h₈ := hs₈
    have up : ∀ c o, c ≠ z → g2.get? c = some o → h₈.get? c = some o := fun c o c1 e => hs₈.extBut _ _ c1 (hs₇.extBut _ _ c1 (Heap.get?_push_of_some _ e))
    have hT₈ : IsTupOf2 h₈ g2.objs.size x1 x2 := hs₈.extBut _ _ (Nat.ne_of_gt hzlt) (hs₇.extBut _ _ (Nat.ne_of_gt hzlt) (Heap.get?_push_size _ rfl))
    have hz8 : h₈.objs.size = g2.objs.size + 1 := by rw [hs₈.1, hs₇.1, Heap.size_push]
    rw [hsz] at hz₈ hT₈ hz8
    refine wpAny_pure ⟨_, rfl, ?_⟩
    show Q (.ref g2.objs.size) ⟨h₈, g, d, tk2, os⟩
    rw [hsz]
    exact hQ x1 x2 h₈ tk2 _ _ hx1 hx2 hz₈ (.inr ⟨_, rfl⟩) ⟨_, _, up _ _ S.TOz hT2⟩ (D1.frame _ _ _ hj1 fun b hb o e => up b o (fun q => S.zf1 (q ▸ hb)) e) (D2.frame _ _ _ hj2 fun b hb o e => up b o (fun q => S.zf2 (q ▸ hb)) e) hT₈ hz8 fun c o cz cT c1 c2 e => up c o cz (hkk c o cz cT c1 c2 e)
  · replace hs₁ : Heap.SameBut z hp h₁ := hs₁
    simp only [Bool.false_eq_true, if_false]
    refine wpAny_bind ?_
    rw [← Array.forIn_toList]
    simp only [List.forIn_cons, List.forIn_nil]
    refine wpAny_bind (wpAny_bind (wpAny_holding ?_))
    show wpAny _ _ (Builtin.SmallTypes.nextOf (.ref i1) >>= _) _ _ ⟨h₁, g, d, tk0, os⟩
    refine wpAny_bind (D1.item i _ _ _ hlt1 (D1.over st1 hs₁ S.zf1) fun x1 p1 tk1 hx1 sn1 hp1 => wpAny_pure ?_)
    replace hp1 : Heap.SameBut i1 h₁ p1 := hp1
    refine wpAny_pure ?_
    refine wpAny_bind (wpAny_bind (wpAny_holding ?_))
    show wpAny _ _ (Builtin.SmallTypes.nextOf (.ref i2) >>= _) _ _ ⟨p1, g, d, tk1, os⟩
    refine wpAny_bind (D2.item i _ _ _ hlt2 (D2.over (D2.over st2 hs₁ S.zf2) hp1 S.sep1_2) fun x2 p2 tk2 hx2 sn2 hp2 => wpAny_pure ?_)
    replace hp2 : Heap.SameBut i2 p1 p2 := hp2
    refine wpAny_pure (wpAny_pure ?_)
    show wpAny _ _ (newTuple [x1, x2] >>= _) _ _ ⟨p2, g, d, tk2, os⟩
    refine wpAny_bind (wpAny_newTuple ?_)
    have hsz : p2.objs.size = hp.objs.size := by rw [hp2.1, hp1.1, hs₁.1]
    have hz₃ : IsZf p2 z TI TO last true := hp2.extBut _ _ S.zi2 (hp1.extBut _ _ S.zi1 hz₁)
    have hk : ∀ c o, c ≠ z → c ≠ i1 → c ≠ i2 → hp.get? c = some o → p2.get? c = some o := fun c o c1 c2 c3 e => hp2.extBut _ _ c3 (hp1.extBut _ _ c2 (hs₁.extBut _ _ c1 e))
    have hj1 : St1 (i + 1) p2 := D1.over sn1 hp2 S.sep2_1
    refine wpAny_pure ⟨_, rfl, ?_⟩
    show Q (.ref p2.objs.size) ⟨p2.push { cls := .type "tuple", data := .seq #[x1, x2] }, g, d, tk2, os⟩
    have hpp : IsTupOf2 (p2.push { cls := .type "tuple", data := .seq #[x1, x2] }) p2.objs.size x1 x2 := Heap.get?_push_size _ rfl
    have hz4 : (p2.push { cls := .type "tuple", data := .seq #[x1, x2] }).objs.size = p2.objs.size + 1 := Heap.size_push ..
    rw [hsz] at hpp hz4 ⊢
    exact hQ x1 x2 _ tk2 _ _ hx1 hx2 (Heap.get?_push_of_some _ hz₃) hl ⟨_, _, Heap.get?_push_of_some _ (hk TO _ S.TOz S.Ti1 S.Ti2 hTO)⟩ (D1.frame _ _ _ hj1 fun b hb o e => Heap.get?_push_of_some _ e) (D2.frame _ _ _ sn2 fun b hb o e => Heap.get?_push_of_some _ e) hpp hz4 fun c o c1 _ c2 c3 e => Heap.get?_push_of_some _ (hk c o c1 c2 c3 e)
theorem zf_next_end {Q : Fin → Shared → Prop} (S : ZipSep2 z TI TO i1 i2 fp1 fp2) (D1 : Draws prog w A i1 fp1 n1 P1 St1) (D2 : Draws prog w A i2 fp2 n2 P2 St2)
    (hz : IsZf s.heap z TI TO last f) (hl : last = .none ∨ ∃ T : Addr, last = rawInt T) (hTI : IsTupOf2 s.heap TI (.ref i1) (.ref i2)) (hTO : IsTupOf2 s.heap TO a1 a2) (st1 : St1 i s.heap) (st2 : St2 i s.heap) (hle1 : i ≤ n1) (hle2 : i ≤ n2) (hend : i = n1 ∨ i = n2)
    (hE : ∀ h' tk e, (∀ c o, c ≠ z → c ≠ TO → c ≠ i1 → c ≠ i2 → s.heap.get? c = some o → h'.get? c = some o) → (∃ o, h'.get? e = some o ∧ o.cls = .type "StopIteration") → E (.ref e) { s with heap := h', toks := tk }) :
    wpAny (model prog w) A (Builtin.«zip.__next__» ⟨[.ref z], []⟩) Q E s := by
  obtain ⟨hp, g, d, tk0, os⟩ := s
  show wpAny _ _ (field (.ref z) 2 >>= _) _ _ _
  refine wpAny_bind (wpAny_field hz rfl (x := .bool false) rfl ?_)
  show wpAny _ _ (field (.ref z) 3 >>= _) _ _ _
  refine wpAny_bind (wpAny_field hz rfl (x := .ref TI) rfl ?_)
  refine wpAny_bind (wpAny_seqItems hTI rfl ?_)
  show wpAny _ _ (Builtin.SmallTypes.ownedTupleIsFree (.ref z) >>= _) _ _ _
  refine wpAny_bind (zf_free hz hl ?_ fun h₁ hz₁ hs₁ => ?_)
  · simp only [if_true]
    refine wpAny_bind (wpAny_rule ?_)
    refine wpAny_bind (wpAny_field hz rfl (x := .ref TO) rfl ?_)
    refine wpAny_bind (wpAny_setField_rec hz (by simp) fun g0 hz0 hs0 => ?_)
    replace hz0 : IsZf g0 z TI TO .ellipsis f := hz0
    replace hs0 : Heap.SameBut z hp g0 := hs0
    refine wpAny_bind ?_
    simp only [List.zipIdx_cons, List.zipIdx_nil, List.forIn_cons, List.forIn_nil]
    refine wpAny_bind (wpAny_bind (wpAny_onRaise ?_))
    show wpAny _ _ (Builtin.SmallTypes.nextOf (.ref i1) >>= _) _ _ ⟨g0, g, d, tk0, os⟩
    by_cases hlt1 : i < n1
    · refine wpAny_bind (D1.item i _ _ _ hlt1 (D1.over st1 hs0 S.zf1) fun x1 p1 tk1 hx1 sn1 hp1 => wpAny_pure ?_)
      replace hp1 : Heap.SameBut i1 g0 p1 := hp1
      have hU1 : IsTupOf2 p1 TO a1 a2 := hp1.extBut _ _ S.Ti1 (hs0.extBut _ _ S.TOz hTO)
      refine wpAny_bind (wpAny_seqItems (s := ⟨p1, g, d, tk1, os⟩) hU1 rfl ?_)
      refine wpAny_bind (updateSeq_IsTupOf2 (s := ⟨p1, g, d, tk1, os⟩) hU1 fun g1 hT1 hs1 => ?_)
      replace hT1 : IsTupOf2 g1 TO x1 a2 := hT1
      replace hs1 : Heap.SameBut TO p1 g1 := hs1
      refine wpAny_bind (wpAny_letGo (wpAny_pure ?_))
      have hi2 : i = n2 := by omega
      refine wpAny_bind (wpAny_bind (wpAny_onRaise ?_))
      show wpAny _ _ (Builtin.SmallTypes.nextOf (.ref i2) >>= _) _ _ ⟨g1, g, d, tk1, os⟩
      refine wpAny_bind (D2.done ⟨g1, g, d, tk1, os⟩ _ _ (by rw [← hi2]; exact (D2.over (D2.over (D2.over st2 hs0 S.zf2) hp1 S.sep1_2) hs1 S.Tf2)) fun q e hq he => ?_)
      replace hq : Heap.ExtBut i2 g1 q := hq
      obtain ⟨oe, hoe, hce⟩ := he
      replace hoe : q.get? e = some oe := hoe
      have hzq : IsZf q z TI TO .ellipsis f := hq _ _ S.zi2 (hs1.extBut _ _ S.TOz.symm (hp1.extBut _ _ S.zi1 hz0))
      have hez : e ≠ z := fun x => by subst x; rw [hzq] at hoe; cases hoe; simp at hce
      refine wpAny_setField_rec (s := ⟨q, g, d, tk1, os⟩) hzq (by simp) fun q' _ hq' => ?_
      replace hq' : Heap.SameBut z q q' := hq'
      exact hE q' tk1 e (fun c o cz cT c1 c2 x => hq'.extBut _ _ cz (hq _ _ c2 (hs1.extBut _ _ cT (hp1.extBut _ _ c1 (hs0.extBut _ _ cz x))))) ⟨oe, hq'.extBut _ _ hez hoe, hce⟩
    · have hi1 : i = n1 := by omega
      refine wpAny_bind (D1.done ⟨g0, g, d, tk0, os⟩ _ _ (by rw [← hi1]; exact (D1.over st1 hs0 S.zf1)) fun q e hq he => ?_)
      replace hq : Heap.ExtBut i1 g0 q := hq
      obtain ⟨oe, hoe, hce⟩ := he
      replace hoe : q.get? e = some oe := hoe
      have hzq : IsZf q z TI TO .ellipsis f := hq _ _ S.zi1 hz0
      have hez : e ≠ z := fun x => by subst x; rw [hzq] at hoe; cases hoe; simp at hce
      refine wpAny_setField_rec (s := ⟨q, g, d, tk0, os⟩) hzq (by simp) fun q' _ hq' => ?_
      replace hq' : Heap.SameBut z q q' := hq'
      exact hE q' tk0 e (fun c o cz cT c1 c2 x => hq'.extBut _ _ cz (hq _ _ c1 (hs0.extBut _ _ cz x))) ⟨oe, hq'.extBut _ _ hez hoe, hce⟩
  · replace hs₁ : Heap.SameBut z hp h₁ := hs₁
    simp only [Bool.false_eq_true, if_false]
    refine wpAny_bind ?_
    rw [← Array.forIn_toList]
    simp only [List.forIn_cons, List.forIn_nil]
    refine wpAny_bind (wpAny_bind (wpAny_holding ?_))
    show wpAny _ _ (Builtin.SmallTypes.nextOf (.ref i1) >>= _) _ _ ⟨h₁, g, d, tk0, os⟩
    by_cases hlt1 : i < n1
    · refine wpAny_bind (D1.item i _ _ _ hlt1 (D1.over st1 hs₁ S.zf1) fun x1 p1 tk1 hx1 sn1 hp1 => wpAny_pure ?_)
      replace hp1 : Heap.SameBut i1 h₁ p1 := hp1
      refine wpAny_pure ?_
      refine wpAny_bind (wpAny_bind (wpAny_holding ?_))
      show wpAny _ _ (Builtin.SmallTypes.nextOf (.ref i2) >>= _) _ _ ⟨p1, g, d, tk1, os⟩
      have hi2 : i = n2 := by omega
      refine wpAny_bind (D2.done ⟨p1, g, d, tk1, os⟩ _ _ (by rw [← hi2]; exact (D2.over (D2.over st2 hs₁ S.zf2) hp1 S.sep1_2)) fun q e hq he => ?_)
      replace hq : Heap.ExtBut i2 p1 q := hq
      exact hE q tk1 e (fun c o cz _ c1 c2 x => hq _ _ c2 (hp1.extBut _ _ c1 (hs₁.extBut _ _ cz x))) he
    · have hi1 : i = n1 := by omega
      refine wpAny_bind (D1.done ⟨h₁, g, d, tk0, os⟩ _ _ (by rw [← hi1]; exact (D1.over st1 hs₁ S.zf1)) fun q e hq he => ?_)
      replace hq : Heap.ExtBut i1 h₁ q := hq
      exact hE q tk0 e (fun c o cz _ c1 c2 x => hq _ _ c1 (hs₁.extBut _ _ cz x)) he
theorem zf_pyNext_item {Q : Option Value → Shared → Prop} (S : ZipSep2 z TI TO i1 i2 fp1 fp2) (D1 : Draws prog w A.in1 i1 fp1 n1 P1 St1) (D2 : Draws prog w A.in1 i2 fp2 n2 P2 St2)
    (hz : IsZf s.heap z TI TO last f) (hl : last = .none ∨ ∃ T : Addr, last = rawInt T) (hTI : IsTupOf2 s.heap TI (.ref i1) (.ref i2)) (hTO : IsTupOf2 s.heap TO a1 a2) (st1 : St1 i s.heap) (st2 : St2 i s.heap) (hlt1 : i < n1) (hlt2 : i < n2)
    (hQ : ∀ x1 x2 h' tk last' f', P1 i x1 → P2 i x2 → IsZf h' z TI TO last' f' → (last' = .none ∨ ∃ T : Addr, last' = rawInt T) → (∃ b1 b2, IsTupOf2 h' TO b1 b2) → St1 (i + 1) h' → St2 (i + 1) h' → IsTupOf2 h' s.heap.objs.size x1 x2 → h'.objs.size = s.heap.objs.size + 1 →
      (∀ c o, c ≠ z → c ≠ TO → c ≠ i1 → c ≠ i2 → s.heap.get? c = some o → h'.get? c = some o) → Q (some (.ref s.heap.objs.size)) { s with heap := h', toks := tk }) :
    wpAny (model prog w) A (pyNext (.ref z)) Q E s := by
  have hT : s.TypeIs (.ref z) "zip" := ⟨_, hz, rfl⟩
  unfold pyNext
  exact wpAny_bind (wpAny_attempt (wpAny_callSpecial?_slot (name := Str.ofString "__next__") hT F.slot_zip_next
    (wpAny_call_entry F.slot_zip_next hT F.entry_zip_next
      (zf_next_item S D1 D2 hz hl hTI hTO st1 st2 hlt1 hlt2 fun x1 x2 h' tk l' f' y1 y2 b1 bl b2 d1 d2 b5 b6 b7 => wpAny_pure (hQ x1 x2 h' tk l' f' y1 y2 b1 bl b2 d1 d2 b5 b6 b7)) (F.args_zip_next_1 _))))
theorem zf_pyNext_end {Q : Option Value → Shared → Prop} (S : ZipSep2 z TI TO i1 i2 fp1 fp2) (D1 : Draws prog w A.in1 i1 fp1 n1 P1 St1) (D2 : Draws prog w A.in1 i2 fp2 n2 P2 St2)
    (hz : IsZf s.heap z TI TO last f) (hl : last = .none ∨ ∃ T : Addr, last = rawInt T) (hTI : IsTupOf2 s.heap TI (.ref i1) (.ref i2)) (hTO : IsTupOf2 s.heap TO a1 a2) (st1 : St1 i s.heap) (st2 : St2 i s.heap) (hle1 : i ≤ n1) (hle2 : i ≤ n2) (hend : i = n1 ∨ i = n2)
    (hQ : ∀ h' tk, (∀ c o, c ≠ z → c ≠ TO → c ≠ i1 → c ≠ i2 → s.heap.get? c = some o → h'.get? c = some o) → Q none { s with heap := h', toks := tk }) : wpAny (model prog w) A (pyNext (.ref z)) Q E s := by
  have hT : s.TypeIs (.ref z) "zip" := ⟨_, hz, rfl⟩
  unfold pyNext
  refine wpAny_bind (wpAny_attempt (wpAny_callSpecial?_slot (name := Str.ofString "__next__") hT F.slot_zip_next
    (wpAny_call_entry F.slot_zip_next hT F.entry_zip_next (zf_next_end S D1 D2 hz hl hTI hTO st1 st2 hle1 hle2 hend fun h' tk e hk he => ?_) (F.args_zip_next_1 _))))
  obtain ⟨o, ho, hc⟩ := he
  refine wpAny_bind (wpAny_isInstance (T := "StopIteration") (b := true) ⟨o, ho, hc⟩ isSubtype_stop ?_)
  exact wpAny_pure (hQ _ _ hk)
end
theorem turn_zipN {P : Program} {w : World} {K : PySem.W.Frag} {y : Str} {py : Pos} {k1 k2 : Bool} {a b z TI TO i1 i2 : Addr} (S : ZipSep2 z TI TO i1 i2 [i1, a] [i2, b]) (na : a ≠ i1) (nb : b ≠ i2) :
    Turn P w K (.Name y py) (ItzK K k1 k2 a b) [z, TI, TO, i1, i2] z (fun i h => (∃ last f, IsZf h z TI TO last f ∧ (last = .none ∨ ∃ T : Addr, last = rawInt T)) ∧ IsTupOf2 h TI (.ref i1) (.ref i2) ∧ (∃ x y, IsTupOf2 h TO x y) ∧ IsIt k1 h i1 a i ∧ IsIt k2 h i2 b i) where
  mem := by simp
  obj := fun i h st c hc => by
    obtain ⟨⟨last, f, hz, _⟩, hTI, ⟨x, y, hTO⟩, h1, h2⟩ := st
    have e' : c = z ∨ c = TI ∨ c = TO ∨ c = i1 ∨ c = i2 := by simpa using hc
    rcases e' with q | q | q | q | q
    · rw [q]; exact ⟨_, hz, fun v q => nomatch q⟩
    · rw [q]; exact ⟨_, hTI, fun v q => nomatch q⟩
    · rw [q]; exact ⟨_, hTO, fun v q => nomatch q⟩
    · rw [q]; exact h1.obj
    · rw [q]; exact h2.obj
  keep := fun i h h' st k => by
    obtain ⟨⟨last, f, hz, hl⟩, hTI, ⟨x, y, hTO⟩, h1, h2⟩ := st
    exact ⟨⟨last, f, k z (by simp) _ hz, hl⟩, k TI (by simp) _ hTI, ⟨x, y, k TO (by simp) _ hTO⟩, h1.at fun o q => k i1 (by simp) o q, h2.at fun o q => k i2 (by simp) o q⟩
  item := by
    intro X hP hw hK hc i pins s σ H E I hf st hg
    subst hP hw hK
    obtain ⟨⟨last, f, hz, hl⟩, hTI, ⟨t1, t2, hTO⟩, h1, h2⟩ := st
    obtain ⟨xs, ys, x, y, hqx, hqy, hx, hy⟩ := hg
    obtain ⟨its, rv, p, la, _⟩ := inv_sq I hqx
    obtain ⟨its2, rv2, p2, lb, _⟩ := inv_sq I hqy
    obtain ⟨u, hu, ru⟩ := rv.get hx
    obtain ⟨u2, hu2, ru2⟩ := rv2.get hy
    have hh : X.A.in1.handled = none := I.ok.hd hc
    have hlt1 : i < its.toArray.size := by
      have e1 := (List.getElem?_eq_some_iff.mp hu).1
      simpa only [List.size_toArray] using e1
    have hlt2 : i < its2.toArray.size := by
      have e2 := (List.getElem?_eq_some_iff.mp hu2).1
      simpa only [List.size_toArray] using e2
    refine wpAny_with_toks (n := s.toks) (Nat.le_refl _) (zf_pyNext_item S (draws_k (A := X.A.in1) hh k1 i1 a na its.toArray) (draws_k (A := X.A.in1) hh k2 i2 b nb its2.toArray) hz hl hTI hTO ⟨h1, p⟩ ⟨h2, p2⟩ hlt1 hlt2 fun u' u2' h' tk last' f' e1 e2 hz' hl' hTO' st1 st2 hT hsz hk htk => ?_)
    have e1' : u' = u := by
      have : some u' = some u := e1.symm.trans (by simpa using hu)
      cases this; rfl
    have e2' : u2' = u2 := by
      have : some u2' = some u2 := e2.symm.trans (by simpa using hu2)
      cases this; rfl
    subst e1' e2'
    have new : ObjOk X.prog X.w (upd H s.heap.objs.size (.tup [x, y])) h' s.heap.objs.size (.tup [x, y]) := ⟨by show 2 ≤ sizeLine; decide, [u', u2'], .cons ru (.cons ru2 .nil), ⟨_, hT, rfl, _, rfl⟩⟩
    have I1 : Inv X pins σ (upd H s.heap.objs.size (.tup [x, y])) { s with heap := h', toks := tk } :=
      I.turnedNew (t' := tk) (ch := [z, TI, TO, i1, i2]) (fun c o hb q => hk c o (fun q' => hb (by simp [q'])) (fun q' => hb (by simp [q'])) (fun q' => hb (by simp [q'])) (fun q' => hb (by simp [q'])) q) hf (Nat.le_refl _) new
    have hTI' : IsTupOf2 h' TI (.ref i1) (.ref i2) := hk TI _ S.TIz S.TITO S.TIi1 S.TIi2 hTI
    refine ⟨_, rfl, ?_⟩
    show wpAny _ _ (pure ()) _ _ _
    refine wpAny_pure ⟨.ref s.heap.objs.size, _, I1, rfl, ⟨_, x, y, rfl, I.hok.fresh (Nat.le_refl _), rfl, fun l hl => by rw [inv_inj I hl hqx]; exact hx, fun l hl => by rw [inv_inj I hl hqy]; exact hy⟩, ⟨⟨last', f', hz', hl'⟩, hTI', hTO', st1.1, st2.1⟩, fun c hcm => ?_⟩
    obtain ⟨o, ho, _⟩ : ∃ o, s.heap.get? c = some o ∧ True := by
      have e' : c = z ∨ c = TI ∨ c = TO ∨ c = i1 ∨ c = i2 := by simpa using hcm
      rcases e' with q | q | q | q | q
      · rw [q]; exact ⟨_, hz, trivial⟩
      · rw [q]; exact ⟨_, hTI, trivial⟩
      · rw [q]; exact ⟨_, hTO, trivial⟩
      · rw [q]; obtain ⟨o, e, _⟩ := h1.obj; exact ⟨o, e, trivial⟩
      · rw [q]; obtain ⟨o, e, _⟩ := h2.obj; exact ⟨o, e, trivial⟩
    rw [upd_ne (Nat.ne_of_lt (Heap.lt_size ho))]
    exact (hf c hcm).1
  done := by
    intro X hP hw hK hc i pins s σ H E I hf st hg
    subst hP hw hK
    obtain ⟨⟨last, f, hz, hl⟩, hTI, ⟨t1, t2, hTO⟩, h1, h2⟩ := st
    obtain ⟨xs, ys, hqx, hqy, hend⟩ := hg
    obtain ⟨its, rv, p, la, _⟩ := inv_sq I hqx
    obtain ⟨its2, rv2, p2, lb, _⟩ := inv_sq I hqy
    have hh : X.A.in1.handled = none := I.ok.hd hc
    have e1 := rv.length
    have e2 := rv2.length
    have hi : i = min its.toArray.size its2.toArray.size := by
      simp only [List.size_toArray]
      rw [hend, e1, e2]
    refine wpAny_with_toks (n := s.toks) (Nat.le_refl _) (zf_pyNext_end S (draws_k (A := X.A.in1) hh k1 i1 a na its.toArray) (draws_k (A := X.A.in1) hh k2 i2 b nb its2.toArray) hz hl hTI hTO ⟨h1, p⟩ ⟨h2, p2⟩ (by omega) (by omega) (by omega) fun h' tk hk htk => ?_)
    exact ⟨rfl, I.turnedL (t' := tk) (ch := [z, TI, TO, i1, i2]) (fun c o hb q => hk c o (fun q' => hb (by simp [q'])) (fun q' => hb (by simp [q'])) (fun q' => hb (by simp [q'])) (fun q' => hb (by simp [q'])) q) hf⟩
  self := fun A i s Q E st h => by
    obtain ⟨⟨last, f, hz, _⟩, _⟩ := st
    have hT : s.TypeIs (.ref z) "zip" := ⟨_, hz, rfl⟩
    refine wpAny_pyIter_slot hT F.slot_zip_iter (wpAny_call_entry F.slot_zip_iter hT F.entry_zip_iter ?_ (F.args_zip_iter_1 _))
    show wpAny _ _ (ret (.ref z)) _ _ s
    exact wpAny_pure ⟨_, rfl, "zip", _, hT, F.slot_zip_next.lookup, h⟩
/-- the call zip(a, b) -/
theorem call_zipK {X : Cx} {pins : List (Addr × Obj)} {σ : L2.St} {H : Hp} {s : Shared} {a b : Addr} {xs ys : List V} {k1 k2 : Bool} {tg : Expr} {R : It → Hp → Prop} {E : Value → Shared → Prop} (I1 : Inv X pins σ H s) (hqx : SqK X.K k1 H a xs) (hqy : SqK X.K k2 H b ys)
    (h : ∀ (h' : Heap) (i1 i2 z TI TO : Addr), Inv X pins σ H { s with heap := h' } → ZipSep2 z TI TO i1 i2 [i1, a] [i2, b] → a ≠ i1 → b ≠ i2 → IsZip h' z TI TO .none → IsTupOf2 h' TI (.ref i1) (.ref i2) → (∃ x y, IsTupOf2 h' TO x y) → IsIt k1 h' i1 a 0 → IsIt k2 h' i2 b 0 → (∀ c ∈ [z, TI, TO, i1, i2], FpOk X pins H c) →
      PIE X pins σ tg R (.ref z) { s with heap := h' }) :
    wpAny (model X.prog X.w) X.A (call (.type "zip") [.ref a, .ref b]) (fun v s1 => wpAny (model X.prog X.w) X.A (pyIter v) (PIE X pins σ tg R) E s1) E s := by
  obtain ⟨its, rv, p1, la, _⟩ := inv_sq I1 hqx
  obtain ⟨its2, rv2, p2, lb, _⟩ := inv_sq I1 hqy
  obtain ⟨o1, B1, it1⟩ := begins_k k1 a its.toArray
  obtain ⟨o2, B2, it2⟩ := begins_k k2 b its2.toArray
  refine zip_begins2 B1 B2 p1 p2 fun h' hz hTI hTO h1 h2 hsz hk => wpAny_pyIter_zip hz ?_
  have I2 : Inv X pins σ H { s with heap := h' } := I1.kept (t' := s.toks) hk
  have fresh5 : ∀ c, c ∈ [s.heap.objs.size + 4, s.heap.objs.size + 2, s.heap.objs.size + 3, s.heap.objs.size, s.heap.objs.size + 1] → FpOk X pins H c := fun c hcm => by
    have e' : c = s.heap.objs.size + 4 ∨ c = s.heap.objs.size + 2 ∨ c = s.heap.objs.size + 3 ∨ c = s.heap.objs.size ∨ c = s.heap.objs.size + 1 := by simpa using hcm
    have hle : s.heap.objs.size ≤ c := by
      rcases e' with z | z | z | z | z
      · rw [z]; exact Nat.le_add_right _ _
      · rw [z]; exact Nat.le_add_right _ _
      · rw [z]; exact Nat.le_add_right _ _
      · rw [z]; exact Nat.le_refl _
      · rw [z]; exact Nat.le_add_right _ _
    exact I1.fpOk hle (I1.hok.fresh hle)
  have S := zip_sep2 (N := s.heap.objs.size) (fp1 := [a]) (fp2 := [b]) (fun c hc => by rw [List.mem_singleton.mp hc]; exact la) (fun c hc => by rw [List.mem_singleton.mp hc]; exact lb)
  exact h h' _ _ _ _ _ I2 S (Nat.ne_of_lt la) (Nat.ne_of_lt (Nat.lt_succ_of_lt lb)) hz hTI ⟨_, _, hTO⟩ (it1 _ _ h1) (it2 _ _ h2) fresh5
/-- for t in zip(a, b) -/
theorem pi_zipN {X : Cx} {e e2 : Expr} {ta : TA} {p pos py : Pos} {y : Str} (hg : Gl X "zip") (hm : X.mg "zip" = none) (ha : PA X [e, e2] ta)
    (hs : starEach [e, e2] X.env = (false, eval e X.env) :: starEach [e2] X.env := by rfl) (hpl : (backTo pos (starEach [e2] X.env)).any (·.1) = false := by rfl) :
    PI X (.Name y py) (.Call (.Name "zip" p) [e, e2] [] pos) (iZipK X.K ta) := by
  refine ⟨fun pins s σ H R I h => ?_⟩
  refine Call_ (ld_blt I hg hm PyProof.Rows.boot_zip (PyProof.Rows.callWith_type1 (thn (ha.run pos pins s σ H _ I h) fun us s1 ⟨vs, H1, I1, r1, q1⟩ => ?_) hs hpl))
  obtain ⟨a, b, xs, ys, k1, k2, ex, hqx, hqy, q⟩ := q1
  subst ex
  cases r1 with
  | cons r rr =>
    cases rr with
    | cons r' rr =>
      cases rr
      cases r
      cases r'
      exact call_zipK I1 hqx hqy fun h' i1 i2 z TI TO I2 S na nb hz hTI hTO h1 h2 fr => ⟨z, _, _, _, H1, rfl, I2, turn_zipN S na nb, ⟨⟨_, _, hz, .inl rfl⟩, hTI, hTO, h1, h2⟩, fr, q⟩
/-- for x, y in zip(*t), t a tuple or a list of two -/
def iZipS (K : PySem.W.Frag) (te : TE) : TI := fun σ H R => te σ H fun v H1 => ∃ r a b xs ys k1 k2, v = V.ref r ∧ (SqT K H1 r [V.ref a, V.ref b] ∨ SqL K H1 r [V.ref a, V.ref b]) ∧ SqK K k1 H1 a xs ∧ SqK K k2 H1 b ys ∧ R (ItzK K k1 k2 a b) H1
theorem pi_zipS {X : Cx} {e : Expr} {te : TE} {p pos tpos sp : Pos} {elts : List Expr} {kk : Nat} (hg : Gl X "zip") (hm : X.mg "zip" = none) (he : PE X e te)
    (hs : starEach [.Starred e sp] X.env = [(true, eval e X.env)] := by rfl) :
    PI X (.Tuple elts kk tpos) (.Call (.Name "zip" p) [.Starred e sp] [] pos) (iZipS X.K te) := by
  refine ⟨fun pins s σ H R I h => ?_⟩
  refine Call_ (ld_blt I hg hm PyProof.Rows.boot_zip ?_)
  rw [hs]
  refine PySem.W.ks_call (P := fun _ => True) rfl (fun h _ => ⟨.machine, .inr (.inl rfl), ?_⟩) (PySem.W.ks_lone (thn (he.run pins s σ H _ I h) fun v s1 ⟨y, H1, I1, ry, q1⟩ => ?_))
  · exact PySem.W.Looks.of_pure rfl
  · obtain ⟨r, a, b, xs, ys, k1, k2, ey, hr, hqx, hqy, q⟩ := q1
    subst ey
    obtain rfl : v = Value.ref r := ry
    refine StX.star_any I1 hr fun us s2 I2 rv => ⟨trivial, ?_⟩
    cases rv with
    | cons r rr =>
      cases rr with
      | cons r' rr =>
        cases rr
        cases r
        cases r'
        exact call_zipK I2 hqx hqy fun h' i1 i2 z TI TO I3 S na nb hz hTI hTO h1 h2 fr => ⟨z, _, _, _, H1, rfl, I3, turn_zipK S na nb, ⟨hz, hTI, hTO, h1, h2⟩, fr, q⟩
section
variable {K : PySem.W.Frag} {ρ : List En}
theorem ai_zipS {te : TE} {Θ : List Dt → List En → Prop} (h : AE K te ρ fun d ρ1 => ∃ k k1 k2 l m, d = sq k [sq k1 l, sq k2 m] ∧ Θ (zpD l m) ρ1) : AI K (iZipS K te) ρ Θ := fun B σ G H mm Rr q =>
  h B σ G H mm _ fun v d ρ1 G1 H1 m1 s1 t1 r1 ⟨k, k1, k2, l, m, e, p⟩ => by
    subst e
    obtain ⟨r, zs, rfl, hr, rz⟩ := sqK_of m1.sub r1
    obtain ⟨x, y, rfl, r2, r3⟩ := rz.two
    obtain ⟨a, xs, rfl, h1, h2⟩ := sqK_of m1.sub r2
    obtain ⟨b, ys, rfl, h3, h4⟩ := sqK_of m1.sub r3
    refine ⟨r, a, b, xs, ys, k1, k2, rfl, ?_, same_sqK m1.sub h1, same_sqK m1.sub h3, q _ _ ρ1 G1 H1 m1 s1 t1 (wj_zipK h1 h3 h2 h4) p⟩
    have := same_sqK m1.sub hr
    cases k
    · exact .inr this
    · exact .inl this
end
end Sh
set_option Elab.async false
set_option linter.all false
set_option maxRecDepth 100000
set_option maxHeartbeats 4000000
/-! sum of ints, slices of tuples, a list times an int that will change, an item set at any place, tuple + tuple -/
namespace Sh
open PySem PySem.Spec PyProof.Rows L2
section
variable {K : PySem.W.Frag} {ρ : List En} {N : List En → Prop} {R : Dt → List En → Prop} {Φ : Dt → Prop} {Ψ : Dt → List En → Prop}
theorem cutD_all {l : List Dt} {lo hi : Option Int} (h : HT.sIx l.length 0 lo = 0 ∧ HT.sIx l.length l.length hi = l.length) : cutD l lo hi = l := by
  unfold cutD
  rw [h.1, h.2, List.drop_zero, Nat.sub_zero, List.take_of_length_le (Nat.le_refl _)]
theorem ae_slT {te : TE} {tl th : TO} (h : AE K te ρ fun d ρ1 => ∃ l, d = .tup l ∧ AO K tl ρ1 fun lo ρ2 => AO K th ρ2 fun hi ρ3 => Ψ (.tup (cutD l lo hi)) ρ3) : AE K (tSl (rSlA K) te tl th) ρ Ψ := fun B σ G H m Q q =>
  h B σ G H m _ fun v d ρ1 G1 H1 m1 s1 t1 r1 ⟨l, ed, h1⟩ => h1 B σ G1 H1 m1 _ fun lo ρ2 G2 H2 m2 s2 t2 h2 => h2 B σ G2 H2 m2 _ fun hi ρ3 G3 H3 m3 s3 t3 k => by
    subst ed
    obtain ⟨p, xs, rfl, hp, r⟩ := r1
    have hp3 := same_sqT s3 (same_sqT s2 hp)
    refine ⟨p, xs, rfl, same_sqT m3.sub hp3, fun w => ?_, fun _ p' hp' => ?_⟩
    · rw [r.length] at w
      have k : Ψ (.tup (cutD l lo hi)) ρ3 := k
      rw [cutD_all w] at k
      exact q _ (.tup l) ρ3 _ _ m3 ((s1.trans s2).trans s3) ((t1.trans t2).trans t3) ⟨p, xs, rfl, hp3, r.same (s2.trans s3)⟩ k
    · have nw := Nw.new (o := .tup (cutV xs lo hi)) m3.sub hp'
      exact q _ (.tup (cutD l lo hi)) ρ3 _ _ (m3.nw nw) (((s1.trans s2).trans s3).trans nw.g) (((t1.trans t2).trans t3).trans (Tr.same nw.h)) ⟨p', _, rfl, SqT.of upd_same, ((r.same (s2.trans s3)).cut).same nw.g⟩ k
end
end Sh
set_option Elab.async false
set_option linter.all false
set_option maxRecDepth 100000
set_option maxHeartbeats 4000000
/-! tuple + tuple -/
namespace Sh
open PySem PySem.Spec PyProof.Rows L2
theorem ar_catA {K : PySem.W.Frag} {Φ : Dt → Prop} {l m : List Dt} (hz : l.length + m.length ≤ sizeLine) (h : Φ (.tup (l ++ m))) : AR K (rCatA K) (.tup l) (.tup m) Φ := fun G H s x y r1 r2 Q q => by
  obtain ⟨a, xs, rfl, h1, h2⟩ := r1
  obtain ⟨b, ys, rfl, h3, h4⟩ := r2
  refine ⟨a, b, xs, ys, rfl, rfl, same_sqT s h1, same_sqT s h3, (by rw [h2.length, h4.length]; exact hz), fun e => ?_, fun _ e => ?_, fun _ _ p hp => ?_⟩
  · subst e
    have : l = [] := List.eq_nil_of_length_eq_zero h2.length.symm
    subst this
    exact q _ (.tup m) G H (Nw.refl s) ⟨b, ys, rfl, h3, h4⟩ h
  · subst e
    have : m = [] := List.eq_nil_of_length_eq_zero h4.length.symm
    subst this
    rw [List.append_nil] at h
    exact q _ (.tup l) G H (Nw.refl s) ⟨a, xs, rfl, h1, h2⟩ h
  · have n := Nw.new (o := .tup (xs ++ ys)) s hp
    exact q _ (.tup (l ++ m)) _ _ n ⟨p, _, rfl, SqT.of upd_same, (h2.same n.g).app (h4.same n.g)⟩ h
end Sh
set_option Elab.async false
set_option linter.all false
set_option maxRecDepth 100000
set_option maxHeartbeats 4000000
/-! enumerate of a tuple; xs.pop(i), list(e) as a list of one's own, its length -/
namespace Sh
open PySem PySem.Spec PyProof.Rows L2
abbrev enObj (it : Addr) : Obj := { cls := .type "enumerate", data := .fields #[.none, .bool false, .ref it, rawInt 0, .none, .none] }
abbrev tiObj (t : Addr) : Obj := { cls := .type "tuple_iterator", data := .fields #[.ref t, .int 0 0] }
theorem en_new (t : Addr) (its : Array Value) : Meets (Builtin.«enumerate.__new__» ⟨[.type "enumerate", .ref t], []⟩) fun _ R s =>
    s.heap.IsTuple t its ∧ R (.ok (.ret (.ref (s.heap.push (tiObj t)).objs.size))) { s with heap := (s.heap.push (tiObj t)).push (enObj s.heap.objs.size) } := by
  refine .of_wp fun pr wo A R s h => ?_
  obtain ⟨hp, ge, dr, tk, sy⟩ := s
  obtain ⟨ht, fin⟩ := h
  have is_sub := sub_enumerate
  have go : ∀ {A' : Around} {Ex : Value → Shared → Prop} {Qv : Value → Shared → Prop}, Qv (.ref hp.objs.size) ⟨hp.push (tiObj t), ge, dr, tk, sy⟩ → wpAny (model pr wo) A' (pyIter (.ref t)) Qv Ex ⟨hp, ge, dr, tk, sy⟩ :=
    fun q => wpAny_pyIter_tuple (s := ⟨hp, ge, dr, tk, sy⟩) ht q
  wp_walk using go
  refine wpAny_stack_any fun k => wpAny_pure ?_
  split
  · rename_i c _ _ _ _ _
    cases (c == Value.type "enumerate") <;> (wp_walk using go; exact ⟨_, rfl, fin⟩)
  · wp_walk using go
    exact ⟨_, rfl, fin⟩
section
variable {prog : Program} {w : World} {A : Around} {E : Value → Shared → Prop} {s : Shared}
theorem call_en {t : Addr} {its : Array Value} {Q : Value → Shared → Prop} (ht : s.heap.IsTuple t its)
    (q : ∀ h', IsEnum h' (s.heap.objs.size + 1) s.heap.objs.size 0 .none → h'.IsTupleIter s.heap.objs.size t 0 → (∀ b o, s.heap.get? b = some o → h'.get? b = some o) → Q (.ref (s.heap.objs.size + 1)) { s with heap := h' }) :
    wpAny (model prog w) A (call (.type "enumerate") [.ref t]) Q E s := by
  refine callType_new F.called_enumerate (by decide) (F.typeCall_enumerate_1 _) (F.newCall_enumerate_1 _) (fun o => F.args_object_init_2 o _) F.entry_enumerate_new (en_new t its) ⟨ht, ?_⟩
  have sz : (s.heap.push (tiObj t)).objs.size = s.heap.objs.size + 1 := Heap.size_push ..
  show _ ∧ _
  rw [sz]
  have e1 : ((s.heap.push (tiObj t)).push (enObj s.heap.objs.size)).get? (s.heap.objs.size + 1) = some (enObj s.heap.objs.size) := by
    have z := Heap.get?_push_size (s.heap.push (tiObj t)) (o := enObj s.heap.objs.size) rfl
    rwa [sz] at z
  exact ⟨⟨_, e1, rfl⟩, q _ e1 ⟨_, Heap.get?_push_of_some _ (Heap.get?_push_size _ rfl), rfl, rfl⟩ fun b o z => Heap.get?_push_of_some _ (Heap.get?_push_of_some _ z)⟩
end
/-- the tuple at a, each item in a new pair -/
def ItT (K : PySem.W.Frag) (a : Addr) : It :=
  ⟨fun i H => ∃ (xs : List V) (x : V), SqT K H a xs ∧ xs[i]? = some x, fun i H v H' => ∃ T x, v = .ref T ∧ H T = none ∧ H' = upd H T (.tup [.int (i : Nat), x]) ∧ ∀ xs, SqT K H a xs → xs[i]? = some x,
    fun i H => ∃ xs : List V, SqT K H a xs ∧ xs.length ≤ i⟩
theorem turn_en {P : Program} {w : World} {K : PySem.W.Frag} {es : List Expr} {k : Nat} {tp : Pos} (a e it : Addr) :
    Turn P w K (.Tuple es k tp) (ItT K a) [e, it] e (fun i h => (∃ old, IsEnum h e it ((i : Nat) : Int) old) ∧ h.IsTupleIter it a i ∧ e ≠ it) where
  mem := List.mem_cons_self
  obj := fun i h st b hb => by
    obtain ⟨⟨old, he⟩, ⟨o, ho, hc, hd⟩, _⟩ := st
    rcases List.mem_cons.mp hb with rfl | hb
    · exact ⟨_, he, fun v q => nomatch q⟩
    · cases List.mem_singleton.mp hb
      exact ⟨o, ho, fun v q => by rw [hd] at q; cases q⟩
  keep := fun i h h' st k => by
    obtain ⟨⟨old, he⟩, hit, hne⟩ := st
    exact ⟨⟨old, k e List.mem_cons_self _ he⟩, hit.at fun o q => k it (by simp) o q, hne⟩
  item := by
    intro X hP hw hK hc i pins s σ H E I hf st hg
    subst hP hw hK
    obtain ⟨⟨old, he⟩, hit, hne⟩ := st
    obtain ⟨xs, x, hq, hx⟩ := hg
    obtain ⟨its, rv, p, _⟩ := I.tuple hq
    obtain ⟨u, hu, ru⟩ := rv.get hx
    have le : e < s.heap.objs.size := Heap.lt_size he
    have li : it < s.heap.objs.size := by
      obtain ⟨_, q, _⟩ := hit
      exact Heap.lt_size q
    have ea : a ≠ e := fun z => by
      obtain ⟨o, ho, hcl, _⟩ := id p
      rw [z, he] at ho
      cases ho
      exact absurd (Value.type.inj hcl) (by decide)
    have ia : a ≠ it := fun z => by
      obtain ⟨o, ho, hcl, _⟩ := id p
      obtain ⟨o', ho', hcl', _⟩ := id hit
      rw [z, ho'] at ho
      cases ho
      rw [hcl'] at hcl
      exact absurd hcl (by decide)
    have ht : s.heap.IsTuple a its.toArray := p
    have hi : i < its.toArray.size := by
      rw [List.size_toArray]
      exact (List.getElem?_eq_some_iff.mp hu).1
    refine wpAny_pyNext_enum_itemD (Draws.tuple (A := X.A.in1) (I.ok.hd hc) it a ia its.toArray) he ⟨hit, ht⟩ hi hne (fun z => ?_) fun x' h' tk hP ho hs' hT _ kp => ?_
    · rcases List.mem_cons.mp z with z | z
      · exact hne z
      · exact ea (List.mem_singleton.mp z).symm
    · have ux : x' = u := by
        have z : its[i]? = some x' := by simpa using hP
        rw [hu] at z
        exact (Option.some.inj z).symm
      subst ux
      refine ⟨_, rfl, wpAny_letOwnedTupleGo_enum (s := { s with heap := h', toks := tk + 1 }) ho fun h2 he2 sb => ?_⟩
      have hT2 := (sb.2 _ (Nat.ne_of_gt le)).trans hT
      have new : ObjOk X.prog X.w (upd H s.heap.objs.size (.tup [.int (i : Nat), x])) h2 s.heap.objs.size (.tup [.int (i : Nat), x]) :=
        ⟨by show 2 ≤ sizeLine; decide, [.int i tk, x'], .cons ⟨_, rfl⟩ (.cons ru .nil), ⟨_, hT2, rfl, _, rfl⟩⟩
      have J : Inv X pins σ (upd H s.heap.objs.size (.tup [.int (i : Nat), x])) { s with heap := h2, toks := tk + 1 } :=
        I.turnedNew (ch := [e, it]) (fun b o nb q => (sb.2 b fun z => nb (by rw [z]; exact List.mem_cons_self)).trans (kp b o (fun z => nb (by rw [z]; exact List.mem_cons_self)) (fun z => nb (by rw [z]; simp)) q)) hf (Nat.le_refl _) new
      refine ⟨.ref s.heap.objs.size, _, J, rfl, ⟨_, x, rfl, I.hok.fresh (Nat.le_refl _), rfl, fun l hl => by rw [I.tuple_inj hl hq]; exact hx⟩, ⟨⟨x', ?_⟩, hs'.1.at fun o q => (sb.2 it hne.symm).trans q, hne⟩, fun b hb => ?_⟩
      · have e1 : ((i + 1 : Nat) : Int) = (i : Int) + 1 := by omega
        rw [e1]
        exact he2
      · have lt : b < s.heap.objs.size := by
          rcases List.mem_cons.mp hb with rfl | hb
          · exact le
          · cases List.mem_singleton.mp hb
            exact li
        rw [upd_ne (Nat.ne_of_lt lt)]
        exact (hf b hb).1
  done := by
    intro X hP hw hK hc i pins s σ H E I hf st hg
    subst hP hw hK
    obtain ⟨⟨old, he⟩, hit, hne⟩ := st
    obtain ⟨xs, hq, hx⟩ := hg
    obtain ⟨its, rv, p, _⟩ := I.tuple hq
    have ia : a ≠ it := fun z => by
      obtain ⟨o, ho, hcl, _⟩ := id p
      obtain ⟨o', ho', hcl', _⟩ := id hit
      rw [z, ho'] at ho
      cases ho
      rw [hcl'] at hcl
      exact absurd hcl (by decide)
    obtain ⟨f0, f1, f2, f3, f4, f5⟩ := hf it (by simp)
    have hl := rv.length
    have ht : s.heap.IsTuple a its.toArray := p
    have D0 := Draws.tuple (prog := X.prog) (w := X.w) (A := X.A.in1) (I.ok.hd hc) it a ia its.toArray
    have D : Draws X.prog X.w X.A.in1 it [it, a] 0 (fun _ _ => True) (fun _ h => h.IsTupleIter it a i ∧ h.IsTuple a its.toArray) :=
      ⟨fun _ h st => D0.live i h st, fun _ h h' st k => D0.frame i h h' st k, fun j s Q E hj => absurd hj (Nat.not_lt_zero j), fun s Q E st hE => wpAny_nextOf_tuple_end (I.ok.hd hc) st.1 st.2 (by simp; omega) hE⟩
    exact wpAny_pyNext_enum_endD D he ⟨hit, ht⟩ fun h' eb => ⟨rfl, I.turned (t' := s.toks) (fun b o hb q => eb b o hb q) f0 f1 f3 f4 f5⟩
  self := fun A i s Q E st h => by
    obtain ⟨⟨_, he⟩, _⟩ := st
    exact wpAny_pyIter_enum he h
def iEnT (K : PySem.W.Frag) (ta : TA) : TI := fun σ H R => ta σ H fun vs H1 => ∃ a xs, vs = [.ref a] ∧ SqT K H1 a xs ∧ R (ItT K a) H1
theorem pi_enT {X : Cx} {e : Expr} {ta : TA} {p pos tp : Pos} {es : List Expr} {k : Nat} (hg : Gl X "enumerate") (hm : X.mg "enumerate" = none) (ha : PA X [e] ta) (hs : starEach [e] X.env = [(false, eval e X.env)] := by rfl) :
    PI X (.Tuple es k tp) (.Call (.Name "enumerate" p) [e] [] pos) (iEnT X.K ta) := by
  refine ⟨fun pins s σ H R I h => Call_ (ld_blt I hg hm boot_enumerate (PyProof.Rows.callWith_type1 (thn (ha.run pos pins s σ H _ I h) fun us s1 ⟨vs, H1, I1, r1, a, xs, ex, hq, q⟩ => ?_) hs rfl))⟩
  subst ex
  obtain ⟨u, rfl, ru⟩ := vals1 r1
  obtain rfl : u = .ref a := ru
  obtain ⟨its, rv, p', hz⟩ := I1.tuple hq
  refine call_en (show s1.heap.IsTuple a its.toArray from p') fun h' he hit kp => wpAny_pyIter_enum he ?_
  have I2 : Inv X pins σ H1 { s1 with heap := h' } := I1.kept (t' := s1.toks) kp
  refine ⟨s1.heap.objs.size + 1, [s1.heap.objs.size + 1, s1.heap.objs.size], _, _, H1, rfl, I2, turn_en a (s1.heap.objs.size + 1) s1.heap.objs.size, ⟨⟨.none, he⟩, hit, Nat.succ_ne_self _⟩, fun b hb => ?_, q⟩
  have le : s1.heap.objs.size ≤ b := by
    rcases List.mem_cons.mp hb with rfl | hb
    · exact Nat.le_succ _
    · cases List.mem_singleton.mp hb
      exact Nat.le_refl _
  exact I1.fpOk le (I1.hok.fresh le)
theorem walk_enT {K : PySem.W.Frag} {a : Addr} {xs : List V} : Walk (ItT K a) xs.length (fun H => SqT K H a xs) (YPair (fun i => some (.int (i : Nat))) (fun i => xs[i]?)) := by
  refine ⟨fun i _ hi q => ⟨xs, xs[i], q, List.getElem?_eq_getElem hi⟩, fun _ q => ⟨xs, q, Nat.le_refl _⟩, fun i H v H' _ q y => ?_⟩
  obtain ⟨T, x, z1, z2, z3, z4⟩ := y
  exact ⟨T, .int (i : Nat), x, z1, z2, z3, rfl, z4 xs q⟩
section
variable {K : PySem.W.Frag} {ρ : List En} {N : List En → Prop} {R : Dt → List En → Prop} {Ψ : Dt → List En → Prop}
theorem wj_enT {a : Addr} {xs : List V} {l : List Dt} {G : Hp} (h : SqT K G a xs) (r : RDs K G l xs) : Wj K (ItT K a) (enD l) G := by
  have e := r.length
  have w := walk_enT (K := K) (a := a) (xs := xs)
  have el : (enD l).length = xs.length := by rw [enD_len, e]
  refine ⟨fun i H hi s => w.goes i H (by rw [el] at hi; exact hi) (same_sqT s h), fun H s => by rw [el]; exact w.stops H (same_sqT s h), fun i G1 H x H' hi s1 s2 y => ?_⟩
  obtain ⟨T, u, v, rfl, nT, rfl, f1, f2⟩ := w.yields i H x H' (by rw [el] at hi; exact hi) (same_sqT s2 (same_sqT s1 h)) y
  cases f1
  obtain ⟨d2, g2, q2⟩ := r.back f2
  obtain ⟨G', n, rd⟩ := nw_pair (K := K) (d := .int ((i : Nat) : Int)) s2 nT rfl (q2.same s1)
  exact ⟨G', _, n, enD_get g2, rd⟩
theorem ai_enT {ta : TA} {Θ : List Dt → List En → Prop} (h : AA K ta ρ fun ds ρ1 => ∃ l, ds = [.tup l] ∧ Θ (enD l) ρ1) : AI K (iEnT K ta) ρ Θ := fun B σ G H mm Rr q =>
  h B σ G H mm _ fun vs ds ρ1 G1 H1 m1 s1 t1 r1 ⟨l, e, p⟩ => by
    subst e
    obtain ⟨x, rfl, ⟨a, xs, rfl, h1, h2⟩⟩ := r1.one
    exact ⟨a, xs, rfl, same_sqT m1.sub h1, q _ _ ρ1 G1 H1 m1 s1 t1 (wj_enT h1 h2) p⟩
theorem enD_rg {n : Nat} {f : Nat → Dt} : enD ((List.range n).map f) = (List.range n).map fun i => .tup [.int ((i : Nat) : Int), f i] := by
  refine List.ext_getElem? fun i => ?_
  by_cases h : i < n
  · rw [enD_get (d := f i) (by rw [List.getElem?_map, List.getElem?_range h]; rfl), List.getElem?_map, List.getElem?_range h]; rfl
  · rw [List.getElem?_eq_none (by rw [enD_len]; simp; omega), List.getElem?_eq_none (by simp; omega)]
end
end Sh
set_option Elab.async false
set_option linter.all false
set_option maxRecDepth 100000
set_option maxHeartbeats 4000000
/-! grids of bounds as data -/
namespace Sh
open PySem PySem.Spec PyProof.Rows L2
abbrev Mx := Nat → Nat → Option Int
def rwD (m : Nat) (M : Mx) (k : Nat) : List Dt := (List.range m).map fun j => oD (M k j)
theorem rw_rg {n : Nat} {M : Mx} {i : Nat} : rwD n M i = (List.range n).map fun j => oD (M i j) := rfl
theorem rwD_at {m : Nat} {M : Mx} {k j : Nat} (h : j < m) : (rwD m M k)[j]? = some (oD (M k j)) := by
  unfold rwD; rw [List.getElem?_map, List.getElem?_range h]; rfl
def toF (f : Nat → Dt) : Dt → Dt
  | .int i => f i.toNat
  | _ => .non
theorem toF_k {f : Nat → Dt} {k : Nat} : toF f (.int (k : Int)) = f k := by show f (Int.toNat _) = _; rw [Int.toNat_natCast]
theorem toF_map {f : Nat → Dt} {k : Nat} : ((List.range k).map fun i => Dt.int ((i : Nat) : Int)).map (toF f) = (List.range k).map f := by
  rw [List.map_map]; exact List.map_congr_left fun i _ => toF_k
theorem cutD_to {l : List Dt} {n : Nat} : cutD l none (some (n : Int)) = l.take n := by
  unfold cutD
  rw [HT.sIx_none, HT.sIx_nat, List.drop_zero, Nat.sub_zero]
  by_cases h : n ≤ l.length
  · rw [Nat.min_eq_left h]
  · rw [Nat.min_eq_right (by omega), List.take_of_length_le (Nat.le_refl _), List.take_of_length_le (by omega)]
section
variable {K : PySem.W.Frag} {ρ : List En}
/-- enumerate of a list or a tuple -/
theorem ai_enQ {ta : TA} {Θ : List Dt → List En → Prop} (k : Bool) (h : AA K ta ρ fun ds ρ1 => ∃ l, ds = [sq k l] ∧ Θ (enD l) ρ1) : AI K (fun σ H R => iEnum K ta σ H R ∨ iEnT K ta σ H R) ρ Θ := by
  cases k
  · exact ai_or1 (ai_enum h)
  · exact ai_or2 (ai_enT h)
end
end Sh
set_option Elab.async false
set_option linter.all false
set_option maxRecDepth 100000
set_option maxHeartbeats 4000000
namespace Sh
open PySem PySem.Spec PyProof.Rows L2
abbrev s_tightest_high : Stmt := topS 2
abbrev N_tightest_high : List Str := ["one", "other"]
abbrev p_tightest_high : List Str := ["one", "other"]
theorem sc_tightest_high : FnScope N_tightest_high p_tightest_high (defScope s_tightest_high) := ⟨rfl, rfl, rfl, by decide +kernel, rfl, by decide +kernel, by decide +kernel⟩
abbrev s_loosest_high : Stmt := topS 1
abbrev N_loosest_high : List Str := ["one", "other"]
abbrev p_loosest_high : List Str := ["one", "other"]
theorem sc_loosest_high : FnScope N_loosest_high p_loosest_high (defScope s_loosest_high) := ⟨rfl, rfl, rfl, by decide +kernel, rfl, by decide +kernel, by decide +kernel⟩
abbrev s_high_within : Stmt := topS 3
abbrev N_high_within : List Str := ["one", "other"]
abbrev p_high_within : List Str := ["one", "other"]
theorem sc_high_within : FnScope N_high_within p_high_within (defScope s_high_within) := ⟨rfl, rfl, rfl, by decide +kernel, rfl, by decide +kernel, by decide +kernel⟩
abbrev s_total : Stmt := topS 4
abbrev N_total : List Str := ["one", "other"]
abbrev p_total : List Str := ["one", "other"]
theorem sc_total : FnScope N_total p_total (defScope s_total) := ⟨rfl, rfl, rfl, by decide +kernel, rfl, by decide +kernel, by decide +kernel⟩
abbrev s_no_gaps : Stmt := topS 6
abbrev N_no_gaps : List Str := ["k", "i", "j"]
abbrev p_no_gaps : List Str := ["k"]
theorem sc_no_gaps : FnScope N_no_gaps p_no_gaps (defScope s_no_gaps) := ⟨rfl, rfl, rfl, by decide +kernel, rfl, by decide +kernel, by decide +kernel⟩
abbrev s_gaps_within : Stmt := topS 7
abbrev N_gaps_within : List Str := ["one", "other", "left", "right", "a", "b"]
abbrev p_gaps_within : List Str := ["one", "other"]
theorem sc_gaps_within : FnScope N_gaps_within p_gaps_within (defScope s_gaps_within) := ⟨rfl, rfl, rfl, by decide +kernel, rfl, by decide +kernel, by decide +kernel⟩
abbrev s_gaps_join : Stmt := topS 8
abbrev N_gaps_join : List Str := ["one", "other", "rows", "a", "b"]
abbrev p_gaps_join : List Str := ["one", "other"]
theorem sc_gaps_join : FnScope N_gaps_join p_gaps_join (defScope s_gaps_join) := ⟨rfl, rfl, rfl, by decide +kernel, rfl, by decide +kernel, by decide +kernel⟩
abbrev s_gaps_meet : Stmt := topS 9
abbrev N_gaps_meet : List Str := ["one", "other", "rows", "a", "b"]
abbrev p_gaps_meet : List Str := ["one", "other"]
theorem sc_gaps_meet : FnScope N_gaps_meet p_gaps_meet (defScope s_gaps_meet) := ⟨rfl, rfl, rfl, by decide +kernel, rfl, by decide +kernel, by decide +kernel⟩
abbrev s_gaps_widen : Stmt := topS 10
abbrev N_gaps_widen : List Str := ["one", "other", "rows", "a", "b"]
abbrev p_gaps_widen : List Str := ["one", "other"]
theorem sc_gaps_widen : FnScope N_gaps_widen p_gaps_widen (defScope s_gaps_widen) := ⟨rfl, rfl, rfl, by decide +kernel, rfl, by decide +kernel, by decide +kernel⟩
abbrev s_gaps_without : Stmt := topS 11
abbrev N_gaps_without : List Str := ["gaps", "i", "a", "row", "b", "bound"]
abbrev p_gaps_without : List Str := ["gaps", "i"]
theorem sc_gaps_without : FnScope N_gaps_without p_gaps_without (defScope s_gaps_without) := ⟨rfl, rfl, rfl, by decide +kernel, rfl, by decide +kernel, by decide +kernel⟩
abbrev s_gaps_moved : Stmt := topS 12
abbrev N_gaps_moved : List Str := ["gaps", "i", "n", "moves", "k", "a", "row", "b", "bound"]
abbrev p_gaps_moved : List Str := ["gaps", "i", "n"]
theorem sc_gaps_moved : FnScope N_gaps_moved p_gaps_moved (defScope s_gaps_moved) := ⟨rfl, rfl, rfl, by decide +kernel, rfl, by decide +kernel, by decide +kernel⟩
abbrev s_gaps_bound : Stmt := topS 13
abbrev N_gaps_bound : List Str := ["gaps", "i", "j", "n", "a", "row", "b", "bound"]
abbrev p_gaps_bound : List Str := ["gaps", "i", "j", "n"]
theorem sc_gaps_bound : FnScope N_gaps_bound p_gaps_bound (defScope s_gaps_bound) := ⟨rfl, rfl, rfl, by decide +kernel, rfl, by decide +kernel, by decide +kernel⟩
theorem zp_rg {f g : Nat → Dt} {n : Nat} : zpD ((List.range n).map f) ((List.range n).map g) = (List.range n).map fun i => .tup [f i, g i] := by
  unfold zpD
  rw [List.zip_map', List.map_map]; rfl
theorem rg_at {n i : Nat} {f : Nat → Dt} {d : Dt} (h : ((List.range n).map f)[i]? = some d) : i < n ∧ d = f i := by
  have l := (List.getElem?_eq_some_iff.mp h).1
  rw [List.length_map, List.length_range] at l
  rw [List.getElem?_map, List.getElem?_range l] at h
  exact ⟨l, by cases h; rfl⟩
def tmH : Option Int → Option Int → Option Int
  | some a, some b => some (if b < a then b else a)
  | some a, none => some a
  | none, b => b
def hwI (a b : Option Int) : Bool := match b with | none => true | some y => match a with | none => false | some x => decide (x ≤ y)
def jnH : Option Int → Option Int → Option Int
  | some a, some b => some (if b > a then b else a)
  | _, _ => none
def adO : Option Int → Option Int → Option Int
  | some a, some b => some (a + b)
  | _, _ => none
def wdH (a b : Option Int) : Option Int := if hwI b a = true then a else none
def S_lh (ds : List Dt) (r : Dt) : Prop := ∃ a b, ds = [oD a, oD b] ∧ r = oD (jnH a b)
def S_to (ds : List Dt) (r : Dt) : Prop := ∃ a b, ds = [oD a, oD b] ∧ r = oD (adO a b)
def S_th (ds : List Dt) (r : Dt) : Prop := ∃ a b, ds = [oD a, oD b] ∧ r = oD (tmH a b)
def S_hw (ds : List Dt) (r : Dt) : Prop := ∃ a b, ds = [oD a, oD b] ∧ r = .bl (hwI a b)
/-- bounds as data: a tuple or a list of tuples or lists -/
def gD (k k' : Bool) (n : Nat) (M : Mx) : Dt := sq k ((List.range n).map fun i => sq k' (rwD n M i))
def noM : Mx := fun i j => if j = i then some 0 else none
def S_no (ds : List Dt) (r : Dt) : Prop := ∃ n : Nat, ds = [.int (n : Int)] ∧ n ≤ 98 ∧ r = gD true true n noM
def wiM (n : Nat) (M N : Mx) : Bool := (List.range n).all fun i => (List.range n).all fun j => hwI (M i j) (N i j)
def S_gw (ds : List Dt) (r : Dt) : Prop := ∃ a a' b b' n M N, ds = [gD a a' n M, gD b b' n N] ∧ n ≤ 90 ∧ r = .bl (wiM n M N)
def S_gm (f : Option Int → Option Int → Option Int) (ds : List Dt) (r : Dt) : Prop := ∃ a a' b b' n M N, ds = [gD a a' n M, gD b b' n N] ∧ n ≤ 98 ∧ r = gD true true n (fun i j => f (M i j) (N i j))
def unO : Dt → Option Int
  | .int i => some i
  | _ => none
theorem unO_is {o : Option Int} : unO (oD o) = o := by cases o <;> rfl
def its : Dt → List Dt
  | .tup l => l
  | .lst l => l
  | _ => []
theorem its_sq {k : Bool} {l : List Dt} : its (sq k l) = l := by cases k <;> rfl
def celF (f : Option Int → Option Int → Option Int) : Dt → Dt
  | .tup [p, q] => oD (f (unO p) (unO q))
  | _ => .non
def rowF (f : Option Int → Option Int → Option Int) : Dt → Dt
  | .tup [x, y] => .tup ((zpD (its x) (its y)).map (celF f))
  | _ => .non
theorem zp_row {n i : Nat} {M N : Mx} : zpD (rwD n M i) (rwD n N i) = (List.range n).map fun j => .tup [oD (M i j), oD (N i j)] := by rw [rw_rg, rw_rg, zp_rg]
theorem cel_map {f : Option Int → Option Int → Option Int} {n i : Nat} {M N : Mx} : ((List.range n).map fun j => Dt.tup [oD (M i j), oD (N i j)]).map (celF f) = rwD n (fun i j => f (M i j) (N i j)) i := by
  rw [rw_rg, List.map_map]
  refine List.map_congr_left fun j _ => ?_
  show oD (f (unO (oD (M i j))) (unO (oD (N i j)))) = _
  rw [unO_is, unO_is]
theorem row_is {f : Option Int → Option Int → Option Int} {n i : Nat} {k k' : Bool} {M N : Mx} : rowF f (.tup [sq k (rwD n M i), sq k' (rwD n N i)]) = .tup (rwD n (fun i j => f (M i j) (N i j)) i) := by
  show Dt.tup _ = _
  rw [its_sq, its_sq, zp_row, cel_map]
def hwF : Dt → Dt → Dt
  | _, .tup [p, q] => .bl (hwI (unO p) (unO q))
  | _, _ => .non
def hwL : Dt → List Dt
  | .tup [x, y] => zpD (its x) (its y)
  | _ => []
theorem hwL_is {n i : Nat} {k k' : Bool} {M N : Mx} : hwL (.tup [sq k (rwD n M i), sq k' (rwD n N i)]) = (List.range n).map fun j => .tup [oD (M i j), oD (N i j)] := by
  show zpD (its _) (its _) = _
  rw [its_sq, its_sq, zp_row]
theorem hw_flat {n : Nat} {k k' : Bool} {M N : Mx} : (((List.range n).map fun i => Dt.tup [sq k (rwD n M i), sq k' (rwD n N i)]).flatMap fun d => (hwL d).map (hwF d)) = (((List.range n).flatMap fun i => (List.range n).map fun j => hwI (M i j) (N i j))).map Dt.bl := by
  rw [List.flatMap_map, List.map_flatMap]
  congr 1
  funext i
  rw [hwL_is, List.map_map, List.map_map]
  refine List.map_congr_left fun j _ => ?_
  show Dt.bl (hwI (unO (oD (M i j))) (unO (oD (N i j)))) = _
  rw [unO_is, unO_is]; rfl
theorem all_flat {l : List Nat} {f : Nat → List Bool} : (l.flatMap f).all id = l.all fun i => (f i).all id := by
  induction l with
  | nil => rfl
  | cons a l ih => rw [List.flatMap_cons, List.all_append, ih, List.all_cons]
theorem flat_len {n : Nat} {f : Nat → Nat → Bool} : ((List.range n).flatMap fun i => (List.range n).map fun j => f i j).length = n * n := by
  have : ∀ l : List Nat, (l.flatMap fun i => (List.range n).map fun j => f i j).length = l.length * n := fun l => by
    induction l with
    | nil => simp
    | cons a l ih => rw [List.flatMap_cons, List.length_append, ih, List.length_map, List.length_range, List.length_cons, Nat.succ_mul]; omega
  rw [this, List.length_range]
section
variable {P : Program} {w : World} {K : PySem.W.Frag} {mg : Str → Option Value} {base : Heap}
theorem ok_tightest_high (bl : Blts mg)   {f : Addr} {fd : FuncData} (F : Fun K "tightest_high" "tightest_high" s_tightest_high f fd) : FnOk P w K mg base CX0 1 f fd p_tightest_high (spP K (S_th)) := by
  refine okP F sc_tightest_high (fun ds r h => ?_) (fun cdv A outer s H E hr ds r h => ?_)
  · obtain ⟨a, b, rfl, rfl⟩ := h
    rfl
  obtain ⟨a, b, rfl, rfl⟩ := h
  refine ⟨_, (pss_cons (ps_if (pt_cmpR op_isN (pv 0) pe_non (nomark _)) (pss_one (ps_ret (pv 1))) pss_nil)
    (pss_cons (ps_if (pt_cmpR op_isN (pv 1) pe_non (nomark _)) (pss_one (ps_ret (pv 0))) pss_nil)
    (pss_one (ps_ret (pe_callB (call_min2 rfl) rfl bl.min (by decide +kernel) (pa_cons (pv 0) (pa_cons (pv 1) pa_nil))))))), ?_⟩
  change AS K _ [En.da _, En.da _] _ _
  try simp only [cxOf_K]
  cases a with
  | none =>
    cases b with
    | none =>
      repeat' (first
        | with_reducible apply as_seq
        | with_reducible apply as_ret
        | with_reducible apply as_if
        | ((with_reducible apply ae_var); · rfl)
        | with_reducible apply ae_non
        | with_reducible apply ae_op
        | with_reducible apply at_test
        | with_reducible apply ar_isN
        | refine ⟨_, rfl, ?_⟩
        | (refine ⟨fun hc => ?_, fun hc => ?_⟩ <;> (first | (exfalso; exact absurd (show false = true from hc) (by decide)) | (exfalso; exact absurd (show true = false from hc) (by decide)) | (exfalso; simp at hc; done) | skip))
        | rfl
        | fail)
    | some y =>
      repeat' (first
        | with_reducible apply as_seq
        | with_reducible apply as_ret
        | with_reducible apply as_if
        | ((with_reducible apply ae_var); · rfl)
        | with_reducible apply ae_non
        | with_reducible apply ae_op
        | with_reducible apply at_test
        | with_reducible apply ar_isN
        | refine ⟨_, rfl, ?_⟩
        | (refine ⟨fun hc => ?_, fun hc => ?_⟩ <;> (first | (exfalso; exact absurd (show false = true from hc) (by decide)) | (exfalso; exact absurd (show true = false from hc) (by decide)) | (exfalso; simp at hc; done) | skip))
        | rfl
        | fail)
  | some x =>
    cases b with
    | none =>
      repeat' (first
        | with_reducible apply as_seq
        | with_reducible apply as_ret
        | with_reducible apply as_next
        | with_reducible apply as_if
        | ((with_reducible apply ae_var); · rfl)
        | with_reducible apply ae_non
        | with_reducible apply ae_op
        | with_reducible apply at_test
        | with_reducible apply ar_isN
        | refine ⟨_, rfl, ?_⟩
        | (refine ⟨fun hc => ?_, fun hc => ?_⟩ <;> (first | (exfalso; exact absurd (show false = true from hc) (by decide)) | (exfalso; exact absurd (show true = false from hc) (by decide)) | (exfalso; simp at hc; done) | skip))
        | rfl
        | fail)
    | some y =>
      repeat' (first
        | with_reducible apply as_seq
        | with_reducible apply as_ret
        | with_reducible apply as_next
        | with_reducible apply as_if
        | ((with_reducible apply ae_var); · rfl)
        | with_reducible apply ae_non
        | with_reducible apply ae_op
        | with_reducible apply aa_nil
        | with_reducible apply aa_cons
        | with_reducible apply ae_cb
        | with_reducible apply at_test
        | with_reducible apply ar_isN
        | with_reducible apply ac_min2
        | refine ⟨_, rfl, ?_⟩
        | (refine ⟨fun hc => ?_, fun hc => ?_⟩ <;> (first | (exfalso; exact absurd (show false = true from hc) (by decide)) | (exfalso; exact absurd (show true = false from hc) (by decide)) | (exfalso; simp at hc; done) | skip))
        | rfl
        | simp only [oD_some, oD_none]
        | fail)
theorem ok_loosest_high (bl : Blts mg)   {f : Addr} {fd : FuncData} (F : Fun K "loosest_high" "loosest_high" s_loosest_high f fd) : FnOk P w K mg base CX0 1 f fd p_loosest_high (spP K (S_lh)) := by
  refine okP F sc_loosest_high (fun ds r h => ?_) (fun cdv A outer s H E hr ds r h => ?_)
  · obtain ⟨a, b, rfl, rfl⟩ := h
    rfl
  obtain ⟨a, b, rfl, rfl⟩ := h
  refine ⟨_, (pss_cons (ps_if (PW.pt (pw_or (pt_cmpR op_isN (pv 0) pe_non (nomark _)) (pw_or1 (pt_cmpR op_isN (pv 1) pe_non (nomark _))))) (pss_one (ps_ret pe_non)) pss_nil)
    (pss_one (ps_ret (pe_callB (call_max2 rfl) rfl bl.max (by decide +kernel) (pa_cons (pv 0) (pa_cons (pv 1) pa_nil)))))), ?_⟩
  change AS K _ [En.da _, En.da _] _ _
  try simp only [cxOf_K]
  cases a with
  | none =>
    cases b with
    | none =>
      repeat' (first
        | with_reducible apply as_seq
        | with_reducible apply as_ret
        | with_reducible apply as_if
        | ((with_reducible apply ae_var); · rfl)
        | with_reducible apply ae_non
        | with_reducible apply ae_op
        | with_reducible apply at_test
        | with_reducible apply at_or
        | with_reducible apply ar_isN
        | refine ⟨_, rfl, ?_⟩
        | (refine ⟨fun hc => ?_, fun hc => ?_⟩ <;> (first | (exfalso; exact absurd (show false = true from hc) (by decide)) | (exfalso; exact absurd (show true = false from hc) (by decide)) | (exfalso; simp at hc; done) | skip))
        | rfl
        | fail)
    | some y =>
      repeat' (first
        | with_reducible apply as_seq
        | with_reducible apply as_ret
        | with_reducible apply as_if
        | ((with_reducible apply ae_var); · rfl)
        | with_reducible apply ae_non
        | with_reducible apply ae_op
        | with_reducible apply at_test
        | with_reducible apply at_or
        | with_reducible apply ar_isN
        | refine ⟨_, rfl, ?_⟩
        | (refine ⟨fun hc => ?_, fun hc => ?_⟩ <;> (first | (exfalso; exact absurd (show false = true from hc) (by decide)) | (exfalso; exact absurd (show true = false from hc) (by decide)) | (exfalso; simp at hc; done) | skip))
        | rfl
        | fail)
  | some x =>
    cases b with
    | none =>
      repeat' (first
        | with_reducible apply as_seq
        | with_reducible apply as_ret
        | with_reducible apply as_if
        | ((with_reducible apply ae_var); · rfl)
        | with_reducible apply ae_non
        | with_reducible apply ae_op
        | with_reducible apply at_test
        | with_reducible apply at_or
        | with_reducible apply ar_isN
        | refine ⟨_, rfl, ?_⟩
        | (refine ⟨fun hc => ?_, fun hc => ?_⟩ <;> (first | (exfalso; exact absurd (show false = true from hc) (by decide)) | (exfalso; exact absurd (show true = false from hc) (by decide)) | (exfalso; simp at hc; done) | skip))
        | rfl
        | fail)
    | some y =>
      repeat' (first
        | with_reducible apply as_seq
        | with_reducible apply as_ret
        | with_reducible apply as_next
        | with_reducible apply as_if
        | ((with_reducible apply ae_var); · rfl)
        | with_reducible apply ae_non
        | with_reducible apply ae_op
        | with_reducible apply aa_nil
        | with_reducible apply aa_cons
        | with_reducible apply ae_cb
        | with_reducible apply at_test
        | with_reducible apply at_or
        | with_reducible apply ar_isN
        | with_reducible apply ac_max2
        | refine ⟨_, rfl, ?_⟩
        | (refine ⟨fun hc => ?_, fun hc => ?_⟩ <;> (first | (exfalso; exact absurd (show false = true from hc) (by decide)) | (exfalso; exact absurd (show true = false from hc) (by decide)) | (exfalso; simp at hc; done) | skip))
        | rfl
        | simp only [oD_some, oD_none]
        | fail)
theorem ok_high_within (bl : Blts mg)   {f : Addr} {fd : FuncData} (F : Fun K "high_within" "high_within" s_high_within f fd) : FnOk P w K mg base CX0 1 f fd p_high_within (spP K (S_hw)) := by
  refine okP F sc_high_within (fun ds r h => ?_) (fun cdv A outer s H E hr ds r h => ?_)
  · obtain ⟨a, b, rfl, rfl⟩ := h
    rfl
  obtain ⟨a, b, rfl, rfl⟩ := h
  refine ⟨_, (pss_one (ps_ret (pe_or (pe_cmpR op_isN (pv 1) pe_non (nomark _)) (pe_one (pe_and (pe_cmpR op_notN (pv 0) pe_non (nomark _)) (pe_one (pe_cmpR op_le (pv 0) (pv 1) (nomark _)))))))), ?_⟩
  change AS K _ [En.da _, En.da _] _ _
  try simp only [cxOf_K]
  cases a with
  | none =>
    cases b with
    | none =>
      repeat' (first
        | with_reducible apply as_ret
        | ((with_reducible apply ae_var); · rfl)
        | with_reducible apply ae_non
        | with_reducible apply ae_op
        | with_reducible apply ae_orV
        | with_reducible apply ar_isN
        | refine ⟨_, rfl, ?_⟩
        | (refine ⟨fun hc => ?_, fun hc => ?_⟩ <;> (first | (exfalso; exact absurd (show false = true from hc) (by decide)) | (exfalso; exact absurd (show true = false from hc) (by decide)) | (exfalso; simp at hc; done) | skip))
        | rfl
        | fail)
    | some y =>
      repeat' (first
        | with_reducible apply as_ret
        | ((with_reducible apply ae_var); · rfl)
        | with_reducible apply ae_non
        | with_reducible apply ae_op
        | with_reducible apply ae_andV
        | with_reducible apply ae_orV
        | with_reducible apply ar_isN
        | with_reducible apply ar_notN
        | refine ⟨_, rfl, ?_⟩
        | (refine ⟨fun hc => ?_, fun hc => ?_⟩ <;> (first | (exfalso; exact absurd (show false = true from hc) (by decide)) | (exfalso; exact absurd (show true = false from hc) (by decide)) | (exfalso; simp at hc; done) | skip))
        | rfl
        | fail)
  | some x =>
    cases b with
    | none =>
      repeat' (first
        | with_reducible apply as_ret
        | ((with_reducible apply ae_var); · rfl)
        | with_reducible apply ae_non
        | with_reducible apply ae_op
        | with_reducible apply ae_orV
        | with_reducible apply ar_isN
        | refine ⟨_, rfl, ?_⟩
        | (refine ⟨fun hc => ?_, fun hc => ?_⟩ <;> (first | (exfalso; exact absurd (show false = true from hc) (by decide)) | (exfalso; exact absurd (show true = false from hc) (by decide)) | (exfalso; simp at hc; done) | skip))
        | rfl
        | fail)
    | some y =>
      repeat' (first
        | with_reducible apply as_ret
        | ((with_reducible apply ae_var); · rfl)
        | with_reducible apply ae_non
        | with_reducible apply ae_op
        | with_reducible apply ae_andV
        | with_reducible apply ae_orV
        | with_reducible apply ar_I0b
        | with_reducible apply ar_isN
        | with_reducible apply ar_notN
        | refine ⟨_, rfl, ?_⟩
        | (refine ⟨fun hc => ?_, fun hc => ?_⟩ <;> (first | (exfalso; exact absurd (show false = true from hc) (by decide)) | (exfalso; exact absurd (show true = false from hc) (by decide)) | (exfalso; simp at hc; done) | skip))
        | rfl
        | simp only [oD_some, oD_none]
        | fail)
theorem ok_total (bl : Blts mg)   {f : Addr} {fd : FuncData} (F : Fun K "total" "total" s_total f fd) : FnOk P w K mg base CX0 1 f fd p_total (spP K (S_to)) := by
  refine okP F sc_total (fun ds r h => ?_) (fun cdv A outer s H E hr ds r h => ?_)
  · obtain ⟨a, b, rfl, rfl⟩ := h
    rfl
  obtain ⟨a, b, rfl, rfl⟩ := h
  refine ⟨_, (pss_cons (ps_if (PW.pt (pw_or (pt_cmpR op_isN (pv 0) pe_non (nomark _)) (pw_or1 (pt_cmpR op_isN (pv 1) pe_non (nomark _))))) (pss_one (ps_ret pe_non)) pss_nil)
    (pss_one (ps_ret (pe_op op_add (pv 0) (pv 1))))), ?_⟩
  change AS K _ [En.da _, En.da _] _ _
  try simp only [cxOf_K]
  cases a with
  | none =>
    cases b with
    | none =>
      repeat' (first
        | with_reducible apply as_seq
        | with_reducible apply as_ret
        | with_reducible apply as_if
        | ((with_reducible apply ae_var); · rfl)
        | with_reducible apply ae_non
        | with_reducible apply ae_op
        | with_reducible apply at_test
        | with_reducible apply at_or
        | with_reducible apply ar_isN
        | refine ⟨_, rfl, ?_⟩
        | (refine ⟨fun hc => ?_, fun hc => ?_⟩ <;> (first | (exfalso; exact absurd (show false = true from hc) (by decide)) | (exfalso; exact absurd (show true = false from hc) (by decide)) | (exfalso; simp at hc; done) | skip))
        | rfl
        | fail)
    | some y =>
      repeat' (first
        | with_reducible apply as_seq
        | with_reducible apply as_ret
        | with_reducible apply as_if
        | ((with_reducible apply ae_var); · rfl)
        | with_reducible apply ae_non
        | with_reducible apply ae_op
        | with_reducible apply at_test
        | with_reducible apply at_or
        | with_reducible apply ar_isN
        | refine ⟨_, rfl, ?_⟩
        | (refine ⟨fun hc => ?_, fun hc => ?_⟩ <;> (first | (exfalso; exact absurd (show false = true from hc) (by decide)) | (exfalso; exact absurd (show true = false from hc) (by decide)) | (exfalso; simp at hc; done) | skip))
        | rfl
        | fail)
  | some x =>
    cases b with
    | none =>
      repeat' (first
        | with_reducible apply as_seq
        | with_reducible apply as_ret
        | with_reducible apply as_if
        | ((with_reducible apply ae_var); · rfl)
        | with_reducible apply ae_non
        | with_reducible apply ae_op
        | with_reducible apply at_test
        | with_reducible apply at_or
        | with_reducible apply ar_isN
        | refine ⟨_, rfl, ?_⟩
        | (refine ⟨fun hc => ?_, fun hc => ?_⟩ <;> (first | (exfalso; exact absurd (show false = true from hc) (by decide)) | (exfalso; exact absurd (show true = false from hc) (by decide)) | (exfalso; simp at hc; done) | skip))
        | rfl
        | fail)
    | some y =>
      repeat' (first
        | with_reducible apply as_seq
        | with_reducible apply as_ret
        | with_reducible apply as_next
        | with_reducible apply as_if
        | ((with_reducible apply ae_var); · rfl)
        | with_reducible apply ae_non
        | with_reducible apply ae_op
        | with_reducible apply at_test
        | with_reducible apply at_or
        | with_reducible apply ar_I0i
        | with_reducible apply ar_isN
        | refine ⟨_, rfl, ?_⟩
        | (refine ⟨fun hc => ?_, fun hc => ?_⟩ <;> (first | (exfalso; exact absurd (show false = true from hc) (by decide)) | (exfalso; exact absurd (show true = false from hc) (by decide)) | (exfalso; simp at hc; done) | skip))
        | rfl
        | simp only [oD_some, oD_none]
        | fail)
theorem ok_no_gaps (bl : Blts mg)   {f : Addr} {fd : FuncData} (F : Fun K "no_gaps" "no_gaps" s_no_gaps f fd) : FnOk P w K mg base CX0 1 f fd p_no_gaps (spP K (S_no)) := by
  refine okP F sc_no_gaps (fun ds r h => ?_) (fun cdv A outer s H E hr ds r h => ?_)
  · obtain ⟨n, rfl, n98, rfl⟩ := h
    rfl
  obtain ⟨n, rfl, n98, rfl⟩ := h
  refine ⟨_, (pss_one (ps_ret (pe_callTy call_tuple_of rfl bl.tuple (by decide +kernel) (pa_cons (pe_lc (own := [("i", 1)]) (g := (gName 1)) (te := (tCB (fun xs H Q => ∃ p ys, xs = [.ref p] ∧ ((SqL K H p ys ∧ ∀ l, H l = none → Q (.ref l) (upd H l (.tup ys))) ∨ (SqT K H p ys ∧ Q (.ref p) H))) (tCons (tLc (iRng1 (tCons (tVar 0) tNil)) (gName 2) tYes (tIf (tTest (tOp rEq (tVar 2) (tVar 1))) (tC (.int 0)) (tC .non)) (List.map (fun x => x.2) [(("j" : Str), (2 : Nat))])) tNil))) (tt := tYes) rfl sc_no_gaps.nd (pi_range1 rfl bl.range (pa_cons (pv 0) pa_nil)) (blkOk_by (N := N_no_gaps) (sc := defScope s_no_gaps) (by decide +kernel)) (fun _ _ _ _ _ => (pg_name (i := 1) sc_no_gaps.nd rfl (by first | exact Or.inl rfl | exact Or.inr rfl))) (fun _ _ _ _ _ => pts_nil) (fun _ _ _ _ _ => (pe_callTy call_tuple_of rfl bl.tuple (by decide +kernel) (pa_cons (by exact (pe_lc (own := [("j", 2)]) (g := (gName 2)) (te := (tIf (tTest (tOp rEq (tVar 2) (tVar 1))) (tC (.int 0)) (tC .non))) (tt := tYes) rfl sc_no_gaps.nd (pi_range1 rfl bl.range (pa_cons (pv 0) pa_nil)) (blkOk_by (by rfl)) (fun _ _ _ _ _ => (pg_name (i := 2) sc_no_gaps.nd rfl (by first | exact Or.inl rfl | exact Or.inr rfl))) (fun _ _ _ _ _ => pts_nil) (fun _ _ _ _ _ => (pe_ifExp (pt_cmpR op_eq (pv 2) (pv 1) (nomark _)) pe_int pe_non)))) pa_nil)))) pa_nil)))), ?_⟩
  change AS K _ [En.da _, En.no, En.no] _ _
  try simp only [cxOf_K]
  have z9 : 9000 ≤ sizeLine := by decide
  have z9 : 9000 ≤ sizeLine := by decide
  have rg : ∀ k : Nat, (rgD 0 ((k : Nat) : Int).toNat) = (List.range k).map fun i => Dt.int ((i : Nat) : Int) := fun k => by
    unfold rgD
    rw [Int.toNat_natCast]
    exact List.map_congr_left fun i _ => by rw [Int.zero_add]
  have rl : ∀ k : Nat, ((List.range k).map fun i => Dt.int ((i : Nat) : Int)).length = k := fun k => by rw [List.length_map, List.length_range]
  refine as_ret (ae_cb (aa_cons (ae_lcMap (toF fun i => .tup (rwD n noM i)) (ai_rng1 (aa_cons (ae_var rfl (aa_nil ⟨_, rfl, by omega, by omega, ?_⟩)))))))
  rw [rg]
  refine ⟨by rw [rl]; omega, fun d hd => ?_, ?_⟩
  · obtain ⟨i, hi, rfl⟩ := List.mem_map.mp hd
    refine agv_name (by decide) (ae_cb (aa_cons (ae_lcMap (toF fun j => oD (noM i j)) (ai_rng1 (aa_cons (ae_var rfl (aa_nil ⟨_, rfl, by omega, by omega, ?_⟩)))))))
    rw [rg]
    refine ⟨by rw [rl]; omega, fun d hd => ?_, ?_⟩
    · obtain ⟨j, hj, rfl⟩ := List.mem_map.mp hd
      refine agv_name (by decide) (ae_if (at_test (ae_op (ae_var rfl (ae_var rfl (ar_eq3 ⟨rfl, rfl, rfl⟩ ⟨_, rfl, fun h => ae_int ⟨?_, rfl⟩, fun h => ae_non ⟨?_, rfl⟩⟩))))))
      · have e : j = i := by have := of_decide_eq_true h; injection this with q; omega
        rw [toF_k]; unfold noM; rw [if_pos e]; rfl
      · have e : ¬ j = i := by have := of_decide_eq_false h; intro z; exact this (by rw [z])
        rw [toF_k]; unfold noM; rw [if_neg e]; rfl
    · rw [toF_map, ← rw_rg]
      exact aa_nil (ac_tupL ⟨by rw [toF_k], rfl⟩)
  · rw [toF_map]
    exact aa_nil (ac_tupL rfl)
theorem ok_gaps_within (bl : Blts mg) {g_high_within : Addr} {d_high_within : FuncData} (c_high_within : Cal P w K mg base 1 "high_within" p_high_within (spP K S_hw) g_high_within d_high_within)  {f : Addr} {fd : FuncData} (F : Fun K "gaps_within" "gaps_within" s_gaps_within f fd) : FnOk P w K mg base CX0 2 f fd p_gaps_within (spP K (S_gw)) := by
  refine okP F sc_gaps_within (fun ds r h => ?_) (fun cdv A outer s H E hr ds r h => ?_)
  · obtain ⟨a, a', b, b', n, M, N, rfl, n90, rfl⟩ := h
    rfl
  obtain ⟨a, a', b, b', n, M, N, rfl, n90, rfl⟩ := h
  refine ⟨_, (pss_one (ps_ret (pe_callB (cr_all rfl) rfl bl.all (by decide +kernel) (pa_cons (pe_lc2 (own := [("left", 2), ("right", 3), ("a", 4), ("b", 5)]) (vs1 := [4, 5]) (g := (gTup K 2 (gCons (gName 2) (gCons (gName 3) gNil)))) (g1 := (gTup K 2 (gCons (gName 4) (gCons (gName 5) gNil)))) (tt := tYes) (tt1 := tYes) (te := (tCall (spP K S_hw) [] E0 (tCons (tVar 4) (tCons (tVar 5) tNil)))) (wi1 := (iZipK K (tCons (tVar 2) (tCons (tVar 3) tNil)))) rfl sc_gaps_within.nd (pi_zipK rfl bl.zip (pa_cons (pv 0) (pa_cons (pv 1) pa_nil))) (blkOk_by (N := N_gaps_within) (sc := defScope s_gaps_within) (by decide +kernel)) (by decide) (fun _ _ _ _ _ => (pg_tup rfl (pgs_cons (pg_name (i := 2) sc_gaps_within.nd rfl (by first | exact Or.inl rfl | exact Or.inr rfl)) (pgs_cons (pg_name (i := 3) sc_gaps_within.nd rfl (by first | exact Or.inl rfl | exact Or.inr rfl)) pgs_nil)))) (fun _ _ _ _ _ => pts_nil) (fun _ _ _ _ _ => (pi_zipK rfl bl.zip (pa_cons (pv 2) (pa_cons (pv 3) pa_nil)))) (fun _ _ _ _ _ => (pg_tup rfl (pgs_cons (pg_name (i := 4) sc_gaps_within.nd rfl (by first | exact Or.inl rfl | exact Or.inr rfl)) (pgs_cons (pg_name (i := 5) sc_gaps_within.nd rfl (by first | exact Or.inl rfl | exact Or.inr rfl)) pgs_nil)))) (fun _ _ _ _ _ => pts_nil) (fun _ _ _ _ _ => (pe_call c_high_within.ok (hr.mono (by decide)) rfl c_high_within.mg c_high_within.kp c_high_within.bi .nil pass0 (pa_cons (pv 4) (pa_cons (pv 5) pa_nil))))) pa_nil)))), ?_⟩
  change AS K _ [En.da _, En.da _, En.no, En.no, En.no, En.no] _ _
  try simp only [cxOf_K]
  have z9 : 9000 ≤ sizeLine := by decide
  have hnn : n * n ≤ 8100 := Nat.mul_le_mul n90 n90
  refine as_ret (ae_cb (aa_cons (ae_lc2Map hwF hwL (by decide) (ai_zipK (aa_cons (ae_var rfl (aa_cons (ae_var rfl (aa_nil ⟨a, b, _, _, rfl, ?_⟩)))))))))
  rw [zp_rg]
  refine ⟨by rw [hw_flat, List.length_map, flat_len]; omega, fun d hd => ?_, ?_⟩
  · obtain ⟨i, hi, rfl⟩ := List.mem_map.mp hd
    refine agv_tup rfl (agvs_cons (agv_name (by decide) (agvs_cons (agv_name (by decide) (agvs_nil (ai_zipK (aa_cons (ae_var rfl (aa_cons (ae_var rfl (aa_nil ⟨a', b', _, _, rfl, ?_⟩)))))))))))
    rw [hwL_is, zp_row]
    refine ⟨rfl, rfl, fun d1 hd1 => ?_⟩
    obtain ⟨j, hj, rfl⟩ := List.mem_map.mp hd1
    refine agv_tup rfl (agvs_cons (agv_name (by decide) (agvs_cons (agv_name (by decide) (agvs_nil (ae_call (aa_cons (ae_var rfl (aa_cons (ae_var rfl (aa_nil ⟨_, ⟨_, _, rfl, rfl⟩, ?_⟩)))))))))))
    exact ⟨by show _ = Dt.bl (hwI (unO (oD (M i j))) (unO (oD (N i j)))); rw [unO_is, unO_is], rfl⟩
  · rw [hw_flat]
    refine aa_nil (ac_all ?_)
    rw [all_flat]
    show _ = Dt.bl (wiM n M N)
    unfold wiM
    congr 2
    funext i
    rw [List.all_map]; rfl
theorem ok_gaps_join (bl : Blts mg) {g_loosest_high : Addr} {d_loosest_high : FuncData} (c_loosest_high : Cal P w K mg base 1 "loosest_high" p_loosest_high (spP K S_lh) g_loosest_high d_loosest_high)  {f : Addr} {fd : FuncData} (F : Fun K "gaps_join" "gaps_join" s_gaps_join f fd) : FnOk P w K mg base CX0 2 f fd p_gaps_join (spP K (S_gm jnH)) := by
  refine okP F sc_gaps_join (fun ds r h => ?_) (fun cdv A outer s H E hr ds r h => ?_)
  · obtain ⟨a, a', b, b', n, M, N, rfl, n98, rfl⟩ := h
    rfl
  obtain ⟨a, a', b, b', n, M, N, rfl, n98, rfl⟩ := h
  refine ⟨_, (pss_one (ps_ret (pe_callTy call_tuple_of rfl bl.tuple (by decide +kernel) (pa_cons (pe_lc (own := [("rows", 2)]) (g := (gName 2)) (te := (tCB (fun xs H Q => ∃ p ys, xs = [.ref p] ∧ ((SqL K H p ys ∧ ∀ l, H l = none → Q (.ref l) (upd H l (.tup ys))) ∨ (SqT K H p ys ∧ Q (.ref p) H))) (tCons (tLc (iZipS K (tVar 2)) (gTup K 2 (gCons (gName 3) (gCons (gName 4) gNil))) tYes (tCall (spP K S_lh) [] E0 (tCons (tVar 3) (tCons (tVar 4) tNil))) (List.map (fun x => x.2) [(("a" : Str), (3 : Nat)), (("b" : Str), (4 : Nat))])) tNil))) (tt := tYes) rfl sc_gaps_join.nd (pi_zipN rfl bl.zip (pa_cons (pv 0) (pa_cons (pv 1) pa_nil))) (blkOk_by (N := N_gaps_join) (sc := defScope s_gaps_join) (by decide +kernel)) (fun _ _ _ _ _ => (pg_name (i := 2) sc_gaps_join.nd rfl (by first | exact Or.inl rfl | exact Or.inr rfl))) (fun _ _ _ _ _ => pts_nil) (fun _ _ _ _ _ => (pe_callTy call_tuple_of rfl bl.tuple (by decide +kernel) (pa_cons (by exact (pe_lc (own := [("a", 3), ("b", 4)]) (g := (gTup K 2 (gCons (gName 3) (gCons (gName 4) gNil)))) (te := (tCall (spP K S_lh) [] E0 (tCons (tVar 3) (tCons (tVar 4) tNil)))) (tt := tYes) rfl sc_gaps_join.nd (pi_zipS rfl bl.zip (pv 2)) (blkOk_by (by rfl)) (fun _ _ _ _ _ => (pg_tup rfl (pgs_cons (pg_name (i := 3) sc_gaps_join.nd rfl (by first | exact Or.inl rfl | exact Or.inr rfl)) (pgs_cons (pg_name (i := 4) sc_gaps_join.nd rfl (by first | exact Or.inl rfl | exact Or.inr rfl)) pgs_nil)))) (fun _ _ _ _ _ => pts_nil) (fun _ _ _ _ _ => (pe_call c_loosest_high.ok (hr.mono (by decide)) rfl c_loosest_high.mg c_loosest_high.kp c_loosest_high.bi .nil pass0 (pa_cons (pv 3) (pa_cons (pv 4) pa_nil)))))) pa_nil)))) pa_nil)))), ?_⟩
  change AS K _ [En.da _, En.da _, En.no, En.no, En.no] _ _
  try simp only [cxOf_K]
  have z9 : 9000 ≤ sizeLine := by decide
  refine as_ret (ae_cb (aa_cons (ae_lcMap (rowF jnH) (ai_zipK (aa_cons (ae_var rfl (aa_cons (ae_var rfl (aa_nil ⟨a, b, _, _, rfl, ?_⟩)))))))))
  rw [zp_rg]
  refine ⟨by rw [List.length_map, List.length_range]; omega, fun d hd => ?_, ?_⟩
  · obtain ⟨i, hi, rfl⟩ := List.mem_map.mp hd
    refine agv_name (by decide) (ae_cb (aa_cons (ae_lcMap (celF jnH) (ai_zipS (ae_var rfl ⟨true, a', b', _, _, rfl, ?_⟩)))))
    rw [zp_row]
    refine ⟨by rw [List.length_map, List.length_range]; omega, fun d hd => ?_, ?_⟩
    · obtain ⟨j, hj, rfl⟩ := List.mem_map.mp hd
      refine agv_tup rfl (agvs_cons (agv_name (by decide) (agvs_cons (agv_name (by decide) (agvs_nil (ae_call (aa_cons (ae_var rfl (aa_cons (ae_var rfl (aa_nil ⟨_, ⟨_, _, rfl, rfl⟩, ?_⟩)))))))))))
      exact ⟨by show _ = oD (jnH (unO (oD (M i j))) (unO (oD (N i j)))); rw [unO_is, unO_is], rfl⟩
    · rw [cel_map]
      exact aa_nil (ac_tupL ⟨row_is.symm, rfl⟩)
  · refine aa_nil (ac_tupL ?_)
    show _ = gD true true n _
    unfold gD
    rw [List.map_map]
    show Dt.tup _ = Dt.tup _
    congr 1
    exact List.map_congr_left fun i _ => row_is
theorem ok_gaps_meet (bl : Blts mg) {g_tightest_high : Addr} {d_tightest_high : FuncData} (c_tightest_high : Cal P w K mg base 1 "tightest_high" p_tightest_high (spP K S_th) g_tightest_high d_tightest_high)  {f : Addr} {fd : FuncData} (F : Fun K "gaps_meet" "gaps_meet" s_gaps_meet f fd) : FnOk P w K mg base CX0 2 f fd p_gaps_meet (spP K (S_gm tmH)) := by
  refine okP F sc_gaps_meet (fun ds r h => ?_) (fun cdv A outer s H E hr ds r h => ?_)
  · obtain ⟨a, a', b, b', n, M, N, rfl, n98, rfl⟩ := h
    rfl
  obtain ⟨a, a', b, b', n, M, N, rfl, n98, rfl⟩ := h
  refine ⟨_, (pss_one (ps_ret (pe_callTy call_tuple_of rfl bl.tuple (by decide +kernel) (pa_cons (pe_lc (own := [("rows", 2)]) (g := (gName 2)) (te := (tCB (fun xs H Q => ∃ p ys, xs = [.ref p] ∧ ((SqL K H p ys ∧ ∀ l, H l = none → Q (.ref l) (upd H l (.tup ys))) ∨ (SqT K H p ys ∧ Q (.ref p) H))) (tCons (tLc (iZipS K (tVar 2)) (gTup K 2 (gCons (gName 3) (gCons (gName 4) gNil))) tYes (tCall (spP K S_th) [] E0 (tCons (tVar 3) (tCons (tVar 4) tNil))) (List.map (fun x => x.2) [(("a" : Str), (3 : Nat)), (("b" : Str), (4 : Nat))])) tNil))) (tt := tYes) rfl sc_gaps_meet.nd (pi_zipN rfl bl.zip (pa_cons (pv 0) (pa_cons (pv 1) pa_nil))) (blkOk_by (N := N_gaps_meet) (sc := defScope s_gaps_meet) (by decide +kernel)) (fun _ _ _ _ _ => (pg_name (i := 2) sc_gaps_meet.nd rfl (by first | exact Or.inl rfl | exact Or.inr rfl))) (fun _ _ _ _ _ => pts_nil) (fun _ _ _ _ _ => (pe_callTy call_tuple_of rfl bl.tuple (by decide +kernel) (pa_cons (by exact (pe_lc (own := [("a", 3), ("b", 4)]) (g := (gTup K 2 (gCons (gName 3) (gCons (gName 4) gNil)))) (te := (tCall (spP K S_th) [] E0 (tCons (tVar 3) (tCons (tVar 4) tNil)))) (tt := tYes) rfl sc_gaps_meet.nd (pi_zipS rfl bl.zip (pv 2)) (blkOk_by (by rfl)) (fun _ _ _ _ _ => (pg_tup rfl (pgs_cons (pg_name (i := 3) sc_gaps_meet.nd rfl (by first | exact Or.inl rfl | exact Or.inr rfl)) (pgs_cons (pg_name (i := 4) sc_gaps_meet.nd rfl (by first | exact Or.inl rfl | exact Or.inr rfl)) pgs_nil)))) (fun _ _ _ _ _ => pts_nil) (fun _ _ _ _ _ => (pe_call c_tightest_high.ok (hr.mono (by decide)) rfl c_tightest_high.mg c_tightest_high.kp c_tightest_high.bi .nil pass0 (pa_cons (pv 3) (pa_cons (pv 4) pa_nil)))))) pa_nil)))) pa_nil)))), ?_⟩
  change AS K _ [En.da _, En.da _, En.no, En.no, En.no] _ _
  try simp only [cxOf_K]
  have z9 : 9000 ≤ sizeLine := by decide
  refine as_ret (ae_cb (aa_cons (ae_lcMap (rowF tmH) (ai_zipK (aa_cons (ae_var rfl (aa_cons (ae_var rfl (aa_nil ⟨a, b, _, _, rfl, ?_⟩)))))))))
  rw [zp_rg]
  refine ⟨by rw [List.length_map, List.length_range]; omega, fun d hd => ?_, ?_⟩
  · obtain ⟨i, hi, rfl⟩ := List.mem_map.mp hd
    refine agv_name (by decide) (ae_cb (aa_cons (ae_lcMap (celF tmH) (ai_zipS (ae_var rfl ⟨true, a', b', _, _, rfl, ?_⟩)))))
    rw [zp_row]
    refine ⟨by rw [List.length_map, List.length_range]; omega, fun d hd => ?_, ?_⟩
    · obtain ⟨j, hj, rfl⟩ := List.mem_map.mp hd
      refine agv_tup rfl (agvs_cons (agv_name (by decide) (agvs_cons (agv_name (by decide) (agvs_nil (ae_call (aa_cons (ae_var rfl (aa_cons (ae_var rfl (aa_nil ⟨_, ⟨_, _, rfl, rfl⟩, ?_⟩)))))))))))
      exact ⟨by show _ = oD (tmH (unO (oD (M i j))) (unO (oD (N i j)))); rw [unO_is, unO_is], rfl⟩
    · rw [cel_map]
      exact aa_nil (ac_tupL ⟨row_is.symm, rfl⟩)
  · refine aa_nil (ac_tupL ?_)
    show _ = gD true true n _
    unfold gD
    rw [List.map_map]
    show Dt.tup _ = Dt.tup _
    congr 1
    exact List.map_congr_left fun i _ => row_is
theorem ok_gaps_widen (bl : Blts mg) {g_high_within : Addr} {d_high_within : FuncData} (c_high_within : Cal P w K mg base 1 "high_within" p_high_within (spP K S_hw) g_high_within d_high_within)  {f : Addr} {fd : FuncData} (F : Fun K "gaps_widen" "gaps_widen" s_gaps_widen f fd) : FnOk P w K mg base CX0 2 f fd p_gaps_widen (spP K (S_gm wdH)) := by
  refine okP F sc_gaps_widen (fun ds r h => ?_) (fun cdv A outer s H E hr ds r h => ?_)
  · obtain ⟨a, a', b, b', n, M, N, rfl, n98, rfl⟩ := h
    rfl
  obtain ⟨a, a', b, b', n, M, N, rfl, n98, rfl⟩ := h
  refine ⟨_, (pss_one (ps_ret (pe_callTy call_tuple_of rfl bl.tuple (by decide +kernel) (pa_cons (pe_lc (own := [("rows", 2)]) (g := (gName 2)) (te := (tCB (fun xs H Q => ∃ p ys, xs = [.ref p] ∧ ((SqL K H p ys ∧ ∀ l, H l = none → Q (.ref l) (upd H l (.tup ys))) ∨ (SqT K H p ys ∧ Q (.ref p) H))) (tCons (tLc (iZipS K (tVar 2)) (gTup K 2 (gCons (gName 3) (gCons (gName 4) gNil))) tYes (tIf (tB (tCall (spP K S_hw) [] E0 (tCons (tVar 4) (tCons (tVar 3) tNil)))) (tVar 3) (tC .non)) (List.map (fun x => x.2) [(("a" : Str), (3 : Nat)), (("b" : Str), (4 : Nat))])) tNil))) (tt := tYes) rfl sc_gaps_widen.nd (pi_zipN rfl bl.zip (pa_cons (pv 0) (pa_cons (pv 1) pa_nil))) (blkOk_by (N := N_gaps_widen) (sc := defScope s_gaps_widen) (by decide +kernel)) (fun _ _ _ _ _ => (pg_name (i := 2) sc_gaps_widen.nd rfl (by first | exact Or.inl rfl | exact Or.inr rfl))) (fun _ _ _ _ _ => pts_nil) (fun _ _ _ _ _ => (pe_callTy call_tuple_of rfl bl.tuple (by decide +kernel) (pa_cons (by exact (pe_lc (own := [("a", 3), ("b", 4)]) (g := (gTup K 2 (gCons (gName 3) (gCons (gName 4) gNil)))) (te := (tIf (tB (tCall (spP K S_hw) [] E0 (tCons (tVar 4) (tCons (tVar 3) tNil)))) (tVar 3) (tC .non))) (tt := tYes) rfl sc_gaps_widen.nd (pi_zipS rfl bl.zip (pv 2)) (blkOk_by (by rfl)) (fun _ _ _ _ _ => (pg_tup rfl (pgs_cons (pg_name (i := 3) sc_gaps_widen.nd rfl (by first | exact Or.inl rfl | exact Or.inr rfl)) (pgs_cons (pg_name (i := 4) sc_gaps_widen.nd rfl (by first | exact Or.inl rfl | exact Or.inr rfl)) pgs_nil)))) (fun _ _ _ _ _ => pts_nil) (fun _ _ _ _ _ => (pe_ifExp (pt_val (pe_call c_high_within.ok (hr.mono (by decide)) rfl c_high_within.mg c_high_within.kp c_high_within.bi .nil pass0 (pa_cons (pv 4) (pa_cons (pv 3) pa_nil)))) (pv 3) pe_non)))) pa_nil)))) pa_nil)))), ?_⟩
  change AS K _ [En.da _, En.da _, En.no, En.no, En.no] _ _
  try simp only [cxOf_K]
  have z9 : 9000 ≤ sizeLine := by decide
  refine as_ret (ae_cb (aa_cons (ae_lcMap (rowF wdH) (ai_zipK (aa_cons (ae_var rfl (aa_cons (ae_var rfl (aa_nil ⟨a, b, _, _, rfl, ?_⟩)))))))))
  rw [zp_rg]
  refine ⟨by rw [List.length_map, List.length_range]; omega, fun d hd => ?_, ?_⟩
  · obtain ⟨i, hi, rfl⟩ := List.mem_map.mp hd
    refine agv_name (by decide) (ae_cb (aa_cons (ae_lcMap (celF wdH) (ai_zipS (ae_var rfl ⟨true, a', b', _, _, rfl, ?_⟩)))))
    rw [zp_row]
    refine ⟨by rw [List.length_map, List.length_range]; omega, fun d hd => ?_, ?_⟩
    · obtain ⟨j, hj, rfl⟩ := List.mem_map.mp hd
      refine agv_tup rfl (agvs_cons (agv_name (by decide) (agvs_cons (agv_name (by decide) (agvs_nil (ae_if (at_b (ae_call (aa_cons (ae_var rfl (aa_cons (ae_var rfl (aa_nil ⟨_, ⟨_, _, rfl, rfl⟩, ?_⟩)))))))))))))
      have e : celF wdH (.tup [oD (M i j), oD (N i j)]) = oD (wdH (M i j) (N i j)) := by show oD (wdH (unO (oD (M i j))) (unO (oD (N i j)))) = _; rw [unO_is, unO_is]
      refine ⟨_, rfl, fun h => ae_var rfl ⟨?_, rfl⟩, fun h => ae_non ⟨?_, rfl⟩⟩
      · rw [e]; unfold wdH; rw [if_pos h]
      · rw [e]; unfold wdH; rw [if_neg (by rw [h]; decide)]; rfl
    · rw [cel_map]
      exact aa_nil (ac_tupL ⟨row_is.symm, rfl⟩)
  · refine aa_nil (ac_tupL ?_)
    show _ = gD true true n _
    unfold gD
    rw [List.map_map]
    show Dt.tup _ = Dt.tup _
    congr 1
    exact List.map_congr_left fun i _ => row_is
def yV (a : Nat) (v : Int) (k : Nat) : Int := if k = a then v else 0
def mvM (M : Mx) (a : Nat) (v : Int) : Mx := fun i j => adO (M i j) (some (yV a v i - yV a v j))
def bdM (M : Mx) (a c : Nat) (v : Int) : Mx := fun i j => if i = a ∧ j = c then tmH (M i j) (some v) else M i j
def woM (M : Mx) (a : Nat) : Mx := fun i j => if i = j ∨ ¬ (a = i ∨ a = j) then M i j else none
def S_wo (ds : List Dt) (r : Dt) : Prop := ∃ (k k' : Bool) (n : Nat) (M : Mx) (a : Nat), ds = [gD k k' n M, .int (a : Int)] ∧ n ≤ 90 ∧ r = gD true true n (woM M a)
def S_mv (ds : List Dt) (r : Dt) : Prop := ∃ (k k' : Bool) (n : Nat) (M : Mx) (a : Nat) (v : Int), ds = [gD k k' n M, .int (a : Int), .int v] ∧ n ≤ 90 ∧ r = gD true true n (mvM M a v)
def S_bd (ds : List Dt) (r : Dt) : Prop := ∃ (k k' : Bool) (n : Nat) (M : Mx) (a c : Nat) (v : Int), ds = [gD k k' n M, .int (a : Int), .int (c : Int), .int v] ∧ n ≤ 90 ∧ r = gD true true n (bdM M a c v)
theorem eqv_2 {i j k l : Nat} : PyData.eqv (Dt.tup [.int (i : Int), .int (j : Int)]).pd (Dt.tup [.int (k : Int), .int (l : Int)]).pd = decide (i = k ∧ j = l) := by
  have h := PySem.W.Datum.eqv ((i : Int), (j : Int)) ((k : Int), (l : Int))
  refine Eq.trans h ?_
  rw [decide_eq_decide, Prod.mk.injEq]
  omega
/-- data of (place, row), of (place, bound) -/
def enR (g : Nat → Nat → Option Int → Option Int) : Dt → Dt
  | .tup [.int a, x] => .tup ((enD (its x)).map fun d => match d with | .tup [.int b, o] => oD (g a.toNat b.toNat (unO o)) | _ => .non)
  | _ => .non
def enC (g : Nat → Nat → Option Int → Option Int) (a : Nat) : Dt → Dt := fun d => match d with | .tup [.int b, o] => oD (g a b.toNat (unO o)) | _ => .non
theorem enC_is {g : Nat → Nat → Option Int → Option Int} {a b : Nat} {o : Option Int} : enC g a (.tup [.int (b : Int), oD o]) = oD (g a b o) := by
  show oD (g a ((b : Int)).toNat (unO (oD o))) = _
  rw [unO_is, Int.toNat_natCast]
theorem enC_map {g : Nat → Nat → Option Int → Option Int} {n a : Nat} {M : Mx} : (enD (rwD n M a)).map (enC g a) = rwD n (fun i j => g i j (M i j)) a := by
  rw [rw_rg, rw_rg, enD_rg, List.map_map]
  exact List.map_congr_left fun j _ => enC_is
theorem enR_is {g : Nat → Nat → Option Int → Option Int} {n a : Nat} {k : Bool} {M : Mx} : enR g (.tup [.int (a : Int), sq k (rwD n M a)]) = .tup (rwD n (fun i j => g i j (M i j)) a) := by
  show Dt.tup ((enD (its (sq k (rwD n M a)))).map (enC g ((a : Int)).toNat)) = _
  rw [its_sq, Int.toNat_natCast, enC_map]
end
section
variable {P : Program} {w : World} {K : PySem.W.Frag} {mg : Str → Option Value} {base : Heap}
theorem ok_gaps_moved (bl : Blts mg) {g_total : Addr} {d_total : FuncData} (c_total : Cal P w K mg base 1 "total" p_total (spP K S_to) g_total d_total)  {f : Addr} {fd : FuncData} (F : Fun K "gaps_moved" "gaps_moved" s_gaps_moved f fd) : FnOk P w K mg base CX0 2 f fd p_gaps_moved (spP K (S_mv)) := by
  refine okP F sc_gaps_moved (fun ds r h => ?_) (fun cdv A outer s H E hr ds r h => ?_)
  · obtain ⟨k, k', n, M, a, v, rfl, n90, rfl⟩ := h
    rfl
  obtain ⟨k, k', n, M, a, v, rfl, n90, rfl⟩ := h
  refine ⟨_, (pss_cons (ps_set (i := 3) sc_gaps_moved.nd rfl (by first | exact Or.inl rfl | exact Or.inr rfl) (pe_lc (own := [("k", 4)]) (g := (gName 4)) (te := (tIf (tTest (tOp rEq (tVar 4) (tVar 1))) (tVar 2) (tC (.int 0)))) (tt := tYes) rfl sc_gaps_moved.nd (pi_range1 rfl bl.range (pa_cons (pe_callB call_len_seq rfl bl.len (by decide +kernel) (pa_cons (pv 0) pa_nil)) pa_nil)) (blkOk_by (N := N_gaps_moved) (sc := defScope s_gaps_moved) (by decide +kernel)) (fun _ _ _ _ _ => (pg_name (i := 4) sc_gaps_moved.nd rfl (by first | exact Or.inl rfl | exact Or.inr rfl))) (fun _ _ _ _ _ => pts_nil) (fun _ _ _ _ _ => (pe_ifExp (pt_cmpR op_eq (pv 4) (pv 1) (nomark _)) (pv 2) pe_int))))
    (pss_one (ps_ret (pe_callTy call_tuple_of rfl bl.tuple (by decide +kernel) (pa_cons (pe_lc (own := [("a", 5), ("row", 6)]) (g := (gTup K 2 (gCons (gName 5) (gCons (gName 6) gNil)))) (te := (tCB (fun xs H Q => ∃ p ys, xs = [.ref p] ∧ ((SqL K H p ys ∧ ∀ l, H l = none → Q (.ref l) (upd H l (.tup ys))) ∨ (SqT K H p ys ∧ Q (.ref p) H))) (tCons (tLc (fun σ H R => iEnum K (tCons (tVar 6) tNil) σ H R ∨ iEnT K (tCons (tVar 6) tNil) σ H R) (gTup K 2 (gCons (gName 7) (gCons (gName 8) gNil))) tYes (tCall (spP K S_to) [] E0 (tCons (tVar 8) (tCons (tOp (rI0 fun i j => .int (i - j)) (tOp (rIxL K) (tVar 3) (tVar 5)) (tOp (rIxL K) (tVar 3) (tVar 7))) tNil))) (List.map (fun x => x.2) [(("b" : Str), (7 : Nat)), (("bound" : Str), (8 : Nat))])) tNil))) (tt := tYes) rfl sc_gaps_moved.nd (pi_or (pi_enum rfl bl.enumerate (pa_cons (pv 0) pa_nil)) (pi_enT rfl bl.enumerate (pa_cons (pv 0) pa_nil))) (blkOk_by (N := N_gaps_moved) (sc := defScope s_gaps_moved) (by decide +kernel)) (fun _ _ _ _ _ => (pg_tup rfl (pgs_cons (pg_name (i := 5) sc_gaps_moved.nd rfl (by first | exact Or.inl rfl | exact Or.inr rfl)) (pgs_cons (pg_name (i := 6) sc_gaps_moved.nd rfl (by first | exact Or.inl rfl | exact Or.inr rfl)) pgs_nil)))) (fun _ _ _ _ _ => pts_nil) (fun _ _ _ _ _ => (pe_callTy call_tuple_of rfl bl.tuple (by decide +kernel) (pa_cons (by exact (pe_lc (own := [("b", 7), ("bound", 8)]) (g := (gTup K 2 (gCons (gName 7) (gCons (gName 8) gNil)))) (te := (tCall (spP K S_to) [] E0 (tCons (tVar 8) (tCons (tOp (rI0 fun i j => .int (i - j)) (tOp (rIxL K) (tVar 3) (tVar 5)) (tOp (rIxL K) (tVar 3) (tVar 7))) tNil)))) (tt := tYes) rfl sc_gaps_moved.nd (pi_or (pi_enum rfl bl.enumerate (pa_cons (pv 6) pa_nil)) (pi_enT rfl bl.enumerate (pa_cons (pv 6) pa_nil))) (blkOk_by (by rfl)) (fun _ _ _ _ _ => (pg_tup rfl (pgs_cons (pg_name (i := 7) sc_gaps_moved.nd rfl (by first | exact Or.inl rfl | exact Or.inr rfl)) (pgs_cons (pg_name (i := 8) sc_gaps_moved.nd rfl (by first | exact Or.inl rfl | exact Or.inr rfl)) pgs_nil)))) (fun _ _ _ _ _ => pts_nil) (fun _ _ _ _ _ => (pe_call c_total.ok (hr.mono (by decide)) rfl c_total.mg c_total.kp c_total.bi .nil pass0 (pa_cons (pv 8) (pa_cons (pe_op op_sub (pe_ix ix_list (pv 3) (pv 5) (fun _ _ => rfl)) (pe_ix ix_list (pv 3) (pv 7) (fun _ _ => rfl))) pa_nil)))))) pa_nil)))) pa_nil))))), ?_⟩
  change AS K _ [En.da _, En.da _, En.da _, En.no, En.no, En.no, En.no, En.no, En.no] _ _
  try simp only [cxOf_K]
  have z9 : 9000 ≤ sizeLine := by decide
  have z9 : 9000 ≤ sizeLine := by decide
  have rg : ∀ k : Nat, (rgD 0 ((k : Nat) : Int).toNat) = (List.range k).map fun i => Dt.int ((i : Nat) : Int) := fun k => by
    unfold rgD
    rw [Int.toNat_natCast]
    exact List.map_congr_left fun i _ => by rw [Int.zero_add]
  have rl : ∀ k : Nat, ((List.range k).map fun i => Dt.int ((i : Nat) : Int)).length = k := fun k => by rw [List.length_map, List.length_range]
  refine as_seq (as_set (ae_lcMap (toF fun k => .int (yV a v k)) (ai_rng1 (aa_cons (ae_cb (aa_cons (ae_var rfl (aa_nil (ac_len (aa_nil ⟨_, rfl, ?_, ?_, ?_⟩))))))))))
  · rw [List.length_map, List.length_range]; omega
  · rw [List.length_map, List.length_range]; omega
  rw [List.length_map, List.length_range, rg]
  refine ⟨(by rw [rl]; omega), fun d hd => ?_, ?_⟩
  · obtain ⟨k, hk, rfl⟩ := List.mem_map.mp hd
    refine agv_name (by decide) (ae_if (at_test (ae_op (ae_var rfl (ae_var rfl (ar_eq3 ⟨rfl, rfl, rfl⟩ ⟨_, rfl, fun h => ae_var rfl ⟨?_, rfl⟩, fun h => ae_int ⟨?_, rfl⟩⟩))))))
    · have e : k = a := by have := of_decide_eq_true h; injection this with q; omega
      rw [toF_k]; unfold yV; rw [if_pos e]
    · have e : ¬ k = a := by have := of_decide_eq_false h; intro z; exact this (by rw [z])
      rw [toF_k]; unfold yV; rw [if_neg e]
  rw [toF_map]
  have mvat : ∀ k, k < n → atI ((List.range n).map fun k => Dt.int (yV a v k)) ((k : Nat) : Int) = some (.int (yV a v k)) := fun k hk => atI_nat (by rw [List.getElem?_map, List.getElem?_range hk]; rfl)
  refine as_ret (ae_cb (aa_cons (ae_lcMap (enR (fun i j o => adO o (some (yV a v i - yV a v j)))) (ai_enQ k (aa_cons (ae_var rfl (aa_nil ⟨_, rfl, ?_⟩)))))))
  have ee : enD ((List.range n).map fun i => sq k' (rwD n M i)) = (List.range n).map fun i => .tup [.int ((i : Nat) : Int), sq k' (rwD n M i)] := enD_rg
  rw [ee]
  refine ⟨(by rw [List.length_map, List.length_range]; omega), fun d hd => ?_, ?_⟩
  · obtain ⟨i, hi, rfl⟩ := List.mem_map.mp hd
    have hi := List.mem_range.mp hi
    refine agv_tup rfl (agvs_cons (agv_name (by decide) (agvs_cons (agv_name (by decide) (agvs_nil (ae_cb (aa_cons (ae_lcMap (enC (fun i j o => adO o (some (yV a v i - yV a v j))) i) (ai_enQ k' (aa_cons (ae_var rfl (aa_nil ⟨_, rfl, ?_⟩))))))))))))
    refine ⟨(by rw [enD_len, rw_rg, List.length_map, List.length_range]; omega), fun d hd => ?_, ?_⟩
    · rw [rw_rg, enD_rg] at hd
      obtain ⟨j, hj, rfl⟩ := List.mem_map.mp hd
      have hj := List.mem_range.mp hj
      refine agv_tup rfl (agvs_cons (agv_name (by decide) (agvs_cons (agv_name (by decide) (agvs_nil ?_)))))
      refine ae_call (aa_cons (ae_var rfl (aa_cons (ae_op (ae_op (ae_var rfl (ae_var rfl (ar_ixL (mvat i hi) (ae_op (ae_var rfl (ae_var rfl (ar_ixL (mvat j hj) (ar_I0i (aa_nil ⟨_, ⟨_, some (yV a v i - yV a v j), rfl, rfl⟩, ?_⟩))))))))))))))
      exact ⟨(by rw [enC_is]), rfl⟩
    · rw [enC_map]
      exact aa_nil (ac_tupL ⟨(by rw [enR_is]), rfl⟩)
  · refine aa_nil (ac_tupL ?_)
    show _ = Dt.tup ((List.range n).map fun i => Dt.tup (rwD n (mvM M a v) i))
    rw [List.map_map]
    congr 1
    exact List.map_congr_left fun i _ => enR_is
theorem ok_gaps_bound (bl : Blts mg) {g_tightest_high : Addr} {d_tightest_high : FuncData} (c_tightest_high : Cal P w K mg base 1 "tightest_high" p_tightest_high (spP K S_th) g_tightest_high d_tightest_high)  {f : Addr} {fd : FuncData} (F : Fun K "gaps_bound" "gaps_bound" s_gaps_bound f fd) : FnOk P w K mg base CX0 2 f fd p_gaps_bound (spP K (S_bd)) := by
  refine okP F sc_gaps_bound (fun ds r h => ?_) (fun cdv A outer s H E hr ds r h => ?_)
  · obtain ⟨k, k', n, M, a, c, v, rfl, n90, rfl⟩ := h
    rfl
  obtain ⟨k, k', n, M, a, c, v, rfl, n90, rfl⟩ := h
  refine ⟨_, (pss_one (ps_ret (pe_callTy call_tuple_of rfl bl.tuple (by decide +kernel) (pa_cons (pe_lc (own := [("a", 4), ("row", 5)]) (g := (gTup K 2 (gCons (gName 4) (gCons (gName 5) gNil)))) (te := (tCB (fun xs H Q => ∃ p ys, xs = [.ref p] ∧ ((SqL K H p ys ∧ ∀ l, H l = none → Q (.ref l) (upd H l (.tup ys))) ∨ (SqT K H p ys ∧ Q (.ref p) H))) (tCons (tLc (fun σ H R => iEnum K (tCons (tVar 5) tNil) σ H R ∨ iEnT K (tCons (tVar 5) tNil) σ H R) (gTup K 2 (gCons (gName 6) (gCons (gName 7) gNil))) tYes (tIf (tTest (tOp (rEqD K) (tTup (tCons (tVar 4) (tCons (tVar 6) tNil))) (tTup (tCons (tVar 1) (tCons (tVar 2) tNil))))) (tCall (spP K S_th) [] E0 (tCons (tVar 7) (tCons (tVar 3) tNil))) (tVar 7)) (List.map (fun x => x.2) [(("b" : Str), (6 : Nat)), (("bound" : Str), (7 : Nat))])) tNil))) (tt := tYes) rfl sc_gaps_bound.nd (pi_or (pi_enum rfl bl.enumerate (pa_cons (pv 0) pa_nil)) (pi_enT rfl bl.enumerate (pa_cons (pv 0) pa_nil))) (blkOk_by (N := N_gaps_bound) (sc := defScope s_gaps_bound) (by decide +kernel)) (fun _ _ _ _ _ => (pg_tup rfl (pgs_cons (pg_name (i := 4) sc_gaps_bound.nd rfl (by first | exact Or.inl rfl | exact Or.inr rfl)) (pgs_cons (pg_name (i := 5) sc_gaps_bound.nd rfl (by first | exact Or.inl rfl | exact Or.inr rfl)) pgs_nil)))) (fun _ _ _ _ _ => pts_nil) (fun _ _ _ _ _ => (pe_callTy call_tuple_of rfl bl.tuple (by decide +kernel) (pa_cons (by exact (pe_lc (own := [("b", 6), ("bound", 7)]) (g := (gTup K 2 (gCons (gName 6) (gCons (gName 7) gNil)))) (te := (tIf (tTest (tOp (rEqD K) (tTup (tCons (tVar 4) (tCons (tVar 6) tNil))) (tTup (tCons (tVar 1) (tCons (tVar 2) tNil))))) (tCall (spP K S_th) [] E0 (tCons (tVar 7) (tCons (tVar 3) tNil))) (tVar 7))) (tt := tYes) rfl sc_gaps_bound.nd (pi_or (pi_enum rfl bl.enumerate (pa_cons (pv 5) pa_nil)) (pi_enT rfl bl.enumerate (pa_cons (pv 5) pa_nil))) (blkOk_by (by rfl)) (fun _ _ _ _ _ => (pg_tup rfl (pgs_cons (pg_name (i := 6) sc_gaps_bound.nd rfl (by first | exact Or.inl rfl | exact Or.inr rfl)) (pgs_cons (pg_name (i := 7) sc_gaps_bound.nd rfl (by first | exact Or.inl rfl | exact Or.inr rfl)) pgs_nil)))) (fun _ _ _ _ _ => pts_nil) (fun _ _ _ _ _ => (pe_ifExp (pt_cmpR (op_eqD hr.units) (pe_tup (pa_cons (pv 4) (pa_cons (pv 6) pa_nil))) (pe_tup (pa_cons (pv 1) (pa_cons (pv 2) pa_nil))) (nomark _)) (pe_call c_tightest_high.ok (hr.mono (by decide)) rfl c_tightest_high.mg c_tightest_high.kp c_tightest_high.bi .nil pass0 (pa_cons (pv 7) (pa_cons (pv 3) pa_nil))) (pv 7))))) pa_nil)))) pa_nil)))), ?_⟩
  change AS K _ [En.da _, En.da _, En.da _, En.da _, En.no, En.no, En.no, En.no] _ _
  try simp only [cxOf_K]
  have z9 : 9000 ≤ sizeLine := by decide
  refine as_ret (ae_cb (aa_cons (ae_lcMap (enR (fun i j o => if i = a ∧ j = c then tmH o (some v) else o)) (ai_enQ k (aa_cons (ae_var rfl (aa_nil ⟨_, rfl, ?_⟩)))))))
  have ee : enD ((List.range n).map fun i => sq k' (rwD n M i)) = (List.range n).map fun i => .tup [.int ((i : Nat) : Int), sq k' (rwD n M i)] := enD_rg
  rw [ee]
  refine ⟨(by rw [List.length_map, List.length_range]; omega), fun d hd => ?_, ?_⟩
  · obtain ⟨i, hi, rfl⟩ := List.mem_map.mp hd
    have hi := List.mem_range.mp hi
    refine agv_tup rfl (agvs_cons (agv_name (by decide) (agvs_cons (agv_name (by decide) (agvs_nil (ae_cb (aa_cons (ae_lcMap (enC (fun i j o => if i = a ∧ j = c then tmH o (some v) else o) i) (ai_enQ k' (aa_cons (ae_var rfl (aa_nil ⟨_, rfl, ?_⟩))))))))))))
    refine ⟨(by rw [enD_len, rw_rg, List.length_map, List.length_range]; omega), fun d hd => ?_, ?_⟩
    · rw [rw_rg, enD_rg] at hd
      obtain ⟨j, hj, rfl⟩ := List.mem_map.mp hd
      have hj := List.mem_range.mp hj
      refine agv_tup rfl (agvs_cons (agv_name (by decide) (agvs_cons (agv_name (by decide) (agvs_nil ?_)))))
      refine ae_if (at_test (ae_op (ae_tup (aa_cons (ae_var rfl (aa_cons (ae_var rfl (aa_nil ⟨by show 2 ≤ sizeLine; omega, ae_tup (aa_cons (ae_var rfl (aa_cons (ae_var rfl (aa_nil ⟨by show 2 ≤ sizeLine; omega, ar_eqD rfl rfl rfl rfl ?_⟩)))))⟩))))))))
      rw [eqv_2]
      refine ⟨_, rfl, fun h => ?_, fun h => ?_⟩
      · have e := of_decide_eq_true h
        refine ae_call (aa_cons (ae_var rfl (aa_cons (ae_var rfl (aa_nil ⟨_, ⟨_, some v, rfl, rfl⟩, ?_, rfl⟩)))))
        rw [enC_is, if_pos e]
      · have e := of_decide_eq_false h
        refine ae_var rfl ⟨?_, rfl⟩
        rw [enC_is, if_neg e]
    · rw [enC_map]
      exact aa_nil (ac_tupL ⟨(by rw [enR_is]), rfl⟩)
  · refine aa_nil (ac_tupL ?_)
    show _ = Dt.tup ((List.range n).map fun i => Dt.tup (rwD n (bdM M a c v) i))
    rw [List.map_map]
    congr 1
    exact List.map_congr_left fun i _ => enR_is
theorem ok_gaps_without (bl : Blts mg)   {f : Addr} {fd : FuncData} (F : Fun K "gaps_without" "gaps_without" s_gaps_without f fd) : FnOk P w K mg base CX0 2 f fd p_gaps_without (spP K (S_wo)) := by
  refine okP F sc_gaps_without (fun ds r h => ?_) (fun cdv A outer s H E hr ds r h => ?_)
  · obtain ⟨k, k', n, M, a, rfl, n90, rfl⟩ := h
    rfl
  obtain ⟨k, k', n, M, a, rfl, n90, rfl⟩ := h
  refine ⟨_, (pss_one (ps_ret (pe_callTy call_tuple_of rfl bl.tuple (by decide +kernel) (pa_cons (pe_lc (own := [("a", 2), ("row", 3)]) (g := (gTup K 2 (gCons (gName 2) (gCons (gName 3) gNil)))) (te := (tCB (fun xs H Q => ∃ p ys, xs = [.ref p] ∧ ((SqL K H p ys ∧ ∀ l, H l = none → Q (.ref l) (upd H l (.tup ys))) ∨ (SqT K H p ys ∧ Q (.ref p) H))) (tCons (tLc (fun σ H R => iEnum K (tCons (tVar 3) tNil) σ H R ∨ iEnT K (tCons (tVar 3) tNil) σ H R) (gTup K 2 (gCons (gName 4) (gCons (gName 5) gNil))) tYes (tIf (tOr (tTest (tOp rEq (tVar 2) (tVar 4))) (tTest (tOp (rIn K true) (tVar 1) (tTup (tCons (tVar 2) (tCons (tVar 4) tNil)))))) (tVar 5) (tC .non)) (List.map (fun x => x.2) [(("b" : Str), (4 : Nat)), (("bound" : Str), (5 : Nat))])) tNil))) (tt := tYes) rfl sc_gaps_without.nd (pi_or (pi_enum rfl bl.enumerate (pa_cons (pv 0) pa_nil)) (pi_enT rfl bl.enumerate (pa_cons (pv 0) pa_nil))) (blkOk_by (N := N_gaps_without) (sc := defScope s_gaps_without) (by decide +kernel)) (fun _ _ _ _ _ => (pg_tup rfl (pgs_cons (pg_name (i := 2) sc_gaps_without.nd rfl (by first | exact Or.inl rfl | exact Or.inr rfl)) (pgs_cons (pg_name (i := 3) sc_gaps_without.nd rfl (by first | exact Or.inl rfl | exact Or.inr rfl)) pgs_nil)))) (fun _ _ _ _ _ => pts_nil) (fun _ _ _ _ _ => (pe_callTy call_tuple_of rfl bl.tuple (by decide +kernel) (pa_cons (by exact (pe_lc (own := [("b", 4), ("bound", 5)]) (g := (gTup K 2 (gCons (gName 4) (gCons (gName 5) gNil)))) (te := (tIf (tOr (tTest (tOp rEq (tVar 2) (tVar 4))) (tTest (tOp (rIn K true) (tVar 1) (tTup (tCons (tVar 2) (tCons (tVar 4) tNil)))))) (tVar 5) (tC .non))) (tt := tYes) rfl sc_gaps_without.nd (pi_or (pi_enum rfl bl.enumerate (pa_cons (pv 3) pa_nil)) (pi_enT rfl bl.enumerate (pa_cons (pv 3) pa_nil))) (blkOk_by (by rfl)) (fun _ _ _ _ _ => (pg_tup rfl (pgs_cons (pg_name (i := 4) sc_gaps_without.nd rfl (by first | exact Or.inl rfl | exact Or.inr rfl)) (pgs_cons (pg_name (i := 5) sc_gaps_without.nd rfl (by first | exact Or.inl rfl | exact Or.inr rfl)) pgs_nil)))) (fun _ _ _ _ _ => pts_nil) (fun _ _ _ _ _ => (pe_ifExp (PW.pt (pw_or (pt_cmpR op_eq (pv 2) (pv 4) (nomark _)) (pw_or1 (pt_cmpR op_notIn_seq (pv 1) (pe_tup (pa_cons (pv 2) (pa_cons (pv 4) pa_nil))) rfl)))) (pv 5) pe_non)))) pa_nil)))) pa_nil)))), ?_⟩
  change AS K _ [En.da _, En.da _, En.no, En.no, En.no, En.no] _ _
  try simp only [cxOf_K]
  have z9 : 9000 ≤ sizeLine := by decide
  refine as_ret (ae_cb (aa_cons (ae_lcMap (enR (fun i j o => if i = j ∨ ¬ (a = i ∨ a = j) then o else none)) (ai_enQ k (aa_cons (ae_var rfl (aa_nil ⟨_, rfl, ?_⟩)))))))
  have ee : enD ((List.range n).map fun i => sq k' (rwD n M i)) = (List.range n).map fun i => .tup [.int ((i : Nat) : Int), sq k' (rwD n M i)] := enD_rg
  rw [ee]
  refine ⟨(by rw [List.length_map, List.length_range]; omega), fun d hd => ?_, ?_⟩
  · obtain ⟨i, hi, rfl⟩ := List.mem_map.mp hd
    have hi := List.mem_range.mp hi
    refine agv_tup rfl (agvs_cons (agv_name (by decide) (agvs_cons (agv_name (by decide) (agvs_nil (ae_cb (aa_cons (ae_lcMap (enC (fun i j o => if i = j ∨ ¬ (a = i ∨ a = j) then o else none) i) (ai_enQ k' (aa_cons (ae_var rfl (aa_nil ⟨_, rfl, ?_⟩))))))))))))
    refine ⟨(by rw [enD_len, rw_rg, List.length_map, List.length_range]; omega), fun d hd => ?_, ?_⟩
    · rw [rw_rg, enD_rg] at hd
      obtain ⟨j, hj, rfl⟩ := List.mem_map.mp hd
      have hj := List.mem_range.mp hj
      refine agv_tup rfl (agvs_cons (agv_name (by decide) (agvs_cons (agv_name (by decide) (agvs_nil ?_)))))
      have fin : enC (fun i j o => if i = j ∨ ¬ (a = i ∨ a = j) then o else none) i (.tup [.int (j : Int), oD (M i j)]) = oD (if i = j ∨ ¬ (a = i ∨ a = j) then M i j else none) := enC_is (g := (fun i j o => if i = j ∨ ¬ (a = i ∨ a = j) then o else none))
      refine ae_if (at_or (at_test (ae_op (ae_var rfl (ae_var rfl (ar_eq3 ⟨rfl, rfl, rfl⟩ ⟨_, rfl, fun h => ?_, fun h => ?_⟩))))))
      · have e : i = j := by have := of_decide_eq_true h; injection this with q; omega
        exact ⟨fun _ => ae_var rfl ⟨(by rw [fin, if_pos (.inl e)]), rfl⟩, fun z => nomatch z⟩
      · have e : ¬ i = j := by have := of_decide_eq_false h; intro z; exact this (by rw [z])
        refine at_test (ae_op (ae_var rfl (ae_tup (aa_cons (ae_var rfl (aa_cons (ae_var rfl (aa_nil ⟨(by show 2 ≤ sizeLine; omega), ar_inT (neg := true) (x := .int (a : Int)) (xs := [.int (i : Int), .int (j : Int)]) rfl rfl rfl rfl ?_⟩))))))))
        rw [show L2.inV (.int (a : Int)) [.int (i : Int), .int (j : Int)] = decide ((a : Int) ∈ [(i : Int), (j : Int)]) from inV_intsP (ns := [(i : Int), (j : Int)])]
        have e3 : ((a : Int) ∈ [(i : Int), (j : Int)]) ↔ (a = i ∨ a = j) := by simp only [List.mem_cons, List.not_mem_nil, or_false]; omega
        rw [if_pos rfl]
        refine ⟨_, rfl, fun h => ae_var rfl ⟨?_, rfl⟩, fun h => ae_non ⟨?_, rfl⟩⟩
        · have q : ¬ (a = i ∨ a = j) := fun z => by rw [decide_eq_true (e3.mpr z)] at h; cases h
          rw [fin, if_pos (.inr q)]
        · have q : a = i ∨ a = j := by
            apply Classical.byContradiction
            intro z
            rw [decide_eq_false (fun y => z (e3.mp y))] at h; cases h
          rw [fin, if_neg (by omega)]; rfl
    · rw [enC_map]
      exact aa_nil (ac_tupL ⟨(by rw [enR_is]), rfl⟩)
  · refine aa_nil (ac_tupL ?_)
    show _ = Dt.tup ((List.range n).map fun i => Dt.tup (rwD n (woM M a) i))
    rw [List.map_map]
    congr 1
    exact List.map_congr_left fun i _ => enR_is
end
end Sh
set_option Elab.async false
set_option linter.all false
set_option maxRecDepth 100000
set_option maxHeartbeats 4000000
namespace Sh
open PySem PySem.Spec PyProof.Rows L2
section
variable {P : Program} {w : World} {K : PySem.W.Frag} {mg : Str → Option Value} {base : Heap}
mutual
def Dt.dep : Dt → Nat
  | .tup l => deps l + 1 | .lst l => deps l + 1 | _ => 1
def deps : List Dt → Nat
  | [] => 0
  | d :: l => max d.dep (deps l)
end
mutual
/-- no classes, short -/
def Dt.fit : Dt → Bool
  | .ty _ => false
  | .tup l => decide (l.length ≤ 9000) && fits l
  | .lst l => decide (l.length ≤ 9000) && fits l
  | _ => true
def fits : List Dt → Bool
  | [] => true
  | d :: l => d.fit && fits l
end
theorem deps_mem : ∀ {l : List Dt} {d : Dt}, d ∈ l → d.dep ≤ deps l
  | e :: l, d, h => by
    unfold deps
    rcases List.mem_cons.mp h with rfl | h
    · omega
    · have := deps_mem h; omega
theorem fits_mem : ∀ {l : List Dt} {d : Dt}, fits l = true → d ∈ l → d.fit = true
  | e :: l, d, f, h => by
    unfold fits at f
    rw [Bool.and_eq_true] at f
    rcases List.mem_cons.mp h with rfl | h
    · exact f.1
    · exact fits_mem f.2 h
def S_same (n : Nat) (ds : List Dt) (r : Dt) : Prop := ∃ d, ds = [d, d] ∧ d.dep ≤ n ∧ d.fit = true ∧ r = .bl true
theorem zp_self : ∀ {l : List Dt} {d : Dt}, d ∈ zpD l l → ∃ e, e ∈ l ∧ d = .tup [e, e]
  | [], d, h => by simp [zpD] at h
  | a :: l, d, h => by
    rcases List.mem_cons.mp (show d ∈ Dt.tup [a, a] :: zpD l l from h) with rfl | h
    · exact ⟨a, List.mem_cons_self, rfl⟩
    · obtain ⟨e, h1, h2⟩ := zp_self h
      exact ⟨e, List.mem_cons_of_mem _ h1, h2⟩
theorem none0 {ps : List Str} {f : Addr} {fd : FuncData} {sp : Sp} (no : ∀ vs H Q E, ¬ sp vs H Q E) : FnOk P w K mg base CX0 0 f fd ps sp :=
  ⟨fun vs H Q E h => absurd h (no vs H Q E), fun A outer s H args us vs Q E _ _ _ _ h => absurd h (no vs H Q E)⟩
theorem dep_pos (d : Dt) : 1 ≤ d.dep := by cases d <;> simp [Dt.dep]
theorem map_true {l : List Dt} : (l.map fun _ => Dt.bl true) = (List.replicate l.length true).map Dt.bl := by rw [List.map_const', List.map_replicate]
theorem all_true (n : Nat) : (List.replicate n true).all id = true := by simp
abbrev s_l_same : Stmt := topS 19
abbrev N_l_same : List Str := ["_law_found", "_law_due", "_law_mine", "_law_its"]
abbrev p_l_same : List Str := ["_law_found", "_law_due"]
theorem sc_l_same : FnScope N_l_same p_l_same (defScope s_l_same) := ⟨rfl, rfl, rfl, by decide +kernel, rfl, by decide +kernel, by decide +kernel⟩
theorem ok_l_same (bl : Blts mg) {n : Nat} {g_l_same : Addr} {d_l_same : FuncData} (c_l_same : Cal P w K mg base n "_law_same" p_l_same (spP K (S_same n)) g_l_same d_l_same) {f : Addr} {fd : FuncData} (F : Fun K "_law_same" "_law_same" s_l_same f fd) : FnOk P w K mg base CX0 (n + 1) f fd p_l_same (spP K (S_same (n + 1))) := by
  refine okP F sc_l_same (fun ds r h => ?_) (fun cdv A outer s H E hr ds r h => ?_)
  · obtain ⟨d, rfl, n1, f1, rfl⟩ := h
    rfl
  obtain ⟨d, rfl, n1, f1, rfl⟩ := h
  refine ⟨_, (pss_cons (ps_if (pt_val (pe_callB call_isiT rfl bl.isinstance (by decide +kernel) (pa_cons (pv 1) (pa_cons (pe_tup (pa_cons (pe_bltn (v := .ty "list") rfl bl.list (by decide +kernel) rfl) (pa_cons (pe_bltn (v := .ty "tuple") rfl bl.tuple (by decide +kernel) rfl) pa_nil))) pa_nil)))) (pss_cons (ps_if (PW.pt (pw_or (pt_cmpR op_ne (pe_callB call_isi rfl bl.isinstance (by decide +kernel) (pa_cons (pv 0) (pa_cons (pe_bltn (v := .ty "list") rfl bl.list (by decide +kernel) rfl) pa_nil))) (pe_callB call_isi rfl bl.isinstance (by decide +kernel) (pa_cons (pv 1) (pa_cons (pe_bltn (v := .ty "list") rfl bl.list (by decide +kernel) rfl) pa_nil))) (nomark _)) (pw_or1 (pt_cmpR op_ne (pe_callB call_isi rfl bl.isinstance (by decide +kernel) (pa_cons (pv 0) (pa_cons (pe_bltn (v := .ty "tuple") rfl bl.tuple (by decide +kernel) rfl) pa_nil))) (pe_callB call_isi rfl bl.isinstance (by decide +kernel) (pa_cons (pv 1) (pa_cons (pe_bltn (v := .ty "tuple") rfl bl.tuple (by decide +kernel) rfl) pa_nil))) (nomark _))))) (pss_one (ps_ret pe_bl)) pss_nil)
    (pss_one (ps_ret (pe_and (pe_cmpR op_eq (pe_callB call_len_seq rfl bl.len (by decide +kernel) (pa_cons (pv 0) pa_nil)) (pe_callB call_len_seq rfl bl.len (by decide +kernel) (pa_cons (pv 1) pa_nil)) (nomark _)) (pe_one (pe_callB (cr_all rfl) rfl bl.all (by decide +kernel) (pa_cons (pe_lc (own := [("_law_mine", 2), ("_law_its", 3)]) (g := (gTup K 2 (gCons (gName 2) (gCons (gName 3) gNil)))) (tt := tYes) rfl sc_l_same.nd (RZ.pi_zipA rfl bl.zip (pa_cons (pv 0) (pa_cons (pv 1) pa_nil))) (blkOk_by (N := N_l_same) (sc := defScope s_l_same) (by decide +kernel)) (fun _ _ _ _ _ => (pg_tup rfl (pgs_cons (pg_name (i := 2) sc_l_same.nd rfl (by first | exact Or.inl rfl | exact Or.inr rfl)) (pgs_cons (pg_name (i := 3) sc_l_same.nd rfl (by first | exact Or.inl rfl | exact Or.inr rfl)) pgs_nil)))) (fun _ _ _ _ _ => pts_nil) (fun _ _ _ _ _ => (pe_call c_l_same.ok hr rfl c_l_same.mg c_l_same.kp c_l_same.bi .nil pass0 (pa_cons (pv 2) (pa_cons (pv 3) pa_nil))))) pa_nil))))))) pss_nil)
    (pss_cons (ps_if (PW.pt (pw_or (pt_cmpR op_isN (pv 1) pe_non (nomark _)) (pw_or1 (pt_val (pe_callB call_isiT rfl bl.isinstance (by decide +kernel) (pa_cons (pv 1) (pa_cons (pe_tup (pa_cons (pe_bltn (v := .ty "bool") rfl bl.bool (by decide +kernel) rfl) (pa_cons (pe_bltn (v := .ty "str") rfl bl.str (by decide +kernel) rfl) pa_nil))) pa_nil))))))) (pss_one (ps_ret (pe_and (pe_cmpR op_eq (pv 0) (pv 1) (nomark _)) (pe_and (pe_cmpR op_eq (pe_callB call_isi rfl bl.isinstance (by decide +kernel) (pa_cons (pv 0) (pa_cons (pe_bltn (v := .ty "bool") rfl bl.bool (by decide +kernel) rfl) pa_nil))) (pe_callB call_isi rfl bl.isinstance (by decide +kernel) (pa_cons (pv 1) (pa_cons (pe_bltn (v := .ty "bool") rfl bl.bool (by decide +kernel) rfl) pa_nil))) (nomark _)) (pe_one (pe_cmpR op_eq (pe_cmpR op_isN (pv 0) pe_non (nomark _)) (pe_cmpR op_isN (pv 1) pe_non (nomark _)) (nomark _))))))) pss_nil)
    (pss_one (ps_ret (pe_and (pe_callB call_isi rfl bl.isinstance (by decide +kernel) (pa_cons (pv 0) (pa_cons (pe_bltn (v := .ty "int") rfl bl.int (by decide +kernel) rfl) pa_nil))) (pe_and (pe_not (pe_callB call_isi rfl bl.isinstance (by decide +kernel) (pa_cons (pv 0) (pa_cons (pe_bltn (v := .ty "bool") rfl bl.bool (by decide +kernel) rfl) pa_nil)))) (pe_one (pe_cmpR op_eq (pv 0) (pv 1) (nomark _))))))))), ?_⟩
  change AS K _ [En.da _, En.da _, En.no, En.no] _ _
  try simp only [cxOf_K]
  cases d with
  | non =>
    repeat' (first
      | ((with_reducible apply ac_isi1); · first | exact ⟨rfl, kb_NoneType_list⟩ | exact ⟨rfl, kb_NoneType_tuple⟩ | exact ⟨rfl, kb_NoneType_bool⟩ | exact ⟨rfl, kb_NoneType_int⟩ | exact ⟨rfl, kb_NoneType_str⟩)
      | (first | refine ⟨rfl, false, .inr ⟨kb_NoneType_list, kb_NoneType_tuple⟩, ?_⟩ | refine ⟨rfl, false, .inr ⟨kb_NoneType_bool, kb_NoneType_str⟩, ?_⟩)
      | with_reducible apply as_seq
      | with_reducible apply as_ret
      | with_reducible apply as_next
      | with_reducible apply as_if
      | ((with_reducible apply ae_var); · rfl)
      | with_reducible apply ae_non
      | with_reducible apply ae_ty
      | with_reducible apply ae_isi2
      | with_reducible apply ae_op
      | with_reducible apply aa_nil
      | with_reducible apply aa_cons
      | with_reducible apply ae_cb
      | with_reducible apply at_test
      | with_reducible apply at_b
      | with_reducible apply at_or
      | with_reducible apply ae_andV
      | with_reducible apply ar_isN
      | ((with_reducible apply ar_eq3); · exact ⟨rfl, rfl, rfl⟩)
      | refine ⟨_, rfl, ?_⟩
      | (refine ⟨fun hc => ?_, fun hc => ?_⟩ <;> (first | (exfalso; exact absurd (show false = true from hc) (by decide)) | (exfalso; exact absurd (show true = false from hc) (by decide)) | (exfalso; simp at hc; done) | skip))
      | rfl
      | fail)
  | bl b =>
    repeat' (first
      | ((with_reducible apply ac_isi1); · first | exact ⟨rfl, kb_bool_list⟩ | exact ⟨rfl, kb_bool_tuple⟩ | exact ⟨rfl, kb_bool_bool⟩ | exact ⟨rfl, kb_bool_int⟩ | exact ⟨rfl, kb_bool_str⟩)
      | (first | refine ⟨rfl, false, .inr ⟨kb_bool_list, kb_bool_tuple⟩, ?_⟩ | refine ⟨rfl, true, .inl ⟨kb_bool_bool, rfl⟩, ?_⟩)
      | with_reducible apply as_seq
      | with_reducible apply as_ret
      | with_reducible apply as_next
      | with_reducible apply as_if
      | ((with_reducible apply ae_var); · rfl)
      | with_reducible apply ae_non
      | with_reducible apply ae_ty
      | with_reducible apply ae_isi2
      | with_reducible apply ae_op
      | with_reducible apply aa_nil
      | with_reducible apply aa_cons
      | with_reducible apply ae_cb
      | with_reducible apply at_test
      | with_reducible apply at_b
      | with_reducible apply at_or
      | with_reducible apply ae_andV
      | with_reducible apply ar_isN
      | ((with_reducible apply ar_eq3); · exact ⟨rfl, rfl, rfl⟩)
      | refine ⟨_, rfl, ?_⟩
      | (refine ⟨fun hc => ?_, fun hc => ?_⟩ <;> (first | (exfalso; exact absurd (show false = true from hc) (by decide)) | (exfalso; exact absurd (show true = false from hc) (by decide)) | (exfalso; simp at hc; done) | skip))
      | rfl
      | fail)
  | int i =>
    repeat' (first
      | ((with_reducible apply ac_isi1); · first | exact ⟨rfl, kb_int_list⟩ | exact ⟨rfl, kb_int_tuple⟩ | exact ⟨rfl, kb_int_bool⟩ | exact ⟨rfl, kb_int_int⟩ | exact ⟨rfl, kb_int_str⟩)
      | (first | refine ⟨rfl, false, .inr ⟨kb_int_list, kb_int_tuple⟩, ?_⟩ | refine ⟨rfl, false, .inr ⟨kb_int_bool, kb_int_str⟩, ?_⟩)
      | with_reducible apply as_seq
      | with_reducible apply as_ret
      | with_reducible apply as_next
      | with_reducible apply as_if
      | ((with_reducible apply ae_var); · rfl)
      | with_reducible apply ae_non
      | with_reducible apply ae_ty
      | with_reducible apply ae_isi2
      | with_reducible apply ae_op
      | with_reducible apply aa_nil
      | with_reducible apply aa_cons
      | with_reducible apply ae_cb
      | with_reducible apply at_test
      | with_reducible apply at_b
      | with_reducible apply at_or
      | with_reducible apply ae_andV
      | with_reducible apply ae_notV
      | with_reducible apply ar_isN
      | ((with_reducible apply ar_eq3); · exact ⟨rfl, rfl, rfl⟩)
      | refine ⟨_, rfl, ?_⟩
      | (refine ⟨fun hc => ?_, fun hc => ?_⟩ <;> (first | (exfalso; exact absurd (show false = true from hc) (by decide)) | (exfalso; exact absurd (show true = false from hc) (by decide)) | (exfalso; simp at hc; done) | skip))
      | rfl
      | simp only [oD_some, oD_none]
      | fail)
  | str z =>
    repeat' (first
      | ((with_reducible apply ac_isi1); · first | exact ⟨rfl, kb_str_list⟩ | exact ⟨rfl, kb_str_tuple⟩ | exact ⟨rfl, kb_str_bool⟩ | exact ⟨rfl, kb_str_int⟩ | exact ⟨rfl, kb_str_str⟩)
      | (first | refine ⟨rfl, false, .inr ⟨kb_str_list, kb_str_tuple⟩, ?_⟩ | refine ⟨rfl, true, .inr ⟨kb_str_bool, kb_str_str⟩, ?_⟩)
      | with_reducible apply as_seq
      | with_reducible apply as_ret
      | with_reducible apply as_next
      | with_reducible apply as_if
      | ((with_reducible apply ae_var); · rfl)
      | with_reducible apply ae_non
      | with_reducible apply ae_ty
      | with_reducible apply ae_isi2
      | with_reducible apply ae_op
      | with_reducible apply aa_nil
      | with_reducible apply aa_cons
      | with_reducible apply ae_cb
      | with_reducible apply at_test
      | with_reducible apply at_b
      | with_reducible apply at_or
      | with_reducible apply ae_andV
      | with_reducible apply ar_isN
      | ((with_reducible apply ar_eq3); · exact ⟨rfl, rfl, rfl⟩)
      | refine ⟨_, rfl, ?_⟩
      | (refine ⟨fun hc => ?_, fun hc => ?_⟩ <;> (first | (exfalso; exact absurd (show false = true from hc) (by decide)) | (exfalso; exact absurd (show true = false from hc) (by decide)) | (exfalso; simp at hc; done) | skip))
      | rfl
      | fail)
  | ty T => exact absurd f1 (fun z => nomatch z)
  | tup l =>
    have hl : l.length ≤ 9000 := by
      have f2 : (decide (l.length ≤ 9000) && fits l) = true := f1
      rw [Bool.and_eq_true] at f2; exact of_decide_eq_true f2.1
    have hf : fits l = true := by
      have f2 : (decide (l.length ≤ 9000) && fits l) = true := f1
      rw [Bool.and_eq_true] at f2; exact f2.2
    have hd : deps l ≤ n := Nat.le_of_succ_le_succ (show deps l + 1 ≤ n + 1 from n1)
    repeat' (first
      | ((with_reducible apply ac_isi1); · first | exact ⟨rfl, kb_tuple_list⟩ | exact ⟨rfl, kb_tuple_tuple⟩ | exact ⟨rfl, kb_tuple_bool⟩ | exact ⟨rfl, kb_tuple_int⟩ | exact ⟨rfl, kb_tuple_str⟩)
      | (first | refine ⟨rfl, true, .inr ⟨kb_tuple_list, kb_tuple_tuple⟩, ?_⟩ | refine ⟨rfl, false, .inr ⟨kb_tuple_bool, kb_tuple_str⟩, ?_⟩)
      | with_reducible apply as_seq
      | with_reducible apply as_ret
      | with_reducible apply as_next
      | with_reducible apply as_if
      | ((with_reducible apply ae_var); · rfl)
      | with_reducible apply ae_ty
      | with_reducible apply ae_isi2
      | with_reducible apply ae_op
      | with_reducible apply aa_nil
      | with_reducible apply aa_cons
      | with_reducible apply ae_cb
      | with_reducible apply at_test
      | with_reducible apply at_b
      | with_reducible apply at_or
      | with_reducible apply ae_andV
      | with_reducible apply ac_lenT
      | ((with_reducible apply ar_eq3); · exact ⟨rfl, rfl, rfl⟩)
      | ((with_reducible apply ar_ne3); · exact ⟨rfl, rfl, rfl⟩)
      | refine ⟨_, rfl, ?_⟩
      | (refine ⟨fun hc => ?_, fun hc => ?_⟩ <;> (first | (exfalso; exact absurd (show false = true from hc) (by decide)) | (exfalso; exact absurd (show true = false from hc) (by decide)) | (exfalso; simp at hc; done) | skip))
      | fail)
    refine ae_lcMap (fun _ => .bl true) ?_
    refine ai_zipT ?_
    repeat' (first | (with_reducible apply aa_cons) | ((with_reducible apply ae_var); · rfl) | (with_reducible apply aa_nil))
    refine ⟨l, l, rfl, ?_, fun d hm => ?_, ?_⟩
    · rw [zpD_len, Nat.min_self]; exact Nat.lt_of_le_of_lt hl (by decide)
    · obtain ⟨e, he, rfl⟩ := zp_self hm
      refine agv_tup rfl (agvs_cons (agv_name (by decide) (agvs_cons (agv_name (by decide) (agvs_nil ?_)))))
      refine ae_call ?_
      repeat' (first | (with_reducible apply aa_cons) | ((with_reducible apply ae_var); · rfl) | (with_reducible apply aa_nil))
      exact ⟨.bl true, ⟨e, rfl, Nat.le_trans (deps_mem he) hd, fits_mem hf he, rfl⟩, rfl, rfl⟩
    · refine aa_nil ?_
      rw [map_true]
      refine ac_all ?_
      rw [all_true]
  | lst l =>
    have hl : l.length ≤ 9000 := by
      have f2 : (decide (l.length ≤ 9000) && fits l) = true := f1
      rw [Bool.and_eq_true] at f2; exact of_decide_eq_true f2.1
    have hf : fits l = true := by
      have f2 : (decide (l.length ≤ 9000) && fits l) = true := f1
      rw [Bool.and_eq_true] at f2; exact f2.2
    have hd : deps l ≤ n := Nat.le_of_succ_le_succ (show deps l + 1 ≤ n + 1 from n1)
    repeat' (first
      | ((with_reducible apply ac_isi1); · first | exact ⟨rfl, kb_list_list⟩ | exact ⟨rfl, kb_list_tuple⟩ | exact ⟨rfl, kb_list_bool⟩ | exact ⟨rfl, kb_list_int⟩ | exact ⟨rfl, kb_list_str⟩)
      | (first | refine ⟨rfl, true, .inl ⟨kb_list_list, rfl⟩, ?_⟩ | refine ⟨rfl, false, .inr ⟨kb_list_bool, kb_list_str⟩, ?_⟩)
      | with_reducible apply as_seq
      | with_reducible apply as_ret
      | with_reducible apply as_next
      | with_reducible apply as_if
      | ((with_reducible apply ae_var); · rfl)
      | with_reducible apply ae_ty
      | with_reducible apply ae_isi2
      | with_reducible apply ae_op
      | with_reducible apply aa_nil
      | with_reducible apply aa_cons
      | with_reducible apply ae_cb
      | with_reducible apply at_test
      | with_reducible apply at_b
      | with_reducible apply at_or
      | with_reducible apply ae_andV
      | with_reducible apply ac_lenL
      | ((with_reducible apply ar_eq3); · exact ⟨rfl, rfl, rfl⟩)
      | ((with_reducible apply ar_ne3); · exact ⟨rfl, rfl, rfl⟩)
      | refine ⟨_, rfl, ?_⟩
      | (refine ⟨fun hc => ?_, fun hc => ?_⟩ <;> (first | (exfalso; exact absurd (show false = true from hc) (by decide)) | (exfalso; exact absurd (show true = false from hc) (by decide)) | (exfalso; simp at hc; done) | skip))
      | fail)
    refine ae_lcMap (fun _ => .bl true) ?_
    refine ai_zipL ?_
    repeat' (first | (with_reducible apply aa_cons) | ((with_reducible apply ae_var); · rfl) | (with_reducible apply aa_nil))
    refine ⟨l, l, rfl, ?_, fun d hm => ?_, ?_⟩
    · rw [zpD_len, Nat.min_self]; exact Nat.lt_of_le_of_lt hl (by decide)
    · obtain ⟨e, he, rfl⟩ := zp_self hm
      refine agv_tup rfl (agvs_cons (agv_name (by decide) (agvs_cons (agv_name (by decide) (agvs_nil ?_)))))
      refine ae_call ?_
      repeat' (first | (with_reducible apply aa_cons) | ((with_reducible apply ae_var); · rfl) | (with_reducible apply aa_nil))
      exact ⟨.bl true, ⟨e, rfl, Nat.le_trans (deps_mem he) hd, fits_mem hf he, rfl⟩, rfl, rfl⟩
    · refine aa_nil ?_
      rw [map_true]
      refine ac_all ?_
      rw [all_true]
theorem all_same (bl : Blts mg) {f : Addr} {fd : FuncData} (F : Fun K "_law_same" "_law_same" s_l_same f fd) (bG : Binds K fd p_l_same []) (mG : mg "_law_same" = some (.ref f)) : ∀ n : Nat, FnOk P w K mg base CX0 n f fd p_l_same (spP K (S_same n))
  | 0 => none0 fun vs H Q E h => by
    obtain ⟨G, ds, r, _, _, ⟨d, _, h1, _⟩, _⟩ := h
    have := dep_pos d
    omega
  | n + 1 => ok_l_same bl ⟨all_same bl F bG mG n, bG, F.kp, mG⟩ F
end
end Sh
set_option Elab.async false
set_option linter.all false
set_option maxRecDepth 100000
set_option maxHeartbeats 4000000
/-! draws below greater numbers -/
namespace Sh
open PySem PySem.Spec PyProof.Rows L2
section
variable {P : Program} {w : World} {K : PySem.W.Frag} {mg : Str → Option Value} {base : Heap}
theorem fdW_ok {x m : Int} (m0 : 1 ≤ m) (m1 : m ≤ 100000000000000) : CDivW x m := ⟨by omega, (Nat.log2_lt (by omega)).mpr (Nat.lt_of_le_of_lt (show m.natAbs ≤ 100000000000000 by omega) (by decide +kernel))⟩
theorem scTakeL : FnScope ["_law_box_here", "_law_below_here", "_law_found", "_law_once", "_law_twice", "_law_little"] ["_law_box_here", "_law_below_here"] (defScope sTake) := ⟨rfl, rfl, rfl, by decide +kernel, rfl, by decide +kernel, by decide +kernel⟩
def spTake2 : Sp := fun vs H Q _ => ∃ (b : Addr) (m y c : Int), vs = [.ref b, .int m] ∧ Bx H b y c ∧ 0 ≤ c ∧ c + 1 < 1000000000000 ∧ 1 ≤ m ∧ m ≤ 10 ^ 14 ∧
  ∀ v c' H', 0 ≤ v → v < m → c ≤ c' → c' ≤ c + 2 → Bx H' b y c' → But b H H' → Q (.int v) H'
theorem ok_take2 {f g : Addr} {fd gd : FuncData} {n : Nat} (F : Fun K "_law_take" "_law_take" sTake f fd) (G : FnOk P w K mg base CX0 n g gd ["_law_box_here", "_law_below_here"] spTake) (bG : Binds K gd ["_law_box_here", "_law_below_here"] []) (kG : PySem.W.keepIn K (.ref g) = true)
    (mG : mg "_law_take" = some (.ref g)) : FnOk P w K mg base CX0 (n + 1) f fd ["_law_box_here", "_law_below_here"] spTake2 := by
  refine F.ok scTakeL (fun vs H Q E h => ?_) (fun cdv A outer s H vs Q E hr h => ?_)
  · obtain ⟨b, m, y, c, rfl, _⟩ := h
    rfl
  obtain ⟨b, m, y, c, rfl, ⟨x, hB, x0, y0, y1⟩, c0, c1, m0, m1, q⟩ := h
  refine ⟨_, pss_cons (ps_if (pt_cmpR op_gt (pe_ix ix_list (pv 0) pe_int (fun _ _ => rfl)) pe_int (nomark _))
      (pss_cons (ps_set (i := 2) scTakeL.nd rfl (Or.inl rfl) (pe_op op_modN (pe_ix ix_list (pv 0) pe_int (fun _ _ => rfl)) (pv 1)))
      (pss_cons (ps_asg (pe_op op_fdivW (pe_ix ix_list (pv 0) pe_int (fun _ _ => rfl)) (pv 1)) (pg_sub (pv 0) pe_int set_list))
      (pss_one (ps_ret (pv 2))))) pss_nil)
    (pss_cons (ps_if (pt_cmpR op_gt (pv 1) (pe_op op_pow pe_int pe_int) (nomark _))
      (pss_cons (ps_set (i := 5) scTakeL.nd rfl (Or.inl rfl) (pe_call G hr rfl mG kG bG .nil pass0 (pa_cons (pv 0) (pa_cons (pe_op op_pow pe_int pe_int) pa_nil))))
      (pss_one (ps_ret (pe_op op_modN (pe_op op_add (pv 5) (pe_op op_mul (pe_op op_pow pe_int pe_int) (pe_call G hr rfl mG kG bG .nil pass0 (pa_cons (pv 0) (pa_cons (pe_op op_add (pe_op op_fdivN (pe_op op_sub (pv 1) pe_int) (pe_op op_pow pe_int pe_int)) pe_int) pa_nil))))) (pv 1))))) pss_nil)
    (pss_cons (ps_asg (pe_op op_add (pe_ix ix_list (pv 0) pe_int (fun _ _ => rfl)) pe_int) (pg_sub (pv 0) pe_int set_list))
    (pss_cons (ps_set (i := 3) scTakeL.nd rfl (Or.inl rfl) (pe_op op_modN (pe_op op_mul (pe_op op_add (pe_ix ix_list (pv 0) pe_int (fun _ _ => rfl)) (pe_op op_mul pe_int (pe_ix ix_list (pv 0) pe_int (fun _ _ => rfl)))) (pe_op op_add pe_int (pe_ix ix_list (pv 0) pe_int (fun _ _ => rfl)))) pe_int))
    (pss_cons (ps_set (i := 4) scTakeL.nd rfl (Or.inl rfl) (pe_op op_modN (pe_op op_mul (pe_op op_add (pe_op op_add (pv 3) (pe_ix ix_list (pv 0) pe_int (fun _ _ => rfl))) (pe_op op_fdivN (pe_ix ix_list (pv 0) pe_int (fun _ _ => rfl)) pe_int)) (pe_op op_add (pe_op op_modN (pv 3) pe_int) pe_int)) pe_int))
    (pss_one (ps_ret (pe_op op_modN (pe_op op_fdivN (pe_op op_modN (pe_op op_add (pe_op op_mul (pv 4) pe_int) (pv 3)) pe_int) pe_int) (pv 1)))))))), ?_⟩
  have e14 : (10 : Int) ^ 14 = 100000000000000 := by decide
  have e7 : (10 : Int) ^ (7 : Int).toNat = 10000000 := by decide
  refine ⟨_, rfl, b, _, _, _, rfl, rfl, SqL.of hB, at_of (j := 0) rfl rfl, _, _, rfl, rfl, _, rfl, ?_⟩
  refine ite2 (fun t => ?_) (fun t => ?_)
  · have t' : x > 0 := of_decide_eq_true t
    refine ⟨_, rfl, b, _, _, _, rfl, rfl, SqL.of hB, at_of (j := 0) rfl rfl, _, rfl, _, _, rfl, rfl, (by omega), ?_⟩
    refine ⟨_, rfl, b, _, _, _, rfl, rfl, SqL.of hB, at_of (j := 0) rfl rfl, _, rfl, _, _, rfl, rfl, ?_, ?_⟩
    · exact fdW_ok (by omega) (by omega)
    refine ⟨_, rfl, b, _, _, 0, rfl, rfl, hB, rfl, _, rfl, ?_⟩
    exact q _ c _ (fm0 (by omega)) (fm1 (by omega)) (by omega) (by omega) (bx_up rfl (Int.ediv_nonneg x0 (by omega)) y0 y1) but_upd
  · refine ⟨_, rfl, _, _, rfl, rfl, ⟨by decide, by decide, by decide⟩, _, _, rfl, rfl, _, rfl, ?_⟩
    refine ite2 (fun t2 => ?_) (fun t2 => ?_)
    · refine ⟨_, rfl, _, _, rfl, rfl, ⟨by decide, by decide, by decide⟩, ?_⟩
      refine ⟨b, _, y, c, rfl, ⟨x, hB, x0, y0, y1⟩, c0, by omega, by decide, by decide, fun v c' H' v0 v1 d0 d1 hB' bt => ?_⟩
      refine ⟨_, rfl, _, _, rfl, rfl, ⟨by decide, by decide, by decide⟩, ?_⟩
      refine ⟨_, rfl, _, rfl, _, _, rfl, rfl, _, _, rfl, rfl, ⟨by decide, by decide, by decide⟩, _, _, rfl, rfl, ⟨by decide, by decide⟩, _, _, rfl, rfl, ?_⟩
      have hq0 : 0 ≤ (m - 1).fdiv (10 ^ (7 : Int).toNat) := fd0 (by omega) (by decide)
      have hq1 : (m - 1).fdiv (10 ^ (7 : Int).toNat) < 10000000 := by
        rw [e7, Int.fdiv_eq_ediv_of_nonneg _ (by decide)]; omega
      refine ⟨b, _, y, c', rfl, hB', by omega, by omega, by omega, by omega, fun v' c'' H'' v0' v1' d0' d1' hB'' bt' => ?_⟩
      refine ⟨_, _, rfl, rfl, .inl ⟨by decide, by decide⟩, _, _, rfl, rfl, _, rfl, _, _, rfl, rfl, (by omega), ?_⟩
      exact q _ c'' _ (fm0 (by omega)) (fm1 (by omega)) (by omega) (by omega) hB'' (bt.trans bt')
    · have t3 : ¬ m > 10 ^ (7 : Int).toNat := fun z => t2 (decide_eq_true z)
      rw [e7] at t3
      have hB1 : (upd H b (.lst [.int x, .int y, .int (c + 1)])) b = some (.lst [.int x, .int y, .int (c + 1)]) := upd_same
      refine ⟨_, rfl, b, _, _, _, rfl, rfl, SqL.of hB, at_of (j := 2) rfl rfl, _, _, rfl, rfl, _, rfl, b, _, _, 2, rfl, rfl, hB, rfl, ?_⟩
      refine ⟨_, rfl, b, _, _, _, rfl, rfl, SqL.of hB1, at_of (j := 1) rfl rfl, _, rfl, b, _, _, _, rfl, rfl, SqL.of hB1, at_of (j := 2) rfl rfl, _, _, rfl, rfl, .inl ⟨by decide, by decide⟩, _, _, rfl, rfl,
        _, rfl, b, _, _, _, rfl, rfl, SqL.of hB1, at_of (j := 2) rfl rfl, _, _, rfl, rfl, _, _, rfl, rfl, .inl ⟨by omega, by omega⟩, _, _, rfl, rfl, (nz _), ?_⟩
      refine ⟨_, rfl, _, rfl, b, _, _, _, rfl, rfl, SqL.of hB1, at_of (j := 2) rfl rfl, _, _, rfl, rfl, _, rfl, b, _, _, _, rfl, rfl, SqL.of hB1, at_of (j := 1) rfl rfl, _, _, rfl, rfl, ⟨by decide, by decide⟩, _, _, rfl, rfl,
        _, rfl, _, _, rfl, rfl, (nz _), _, _, rfl, rfl, _, _, rfl, rfl, .inl (tw_ok c0 (by omega) y0 y1), _, _, rfl, rfl, (nz _), ?_⟩
      refine ⟨_, rfl, _, _, rfl, rfl, .inl tw_ok2, _, rfl, _, _, rfl, rfl, _, _, rfl, rfl, (nz _), _, _, rfl, rfl, ⟨by decide, by decide⟩, _, rfl, _, _, rfl, rfl, (by omega), ?_⟩
      exact q _ (c + 1) _ (fm0 (by omega)) (fm1 (by omega)) (by omega) (by omega) (bx_up rfl x0 y0 y1) but_upd
def domT2 (ds : List Dt) : Prop := ∃ m : Int, ds = [.int m] ∧ 1 ≤ m ∧ m ≤ 100000000000000
theorem take_B2 {f : Addr} {fd : FuncData} {n : Nat} {ps : List Str} (C : FnOk P w K mg base CX0 n f fd ps spTake2) : FnOk P w K mg base CX0 n f fd ps (spB K 2 domT2 postT) := C.imp fun vs H Q E h => by
  obtain ⟨G, ds, b, us, y, c, F, rfl, sm, hb, c0, c1, gb, rd, ⟨m, rfl, m1, m2⟩, q⟩ := h
  obtain ⟨x, rfl, e⟩ := rd.one
  have c2 : c + ((F + 2 : Nat) : Int) ≤ 1000000000000 := c1
  refine ⟨b, m, y, c, by rw [show x = V.int m from e], hb, c0, by omega, m1, m2, fun v c' H' v0 v1 e0 e1 hb' bt => ?_⟩
  refine q (.int v) (.int v) G H' y c' ⟨Same.refl _, fun a o z => bt a o (fun w => by rw [w, gb] at z; cases z) (sm _ _ z), bt, fun a h1 h2 => h1⟩ hb' (by omega) ?_ rfl ⟨m, v, rfl, rfl, v0, v1⟩
  show c' + (F : Int) ≤ 1000000000000
  omega
theorem ae_take2 {ρ : List En} {Ψ : Dt → List En → Prop} {E : XK} {te : TE} {i : Nat} {b : Addr} {f0 : Nat} (e0 : ρ[i]? = some (.bx b f0))
    (h : AE K te ρ fun d ρ1 => ∃ m : Int, d = .int m ∧ 1 ≤ m ∧ m ≤ 100000000000000 ∧ ∃ F, ρ1[i]? = some (.bx b (F + 2)) ∧ ∀ v : Int, 0 ≤ v → v < m → Ψ (.int v) (ρ1.set i (.bx b F))) : AE K (tCall (spB K 2 domT2 postT) [] E (tCons (tVar i) (tCons te tNil))) ρ Ψ :=
  ae_draw e0 (aa_cons (ae_mono h fun d ρ1 ⟨m, e, m1, m2, F, e1, k⟩ => aa_nil ⟨⟨m, by rw [e], m1, m2⟩, F, e1, fun d' hp => by
    obtain ⟨m', v, z1, z2, z3, z4⟩ := hp
    rw [e] at z1
    cases z1
    rw [z2]; exact k v z3 z4⟩))
end
end Sh
set_option Elab.async false
set_option linter.all false
set_option maxRecDepth 100000
set_option maxHeartbeats 4000000
namespace Sh
open PySem PySem.Spec PyProof.Rows L2
/-! a list backwards: xs[::-1] -/
section
variable {K : PySem.W.Frag} {ρ : List En} {Ψ : Dt → List En → Prop} {Φ : Dt → Prop}
theorem RDs.reverse {G : Hp} : ∀ {l : List Dt} {xs : List V}, RDs K G l xs → RDs K G l.reverse xs.reverse
  | [], _, h => by rw [show _ = [] from h]; rfl
  | d :: l, _, ⟨x, r, e, h1, h2⟩ => by
    subst e
    rw [List.reverse_cons, List.reverse_cons]
    exact (RDs.reverse h2).snoc h1
end
end Sh
set_option Elab.async false
set_option linter.all false
set_option maxRecDepth 100000
set_option maxHeartbeats 4000000
namespace Sh
open PySem PySem.Spec PyProof.Rows L2
abbrev s_l_limit : Stmt := topS 20
abbrev N_l_limit : List Str := ["_law_box_here", "_law_some"]
abbrev p_l_limit : List Str := ["_law_box_here"]
theorem sc_l_limit : FnScope N_l_limit p_l_limit (defScope s_l_limit) := ⟨rfl, rfl, rfl, by decide +kernel, rfl, by decide +kernel, by decide +kernel⟩
abbrev s_l_rows : Stmt := topS 21
abbrev N_l_rows : List Str := ["_law_box_here", "_law_size", "_law_found", "_law_at", "_law_to"]
abbrev p_l_rows : List Str := ["_law_box_here", "_law_size"]
theorem sc_l_rows : FnScope N_l_rows p_l_rows (defScope s_l_rows) := ⟨rfl, rfl, rfl, by decide +kernel, rfl, by decide +kernel, by decide +kernel⟩
abbrev s_l_loose : Stmt := topS 22
abbrev N_l_loose : List Str := ["_law_matter", "_law_part"]
abbrev p_l_loose : List Str := ["_law_matter"]
theorem sc_l_loose : FnScope N_l_loose p_l_loose (defScope s_l_loose) := ⟨rfl, rfl, rfl, by decide +kernel, rfl, by decide +kernel, by decide +kernel⟩
abbrev s_l_below : Stmt := topS 24
abbrev N_l_below : List Str := ["_law_mine", "_law_its"]
abbrev p_l_below : List Str := ["_law_mine", "_law_its"]
theorem sc_l_below : FnScope N_l_below p_l_below (defScope s_l_below) := ⟨rfl, rfl, rfl, by decide +kernel, rfl, by decide +kernel, by decide +kernel⟩
abbrev s_l_each : Stmt := topS 25
abbrev N_l_each : List Str := ["_law_rows_here", "_law_others", "_law_way", "_law_found", "_law_row", "_law_line", "_law_some", "_law_mine", "_law_its", "_law_fits"]
abbrev p_l_each : List Str := ["_law_rows_here", "_law_others", "_law_way"]
theorem sc_l_each : FnScope N_l_each p_l_each (defScope s_l_each) := ⟨rfl, rfl, rfl, by decide +kernel, rfl, by decide +kernel, by decide +kernel⟩
abbrev s_l_turned_rows : Stmt := topS 26
abbrev N_l_turned_rows : List Str := ["_law_rows_here", "_law_at", "_law_by", "_law_found", "_law_spot", "_law_row", "_law_some", "_law_to", "_law_limit_here", "_law_own", "_law_more"]
abbrev p_l_turned_rows : List Str := ["_law_rows_here", "_law_at", "_law_by"]
theorem sc_l_turned_rows : FnScope N_l_turned_rows p_l_turned_rows (defScope s_l_turned_rows) := ⟨rfl, rfl, rfl, by decide +kernel, rfl, by decide +kernel, by decide +kernel⟩
abbrev s_l_near : Stmt := topS 23
abbrev N_l_near : List Str := ["_law_box_here", "_law_rows_here", "_law_found", "_law_at", "_law_row", "_law_some", "_law_to", "_law_limit_here", "_law_way", "_law_greater_one"]
abbrev p_l_near : List Str := ["_law_box_here", "_law_rows_here"]
theorem sc_l_near : FnScope N_l_near p_l_near (defScope s_l_near) := ⟨rfl, rfl, rfl, by decide +kernel, rfl, by decide +kernel, by decide +kernel⟩
def bnO (k : Int) (o : Option Int) : Prop := ∀ x, o = some x → -(1000000000000 + k) ≤ x ∧ x ≤ 1000000000000 + k
def bnM (k : Int) (M : Mx) : Prop := ∀ i j, bnO k (M i j)
theorem bn_non {k : Int} : bnO k none := fun x h => (by cases h)
theorem bn_some {k x : Int} (h : -(1000000000000 + k) ≤ x ∧ x ≤ 1000000000000 + k) : bnO k (some x) := fun y e => by cases e; exact h
theorem bn_up {k l : Int} {o : Option Int} (h : bnO k o) (kl : k ≤ l) : bnO l o := fun x e => by have := h x e; omega
def domL (ds : List Dt) : Prop := ds = []
def postL (_ : List Dt) (d : Dt) : Prop := ∃ o, d = oD o ∧ bnO 0 o
def domN (ds : List Dt) : Prop := ∃ n : Nat, ds = [.int (n : Int)] ∧ n ≤ 5
def postRw (ds : List Dt) (d : Dt) : Prop := ∀ n : Nat, ds = [.int (n : Int)] → ∃ M, d = gD true true n M ∧ (∀ i, i < n → M i i = some 0) ∧ bnM 0 M
theorem i_inj {m n : Nat} (h : [Dt.int (m : Int)] = [Dt.int (n : Int)]) : n = m := by
  injection h with h
  injection h with h
  omega
/-! rows that are drawn -/
def rwT (r : List (Option Int)) : Dt := .tup (r.map oD)
structure Rw (q : Int) (n i : Nat) (R : List (List (Option Int))) : Prop where
  r : R.length = i
  ok : ∀ (k : Nat) (l : List (Option Int)), R[k]? = some l → l.length = n ∧ l[k]? = some (some 0)
  bn : ∀ (l : List (Option Int)), l ∈ R → ∀ o, o ∈ l → bnO q o
theorem Rw.nil {q : Int} {n : Nat} : Rw q n 0 [] := ⟨rfl, fun k l h => (by cases h), fun l h => (by cases h)⟩
theorem Rw.app {q : Int} {n i : Nat} {R : List (List (Option Int))} (h : Rw q n i R) {l : List (Option Int)} (h1 : l.length = n) (h2 : l[i]? = some (some 0)) (h3 : ∀ o, o ∈ l → bnO q o) : Rw q n (i + 1) (R ++ [l]) := by
  refine ⟨by rw [List.length_append, h.r]; rfl, fun k m hm => ?_, fun m hm => by
    rcases List.mem_append.mp hm with hm | hm
    · exact h.bn m hm
    · rw [List.mem_singleton.mp hm]; exact h3⟩
  rcases Nat.lt_or_ge k R.length with hk | hk
  · rw [List.getElem?_append_left hk] at hm; exact h.ok k m hm
  · have hl := (List.getElem?_eq_some_iff.mp hm).1
    rw [List.length_append] at hl
    have e : k = R.length := by have : [l].length = 1 := rfl; omega
    subst e
    rw [List.getElem?_append_right (Nat.le_refl _), Nat.sub_self] at hm
    cases hm
    rw [h.r]; exact ⟨h1, h2⟩
def gO (R : List (List (Option Int))) (i j : Nat) : Option Int := ((R[i]?.getD [])[j]?).getD none
theorem gO_bn {q : Int} {n : Nat} {R : List (List (Option Int))} (h : Rw q n n R) : bnM q (gO R) := fun i j => by
  unfold gO
  cases e : R[i]? with
  | none => exact bn_non
  | some l =>
    show bnO q ((l[j]?).getD none)
    cases e2 : l[j]? with
    | none => exact bn_non
    | some o => exact h.bn l (List.mem_of_getElem? e) o (List.mem_of_getElem? e2)
theorem gO_row {q : Int} {n : Nat} {R : List (List (Option Int))} (h : Rw q n n R) : Dt.tup (R.map rwT) = gD true true n (gO R) := by
  show _ = Dt.tup _
  congr 1
  refine List.ext_getElem? fun i => ?_
  rw [List.getElem?_map, List.getElem?_map]
  by_cases hi : i < n
  · rw [List.getElem?_range hi]
    have hr : i < R.length := by rw [h.r]; exact hi
    have er := List.getElem?_eq_getElem hr
    rw [er]
    have hl := (h.ok i _ er).1
    show some (rwT _) = some (Dt.tup _)
    unfold rwT
    rw [rw_rg]
    congr 2
    refine List.ext_getElem? fun j => ?_
    rw [List.getElem?_map, List.getElem?_map]
    by_cases hj : j < n
    · rw [List.getElem?_range hj, List.getElem?_eq_getElem (by omega)]
      show some (oD _) = some (oD (gO R i j))
      unfold gO
      rw [er]
      show _ = some (oD ((R[i][j]?).getD none))
      rw [List.getElem?_eq_getElem (by omega)]; rfl
    · rw [List.getElem?_eq_none (by omega), List.getElem?_eq_none (by simp; omega)]; rfl
  · rw [List.getElem?_eq_none (by rw [h.r]; omega), List.getElem?_eq_none (by simp; omega)]; rfl
theorem gO_dg {q : Int} {n : Nat} {R : List (List (Option Int))} (h : Rw q n n R) {i : Nat} (hi : i < n) : gO R i i = some 0 := by
  have hr : i < R.length := by rw [h.r]; exact hi
  have er := List.getElem?_eq_getElem hr
  unfold gO
  rw [er]
  show (R[i][i]?).getD none = some 0
  rw [(h.ok i _ er).2]; rfl
mutual
def looD : Dt → Dt
  | .tup l => .lst (looL l)
  | .lst l => .lst (looL l)
  | d => d
def looL : List Dt → List Dt
  | [] => []
  | d :: l => looD d :: looL l
end
theorem loo_map : ∀ {l : List Dt}, looL l = l.map looD
  | [] => by unfold looL; rfl
  | d :: l => by unfold looL; rw [loo_map (l := l)]; rfl
def S_loo (n : Nat) (ds : List Dt) (r : Dt) : Prop := ∃ d, ds = [d] ∧ d.dep ≤ n ∧ d.fit = true ∧ r = looD d
def ech (w : Nat) (a b : Option Int) : Option Int := if w = 0 then jnH a b else if w = 1 then tmH a b else wdH a b
theorem jn_ech {a b : Option Int} : jnH a b = if hwI a b = true then b else a := by
  cases a with
  | none => cases b with
    | none => rfl
    | some y => rfl
  | some x => cases b with
    | none => rfl
    | some y =>
      show some (if y > x then y else x) = if decide (x ≤ y) = true then some y else some x
      by_cases c : x ≤ y
      · rw [if_pos (decide_eq_true c)]
        by_cases e : y > x
        · rw [if_pos e]
        · rw [if_neg e]; congr 1; omega
      · rw [if_neg (show ¬ y > x by omega), if_neg (by rw [decide_eq_false c]; decide)]
theorem tm_ech {a b : Option Int} : tmH a b = if hwI a b = true then a else b := by
  cases a with
  | none => cases b with
    | none => rfl
    | some y => rfl
  | some x => cases b with
    | none => rfl
    | some y =>
      show some (if y < x then y else x) = if decide (x ≤ y) = true then some x else some y
      by_cases c : x ≤ y
      · rw [if_pos (decide_eq_true c), if_neg (by omega)]
      · rw [if_pos (show y < x by omega), if_neg (by rw [decide_eq_false c]; decide)]
def S_ea (ds : List Dt) (r : Dt) : Prop := ∃ n M N w, ds = [gD true true n M, gD true true n N, .int ((w : Nat) : Int)] ∧ n ≤ 90 ∧ w < 3 ∧ r = gD true true n (fun i j => ech w (M i j) (N i j))
def tuM (M : Mx) (a : Nat) : Option Int → Mx
  | none => woM M a
  | some v => mvM M a v
def S_tu (ds : List Dt) (r : Dt) : Prop := ∃ (n : Nat) (M : Mx) (a : Nat) (o : Option Int), ds = [gD true true n M, .int (a : Int), oD o] ∧ (∀ i, i < n → M i i = some 0) ∧ n ≤ 90 ∧ r = gD true true n (tuM M a o)
def domM (ds : List Dt) : Prop := ∃ n M, ds = [gD true true n M] ∧ (∀ i, i < n → M i i = some 0) ∧ bnM 0 M ∧ n ≤ 5
def postM (ds : List Dt) (d : Dt) : Prop := ∀ n M, ds = [gD true true n M] → ∃ N, d = gD true true n N ∧ (∀ i, i < n → N i i = some 0) ∧ bnM 2 N
theorem en_rows {n : Nat} {M : Mx} : enD ((List.range n).map fun i => sq true (rwD n M i)) = (List.range n).map fun i => .tup [.int ((i : Nat) : Int), .tup (rwD n M i)] := enD_rg
theorem en_row {n i : Nat} {M : Mx} : enD (rwD n M i) = (List.range n).map fun j => .tup [.int ((j : Nat) : Int), oD (M i j)] := enD_rg
section
variable {P : Program} {w : World} {K : PySem.W.Frag} {mg : Str → Option Value} {base : Heap}
theorem ok_l_limit (bl : Blts mg) {g4_l_take : Addr} {d4_l_take : FuncData} (c4_l_take : Cal P w K mg base 3 "_law_take" p_l_take (spB K 2 domT2 postT) g4_l_take d4_l_take) {g_l_of : Addr} {d_l_of : FuncData} (c_l_of : Cal P w K mg base 3 "_law_of" p_l_of (spB K 1 domO postO) g_l_of d_l_of)  {f : Addr} {fd : FuncData} (F : Fun K "_law_limit" "_law_limit" s_l_limit f fd) : FnOk P w K mg base CX0 4 f fd p_l_limit (spB K 7 (domL) (postL)) := by
  refine okB F sc_l_limit (fun ds h => ?_) (fun cdv A outer s H E hr ds h => ?_)
  · obtain ⟨rfl⟩ := h
    rfl
  obtain ⟨rfl⟩ := h
  refine ⟨_, (pss_cons (ps_set (i := 1) sc_l_limit.nd rfl (by first | exact Or.inl rfl | exact Or.inr rfl) (pe_lst (pa_cons pe_non (pa_cons pe_non (pa_cons (pe_op op_sub (pe_call c4_l_take.ok (hr.mono (by decide)) rfl c4_l_take.mg c4_l_take.kp c4_l_take.bi .nil pass0 (pa_cons (pv 0) (pa_cons pe_int pa_nil))) pe_int) (pa_cons (pe_op op_sub (pe_call c4_l_take.ok (hr.mono (by decide)) rfl c4_l_take.mg c4_l_take.kp c4_l_take.bi .nil pass0 (pa_cons (pv 0) (pa_cons pe_int pa_nil))) pe_int) (pa_cons pe_int (pa_cons (pe_op op_sub (pe_call c4_l_take.ok (hr.mono (by decide)) rfl c4_l_take.mg c4_l_take.kp c4_l_take.bi .nil pass0 (pa_cons (pv 0) (pa_cons (pe_op op_pow pe_int pe_int) pa_nil))) (pe_op op_pow pe_int pe_int)) pa_nil))))))))
    (pss_one (ps_ret (pe_call c_l_of.ok (hr.mono (by decide)) rfl c_l_of.mg c_l_of.kp c_l_of.bi .nil pass0 (pa_cons (pv 0) (pa_cons (pv 1) pa_nil)))))), fun b F => ?_⟩
  change AS K _ [En.bx _ _, En.no] _ _
  try simp only [cxOf_K, cxOf_w]
  refine as_seq (as_set (ae_lst (aa_cons (ae_non (aa_cons (ae_non (aa_cons (ae_op (ae_take2 rfl (ae_int ⟨_, rfl, (by decide), (by decide), F + 5, rfl, fun v1 a0 a1 => ?_⟩))))))))))
  refine ae_int (ar_I0i (aa_cons (ae_op (ae_take2 rfl (ae_int ⟨_, rfl, (by decide), (by decide), F + 3, rfl, fun v2 b0 b1 => ?_⟩)))))
  refine ae_int (ar_I0i (aa_cons (ae_int (aa_cons (ae_op (ae_take2 rfl (ae_op (ae_int (ae_int (ar_Ii (C := CPow) ⟨(by decide), (by decide), (by decide)⟩ ⟨_, rfl, (by decide), (by decide), F + 1, rfl, fun v3 c0 c1 => ?_⟩))))))))))
  refine ae_op (ae_int (ae_int (ar_Ii (C := CPow) ⟨(by decide), (by decide), (by decide)⟩ (ar_I0i (aa_nil ⟨(by show 6 ≤ sizeLine; decide), ?_⟩)))))
  refine as_ret (ae_ofL rfl (ae_var rfl ⟨_, rfl, (by show 1 ≤ 6; decide), (by show 6 ≤ 1000; decide), F, rfl, fun d hd => ⟨?_, _, rfl, Nat.le_refl _⟩⟩))
  have e12 : (10 : Int) ^ (12 : Int).toNat = 1000000000000 := by decide
  have e11 : (10 : Int) ^ (11 : Int).toNat = 100000000000 := by decide
  rw [e12] at c1
  rw [e11] at hd
  have hd : d ∈ [Dt.non, Dt.non, Dt.int (v1 - 3), Dt.int (v2 - 3), Dt.int 0, Dt.int (v3 - 100000000000)] := hd
  simp only [List.mem_cons, List.not_mem_nil, or_false] at hd
  rcases hd with rfl | rfl | rfl | rfl | rfl | rfl
  · exact ⟨none, rfl, bn_non⟩
  · exact ⟨none, rfl, bn_non⟩
  · exact ⟨some (v1 - 3), rfl, bn_some (by omega)⟩
  · exact ⟨some (v2 - 3), rfl, bn_some (by omega)⟩
  · exact ⟨some 0, rfl, bn_some (by omega)⟩
  · exact ⟨some (v3 - 100000000000), rfl, bn_some (by omega)⟩
theorem ok_l_rows (bl : Blts mg) {g_l_limit : Addr} {d_l_limit : FuncData} (c_l_limit : Cal P w K mg base 4 "_law_limit" p_l_limit (spB K 7 domL postL) g_l_limit d_l_limit)  {f : Addr} {fd : FuncData} (F : Fun K "_law_rows" "_law_rows" s_l_rows f fd) : FnOk P w K mg base CX0 5 f fd p_l_rows (spB K 175 (domN) (postRw)) := by
  refine okB F sc_l_rows (fun ds h => ?_) (fun cdv A outer s H E hr ds h => ?_)
  · obtain ⟨n, rfl, n5⟩ := h
    rfl
  obtain ⟨n, rfl, n5⟩ := h
  refine ⟨_, (pss_cons (ps_set (i := 2) sc_l_rows.nd rfl (by first | exact Or.inl rfl | exact Or.inr rfl) (pe_lst pa_nil))
    (pss_cons (ps_for PassesOwn.never rfl (pi_range1 rfl bl.range (pa_cons (pv 1) pa_nil)) (pg_name (i := 3) sc_l_rows.nd rfl (by first | exact Or.inl rfl | exact Or.inr rfl)) (pss_one (ps_expr (pe_bm PySem.F.plainAttrs_list PySem.F.slot_list_append PySem.F.type_list_append mt_append (pv 2) (pa_cons (pe_callTy call_tuple_of rfl bl.tuple (by decide +kernel) (pa_cons (pe_lc (own := [("_law_to", 4)]) (g := (gName 4)) (te := (tIf (tTest (tOp rEq (tVar 3) (tVar 4))) (tC (.int 0)) (tCall (spB K 7 domL postL) [] E0 (tCons (tVar 0) tNil)))) (tt := tYes) rfl sc_l_rows.nd (pi_range1 rfl bl.range (pa_cons (pv 1) pa_nil)) (blkOk_by (N := N_l_rows) (sc := defScope s_l_rows) (by decide +kernel)) (fun _ _ _ _ _ => (pg_name (i := 4) sc_l_rows.nd rfl (by first | exact Or.inl rfl | exact Or.inr rfl))) (fun _ _ _ _ _ => pts_nil) (fun _ _ _ _ _ => (pe_ifExp (pt_cmpR op_eq (pv 3) (pv 4) (nomark _)) pe_int (pe_call c_l_limit.ok (hr.mono (by decide)) rfl c_l_limit.mg c_l_limit.kp c_l_limit.bi .nil pass0 (pa_cons (pv 0) pa_nil))))) pa_nil)) pa_nil)))))
    (pss_one (ps_ret (pe_callTy call_tuple_of rfl bl.tuple (by decide +kernel) (pa_cons (pv 2) pa_nil)))))), fun b F => ?_⟩
  change AS K _ [En.bx _ _, En.da _, En.no, En.no, En.no] _ _
  try simp only [cxOf_K, cxOf_w]
  have z9 : 9000 ≤ sizeLine := by decide
  have rg : ∀ k : Nat, (rgD 0 ((k : Nat) : Int).toNat) = (List.range k).map fun i => Dt.int ((i : Nat) : Int) := fun k => by
    unfold rgD
    rw [Int.toNat_natCast]
    exact List.map_congr_left fun i _ => by rw [Int.zero_add]
  have rl : ∀ k : Nat, ((List.range k).map fun i => Dt.int ((i : Nat) : Int)).length = k := fun k => by rw [List.length_map, List.length_range]
  have hnn : n * n ≤ 25 := Nat.mul_le_mul n5 n5
  refine as_seq (as_own (aa_nil ⟨Nat.zero_le _, ?_⟩))
  refine as_seq (as_for (ai_rng1 (aa_cons (ae_var rfl (aa_nil ⟨_, rfl, (by omega), (by omega), ?_⟩)))))
  rw [rg]
  refine ⟨fun i ρ => ∃ f R e3, ρ = [.bx b f, .da (.int (n : Int)), .own (R.map rwT), e3, .no] ∧ F + 35 * (n - i) ≤ f ∧ Rw 0 n i R, ⟨F + 175, [], .no, rfl, by omega, Rw.nil⟩, ?_, ?_⟩
  · rintro i d ρ2 hd ⟨f, R, e3, rfl, hf, rw1⟩
    obtain ⟨hi, rfl⟩ := rg_at hd
    obtain ⟨f1, rfl⟩ : ∃ f1, f = f1 + 35 := ⟨f - 35, by omega⟩
    have hf1 : F + 35 * (n - (i + 1)) ≤ f1 := by omega
    clear hf hd
    refine ag_name (as_append ?_ ⟨_, rfl⟩)
    refine ae_cb (aa_cons (ae_lc (ai_rng1 (aa_cons (ae_var rfl (aa_nil ⟨_, rfl, (by omega), (by omega), ?_⟩))))))
    rw [rg]
    refine ⟨fun j acc ρ => ∃ f2 L, acc = List.map oD L ∧ L.length = j ∧ (i < j → L[i]? = some (some 0)) ∧ (∀ o, o ∈ L → bnO 0 o) ∧ ρ = [.bx b f2, .da (.int (n : Int)), .own (R.map rwT), .da (.int ((i : Nat) : Int)), .no] ∧ f1 + 7 * (n - j) ≤ f2, ⟨f1 + 35, [], rfl, rfl, fun h => absurd h (Nat.not_lt_zero _), fun o h => (by cases h), rfl, by omega⟩, ?_, ?_⟩
    · rintro j d acc ρ3 hd ⟨f2, L, rfl, hL, h0, hB, rfl, hf2⟩
      obtain ⟨hj, rfl⟩ := rg_at hd
      obtain ⟨f3, rfl⟩ : ∃ f3, f2 = f3 + 7 := ⟨f2 - 7, by omega⟩
      have go : ∀ (o : Option Int) (f4 : Nat), f1 + 7 * (n - (j + 1)) ≤ f4 → (i = j → o = some 0) → bnO 0 o → ∃ f2 L', List.map oD L ++ [oD o] = List.map oD L' ∧ L'.length = j + 1 ∧ (i < j + 1 → L'[i]? = some (some 0)) ∧ (∀ o, o ∈ L' → bnO 0 o) ∧ ([En.bx b f4, .da (.int (n : Int)), .own (R.map rwT), .da (.int ((i : Nat) : Int)), .no] : List En) = [.bx b f2, .da (.int (n : Int)), .own (R.map rwT), .da (.int ((i : Nat) : Int)), .no] ∧ f1 + 7 * (n - (j + 1)) ≤ f2 := fun o f4 h1 h2 h3 => by
        refine ⟨f4, L ++ [o], by rw [List.map_append]; rfl, by rw [List.length_append, hL]; rfl, fun h => ?_, fun p hp => ?_, rfl, h1⟩
        rcases Nat.lt_or_ge i j with c | c
        · rw [List.getElem?_append_left (by omega)]; exact h0 c
        · have e : i = j := by omega
          rw [h2 e, List.getElem?_append_right (by omega), show i - L.length = 0 by omega]; rfl
        · rcases List.mem_append.mp hp with hp | hp
          · exact hB p hp
          · rw [List.mem_singleton.mp hp]; exact h3
      refine agv_name (by decide) (at_yes ⟨fun _ => ?_, fun z => nomatch z⟩)
      refine ae_if (at_test (ae_op (ae_var rfl (ae_var rfl (ar_eq3 ⟨rfl, rfl, rfl⟩ ⟨_, rfl, fun h => ae_int ⟨?_, go (some 0) _ (by omega) (fun _ => rfl) (bn_some (by omega))⟩, fun h => ae_draw rfl (aa_nil ⟨rfl, f3, rfl, fun d hd => ?_⟩)⟩)))))
      · rw [List.length_map]; omega
      · obtain ⟨o, rfl, hbo⟩ := hd
        refine ⟨?_, go o _ (by omega) (fun e => ?_) hbo⟩
        · rw [List.length_map]; omega
        · exact absurd (show (V.int ((i : Nat) : Int)) = V.int ((j : Nat) : Int) by rw [e]) (of_decide_eq_false h)
    · rintro acc ρ3 ⟨f2, L, rfl, hL, h0, hB, rfl, hf2⟩
      rw [rl] at hL h0 hf2
      refine ⟨fun k hk _ => by rw [List.mem_singleton.mp hk]; rfl, ?_⟩
      refine aa_nil (ac_tupL ⟨_, rfl, (by rw [List.length_map, rw1.r]; omega), ⟨f2, R ++ [L], .da (.int ((i : Nat) : Int)), (by rw [List.map_append]; rfl), by omega, rw1.app hL (h0 hi) hB⟩⟩)
  · rintro ρ ⟨f, R, e3, rfl, hf, rw1⟩
    rw [rl] at hf rw1
    refine as_ret (ae_cb (aa_cons (ae_frz (i := 2) rfl (ae_var rfl (aa_nil (ac_tupL ⟨fun m hm => ?_, _, rfl, by omega⟩))))))
    cases i_inj hm
    exact ⟨gO R, gO_row rw1, fun i hi => gO_dg rw1 hi, gO_bn rw1⟩
theorem ok_l_loose (bl : Blts mg) {n : Nat} {g_l_loose : Addr} {d_l_loose : FuncData} (c_l_loose : Cal P w K mg base n "_law_loose" p_l_loose (spP K (S_loo n)) g_l_loose d_l_loose)  {f : Addr} {fd : FuncData} (F : Fun K "_law_loose" "_law_loose" s_l_loose f fd) : FnOk P w K mg base CX0 (n + 1) f fd p_l_loose (spP K (S_loo (n + 1))) := by
  refine okP F sc_l_loose (fun ds r h => ?_) (fun cdv A outer s H E hr ds r h => ?_)
  · obtain ⟨d, rfl, n1, f1, rfl⟩ := h
    rfl
  obtain ⟨d, rfl, n1, f1, rfl⟩ := h
  refine ⟨_, (pss_one (ps_ret (pe_ifExp (pt_val (pe_callB call_isiT rfl bl.isinstance (by decide +kernel) (pa_cons (pv 0) (pa_cons (pe_tup (pa_cons (pe_bltn (v := .ty "list") rfl bl.list (by decide +kernel) rfl) (pa_cons (pe_bltn (v := .ty "tuple") rfl bl.tuple (by decide +kernel) rfl) pa_nil))) pa_nil)))) (pe_lc (own := [("_law_part", 1)]) (g := (gName 1)) (te := (tCall (spP K (S_loo n)) [] E0 (tCons (tVar 1) tNil))) (tt := tYes) rfl sc_l_loose.nd (pi_or (pi_list (pv 0)) (pi_tup (pv 0))) (blkOk_by (N := N_l_loose) (sc := defScope s_l_loose) (by decide +kernel)) (fun _ _ _ _ _ => (pg_name (i := 1) sc_l_loose.nd rfl (by first | exact Or.inl rfl | exact Or.inr rfl))) (fun _ _ _ _ _ => pts_nil) (fun _ _ _ _ _ => (pe_call c_l_loose.ok hr rfl c_l_loose.mg c_l_loose.kp c_l_loose.bi .nil pass0 (pa_cons (pv 1) pa_nil)))) (pv 0)))), ?_⟩
  change AS K _ [En.da _, En.no] _ _
  try simp only [cxOf_K]
  cases d with
  | non =>
    repeat' (first
      | (first | refine ⟨rfl, false, .inr ⟨kb_NoneType_list, kb_NoneType_tuple⟩, ?_⟩ | refine ⟨rfl, false, .inr ⟨kb_NoneType_bool, kb_NoneType_str⟩, ?_⟩)
      | exact rfl
      | with_reducible apply as_ret
      | ((with_reducible apply ae_var); · rfl)
      | with_reducible apply ae_isi2
      | with_reducible apply ae_if
      | with_reducible apply at_b
      | refine ⟨_, rfl, ?_⟩
      | (refine ⟨fun hc => ?_, fun hc => ?_⟩ <;> (first | (exfalso; exact absurd (show false = true from hc) (by decide)) | (exfalso; exact absurd (show true = false from hc) (by decide)) | (exfalso; simp at hc; done) | skip))
      | fail)
  | bl b =>
    repeat' (first
      | (first | refine ⟨rfl, false, .inr ⟨kb_bool_list, kb_bool_tuple⟩, ?_⟩ | refine ⟨rfl, true, .inl ⟨kb_bool_bool, rfl⟩, ?_⟩)
      | exact rfl
      | with_reducible apply as_ret
      | ((with_reducible apply ae_var); · rfl)
      | with_reducible apply ae_isi2
      | with_reducible apply ae_if
      | with_reducible apply at_b
      | refine ⟨_, rfl, ?_⟩
      | (refine ⟨fun hc => ?_, fun hc => ?_⟩ <;> (first | (exfalso; exact absurd (show false = true from hc) (by decide)) | (exfalso; exact absurd (show true = false from hc) (by decide)) | (exfalso; simp at hc; done) | skip))
      | fail)
  | int i =>
    repeat' (first
      | (first | refine ⟨rfl, false, .inr ⟨kb_int_list, kb_int_tuple⟩, ?_⟩ | refine ⟨rfl, false, .inr ⟨kb_int_bool, kb_int_str⟩, ?_⟩)
      | exact rfl
      | with_reducible apply as_ret
      | ((with_reducible apply ae_var); · rfl)
      | with_reducible apply ae_isi2
      | with_reducible apply ae_if
      | with_reducible apply at_b
      | refine ⟨_, rfl, ?_⟩
      | (refine ⟨fun hc => ?_, fun hc => ?_⟩ <;> (first | (exfalso; exact absurd (show false = true from hc) (by decide)) | (exfalso; exact absurd (show true = false from hc) (by decide)) | (exfalso; simp at hc; done) | skip))
      | fail)
  | str z =>
    repeat' (first
      | (first | refine ⟨rfl, false, .inr ⟨kb_str_list, kb_str_tuple⟩, ?_⟩ | refine ⟨rfl, true, .inr ⟨kb_str_bool, kb_str_str⟩, ?_⟩)
      | exact rfl
      | with_reducible apply as_ret
      | ((with_reducible apply ae_var); · rfl)
      | with_reducible apply ae_isi2
      | with_reducible apply ae_if
      | with_reducible apply at_b
      | refine ⟨_, rfl, ?_⟩
      | (refine ⟨fun hc => ?_, fun hc => ?_⟩ <;> (first | (exfalso; exact absurd (show false = true from hc) (by decide)) | (exfalso; exact absurd (show true = false from hc) (by decide)) | (exfalso; simp at hc; done) | skip))
      | fail)
  | ty T => exact absurd f1 (fun z => nomatch z)
  | tup l =>
    have hl : l.length ≤ 9000 := by
      have f2 : (decide (l.length ≤ 9000) && fits l) = true := f1
      rw [Bool.and_eq_true] at f2; exact of_decide_eq_true f2.1
    have hf : fits l = true := by
      have f2 : (decide (l.length ≤ 9000) && fits l) = true := f1
      rw [Bool.and_eq_true] at f2; exact f2.2
    have hd : deps l ≤ n := Nat.le_of_succ_le_succ (show deps l + 1 ≤ n + 1 from n1)
    repeat' (first
      | (first | refine ⟨rfl, true, .inr ⟨kb_tuple_list, kb_tuple_tuple⟩, ?_⟩ | refine ⟨rfl, false, .inr ⟨kb_tuple_bool, kb_tuple_str⟩, ?_⟩)
      | with_reducible apply as_ret
      | ((with_reducible apply ae_var); · rfl)
      | with_reducible apply ae_isi2
      | with_reducible apply ae_if
      | with_reducible apply at_b
      | refine ⟨_, rfl, ?_⟩
      | (refine ⟨fun hc => ?_, fun hc => ?_⟩ <;> (first | (exfalso; exact absurd (show false = true from hc) (by decide)) | (exfalso; exact absurd (show true = false from hc) (by decide)) | (exfalso; simp at hc; done) | skip))
      | fail)
    refine ae_lcMap looD (ai_or2 (ai_tup (ae_var rfl ⟨_, rfl, Nat.lt_of_le_of_lt hl (by decide), fun e he => ?_, ?_⟩)))
    · refine agv_name (by decide) (ae_call (aa_cons (ae_var rfl (aa_nil ⟨_, ⟨e, rfl, Nat.le_trans (deps_mem he) hd, fits_mem hf he, rfl⟩, rfl, rfl⟩))))
    · show _ = looD _
      unfold looD
      rw [loo_map]
  | lst l =>
    have hl : l.length ≤ 9000 := by
      have f2 : (decide (l.length ≤ 9000) && fits l) = true := f1
      rw [Bool.and_eq_true] at f2; exact of_decide_eq_true f2.1
    have hf : fits l = true := by
      have f2 : (decide (l.length ≤ 9000) && fits l) = true := f1
      rw [Bool.and_eq_true] at f2; exact f2.2
    have hd : deps l ≤ n := Nat.le_of_succ_le_succ (show deps l + 1 ≤ n + 1 from n1)
    repeat' (first
      | (first | refine ⟨rfl, true, .inl ⟨kb_list_list, rfl⟩, ?_⟩ | refine ⟨rfl, false, .inr ⟨kb_list_bool, kb_list_str⟩, ?_⟩)
      | with_reducible apply as_ret
      | ((with_reducible apply ae_var); · rfl)
      | with_reducible apply ae_isi2
      | with_reducible apply ae_if
      | with_reducible apply at_b
      | refine ⟨_, rfl, ?_⟩
      | (refine ⟨fun hc => ?_, fun hc => ?_⟩ <;> (first | (exfalso; exact absurd (show false = true from hc) (by decide)) | (exfalso; exact absurd (show true = false from hc) (by decide)) | (exfalso; simp at hc; done) | skip))
      | fail)
    refine ae_lcMap looD (ai_or1 (ai_list (ae_var rfl ⟨_, rfl, Nat.lt_of_le_of_lt hl (by decide), fun e he => ?_, ?_⟩)))
    · refine agv_name (by decide) (ae_call (aa_cons (ae_var rfl (aa_nil ⟨_, ⟨e, rfl, Nat.le_trans (deps_mem he) hd, fits_mem hf he, rfl⟩, rfl, rfl⟩))))
    · show _ = looD _
      unfold looD
      rw [loo_map]
theorem all_loose (bl : Blts mg) {f : Addr} {fd : FuncData} (F : Fun K "_law_loose" "_law_loose" s_l_loose f fd) (bG : Binds K fd p_l_loose []) (mG : mg "_law_loose" = some (.ref f)) : ∀ n : Nat, FnOk P w K mg base CX0 n f fd p_l_loose (spP K (S_loo n))
  | 0 => none0 fun vs H Q E h => by
    obtain ⟨G, ds, r, _, _, ⟨d, _, h1, _⟩, _⟩ := h
    have := dep_pos d
    omega
  | n + 1 => ok_l_loose bl ⟨all_loose bl F bG mG n, bG, F.kp, mG⟩ F
theorem ok_l_below (bl : Blts mg)   {f : Addr} {fd : FuncData} (F : Fun K "_law_below" "_law_below" s_l_below f fd) : FnOk P w K mg base CX0 1 f fd p_l_below (spP K (S_hw)) := by
  refine okP F sc_l_below (fun ds r h => ?_) (fun cdv A outer s H E hr ds r h => ?_)
  · obtain ⟨a, b, rfl, rfl⟩ := h
    rfl
  obtain ⟨a, b, rfl, rfl⟩ := h
  refine ⟨_, (pss_one (ps_ret (pe_or (pe_cmpR op_isN (pv 1) pe_non (nomark _)) (pe_one (pe_and (pe_cmpR op_notN (pv 0) pe_non (nomark _)) (pe_one (pe_cmpR op_le (pv 0) (pv 1) (nomark _)))))))), ?_⟩
  change AS K _ [En.da _, En.da _] _ _
  try simp only [cxOf_K]
  cases a with
  | none =>
    cases b with
    | none =>
      repeat' (first
        | with_reducible apply as_ret
        | ((with_reducible apply ae_var); · rfl)
        | with_reducible apply ae_non
        | with_reducible apply ae_op
        | with_reducible apply ae_orV
        | with_reducible apply ar_isN
        | refine ⟨_, rfl, ?_⟩
        | (refine ⟨fun hc => ?_, fun hc => ?_⟩ <;> (first | (exfalso; exact absurd (show false = true from hc) (by decide)) | (exfalso; exact absurd (show true = false from hc) (by decide)) | (exfalso; simp at hc; done) | skip))
        | rfl
        | fail)
    | some y =>
      repeat' (first
        | with_reducible apply as_ret
        | ((with_reducible apply ae_var); · rfl)
        | with_reducible apply ae_non
        | with_reducible apply ae_op
        | with_reducible apply ae_andV
        | with_reducible apply ae_orV
        | with_reducible apply ar_isN
        | with_reducible apply ar_notN
        | refine ⟨_, rfl, ?_⟩
        | (refine ⟨fun hc => ?_, fun hc => ?_⟩ <;> (first | (exfalso; exact absurd (show false = true from hc) (by decide)) | (exfalso; exact absurd (show true = false from hc) (by decide)) | (exfalso; simp at hc; done) | skip))
        | rfl
        | fail)
  | some x =>
    cases b with
    | none =>
      repeat' (first
        | with_reducible apply as_ret
        | ((with_reducible apply ae_var); · rfl)
        | with_reducible apply ae_non
        | with_reducible apply ae_op
        | with_reducible apply ae_orV
        | with_reducible apply ar_isN
        | refine ⟨_, rfl, ?_⟩
        | (refine ⟨fun hc => ?_, fun hc => ?_⟩ <;> (first | (exfalso; exact absurd (show false = true from hc) (by decide)) | (exfalso; exact absurd (show true = false from hc) (by decide)) | (exfalso; simp at hc; done) | skip))
        | rfl
        | fail)
    | some y =>
      repeat' (first
        | with_reducible apply as_ret
        | ((with_reducible apply ae_var); · rfl)
        | with_reducible apply ae_non
        | with_reducible apply ae_op
        | with_reducible apply ae_andV
        | with_reducible apply ae_orV
        | with_reducible apply ar_I0b
        | with_reducible apply ar_isN
        | with_reducible apply ar_notN
        | refine ⟨_, rfl, ?_⟩
        | (refine ⟨fun hc => ?_, fun hc => ?_⟩ <;> (first | (exfalso; exact absurd (show false = true from hc) (by decide)) | (exfalso; exact absurd (show true = false from hc) (by decide)) | (exfalso; simp at hc; done) | skip))
        | rfl
        | simp only [oD_some, oD_none]
        | fail)
end
end Sh
set_option Elab.async false
set_option linter.all false
set_option maxRecDepth 100000
set_option maxHeartbeats 4000000
namespace Sh
open PySem PySem.Spec PyProof.Rows L2
theorem ech_at {w : Nat} (hw : w < 3) {a b : Option Int} : atI [oD (jnH a b), oD (tmH a b), oD (wdH a b)] ((w : Nat) : Int) = some (oD (ech w a b)) := by
  rcases (by omega : w = 0 ∨ w = 1 ∨ w = 2) with rfl | rfl | rfl <;> exact atI_nat rfl
theorem dec_int {i a : Nat} : decide ((V.int (i : Int)) = V.int (a : Int)) = decide (i = a) := by
  rw [decide_eq_decide]
  constructor
  · intro h; injection h with h; omega
  · intro h; rw [h]
theorem ar_eqN {K : PySem.W.Frag} {i a : Nat} {Φ : Dt → Prop} (h : Φ (.bl (decide (i = a)))) : AR K rEq (.int (i : Int)) (.int (a : Int)) Φ := ar_eq3 ⟨rfl, rfl, rfl⟩ (by rw [dec_int]; exact h)
section
variable {P : Program} {w : World} {K : PySem.W.Frag} {mg : Str → Option Value} {base : Heap}
theorem ok_l_each (bl : Blts mg) {g_l_below : Addr} {d_l_below : FuncData} (c_l_below : Cal P w K mg base 1 "_law_below" p_l_below (spP K S_hw) g_l_below d_l_below)  {f : Addr} {fd : FuncData} (F : Fun K "_law_each" "_law_each" s_l_each f fd) : FnOk P w K mg base CX0 3 f fd p_l_each (spP K (S_ea)) := by
  refine okP F sc_l_each (fun ds r h => ?_) (fun cdv A outer s H E hr ds r h => ?_)
  · obtain ⟨n, M, N, w0, rfl, n90, hw, rfl⟩ := h
    rfl
  obtain ⟨n, M, N, w0, rfl, n90, hw, rfl⟩ := h
  refine ⟨_, (pss_cons (ps_set (i := 3) sc_l_each.nd rfl (by first | exact Or.inl rfl | exact Or.inr rfl) (pe_lst pa_nil))
    (pss_cons (ps_for PassesOwn.never rfl (pi_zipK rfl bl.zip (pa_cons (pv 0) (pa_cons (pv 1) pa_nil))) (pg_tup rfl (pgs_cons (pg_name (i := 4) sc_l_each.nd rfl (by first | exact Or.inl rfl | exact Or.inr rfl)) (pgs_cons (pg_name (i := 5) sc_l_each.nd rfl (by first | exact Or.inl rfl | exact Or.inr rfl)) pgs_nil))) (pss_cons (ps_set (i := 6) sc_l_each.nd rfl (by first | exact Or.inl rfl | exact Or.inr rfl) (pe_lst pa_nil))
    (pss_cons (ps_for PassesOwn.never rfl (pi_zipK rfl bl.zip (pa_cons (pv 4) (pa_cons (pv 5) pa_nil))) (pg_tup rfl (pgs_cons (pg_name (i := 7) sc_l_each.nd rfl (by first | exact Or.inl rfl | exact Or.inr rfl)) (pgs_cons (pg_name (i := 8) sc_l_each.nd rfl (by first | exact Or.inl rfl | exact Or.inr rfl)) pgs_nil))) (pss_cons (ps_set (i := 9) sc_l_each.nd rfl (by first | exact Or.inl rfl | exact Or.inr rfl) (pe_call c_l_below.ok (hr.mono (by decide)) rfl c_l_below.mg c_l_below.kp c_l_below.bi .nil pass0 (pa_cons (pv 7) (pa_cons (pv 8) pa_nil))))
    (pss_one (ps_expr (pe_bm PySem.F.plainAttrs_list PySem.F.slot_list_append PySem.F.type_list_append mt_append (pv 6) (pa_cons (pe_ix ix_list (pe_lst (pa_cons (pe_ifExp (pt_val (pv 9)) (pv 8) (pv 7)) (pa_cons (pe_ifExp (pt_val (pv 9)) (pv 7) (pv 8)) (pa_cons (pe_ifExp (pt_val (pe_call c_l_below.ok (hr.mono (by decide)) rfl c_l_below.mg c_l_below.kp c_l_below.bi .nil pass0 (pa_cons (pv 8) (pa_cons (pv 7) pa_nil)))) (pv 7) pe_non) pa_nil)))) (pv 2) (fun _ _ => rfl)) pa_nil))))))
    (pss_one (ps_expr (pe_bm PySem.F.plainAttrs_list PySem.F.slot_list_append PySem.F.type_list_append mt_append (pv 3) (pa_cons (pe_callTy call_tuple_of rfl bl.tuple (by decide +kernel) (pa_cons (pv 6) pa_nil)) pa_nil)))))))
    (pss_one (ps_ret (pe_callTy call_tuple_of rfl bl.tuple (by decide +kernel) (pa_cons (pv 3) pa_nil)))))), ?_⟩
  change AS K _ [En.da _, En.da _, En.da _, En.no, En.no, En.no, En.no, En.no, En.no, En.no] _ _
  try simp only [cxOf_K]
  have z9 : 9000 ≤ sizeLine := by decide
  have rg : ∀ k : Nat, (rgD 0 ((k : Nat) : Int).toNat) = (List.range k).map fun i => Dt.int ((i : Nat) : Int) := fun k => by
    unfold rgD
    rw [Int.toNat_natCast]
    exact List.map_congr_left fun i _ => by rw [Int.zero_add]
  have rl : ∀ k : Nat, ((List.range k).map fun i => Dt.int ((i : Nat) : Int)).length = k := fun k => by rw [List.length_map, List.length_range]
  refine as_seq (as_own (aa_nil ⟨Nat.zero_le _, ?_⟩))
  refine as_seq (as_for (ai_zipK (aa_cons (ae_var rfl (aa_cons (ae_var rfl (aa_nil ⟨true, true, _, _, rfl, ?_⟩)))))))
  rw [zp_rg]
  refine ⟨fun i ρ => ∃ e4 e5 e6 e7 e8 e9, ρ = [.da (gD true true n M), .da (gD true true n N), .da (.int (w0 : Int)), .own ((List.range i).map fun i => .tup (rwD n (fun i j => ech w0 (M i j) (N i j)) i)), e4, e5, e6, e7, e8, e9], ⟨.no, .no, .no, .no, .no, .no, rfl⟩, ?_, ?_⟩
  · rintro i d ρ2 hd ⟨e4, e5, e6, e7, e8, e9, rfl⟩
    obtain ⟨hi, rfl⟩ := rg_at hd
    refine ag_tup rfl (ags_cons (ag_name (ags_cons (ag_name (ags_nil ?_)))))
    refine as_seq (as_own (aa_nil ⟨Nat.zero_le _, ?_⟩))
    refine as_seq (as_for (ai_zipK (aa_cons (ae_var rfl (aa_cons (ae_var rfl (aa_nil ⟨true, true, _, _, rfl, ?_⟩)))))))
    rw [zp_row]
    refine ⟨fun j ρ => ∃ e7 e8 e9, ρ = [.da (gD true true n M), .da (gD true true n N), .da (.int (w0 : Int)), .own ((List.range i).map fun i => .tup (rwD n (fun i j => ech w0 (M i j) (N i j)) i)), .da (sq true (rwD n M i)), .da (sq true (rwD n N i)), .own ((List.range j).map fun j => oD (ech w0 (M i j) (N i j))), e7, e8, e9], ⟨e7, e8, e9, rfl⟩, ?_, ?_⟩
    · rintro j d ρ3 hd ⟨e7, e8, e9, rfl⟩
      obtain ⟨hj, rfl⟩ := rg_at hd
      refine ag_tup rfl (ags_cons (ag_name (ags_cons (ag_name (ags_nil ?_)))))
      refine as_seq (as_set (ae_call (aa_cons (ae_var rfl (aa_cons (ae_var rfl (aa_nil ⟨_, ⟨_, _, rfl, rfl⟩, ?_⟩)))))))
      show AS K _ [.da (gD true true n M), .da (gD true true n N), .da (.int (w0 : Int)), .own ((List.range i).map fun i => .tup (rwD n (fun i j => ech w0 (M i j) (N i j)) i)), .da (sq true (rwD n M i)), .da (sq true (rwD n N i)), .own ((List.range j).map fun j => oD (ech w0 (M i j) (N i j))), .da (oD (M i j)), .da (oD (N i j)), .da (.bl (hwI (M i j) (N i j)))] _ _
      have es : (List.range (j + 1)).map (fun j => oD (ech w0 (M i j) (N i j))) = (List.range j).map (fun j => oD (ech w0 (M i j) (N i j))) ++ [oD (ech w0 (M i j) (N i j))] := by rw [List.range_succ, List.map_append]; rfl
      have ea := ech_at hw (a := M i j) (b := N i j)
      have j1 := jn_ech (a := M i j) (b := N i j)
      have j2 := tm_ech (a := M i j) (b := N i j)
      have j3 : wdH (M i j) (N i j) = if hwI (N i j) (M i j) = true then M i j else none := rfl
      generalize oD (ech w0 (M i j) (N i j)) = rr at ea es
      refine as_append (ae_op (ae_lst ?_)) ⟨_, rfl⟩
      cases h1 : hwI (M i j) (N i j) <;> cases h2 : hwI (N i j) (M i j) <;> (rw [h1] at j1 j2; rw [h2] at j3)
      · refine aa_cons (ae_if (at_b (ae_var rfl ⟨false, rfl, fun h => absurd (show false = true from h) (by decide), fun _ => ae_var rfl (aa_cons (ae_if (at_b (ae_var rfl ⟨false, rfl, fun h => absurd (show false = true from h) (by decide), fun _ => ae_var rfl (aa_cons (ae_if (at_b (ae_call (aa_cons (ae_var rfl (aa_cons (ae_var rfl (aa_nil ⟨_, ⟨_, _, rfl, rfl⟩, ⟨false, (by rw [h2]), fun h => absurd (show false = true from h) (by decide), fun _ => ae_non (aa_nil ⟨(by show 3 ≤ sizeLine; omega), ae_var rfl (ar_ixL (d := rr) ?_ ⟨_, rfl, (by rw [List.length_map, List.length_range]; omega), ⟨_, _, _, (by rw [es]; rfl)⟩⟩)⟩)⟩⟩)))))))))⟩))))⟩)))
        rw [← ea, j1, j2, j3]; rfl
      · refine aa_cons (ae_if (at_b (ae_var rfl ⟨false, rfl, fun h => absurd (show false = true from h) (by decide), fun _ => ae_var rfl (aa_cons (ae_if (at_b (ae_var rfl ⟨false, rfl, fun h => absurd (show false = true from h) (by decide), fun _ => ae_var rfl (aa_cons (ae_if (at_b (ae_call (aa_cons (ae_var rfl (aa_cons (ae_var rfl (aa_nil ⟨_, ⟨_, _, rfl, rfl⟩, ⟨true, (by rw [h2]), fun _ => ae_var rfl (aa_nil ⟨(by show 3 ≤ sizeLine; omega), ae_var rfl (ar_ixL (d := rr) ?_ ⟨_, rfl, (by rw [List.length_map, List.length_range]; omega), ⟨_, _, _, (by rw [es]; rfl)⟩⟩)⟩), fun h => absurd (show true = false from h) (by decide)⟩⟩)))))))))⟩))))⟩)))
        rw [← ea, j1, j2, j3]; rfl
      · refine aa_cons (ae_if (at_b (ae_var rfl ⟨true, rfl, fun _ => ae_var rfl (aa_cons (ae_if (at_b (ae_var rfl ⟨true, rfl, fun _ => ae_var rfl (aa_cons (ae_if (at_b (ae_call (aa_cons (ae_var rfl (aa_cons (ae_var rfl (aa_nil ⟨_, ⟨_, _, rfl, rfl⟩, ⟨false, (by rw [h2]), fun h => absurd (show false = true from h) (by decide), fun _ => ae_non (aa_nil ⟨(by show 3 ≤ sizeLine; omega), ae_var rfl (ar_ixL (d := rr) ?_ ⟨_, rfl, (by rw [List.length_map, List.length_range]; omega), ⟨_, _, _, (by rw [es]; rfl)⟩⟩)⟩)⟩⟩))))))))), fun h => absurd (show true = false from h) (by decide)⟩)))), fun h => absurd (show true = false from h) (by decide)⟩)))
        rw [← ea, j1, j2, j3]; rfl
      · refine aa_cons (ae_if (at_b (ae_var rfl ⟨true, rfl, fun _ => ae_var rfl (aa_cons (ae_if (at_b (ae_var rfl ⟨true, rfl, fun _ => ae_var rfl (aa_cons (ae_if (at_b (ae_call (aa_cons (ae_var rfl (aa_cons (ae_var rfl (aa_nil ⟨_, ⟨_, _, rfl, rfl⟩, ⟨true, (by rw [h2]), fun _ => ae_var rfl (aa_nil ⟨(by show 3 ≤ sizeLine; omega), ae_var rfl (ar_ixL (d := rr) ?_ ⟨_, rfl, (by rw [List.length_map, List.length_range]; omega), ⟨_, _, _, (by rw [es]; rfl)⟩⟩)⟩), fun h => absurd (show true = false from h) (by decide)⟩⟩))))))))), fun h => absurd (show true = false from h) (by decide)⟩)))), fun h => absurd (show true = false from h) (by decide)⟩)))
        rw [← ea, j1, j2, j3]; rfl
    · rintro ρ3 ⟨e7, e8, e9, rfl⟩
      rw [List.length_map, List.length_range]
      refine as_append (ae_cb (aa_cons (ae_frz (i := 6) rfl (ae_var rfl (aa_nil (ac_tupL ⟨_, rfl, (by rw [List.length_map, List.length_range]; omega), ?_⟩)))))) ⟨_, rfl⟩
      have es : (List.range (i + 1)).map (fun i => Dt.tup (rwD n (fun i j => ech w0 (M i j) (N i j)) i)) = (List.range i).map (fun i => Dt.tup (rwD n (fun i j => ech w0 (M i j) (N i j)) i)) ++ [.tup (rwD n (fun i j => ech w0 (M i j) (N i j)) i)] := by rw [List.range_succ, List.map_append]; rfl
      exact ⟨_, _, _, _, _, _, (by rw [es]; rfl)⟩
  · rintro ρ ⟨e4, e5, e6, e7, e8, e9, rfl⟩
    rw [List.length_map, List.length_range]
    exact as_ret (ae_cb (aa_cons (ae_frz (i := 3) rfl (ae_var rfl (aa_nil (ac_tupL rfl))))))
end
end Sh
set_option Elab.async false
set_option linter.all false
set_option maxRecDepth 100000
set_option maxHeartbeats 4000000
namespace Sh
open PySem PySem.Spec PyProof.Rows L2
section
variable {P : Program} {w : World} {K : PySem.W.Frag} {mg : Str → Option Value} {base : Heap}
theorem ok_l_turned_rows (bl : Blts mg)   {f : Addr} {fd : FuncData} (F : Fun K "_law_turned_rows" "_law_turned_rows" s_l_turned_rows f fd) : FnOk P w K mg base CX0 1 f fd p_l_turned_rows (spP K (S_tu)) := by
  refine okP F sc_l_turned_rows (fun ds r h => ?_) (fun cdv A outer s H E hr ds r h => ?_)
  · obtain ⟨n, M, a, o, rfl, hM, n90, rfl⟩ := h
    rfl
  obtain ⟨n, M, a, o, rfl, hM, n90, rfl⟩ := h
  refine ⟨_, (pss_cons (ps_set (i := 3) sc_l_turned_rows.nd rfl (by first | exact Or.inl rfl | exact Or.inr rfl) (pe_lst pa_nil))
    (pss_cons (ps_for PassesOwn.never rfl (pi_enT rfl bl.enumerate (pa_cons (pv 0) pa_nil)) (pg_tup rfl (pgs_cons (pg_name (i := 4) sc_l_turned_rows.nd rfl (by first | exact Or.inl rfl | exact Or.inr rfl)) (pgs_cons (pg_name (i := 5) sc_l_turned_rows.nd rfl (by first | exact Or.inl rfl | exact Or.inr rfl)) pgs_nil))) (pss_cons (ps_set (i := 6) sc_l_turned_rows.nd rfl (by first | exact Or.inl rfl | exact Or.inr rfl) (pe_lst pa_nil))
    (pss_cons (ps_for PassesOwn.never rfl (pi_enT rfl bl.enumerate (pa_cons (pv 5) pa_nil)) (pg_tup rfl (pgs_cons (pg_name (i := 7) sc_l_turned_rows.nd rfl (by first | exact Or.inl rfl | exact Or.inr rfl)) (pgs_cons (pg_name (i := 8) sc_l_turned_rows.nd rfl (by first | exact Or.inl rfl | exact Or.inr rfl)) pgs_nil))) (pss_cons (ps_set (i := 9) sc_l_turned_rows.nd rfl (by first | exact Or.inl rfl | exact Or.inr rfl) (pe_or (pe_cmpR op_eq (pv 4) (pv 1) (nomark _)) (pe_one (pe_cmpR op_eq (pv 7) (pv 1) (nomark _)))))
    (pss_cons (ps_set (i := 10) sc_l_turned_rows.nd rfl (by first | exact Or.inl rfl | exact Or.inr rfl) (pe_ifExp (PW.pt (pw_or (pt_cmpR op_isN (pv 2) pe_non (nomark _)) (pw_or1 (pt_cmpR op_eq (pv 4) (pv 7) (nomark _))))) pe_int (pe_op op_mul (pv 2) (pe_op op_sub (pe_callTy call_int1 rfl bl.int (by decide +kernel) (pa_cons (pe_cmpR op_eq (pv 4) (pv 1) (nomark _)) pa_nil)) (pe_callTy call_int1 rfl bl.int (by decide +kernel) (pa_cons (pe_cmpR op_eq (pv 7) (pv 1) (nomark _)) pa_nil))))))
    (pss_one (ps_expr (pe_bm PySem.F.plainAttrs_list PySem.F.slot_list_append PySem.F.type_list_append mt_append (pv 6) (pa_cons (pe_ifExp (pt_cmpR op_eq (pv 4) (pv 7) (nomark _)) pe_int (pe_ifExp (PW.pt (pw_or (pt_cmpR op_isN (pv 8) pe_non (nomark _)) (pw_or1 (PW.pt (pw_and (pt_val (pv 9)) (pw_and1 (pt_cmpR op_isN (pv 2) pe_non (nomark _)))))))) pe_non (pe_op op_add (pv 8) (pv 10)))) pa_nil)))))))
    (pss_one (ps_expr (pe_bm PySem.F.plainAttrs_list PySem.F.slot_list_append PySem.F.type_list_append mt_append (pv 3) (pa_cons (pe_callTy call_tuple_of rfl bl.tuple (by decide +kernel) (pa_cons (pv 6) pa_nil)) pa_nil)))))))
    (pss_one (ps_ret (pe_callTy call_tuple_of rfl bl.tuple (by decide +kernel) (pa_cons (pv 3) pa_nil)))))), ?_⟩
  change AS K _ [En.da _, En.da _, En.da _, En.no, En.no, En.no, En.no, En.no, En.no, En.no, En.no] _ _
  try simp only [cxOf_K]
  have z9 : 9000 ≤ sizeLine := by decide
  have rg : ∀ k : Nat, (rgD 0 ((k : Nat) : Int).toNat) = (List.range k).map fun i => Dt.int ((i : Nat) : Int) := fun k => by
    unfold rgD
    rw [Int.toNat_natCast]
    exact List.map_congr_left fun i _ => by rw [Int.zero_add]
  have rl : ∀ k : Nat, ((List.range k).map fun i => Dt.int ((i : Nat) : Int)).length = k := fun k => by rw [List.length_map, List.length_range]
  refine as_seq (as_own (aa_nil ⟨Nat.zero_le _, ?_⟩))
  refine as_seq (as_for (ai_enT (aa_cons (ae_var rfl (aa_nil ⟨_, rfl, ?_⟩)))))
  rw [en_rows]
  refine ⟨fun i ρ => ∃ e4 e5 e6 e7 e8 e9 e10, ρ = [.da (gD true true n M), .da (.int (a : Int)), .da (oD o), .own ((List.range i).map fun i => .tup (rwD n (tuM M a o) i)), e4, e5, e6, e7, e8, e9, e10], ⟨.no, .no, .no, .no, .no, .no, .no, rfl⟩, ?_, ?_⟩
  · rintro i d ρ2 hd ⟨e4, e5, e6, e7, e8, e9, e10, rfl⟩
    obtain ⟨hi, rfl⟩ := rg_at hd
    refine ag_tup rfl (ags_cons (ag_name (ags_cons (ag_name (ags_nil ?_)))))
    refine as_seq (as_own (aa_nil ⟨Nat.zero_le _, ?_⟩))
    refine as_seq (as_for (ai_enT (aa_cons (ae_var rfl (aa_nil ⟨_, rfl, ?_⟩)))))
    rw [en_row]
    refine ⟨fun j ρ => ∃ e7 e8 e9 e10, ρ = [.da (gD true true n M), .da (.int (a : Int)), .da (oD o), .own ((List.range i).map fun i => .tup (rwD n (tuM M a o) i)), .da (.int ((i : Nat) : Int)), .da (.tup (rwD n M i)), .own ((List.range j).map fun j => oD (tuM M a o i j)), e7, e8, e9, e10], ⟨e7, e8, e9, e10, rfl⟩, ?_, ?_⟩
    · rintro j d ρ3 hd ⟨e7, e8, e9, e10, rfl⟩
      obtain ⟨hj, rfl⟩ := rg_at hd
      refine ag_tup rfl (ags_cons (ag_name (ags_cons (ag_name (ags_nil ?_)))))
      show AS K _ [.da (gD true true n M), .da (.int (a : Int)), .da (oD o), .own ((List.range i).map fun i => .tup (rwD n (tuM M a o) i)), .da (.int ((i : Nat) : Int)), .da (.tup (rwD n M i)), .own ((List.range j).map fun j => oD (tuM M a o i j)), .da (.int ((j : Nat) : Int)), .da (oD (M i j)), e9, e10] _ _
      have es : (List.range (j + 1)).map (fun j => oD (tuM M a o i j)) = (List.range j).map (fun j => oD (tuM M a o i j)) ++ [oD (tuM M a o i j)] := by rw [List.range_succ, List.map_append]; rfl
      cases o with
      | none =>
        by_cases ce : i = j
        · have de : decide (i = j) = true := decide_eq_true ce
          by_cases ca : i = a
          · have da : decide (i = a) = true := decide_eq_true ca
            have cb : j = a := by omega
            have db : decide (j = a) = true := decide_eq_true cb
            refine as_seq (as_set (ae_orV (ae_op (ae_var rfl (ae_var rfl (ar_eqN ⟨true, (by rw [da]), fun _ => ?_, fun h => absurd (show true = false from h) (by decide)⟩))))))
            refine as_seq (as_set (ae_if (at_or (at_test (ae_op (ae_var rfl (ae_non (ar_isN ⟨true, rfl, fun _ => ⟨fun _ => ae_int ?_, fun h => absurd (show true = false from h) (by decide)⟩, fun h => absurd (show true = false from h) (by decide)⟩))))))))
            show AS K _ [.da (gD true true n M), .da (.int (a : Int)), .da (oD (none)), .own ((List.range i).map fun i => .tup (rwD n (tuM M a (none)) i)), .da (.int ((i : Nat) : Int)), .da (.tup (rwD n M i)), .own ((List.range j).map fun j => oD (tuM M a (none) i j)), .da (.int ((j : Nat) : Int)), .da (oD (M i j)), .da (.bl true), .da (.int 0)] _ _
            have hv : oD (tuM M a (none) i j) = .int 0 := by
              rw [← ce]
              show oD (woM M a i i) = _
              unfold woM; rw [if_pos (.inl rfl), hM i hi]; rfl
            exact as_append (ae_if (at_test (ae_op (ae_var rfl (ae_var rfl (ar_eqN ⟨true, (by rw [de]), fun _ => ae_int ⟨_, rfl, (by rw [List.length_map, List.length_range]; omega), ⟨_, _, _, _, (by rw [es, hv]; rfl)⟩⟩, fun h => absurd (show true = false from h) (by decide)⟩)))))) ⟨_, rfl⟩
          · have da : decide (i = a) = false := decide_eq_false ca
            have cb : ¬ j = a := by omega
            have db : decide (j = a) = false := decide_eq_false cb
            refine as_seq (as_set (ae_orV (ae_op (ae_var rfl (ae_var rfl (ar_eqN ⟨false, (by rw [da]), fun h => absurd (show false = true from h) (by decide), fun _ => ae_op (ae_var rfl (ae_var rfl (ar_eqN ?_)))⟩))))))
            rw [db]
            refine as_seq (as_set (ae_if (at_or (at_test (ae_op (ae_var rfl (ae_non (ar_isN ⟨true, rfl, fun _ => ⟨fun _ => ae_int ?_, fun h => absurd (show true = false from h) (by decide)⟩, fun h => absurd (show true = false from h) (by decide)⟩))))))))
            show AS K _ [.da (gD true true n M), .da (.int (a : Int)), .da (oD (none)), .own ((List.range i).map fun i => .tup (rwD n (tuM M a (none)) i)), .da (.int ((i : Nat) : Int)), .da (.tup (rwD n M i)), .own ((List.range j).map fun j => oD (tuM M a (none) i j)), .da (.int ((j : Nat) : Int)), .da (oD (M i j)), .da (.bl false), .da (.int 0)] _ _
            have hv : oD (tuM M a (none) i j) = .int 0 := by
              rw [← ce]
              show oD (woM M a i i) = _
              unfold woM; rw [if_pos (.inl rfl), hM i hi]; rfl
            exact as_append (ae_if (at_test (ae_op (ae_var rfl (ae_var rfl (ar_eqN ⟨true, (by rw [de]), fun _ => ae_int ⟨_, rfl, (by rw [List.length_map, List.length_range]; omega), ⟨_, _, _, _, (by rw [es, hv]; rfl)⟩⟩, fun h => absurd (show true = false from h) (by decide)⟩)))))) ⟨_, rfl⟩
        · have de : decide (i = j) = false := decide_eq_false ce
          by_cases ca : i = a
          · have da : decide (i = a) = true := decide_eq_true ca
            have cb : ¬ j = a := by omega
            have db : decide (j = a) = false := decide_eq_false cb
            refine as_seq (as_set (ae_orV (ae_op (ae_var rfl (ae_var rfl (ar_eqN ⟨true, (by rw [da]), fun _ => ?_, fun h => absurd (show true = false from h) (by decide)⟩))))))
            refine as_seq (as_set (ae_if (at_or (at_test (ae_op (ae_var rfl (ae_non (ar_isN ⟨true, rfl, fun _ => ⟨fun _ => ae_int ?_, fun h => absurd (show true = false from h) (by decide)⟩, fun h => absurd (show true = false from h) (by decide)⟩))))))))
            show AS K _ [.da (gD true true n M), .da (.int (a : Int)), .da (oD (none)), .own ((List.range i).map fun i => .tup (rwD n (tuM M a (none)) i)), .da (.int ((i : Nat) : Int)), .da (.tup (rwD n M i)), .own ((List.range j).map fun j => oD (tuM M a (none) i j)), .da (.int ((j : Nat) : Int)), .da (oD (M i j)), .da (.bl true), .da (.int 0)] _ _
            cases hm : M i j with
            | none =>
              have hv : oD (tuM M a none i j) = .non := by
                show oD (woM M a i j) = _
                unfold woM; rw [hm]; split <;> rfl
              exact as_append (ae_if (at_test (ae_op (ae_var rfl (ae_var rfl (ar_eqN ⟨false, (by rw [de]), fun h => absurd (show false = true from h) (by decide), fun _ => ae_if (at_or (at_test (ae_op (ae_var rfl (ae_non (ar_isN ⟨true, rfl, fun _ => ⟨fun _ => ae_non ⟨_, rfl, (by rw [List.length_map, List.length_range]; omega), ⟨_, _, _, _, (by rw [es, hv]; rfl)⟩⟩, fun h => absurd (show true = false from h) (by decide)⟩, fun h => absurd (show true = false from h) (by decide)⟩))))))⟩)))))) ⟨_, rfl⟩
            | some x =>
              have hv : oD (tuM M a none i j) = .non := by
                show oD (woM M a i j) = _
                unfold woM; rw [if_neg (by omega)]; rfl
              exact as_append (ae_if (at_test (ae_op (ae_var rfl (ae_var rfl (ar_eqN ⟨false, (by rw [de]), fun h => absurd (show false = true from h) (by decide), fun _ => ae_if (at_or (at_test (ae_op (ae_var rfl (ae_non (ar_isN ⟨false, rfl, fun h => absurd (show false = true from h) (by decide), fun _ => at_and (at_b (ae_var rfl ⟨true, rfl, fun _ => at_test (ae_op (ae_var rfl (ae_non (ar_isN ⟨true, rfl, fun _ => ae_non ⟨_, rfl, (by rw [List.length_map, List.length_range]; omega), ⟨_, _, _, _, (by rw [es, hv]; rfl)⟩⟩, fun h => absurd (show true = false from h) (by decide)⟩)))), fun h => absurd (show true = false from h) (by decide)⟩))⟩))))))⟩)))))) ⟨_, rfl⟩
          · have da : decide (i = a) = false := decide_eq_false ca
            by_cases cb : j = a
            · have db : decide (j = a) = true := decide_eq_true cb
              refine as_seq (as_set (ae_orV (ae_op (ae_var rfl (ae_var rfl (ar_eqN ⟨false, (by rw [da]), fun h => absurd (show false = true from h) (by decide), fun _ => ae_op (ae_var rfl (ae_var rfl (ar_eqN ?_)))⟩))))))
              rw [db]
              refine as_seq (as_set (ae_if (at_or (at_test (ae_op (ae_var rfl (ae_non (ar_isN ⟨true, rfl, fun _ => ⟨fun _ => ae_int ?_, fun h => absurd (show true = false from h) (by decide)⟩, fun h => absurd (show true = false from h) (by decide)⟩))))))))
              show AS K _ [.da (gD true true n M), .da (.int (a : Int)), .da (oD (none)), .own ((List.range i).map fun i => .tup (rwD n (tuM M a (none)) i)), .da (.int ((i : Nat) : Int)), .da (.tup (rwD n M i)), .own ((List.range j).map fun j => oD (tuM M a (none) i j)), .da (.int ((j : Nat) : Int)), .da (oD (M i j)), .da (.bl true), .da (.int 0)] _ _
              cases hm : M i j with
              | none =>
                have hv : oD (tuM M a none i j) = .non := by
                  show oD (woM M a i j) = _
                  unfold woM; rw [hm]; split <;> rfl
                exact as_append (ae_if (at_test (ae_op (ae_var rfl (ae_var rfl (ar_eqN ⟨false, (by rw [de]), fun h => absurd (show false = true from h) (by decide), fun _ => ae_if (at_or (at_test (ae_op (ae_var rfl (ae_non (ar_isN ⟨true, rfl, fun _ => ⟨fun _ => ae_non ⟨_, rfl, (by rw [List.length_map, List.length_range]; omega), ⟨_, _, _, _, (by rw [es, hv]; rfl)⟩⟩, fun h => absurd (show true = false from h) (by decide)⟩, fun h => absurd (show true = false from h) (by decide)⟩))))))⟩)))))) ⟨_, rfl⟩
              | some x =>
                have hv : oD (tuM M a none i j) = .non := by
                  show oD (woM M a i j) = _
                  unfold woM; rw [if_neg (by omega)]; rfl
                exact as_append (ae_if (at_test (ae_op (ae_var rfl (ae_var rfl (ar_eqN ⟨false, (by rw [de]), fun h => absurd (show false = true from h) (by decide), fun _ => ae_if (at_or (at_test (ae_op (ae_var rfl (ae_non (ar_isN ⟨false, rfl, fun h => absurd (show false = true from h) (by decide), fun _ => at_and (at_b (ae_var rfl ⟨true, rfl, fun _ => at_test (ae_op (ae_var rfl (ae_non (ar_isN ⟨true, rfl, fun _ => ae_non ⟨_, rfl, (by rw [List.length_map, List.length_range]; omega), ⟨_, _, _, _, (by rw [es, hv]; rfl)⟩⟩, fun h => absurd (show true = false from h) (by decide)⟩)))), fun h => absurd (show true = false from h) (by decide)⟩))⟩))))))⟩)))))) ⟨_, rfl⟩
            · have db : decide (j = a) = false := decide_eq_false cb
              refine as_seq (as_set (ae_orV (ae_op (ae_var rfl (ae_var rfl (ar_eqN ⟨false, (by rw [da]), fun h => absurd (show false = true from h) (by decide), fun _ => ae_op (ae_var rfl (ae_var rfl (ar_eqN ?_)))⟩))))))
              rw [db]
              refine as_seq (as_set (ae_if (at_or (at_test (ae_op (ae_var rfl (ae_non (ar_isN ⟨true, rfl, fun _ => ⟨fun _ => ae_int ?_, fun h => absurd (show true = false from h) (by decide)⟩, fun h => absurd (show true = false from h) (by decide)⟩))))))))
              show AS K _ [.da (gD true true n M), .da (.int (a : Int)), .da (oD (none)), .own ((List.range i).map fun i => .tup (rwD n (tuM M a (none)) i)), .da (.int ((i : Nat) : Int)), .da (.tup (rwD n M i)), .own ((List.range j).map fun j => oD (tuM M a (none) i j)), .da (.int ((j : Nat) : Int)), .da (oD (M i j)), .da (.bl false), .da (.int 0)] _ _
              cases hm : M i j with
              | none =>
                have hv : oD (tuM M a none i j) = .non := by
                  show oD (woM M a i j) = _
                  unfold woM; rw [hm]; split <;> rfl
                exact as_append (ae_if (at_test (ae_op (ae_var rfl (ae_var rfl (ar_eqN ⟨false, (by rw [de]), fun h => absurd (show false = true from h) (by decide), fun _ => ae_if (at_or (at_test (ae_op (ae_var rfl (ae_non (ar_isN ⟨true, rfl, fun _ => ⟨fun _ => ae_non ⟨_, rfl, (by rw [List.length_map, List.length_range]; omega), ⟨_, _, _, _, (by rw [es, hv]; rfl)⟩⟩, fun h => absurd (show true = false from h) (by decide)⟩, fun h => absurd (show true = false from h) (by decide)⟩))))))⟩)))))) ⟨_, rfl⟩
              | some x =>
                have hv : oD (tuM M a none i j) = .int (x + 0) := by
                  show oD (woM M a i j) = _
                  unfold woM; rw [if_pos (.inr (by omega)), hm, Int.add_zero]; rfl
                exact as_append (ae_if (at_test (ae_op (ae_var rfl (ae_var rfl (ar_eqN ⟨false, (by rw [de]), fun h => absurd (show false = true from h) (by decide), fun _ => ae_if (at_or (at_test (ae_op (ae_var rfl (ae_non (ar_isN ⟨false, rfl, fun h => absurd (show false = true from h) (by decide), fun _ => at_and (at_b (ae_var rfl ⟨false, rfl, fun h => absurd (show false = true from h) (by decide), fun _ => ⟨fun h => absurd (show false = true from h) (by decide), fun _ => ae_op (ae_var rfl (ae_var rfl (ar_I0i ⟨_, rfl, (by rw [List.length_map, List.length_range]; omega), ⟨_, _, _, _, (by rw [es, hv]; rfl)⟩⟩)))⟩⟩))⟩))))))⟩)))))) ⟨_, rfl⟩
      | some v =>
        by_cases ce : i = j
        · have de : decide (i = j) = true := decide_eq_true ce
          by_cases ca : i = a
          · have da : decide (i = a) = true := decide_eq_true ca
            have cb : j = a := by omega
            have db : decide (j = a) = true := decide_eq_true cb
            refine as_seq (as_set (ae_orV (ae_op (ae_var rfl (ae_var rfl (ar_eqN ⟨true, (by rw [da]), fun _ => ?_, fun h => absurd (show true = false from h) (by decide)⟩))))))
            refine as_seq (as_set (ae_if (at_or (at_test (ae_op (ae_var rfl (ae_non (ar_isN ⟨false, rfl, fun h => absurd (show false = true from h) (by decide), fun _ => at_test (ae_op (ae_var rfl (ae_var rfl (ar_eqN ⟨true, (by rw [de]), fun _ => ae_int ?_, fun h => absurd (show true = false from h) (by decide)⟩))))⟩))))))))
            show AS K _ [.da (gD true true n M), .da (.int (a : Int)), .da (oD (some v)), .own ((List.range i).map fun i => .tup (rwD n (tuM M a (some v)) i)), .da (.int ((i : Nat) : Int)), .da (.tup (rwD n M i)), .own ((List.range j).map fun j => oD (tuM M a (some v) i j)), .da (.int ((j : Nat) : Int)), .da (oD (M i j)), .da (.bl true), .da (.int 0)] _ _
            have hv : oD (tuM M a (some v) i j) = .int 0 := by
              rw [← ce]
              show oD (mvM M a v i i) = _
              unfold mvM; rw [hM i hi]; show Dt.int (0 + (yV a v i - yV a v i)) = _; congr 1; omega
            exact as_append (ae_if (at_test (ae_op (ae_var rfl (ae_var rfl (ar_eqN ⟨true, (by rw [de]), fun _ => ae_int ⟨_, rfl, (by rw [List.length_map, List.length_range]; omega), ⟨_, _, _, _, (by rw [es, hv]; rfl)⟩⟩, fun h => absurd (show true = false from h) (by decide)⟩)))))) ⟨_, rfl⟩
          · have da : decide (i = a) = false := decide_eq_false ca
            have cb : ¬ j = a := by omega
            have db : decide (j = a) = false := decide_eq_false cb
            refine as_seq (as_set (ae_orV (ae_op (ae_var rfl (ae_var rfl (ar_eqN ⟨false, (by rw [da]), fun h => absurd (show false = true from h) (by decide), fun _ => ae_op (ae_var rfl (ae_var rfl (ar_eqN ?_)))⟩))))))
            rw [db]
            refine as_seq (as_set (ae_if (at_or (at_test (ae_op (ae_var rfl (ae_non (ar_isN ⟨false, rfl, fun h => absurd (show false = true from h) (by decide), fun _ => at_test (ae_op (ae_var rfl (ae_var rfl (ar_eqN ⟨true, (by rw [de]), fun _ => ae_int ?_, fun h => absurd (show true = false from h) (by decide)⟩))))⟩))))))))
            show AS K _ [.da (gD true true n M), .da (.int (a : Int)), .da (oD (some v)), .own ((List.range i).map fun i => .tup (rwD n (tuM M a (some v)) i)), .da (.int ((i : Nat) : Int)), .da (.tup (rwD n M i)), .own ((List.range j).map fun j => oD (tuM M a (some v) i j)), .da (.int ((j : Nat) : Int)), .da (oD (M i j)), .da (.bl false), .da (.int 0)] _ _
            have hv : oD (tuM M a (some v) i j) = .int 0 := by
              rw [← ce]
              show oD (mvM M a v i i) = _
              unfold mvM; rw [hM i hi]; show Dt.int (0 + (yV a v i - yV a v i)) = _; congr 1; omega
            exact as_append (ae_if (at_test (ae_op (ae_var rfl (ae_var rfl (ar_eqN ⟨true, (by rw [de]), fun _ => ae_int ⟨_, rfl, (by rw [List.length_map, List.length_range]; omega), ⟨_, _, _, _, (by rw [es, hv]; rfl)⟩⟩, fun h => absurd (show true = false from h) (by decide)⟩)))))) ⟨_, rfl⟩
        · have de : decide (i = j) = false := decide_eq_false ce
          by_cases ca : i = a
          · have da : decide (i = a) = true := decide_eq_true ca
            have cb : ¬ j = a := by omega
            have db : decide (j = a) = false := decide_eq_false cb
            refine as_seq (as_set (ae_orV (ae_op (ae_var rfl (ae_var rfl (ar_eqN ⟨true, (by rw [da]), fun _ => ?_, fun h => absurd (show true = false from h) (by decide)⟩))))))
            refine as_seq (as_set (ae_if (at_or (at_test (ae_op (ae_var rfl (ae_non (ar_isN ⟨false, rfl, fun h => absurd (show false = true from h) (by decide), fun _ => at_test (ae_op (ae_var rfl (ae_var rfl (ar_eqN ⟨false, (by rw [de]), fun h => absurd (show false = true from h) (by decide), fun _ => ae_op (ae_var rfl (ae_op (ae_cb (aa_cons (ae_op (ae_var rfl (ae_var rfl (ar_eqN (aa_nil (ac_intB (ae_cb (aa_cons (ae_op (ae_var rfl (ae_var rfl (ar_eqN (aa_nil (ac_intB (ar_I0i (ar_Ii (C := CMul) (.inr (by rw [da, db]; decide)) ?_))))))))))))))))))))⟩))))⟩))))))))
            rw [da, db]
            show AS K _ [.da (gD true true n M), .da (.int (a : Int)), .da (oD (some v)), .own ((List.range i).map fun i => .tup (rwD n (tuM M a (some v)) i)), .da (.int ((i : Nat) : Int)), .da (.tup (rwD n M i)), .own ((List.range j).map fun j => oD (tuM M a (some v) i j)), .da (.int ((j : Nat) : Int)), .da (oD (M i j)), .da (.bl true), .da (.int (v * ((if true = true then 1 else 0) - (if false = true then 1 else 0))))] _ _
            cases hm : M i j with
            | none =>
              have hv : oD (tuM M a (some v) i j) = .non := by
                show oD (mvM M a v i j) = _
                unfold mvM; rw [hm]; rfl
              exact as_append (ae_if (at_test (ae_op (ae_var rfl (ae_var rfl (ar_eqN ⟨false, (by rw [de]), fun h => absurd (show false = true from h) (by decide), fun _ => ae_if (at_or (at_test (ae_op (ae_var rfl (ae_non (ar_isN ⟨true, rfl, fun _ => ⟨fun _ => ae_non ⟨_, rfl, (by rw [List.length_map, List.length_range]; omega), ⟨_, _, _, _, (by rw [es, hv]; rfl)⟩⟩, fun h => absurd (show true = false from h) (by decide)⟩, fun h => absurd (show true = false from h) (by decide)⟩))))))⟩)))))) ⟨_, rfl⟩
            | some x =>
              have hv : oD (tuM M a (some v) i j) = .int (x + v * ((if true = true then 1 else 0) - (if false = true then 1 else 0))) := by
                show oD (mvM M a v i j) = _
                unfold mvM; rw [hm]
                show Dt.int (x + (yV a v i - yV a v j)) = _
                unfold yV
                rw [if_pos ca, if_neg cb]
                congr 2
                simp
              exact as_append (ae_if (at_test (ae_op (ae_var rfl (ae_var rfl (ar_eqN ⟨false, (by rw [de]), fun h => absurd (show false = true from h) (by decide), fun _ => ae_if (at_or (at_test (ae_op (ae_var rfl (ae_non (ar_isN ⟨false, rfl, fun h => absurd (show false = true from h) (by decide), fun _ => at_and (at_b (ae_var rfl ⟨true, rfl, fun _ => at_test (ae_op (ae_var rfl (ae_non (ar_isN ⟨false, rfl, fun h => absurd (show false = true from h) (by decide), fun _ => ae_op (ae_var rfl (ae_var rfl (ar_I0i ⟨_, rfl, (by rw [List.length_map, List.length_range]; omega), ⟨_, _, _, _, (by rw [es, hv]; rfl)⟩⟩)))⟩)))), fun h => absurd (show true = false from h) (by decide)⟩))⟩))))))⟩)))))) ⟨_, rfl⟩
          · have da : decide (i = a) = false := decide_eq_false ca
            by_cases cb : j = a
            · have db : decide (j = a) = true := decide_eq_true cb
              refine as_seq (as_set (ae_orV (ae_op (ae_var rfl (ae_var rfl (ar_eqN ⟨false, (by rw [da]), fun h => absurd (show false = true from h) (by decide), fun _ => ae_op (ae_var rfl (ae_var rfl (ar_eqN ?_)))⟩))))))
              rw [db]
              refine as_seq (as_set (ae_if (at_or (at_test (ae_op (ae_var rfl (ae_non (ar_isN ⟨false, rfl, fun h => absurd (show false = true from h) (by decide), fun _ => at_test (ae_op (ae_var rfl (ae_var rfl (ar_eqN ⟨false, (by rw [de]), fun h => absurd (show false = true from h) (by decide), fun _ => ae_op (ae_var rfl (ae_op (ae_cb (aa_cons (ae_op (ae_var rfl (ae_var rfl (ar_eqN (aa_nil (ac_intB (ae_cb (aa_cons (ae_op (ae_var rfl (ae_var rfl (ar_eqN (aa_nil (ac_intB (ar_I0i (ar_Ii (C := CMul) (.inr (by rw [da, db]; decide)) ?_))))))))))))))))))))⟩))))⟩))))))))
              rw [da, db]
              show AS K _ [.da (gD true true n M), .da (.int (a : Int)), .da (oD (some v)), .own ((List.range i).map fun i => .tup (rwD n (tuM M a (some v)) i)), .da (.int ((i : Nat) : Int)), .da (.tup (rwD n M i)), .own ((List.range j).map fun j => oD (tuM M a (some v) i j)), .da (.int ((j : Nat) : Int)), .da (oD (M i j)), .da (.bl true), .da (.int (v * ((if false = true then 1 else 0) - (if true = true then 1 else 0))))] _ _
              cases hm : M i j with
              | none =>
                have hv : oD (tuM M a (some v) i j) = .non := by
                  show oD (mvM M a v i j) = _
                  unfold mvM; rw [hm]; rfl
                exact as_append (ae_if (at_test (ae_op (ae_var rfl (ae_var rfl (ar_eqN ⟨false, (by rw [de]), fun h => absurd (show false = true from h) (by decide), fun _ => ae_if (at_or (at_test (ae_op (ae_var rfl (ae_non (ar_isN ⟨true, rfl, fun _ => ⟨fun _ => ae_non ⟨_, rfl, (by rw [List.length_map, List.length_range]; omega), ⟨_, _, _, _, (by rw [es, hv]; rfl)⟩⟩, fun h => absurd (show true = false from h) (by decide)⟩, fun h => absurd (show true = false from h) (by decide)⟩))))))⟩)))))) ⟨_, rfl⟩
              | some x =>
                have hv : oD (tuM M a (some v) i j) = .int (x + v * ((if false = true then 1 else 0) - (if true = true then 1 else 0))) := by
                  show oD (mvM M a v i j) = _
                  unfold mvM; rw [hm]
                  show Dt.int (x + (yV a v i - yV a v j)) = _
                  unfold yV
                  rw [if_neg ca, if_pos cb]
                  congr 2
                  simp
                exact as_append (ae_if (at_test (ae_op (ae_var rfl (ae_var rfl (ar_eqN ⟨false, (by rw [de]), fun h => absurd (show false = true from h) (by decide), fun _ => ae_if (at_or (at_test (ae_op (ae_var rfl (ae_non (ar_isN ⟨false, rfl, fun h => absurd (show false = true from h) (by decide), fun _ => at_and (at_b (ae_var rfl ⟨true, rfl, fun _ => at_test (ae_op (ae_var rfl (ae_non (ar_isN ⟨false, rfl, fun h => absurd (show false = true from h) (by decide), fun _ => ae_op (ae_var rfl (ae_var rfl (ar_I0i ⟨_, rfl, (by rw [List.length_map, List.length_range]; omega), ⟨_, _, _, _, (by rw [es, hv]; rfl)⟩⟩)))⟩)))), fun h => absurd (show true = false from h) (by decide)⟩))⟩))))))⟩)))))) ⟨_, rfl⟩
            · have db : decide (j = a) = false := decide_eq_false cb
              refine as_seq (as_set (ae_orV (ae_op (ae_var rfl (ae_var rfl (ar_eqN ⟨false, (by rw [da]), fun h => absurd (show false = true from h) (by decide), fun _ => ae_op (ae_var rfl (ae_var rfl (ar_eqN ?_)))⟩))))))
              rw [db]
              refine as_seq (as_set (ae_if (at_or (at_test (ae_op (ae_var rfl (ae_non (ar_isN ⟨false, rfl, fun h => absurd (show false = true from h) (by decide), fun _ => at_test (ae_op (ae_var rfl (ae_var rfl (ar_eqN ⟨false, (by rw [de]), fun h => absurd (show false = true from h) (by decide), fun _ => ae_op (ae_var rfl (ae_op (ae_cb (aa_cons (ae_op (ae_var rfl (ae_var rfl (ar_eqN (aa_nil (ac_intB (ae_cb (aa_cons (ae_op (ae_var rfl (ae_var rfl (ar_eqN (aa_nil (ac_intB (ar_I0i (ar_Ii (C := CMul) (.inr (by rw [da, db]; decide)) ?_))))))))))))))))))))⟩))))⟩))))))))
              rw [da, db]
              show AS K _ [.da (gD true true n M), .da (.int (a : Int)), .da (oD (some v)), .own ((List.range i).map fun i => .tup (rwD n (tuM M a (some v)) i)), .da (.int ((i : Nat) : Int)), .da (.tup (rwD n M i)), .own ((List.range j).map fun j => oD (tuM M a (some v) i j)), .da (.int ((j : Nat) : Int)), .da (oD (M i j)), .da (.bl false), .da (.int (v * ((if false = true then 1 else 0) - (if false = true then 1 else 0))))] _ _
              cases hm : M i j with
              | none =>
                have hv : oD (tuM M a (some v) i j) = .non := by
                  show oD (mvM M a v i j) = _
                  unfold mvM; rw [hm]; rfl
                exact as_append (ae_if (at_test (ae_op (ae_var rfl (ae_var rfl (ar_eqN ⟨false, (by rw [de]), fun h => absurd (show false = true from h) (by decide), fun _ => ae_if (at_or (at_test (ae_op (ae_var rfl (ae_non (ar_isN ⟨true, rfl, fun _ => ⟨fun _ => ae_non ⟨_, rfl, (by rw [List.length_map, List.length_range]; omega), ⟨_, _, _, _, (by rw [es, hv]; rfl)⟩⟩, fun h => absurd (show true = false from h) (by decide)⟩, fun h => absurd (show true = false from h) (by decide)⟩))))))⟩)))))) ⟨_, rfl⟩
              | some x =>
                have hv : oD (tuM M a (some v) i j) = .int (x + v * ((if false = true then 1 else 0) - (if false = true then 1 else 0))) := by
                  show oD (mvM M a v i j) = _
                  unfold mvM; rw [hm]
                  show Dt.int (x + (yV a v i - yV a v j)) = _
                  unfold yV
                  rw [if_neg ca, if_neg cb]
                  congr 2
                  simp
                exact as_append (ae_if (at_test (ae_op (ae_var rfl (ae_var rfl (ar_eqN ⟨false, (by rw [de]), fun h => absurd (show false = true from h) (by decide), fun _ => ae_if (at_or (at_test (ae_op (ae_var rfl (ae_non (ar_isN ⟨false, rfl, fun h => absurd (show false = true from h) (by decide), fun _ => at_and (at_b (ae_var rfl ⟨false, rfl, fun h => absurd (show false = true from h) (by decide), fun _ => ⟨fun h => absurd (show false = true from h) (by decide), fun _ => ae_op (ae_var rfl (ae_var rfl (ar_I0i ⟨_, rfl, (by rw [List.length_map, List.length_range]; omega), ⟨_, _, _, _, (by rw [es, hv]; rfl)⟩⟩)))⟩⟩))⟩))))))⟩)))))) ⟨_, rfl⟩
    · rintro ρ3 ⟨e7, e8, e9, e10, rfl⟩
      rw [List.length_map, List.length_range]
      have es : (List.range (i + 1)).map (fun i => Dt.tup (rwD n (tuM M a o) i)) = (List.range i).map (fun i => Dt.tup (rwD n (tuM M a o) i)) ++ [.tup (rwD n (tuM M a o) i)] := by rw [List.range_succ, List.map_append]; rfl
      refine as_append (ae_cb (aa_cons (ae_frz (i := 6) rfl (ae_var rfl (aa_nil (ac_tupL ⟨_, rfl, (by rw [List.length_map, List.length_range]; omega), ⟨_, _, _, _, _, _, _, (by rw [es]; rfl)⟩⟩)))))) ⟨_, rfl⟩
  · rintro ρ ⟨e4, e5, e6, e7, e8, e9, e10, rfl⟩
    rw [List.length_map, List.length_range]
    exact as_ret (ae_cb (aa_cons (ae_frz (i := 3) rfl (ae_var rfl (aa_nil (ac_tupL rfl))))))
end
end Sh
set_option Elab.async false
set_option linter.all false
set_option maxRecDepth 100000
set_option maxHeartbeats 4000000
namespace Sh
open PySem PySem.Spec PyProof.Rows L2
theorem pick4 {a g c : Option Int} (ha : bnO 2 a) (hg : bnO 2 g) (hc : bnO 2 c) {v : Int} (v0 : 0 ≤ v) (v4 : v < 4) : ∃ o, atI [oD a, oD g, oD g, oD c] v = some (oD o) ∧ bnO 2 o := by
  rcases (by omega : v = 0 ∨ v = 1 ∨ v = 2 ∨ v = 3) with rfl | rfl | rfl | rfl
  · exact ⟨a, rfl, ha⟩
  · exact ⟨g, rfl, hg⟩
  · exact ⟨g, rfl, hg⟩
  · exact ⟨c, rfl, hc⟩
theorem gd_inj {m n : Nat} {M N : Mx} (h : [gD true true m M] = [gD true true n N]) : n = m := by
  injection h with h
  injection h with h
  have := congrArg List.length h
  simp at this
  omega
theorem near_post {n m : Nat} {M N : Mx} {R : List (List (Option Int))} (h : [gD true true n M] = [gD true true m N]) (r : Rw 2 n n R) : ∃ N', Dt.tup (R.map rwT) = gD true true m N' ∧ (∀ i, i < m → N' i i = some 0) ∧ bnM 2 N' := by
  have e := gd_inj h
  subst e
  exact ⟨gO R, gO_row r, fun i hi => gO_dg r hi, gO_bn r⟩
section
variable {P : Program} {w : World} {K : PySem.W.Frag} {mg : Str → Option Value} {base : Heap}
theorem ok_l_near (bl : Blts mg) {g4_l_take : Addr} {d4_l_take : FuncData} (c4_l_take : Cal P w K mg base 3 "_law_take" p_l_take (spB K 2 domT2 postT) g4_l_take d4_l_take) {g_l_limit : Addr} {d_l_limit : FuncData} (c_l_limit : Cal P w K mg base 4 "_law_limit" p_l_limit (spB K 7 domL postL) g_l_limit d_l_limit)  {f : Addr} {fd : FuncData} (F : Fun K "_law_near" "_law_near" s_l_near f fd) : FnOk P w K mg base CX0 5 f fd p_l_near (spB K 275 (domM) (postM)) := by
  refine okB F sc_l_near (fun ds h => ?_) (fun cdv A outer s H E hr ds h => ?_)
  · obtain ⟨n, M, rfl, hMd, hMb, n5⟩ := h
    rfl
  obtain ⟨n, M, rfl, hMd, hMb, n5⟩ := h
  refine ⟨_, (pss_cons (ps_set (i := 2) sc_l_near.nd rfl (by first | exact Or.inl rfl | exact Or.inr rfl) (pe_lst pa_nil))
    (pss_cons (ps_for PassesOwn.never rfl (pi_enT rfl bl.enumerate (pa_cons (pv 1) pa_nil)) (pg_tup rfl (pgs_cons (pg_name (i := 3) sc_l_near.nd rfl (by first | exact Or.inl rfl | exact Or.inr rfl)) (pgs_cons (pg_name (i := 4) sc_l_near.nd rfl (by first | exact Or.inl rfl | exact Or.inr rfl)) pgs_nil))) (pss_cons (ps_set (i := 5) sc_l_near.nd rfl (by first | exact Or.inl rfl | exact Or.inr rfl) (pe_lst pa_nil))
    (pss_cons (ps_for PassesOwn.never rfl (pi_enT rfl bl.enumerate (pa_cons (pv 4) pa_nil)) (pg_tup rfl (pgs_cons (pg_name (i := 6) sc_l_near.nd rfl (by first | exact Or.inl rfl | exact Or.inr rfl)) (pgs_cons (pg_name (i := 7) sc_l_near.nd rfl (by first | exact Or.inl rfl | exact Or.inr rfl)) pgs_nil))) (pss_cons (ps_set (i := 8) sc_l_near.nd rfl (by first | exact Or.inl rfl | exact Or.inr rfl) (pe_call c4_l_take.ok (hr.mono (by decide)) rfl c4_l_take.mg c4_l_take.kp c4_l_take.bi .nil pass0 (pa_cons (pv 0) (pa_cons pe_int pa_nil))))
    (pss_cons (ps_set (i := 9) sc_l_near.nd rfl (by first | exact Or.inl rfl | exact Or.inr rfl) (pe_ifExp (PW.pt (pw_or (pt_cmpR op_isN (pv 7) pe_non (nomark _)) (pw_or1 (pt_cmpR op_eq (pv 8) pe_int (nomark _))))) pe_non (pe_op op_add (pv 7) (pe_call c4_l_take.ok (hr.mono (by decide)) rfl c4_l_take.mg c4_l_take.kp c4_l_take.bi .nil pass0 (pa_cons (pv 0) (pa_cons pe_int pa_nil))))))
    (pss_one (ps_expr (pe_bm PySem.F.plainAttrs_list PySem.F.slot_list_append PySem.F.type_list_append mt_append (pv 5) (pa_cons (pe_ifExp (pt_cmpR op_eq (pv 3) (pv 6) (nomark _)) pe_int (pe_ix ix_list (pe_lst (pa_cons (pv 7) (pa_cons (pv 9) (pa_cons (pv 9) (pa_cons (pe_call c_l_limit.ok (hr.mono (by decide)) rfl c_l_limit.mg c_l_limit.kp c_l_limit.bi .nil pass0 (pa_cons (pv 0) pa_nil)) pa_nil))))) (pv 8) (fun _ _ => rfl))) pa_nil)))))))
    (pss_one (ps_expr (pe_bm PySem.F.plainAttrs_list PySem.F.slot_list_append PySem.F.type_list_append mt_append (pv 2) (pa_cons (pe_callTy call_tuple_of rfl bl.tuple (by decide +kernel) (pa_cons (pv 5) pa_nil)) pa_nil)))))))
    (pss_one (ps_ret (pe_callTy call_tuple_of rfl bl.tuple (by decide +kernel) (pa_cons (pv 2) pa_nil)))))), fun b F => ?_⟩
  change AS K _ [En.bx _ _, En.da _, En.no, En.no, En.no, En.no, En.no, En.no, En.no, En.no] _ _
  try simp only [cxOf_K, cxOf_w]
  have z9 : 9000 ≤ sizeLine := by decide
  have rg : ∀ k : Nat, (rgD 0 ((k : Nat) : Int).toNat) = (List.range k).map fun i => Dt.int ((i : Nat) : Int) := fun k => by
    unfold rgD
    rw [Int.toNat_natCast]
    exact List.map_congr_left fun i _ => by rw [Int.zero_add]
  have rl : ∀ k : Nat, ((List.range k).map fun i => Dt.int ((i : Nat) : Int)).length = k := fun k => by rw [List.length_map, List.length_range]
  have hnn : n * n ≤ 25 := Nat.mul_le_mul n5 n5
  refine as_seq (as_own (aa_nil ⟨Nat.zero_le _, ?_⟩))
  refine as_seq (as_for (ai_enT (aa_cons (ae_var rfl (aa_nil ⟨_, rfl, ?_⟩)))))
  rw [en_rows]
  refine ⟨fun i ρ => ∃ f R e3 e4 e5 e6 e7 e8 e9, ρ = [.bx b f, .da (gD true true n M), .own (R.map rwT), e3, e4, e5, e6, e7, e8, e9] ∧ F + 55 * (n - i) ≤ f ∧ Rw 2 n i R, ⟨F + 275, [], .no, .no, .no, .no, .no, .no, .no, rfl, by omega, Rw.nil⟩, ?_, ?_⟩
  · rintro i d ρ2 hd ⟨f, R, e3, e4, e5, e6, e7, e8, e9, rfl, hf, rw1⟩
    obtain ⟨hi, rfl⟩ := rg_at hd
    obtain ⟨f1, rfl⟩ : ∃ f1, f = f1 + 55 := ⟨f - 55, by omega⟩
    have hf1 : F + 55 * (n - (i + 1)) ≤ f1 := by omega
    clear hf hd
    refine ag_tup rfl (ags_cons (ag_name (ags_cons (ag_name (ags_nil ?_)))))
    refine as_seq (as_own (aa_nil ⟨Nat.zero_le _, ?_⟩))
    refine as_seq (as_for (ai_enT (aa_cons (ae_var rfl (aa_nil ⟨_, rfl, ?_⟩)))))
    rw [en_row]
    refine ⟨fun j ρ => ∃ f2 L e6 e7 e8 e9, ρ = [.bx b f2, .da (gD true true n M), .own (R.map rwT), .da (.int ((i : Nat) : Int)), .da (.tup (rwD n M i)), .own (List.map oD L), e6, e7, e8, e9] ∧ L.length = j ∧ (i < j → L[i]? = some (some 0)) ∧ (∀ o, o ∈ L → bnO 2 o) ∧ f1 + 11 * (n - j) ≤ f2, ⟨f1 + 55, [], e6, e7, e8, e9, rfl, rfl, fun h => absurd h (Nat.not_lt_zero _), fun o h => (by cases h), by omega⟩, ?_, ?_⟩
    · rintro j d ρ3 hd ⟨f2, L, e6, e7, e8, e9, rfl, hL, h0, hB, hf2⟩
      obtain ⟨hj, rfl⟩ := rg_at hd
      obtain ⟨f3, rfl⟩ : ∃ f3, f2 = f3 + 11 := ⟨f2 - 11, by omega⟩
      refine ag_tup rfl (ags_cons (ag_name (ags_cons (ag_name (ags_nil ?_)))))
      refine as_seq (as_set (ae_take2 rfl (ae_int ⟨_, rfl, (by decide), (by decide), f3 + 9, rfl, fun v v0 v4 => ?_⟩)))
      have hmb : bnO 2 (M i j) := bn_up (hMb i j) (by decide)
      show AS K _ [.bx b (f3 + 9), .da (gD true true n M), .own (R.map rwT), .da (.int ((i : Nat) : Int)), .da (.tup (rwD n M i)), .own (List.map oD L), .da (.int ((j : Nat) : Int)), .da (oD (M i j)), .da (.int v), e9] _ _
      have go : ∀ (o : Option Int) (f4 : Nat) (x6 x7 x8 x9 : En), f1 + 11 * (n - (j + 1)) ≤ f4 → (i = j → o = some 0) → bnO 2 o → ∃ (f2 : Nat) (L' : List (Option Int)) (e6 e7 e8 e9 : En), ([.bx b f4, .da (gD true true n M), .own (R.map rwT), .da (.int ((i : Nat) : Int)), .da (.tup (rwD n M i)), .own (List.map oD L ++ [oD o]), x6, x7, x8, x9] : List En) = [.bx b f2, .da (gD true true n M), .own (R.map rwT), .da (.int ((i : Nat) : Int)), .da (.tup (rwD n M i)), .own (List.map oD L'), e6, e7, e8, e9] ∧ L'.length = j + 1 ∧ (i < j + 1 → L'[i]? = some (some 0)) ∧ (∀ o, o ∈ L' → bnO 2 o) ∧ f1 + 11 * (n - (j + 1)) ≤ f2 := fun o f4 x6 x7 x8 x9 h1 h2 h3 => by
        refine ⟨f4, L ++ [o], x6, x7, x8, x9, (by rw [List.map_append]; rfl), by rw [List.length_append, hL]; rfl, fun h => ?_, fun p hp => ?_, h1⟩
        · rcases Nat.lt_or_ge i j with c | c
          · rw [List.getElem?_append_left (by omega)]; exact h0 c
          · have e : i = j := by omega
            rw [h2 e, List.getElem?_append_right (by omega), show i - L.length = 0 by omega]; rfl
        · rcases List.mem_append.mp hp with hp | hp
          · exact hB p hp
          · rw [List.mem_singleton.mp hp]; exact h3
      have fin : ∀ (g : Option Int) (f4 : Nat), f3 + 7 ≤ f4 → bnO 2 g → AS K (tDrop (tBM K "list" rAppend (tVar 5) (tCons (tIf (tTest (tOp rEq (tVar 3) (tVar 6))) (tC (.int 0)) (tOp (rIxL K) (tLst (tCons (tVar 7) (tCons (tVar 9) (tCons (tVar 9) (tCons (tCall (spB K 7 domL postL) [] E0 (tCons (tVar 0) tNil)) tNil))))) (tVar 8))) tNil))) [.bx b f4, .da (gD true true n M), .own (R.map rwT), .da (.int ((i : Nat) : Int)), .da (.tup (rwD n M i)), .own (List.map oD L), .da (.int ((j : Nat) : Int)), .da (oD (M i j)), .da (.int v), .da (oD g)] (fun ρ => ∃ (f2 : Nat) (L : List (Option Int)) (e6 e7 e8 e9 : En), ρ = [.bx b f2, .da (gD true true n M), .own (R.map rwT), .da (.int ((i : Nat) : Int)), .da (.tup (rwD n M i)), .own (List.map oD L), e6, e7, e8, e9] ∧ L.length = j + 1 ∧ (i < j + 1 → L[i]? = some (some 0)) ∧ (∀ o, o ∈ L → bnO 2 o) ∧ f1 + 11 * (n - (j + 1)) ≤ f2) (fun d ρ => postM [gD true true n M] d ∧ ∃ f, ρ[0]? = some (.bx b f) ∧ F ≤ f) := fun g f4 hf4 hg => by
        obtain ⟨f5, rfl⟩ : ∃ f5, f4 = f5 + 7 := ⟨f4 - 7, by omega⟩
        refine as_append (ae_if (at_test (ae_op (ae_var rfl (ae_var rfl (ar_eqN ⟨_, rfl, fun h => ae_int ⟨_, rfl, (by rw [List.length_map]; omega), go (some 0) _ _ _ _ _ (by omega) (fun _ => rfl) (bn_some (by omega))⟩, fun h => ?_⟩)))))) ⟨_, rfl⟩
        have hij : ¬ i = j := of_decide_eq_false h
        refine ae_op (ae_lst (aa_cons (ae_var rfl (aa_cons (ae_var rfl (aa_cons (ae_var rfl (aa_cons (ae_draw rfl (aa_nil ⟨rfl, f5, rfl, fun d hd => ?_⟩))))))))))
        obtain ⟨c, rfl, hc⟩ := hd
        obtain ⟨o, ho, hbo⟩ := pick4 hmb hg (bn_up hc (by decide)) v0 v4
        exact aa_nil ⟨(by show 4 ≤ sizeLine; omega), ae_var rfl (ar_ixL ho ⟨_, rfl, (by rw [List.length_map]; omega), go o _ _ _ _ _ (by omega) (fun e => absurd e hij) hbo⟩)⟩
      cases hm : M i j with
      | none =>
        rw [hm] at fin
        exact as_seq (as_set (ae_if (at_or (at_test (ae_op (ae_var rfl (ae_non (ar_isN ⟨true, rfl, fun _ => ⟨fun _ => ae_non (fin none _ (by omega) bn_non), fun h => absurd (show true = false from h) (by decide)⟩, fun h => absurd (show true = false from h) (by decide)⟩))))))))
      | some x =>
        rw [hm] at fin hmb
        have hx := hMb i j x hm
        refine as_seq (as_set (ae_if (at_or (at_test (ae_op (ae_var rfl (ae_non (ar_isN ⟨false, rfl, fun h => absurd (show false = true from h) (by decide), fun _ => at_test (ae_op (ae_var rfl (ae_int (ar_eq3 ⟨rfl, rfl, rfl⟩ ⟨_, rfl, fun _ => ae_non (fin none _ (by omega) bn_non), fun _ => ?_⟩))))⟩))))))))
        exact ae_op (ae_var rfl (ae_take2 rfl (ae_int ⟨_, rfl, (by decide), (by decide), f3 + 7, rfl, fun u u0 u1 => ar_I0i (fin (some (x + u)) _ (by omega) (bn_some (by omega)))⟩)))
    · rintro ρ3 ⟨f2, L, e6, e7, e8, e9, rfl, hL, h0, hB, hf2⟩
      rw [List.length_map, List.length_range] at hL h0 hf2
      refine as_append (ae_cb (aa_cons (ae_frz (i := 5) rfl (ae_var rfl (aa_nil (ac_tupL ⟨_, rfl, (by rw [List.length_map, rw1.r]; omega), ⟨f2, R ++ [L], _, _, _, _, _, _, _, (by rw [List.map_append]; rfl), by omega, rw1.app hL (h0 hi) hB⟩⟩)))))) ⟨_, rfl⟩
  · rintro ρ ⟨f, R, e3, e4, e5, e6, e7, e8, e9, rfl, hf, rw1⟩
    rw [List.length_map, List.length_range] at hf rw1
    refine as_ret (ae_cb (aa_cons (ae_frz (i := 2) rfl (ae_var rfl (aa_nil (ac_tupL ⟨fun m N hm => ?_, _, rfl, by omega⟩))))))
    refine near_post hm rw1
end
end Sh
set_option Elab.async false
set_option linter.all false
set_option maxRecDepth 100000
set_option maxHeartbeats 4000000
/-! (x,) * k for every k from 1 on -/
namespace Sh
open PySem PySem.Spec PyProof.Rows L2
theorem tuple_mulW1 (l : Addr) (items : Array Value) (n : Nat) (dd : Option Addr) (sl : Array (Option Value)) (u : Tok) :
    Meets (Builtin.«tuple.__mul__» ⟨[.ref l, .int 1 u], []⟩) (fun _ R s => s.heap.get? l = some { cls := .type "tuple", dict := dd, data := .seq items n, slots := sl } ∧ R (.ok (.ret (Value.ref l))) s) :=
  .of_wp fun prog w A R s h => by
    obtain ⟨hp, g, d, tk, os⟩ := s
    obtain ⟨hl, h⟩ := h
    have f1 := AutoSeq1.idx_int
    wp_walk using wpAny_loadPart' hl
    repeat (first
      | (refine wpAny_ite_false (by decide) ?_; wp_walk using wpAny_loadPart' hl)
      | (refine wpAny_ite_true (by simp) ?_; wp_walk using wpAny_loadPart' hl))
    exact ⟨_, rfl, h⟩
def rRepT1 (K : PySem.W.Frag) : R2 := fun x y H Q => ∃ l k xs, x = .ref l ∧ y = .int k ∧ SqT K H l xs ∧ xs ≠ [] ∧ 1 ≤ k ∧ k ≤ 1000 ∧ xs.length ≤ 1000 ∧ (k = 1 → Q (.ref l) H) ∧ (2 ≤ k → ∀ p, H p = none → Q (.ref p) (upd H p (.tup (List.replicate k.toNat xs).flatten)))
theorem op_repT1 {X : Cx} : OpR X (binaryOp .Mult) (rRepT1 X.K) := by
  intro pins s σ H x y v u Q I rx ry h
  obtain ⟨l, k, xs, rfl, rfl, hT, hne, h1, h2, hz, q1, q2⟩ := h
  rcases (by omega : k = 1 ∨ 2 ≤ k) with rfl | hk
  · cases rx
    obtain ⟨t, rfl⟩ := ry
    obtain ⟨its, r, ⟨⟨cls, dd, data, sl⟩, ho, hc, n, hd⟩, hs⟩ := I.tuple hT
    simp only at hc hd
    subst hc hd
    refine wpAny_binaryOp_repeat_ref (T := "tuple") (U := "int") (by decide) ⟨_, ho, rfl⟩ (fun s' => typeIs_int s' 1 t) noFill_tuple_mul F.fills_int_mul F.slot_int_rmul repeat_tuple F.slot_int_index.lookup
      (call_meets F.slot_int_rmul (typeIs_int s 1 t) F.entry_int_rmul (F.args_int_rmul_2 _ _) (int_rmul_tuple 1 t l its.toArray n dd sl)
        ⟨ho, rfl, ⟨_, ho, rfl⟩, call_meets F.slot_tuple_mul ⟨_, ho, rfl⟩ F.entry_tuple_mul (F.args_tuple_mul_2 _ _) (tuple_mulW1 l its.toArray n dd sl t) ⟨ho, ?_⟩⟩)
    exact ⟨.ref l, H, I, rfl, q1 rfl⟩
  · exact op_repT pins s σ H _ _ v u Q I rx ry ⟨l, k, xs, rfl, rfl, hT, hne, hk, h2, hz, q2 hk⟩
theorem ar_repT1 {K : PySem.W.Frag} {d : Dt} {n : Nat} {Φ : Dt → Prop} (h1 : 1 ≤ n) (h2 : n ≤ 1000) (h : Φ (.tup (List.replicate n d))) : AR K (rRepT1 K) (.tup [d]) (.int (n : Int)) Φ := fun G H s x y r1 r2 Q q => by
  obtain ⟨a, xs, rfl, g, r⟩ := r1
  cases (show y = V.int n from r2)
  obtain ⟨z, r', rfl, h3, e'⟩ := r
  cases (show r' = [] from e')
  refine ⟨a, n, [z], rfl, rfl, same_sqT s g, by simp, by omega, by omega, by simp, fun e => ?_, fun _ p hp => ?_⟩
  · have e1 : n = 1 := by omega
    subst e1
    exact q _ (.tup [d]) G H (Nw.refl s) ⟨a, [z], rfl, g, ⟨z, [], rfl, h3, rfl⟩⟩ h
  · have e : ∀ m : Nat, (List.replicate m [z]).flatten = List.replicate m z := fun m => by
      induction m with
      | zero => rfl
      | succ m ih => rw [List.replicate_succ, List.flatten_cons, ih]; rfl
    rw [Int.toNat_natCast, e]
    have nw := Nw.new (o := .tup (List.replicate n z)) s hp
    have rr : ∀ m : Nat, RDs K (upd G p (.tup (List.replicate n z))) (List.replicate m d) (List.replicate m z) := fun m => by
      induction m with
      | zero => rfl
      | succ m ih => exact ⟨z, _, rfl, h3.same nw.g, ih⟩
    exact q _ (.tup (List.replicate n d)) _ _ nw ⟨p, _, rfl, SqT.of upd_same, rr n⟩ h
end Sh
set_option Elab.async false
set_option linter.all false
set_option maxRecDepth 100000
set_option maxHeartbeats 4000000
/-! repr of data: what it takes, how long it gets; a def that may ask for it -/
namespace Sh
open PySem PySem.Spec PyProof.Rows L2
mutual
def Dt.okR : Dt → Bool
  | .non => true | .bl _ => true
  | .int i => decide (i.natAbs.log2 < 1920)
  | .tup l => okRs l | .lst l => okRs l
  | _ => false
def okRs : List Dt → Bool
  | [] => true
  | d :: l => d.okR && okRs l
end
mutual
def Dt.rl : Dt → Nat
  | .int _ => 1921
  | .tup l => rls l + 3 | .lst l => rls l + 3
  | _ => 5
def rls : List Dt → Nat
  | [] => 0
  | d :: l => d.rl + 2 + rls l
end
mutual
def Dt.hgt : Dt → Nat
  | .tup l => hgts l + 1 | .lst l => hgts l + 1
  | _ => 0
def hgts : List Dt → Nat
  | [] => 0
  | d :: l => max d.hgt (hgts l)
end
theorem tuple_len (ts : List Str) : (tupleText ts).length ≤ piled ts + 3 := by
  unfold tupleText
  by_cases h : ts = []
  · subst h; decide
  · have := join_length_add ts h
    rw [Str.length_append, Str.length_append]
    have e1 : ("(" : Str).length = 1 := rfl
    have e2 : (if ts.length == 1 then ",)" else ")" : String) = ",)" ∨ (if ts.length == 1 then ",)" else ")" : String) = ")" := by split <;> simp
    rcases e2 with e2 | e2
    · rw [e2]; have : (Str.ofString ",)").length = 2 := rfl; show ("(" : Str).length + (Str.join ", " ts).length + (Str.ofString ",)").length ≤ _; omega
    · rw [e2]; have : (Str.ofString ")").length = 1 := rfl; show ("(" : Str).length + (Str.join ", " ts).length + (Str.ofString ")").length ≤ _; omega
theorem from_len : ∀ (ts : List Str) (k : Nat) (acc : Str), (textFrom k acc ts).length ≤ acc.length + piled ts
  | [], k, acc => by show acc.length ≤ _; omega
  | t :: ts, k, acc => by
    have h := from_len ts (k + 1) (acc ++ (if k > 0 then ", " else "" : String) ++ t)
    rw [piled_cons]
    rw [Str.length_append, Str.length_append] at h
    have e : (Str.ofString (if k > 0 then ", " else "" : String)).length ≤ 2 := by split <;> decide
    show (textFrom (k + 1) (acc ++ (if k > 0 then ", " else "" : String) ++ t) ts).length ≤ _
    have h' : (textFrom (k + 1) (acc ++ (if k > 0 then ", " else "" : String) ++ t) ts).length ≤ acc.length + (Str.ofString (if k > 0 then ", " else "" : String)).length + t.length + piled ts := h
    omega
theorem list_len (ts : List Str) : (listText ts).length ≤ piled ts + 2 := by
  unfold listText
  rw [Str.length_append]
  have := from_len ts 0 "["
  have e1 : ("[" : Str).length = 1 := rfl
  have e2 : ("]" : Str).length = 1 := rfl
  omega
mutual
theorem shown_len : ∀ d : Dt, d.okR = true → d.pd.shown.length ≤ d.rl
  | .non, _ => by show ("None" : Str).length ≤ 5; decide +kernel
  | .bl true, _ => by show ("True" : Str).length ≤ 5; decide +kernel
  | .bl false, _ => by show ("False" : Str).length ≤ 5; decide +kernel
  | .int i, h => int_text_len_1921 (of_decide_eq_true h)
  | .tup l, h => by
    have h1 := showns_len l h
    have h2 := tuple_len (PyData.shownAll (pds l))
    show (tupleText (PyData.shownAll (pds l))).length ≤ rls l + 3
    omega
  | .lst l, h => by
    have h1 := showns_len l h
    have h2 := list_len (PyData.shownAll (pds l))
    show (listText (PyData.shownAll (pds l))).length ≤ rls l + 3
    omega
theorem showns_len : ∀ l : List Dt, okRs l = true → piled (PyData.shownAll (pds l)) ≤ rls l
  | [], _ => Nat.le_refl _
  | d :: l, h => by
    have h' : (d.okR && okRs l) = true := h
    rw [Bool.and_eq_true] at h'
    have h1 := shown_len d h'.1
    have h2 := showns_len l h'.2
    show piled (d.pd.shown :: PyData.shownAll (pds l)) ≤ d.rl + 2 + rls l
    rw [piled_cons]
    omega
end
mutual
theorem lay_okR : ∀ d : Dt, d.okR = true → d.pd.canLay0 = true ∧ d.pd.showable = true ∧ d.pl = true ∧ d.pd.depth ≤ d.hgt
  | .non, _ => ⟨rfl, rfl, rfl, Nat.le_refl _⟩
  | .bl _, _ => ⟨rfl, rfl, rfl, Nat.le_refl _⟩
  | .int i, h => ⟨rfl, h, rfl, Nat.le_refl _⟩
  | .tup l, h => by
    obtain ⟨a, b, c, e⟩ := lays_okR l h
    exact ⟨a, b, c, Nat.succ_le_succ e⟩
  | .lst l, h => by
    obtain ⟨a, b, c, e⟩ := lays_okR l h
    exact ⟨a, b, c, Nat.succ_le_succ e⟩
theorem lays_okR : ∀ l : List Dt, okRs l = true → PyData.canLayAll0 (pds l) = true ∧ PyData.showableAll (pds l) = true ∧ pls l = true ∧ PyData.depthAll (pds l) ≤ hgts l
  | [], _ => ⟨rfl, rfl, rfl, Nat.le_refl _⟩
  | d :: l, h => by
    have h' : (d.okR && okRs l) = true := h
    rw [Bool.and_eq_true] at h'
    obtain ⟨a1, b1, c1, e1⟩ := lay_okR d h'.1
    obtain ⟨a2, b2, c2, e2⟩ := lays_okR l h'.2
    refine ⟨?_, ?_, ?_, ?_⟩
    · show (d.pd.canLay0 && PyData.canLayAll0 (pds l)) = true
      rw [a1, a2]; rfl
    · show (d.pd.showable && PyData.showableAll (pds l)) = true
      rw [b1, b2]; rfl
    · show (d.pl && pls l) = true
      rw [c1, c2]; rfl
    · show max d.pd.depth (PyData.depthAll (pds l)) ≤ max d.hgt (hgts l)
      omega
end
/-- what may be shown, and compared -/
structure ShOk (d : Dt) : Prop where
  ok : d.okR = true
  hg : d.hgt ≤ 64
  ln : d.rl ≤ 16000000
theorem ShOk.shaped {d : Dt} (h : ShOk d) : SeqAt.shaped d.pd = true := by
  show (d.pd.canLay0 && decide (d.pd.depth ≤ 64)) = true
  obtain ⟨a, _, _, e⟩ := lay_okR d h.ok
  rw [a, decide_eq_true (Nat.le_trans e h.hg)]; rfl
/-- as FnOk, where the surroundings show nothing -/
structure FnG (P : Program) (w : World) (K : PySem.W.Frag) (mg : Str → Option Value) (base : Heap) (k : Nat) (g : Addr) (gd : FuncData) (names : List Str) (sp : Sp) : Prop where
  len : ∀ us H Q E, sp us H Q E → us.length = names.length
  go : ∀ (B : Around) (out : List Env) (s : Shared) (H : Hp) (args : Args) (ws : List Value) (us : List V) (Q : VK) (E : XK), Room k B → B.guards = some [] → Env0 P w K mg base B out s H →
    BindsTo s gd args (names.zip ws) → Vals us ws → sp us H Q E → codeAny (model P w) B (.call (.ref g) args) (CR CX0 out P w H s Q E) s
theorem FnG.of {P : Program} {w : World} {K : PySem.W.Frag} {mg : Str → Option Value} {base : Heap} {k : Nat} {g : Addr} {gd : FuncData} {names : List Str} {sp : Sp} (F : FnOk P w K mg base CX0 k g gd names sp) : FnG P w K mg base k g gd names sp :=
  ⟨F.len, fun B out s H args ws us Q E r _ e b v h => F.run B out s H args ws us Q E r e b v h⟩
section
variable {P : Program} {w : World} {K : PySem.W.Frag} {mg : Str → Option Value} {base : Heap}
/-- the rule for a def of the text -/
theorem okG {x q : Str} {st : Stmt} {g : Addr} {gd : FuncData} {N names : List Str} {k : Nat} {sp : Sp} (F : Fun K x q st g gd) (sc : FnScope N names (defScope st)) (len : ∀ us H Q E, sp us H Q E → us.length = names.length)
    (hb : ∀ (cv : Value) (B : Around) (out : List Env) (s : Shared) (H : Hp) (us : List V) (Q : VK) (E : XK), Room k (B.deeper (envOfC q (defScope st) s.heap.objs.size g cv)) → (B.deeper (envOfC q (defScope st) s.heap.objs.size g cv)).guards = some [] → sp us H Q E →
      ∃ t, PSs (cxOf CX0 P w K mg base N q (defScope st) g cv B out s H E).nox (defBody st) t ∧ t { nx := fun _ H' => Q .non H', rt := Q } (start N us) H) : FnG P w K mg base (k + 1) g gd names sp := by
  obtain ⟨oc, od, kV, doc, pm, an, cv, ct, osl, rfl, look, hcode⟩ := F.ex
  refine ⟨len, fun B out s H args ws us Q E room gu e0 bnd rel hsp => ?_⟩
  have nu := len _ _ _ _ hsp
  have hK : K.In s.heap := e0.mod.kin.keeps fun b o z => (e0.bs b o z).1
  have hL : s.heap.NoLimit := e0.mod.nolimit.keeps fun b o z => (e0.bs b o z).1
  have kinds : ∀ z ∈ names.zip ws, (defScope st).names.lookup z.1 = some .local ∨ ((defScope st).names.lookup z.1 = some .cell ∧ ((cellsFrom (s.heap.objs.size + 1) (defScope st).names []).lookup z.1).isSome = true) := by
    rintro ⟨n, v⟩ hz
    exact (sc.par n (List.of_mem_zip hz).1).elim .inl fun c => .inr ⟨c, PySem.W.cellsFrom_some _ _ _ (.inl c)⟩
  refine codeAny_call_function room.depth (hK _ _ look) rfl sc.co sc.gen rfl (PySem.W.codeRec_of hK hcode) (bnd _ _ _ _ ?_)
  refine wpAny_newFunctionEnv_cells sc.kind kinds fun env hev s1 fresh => ?_
  subst hev
  refine ⟨hL.keeps fresh.toInCall.keep, codeAny_func ?_⟩
  obtain ⟨t, body, reads⟩ := hb cv B out s H us Q E (room.deeper _) gu hsp
  have J := inv_start (CX := CX0) (E := E) sc room.hd e0 nu rel fresh
  refine wpAny_mono (body.nox.run [] s1 (start N us) H _ J reads) (fun fl s' hs => ?_) fun e s' hs => hs
  cases fl with
  | ret u => exact let ⟨v, σ', H', J', rv, qv⟩ := hs; ⟨v, H', J'.os, J'.bare, J'.base, J'.hok, rv, qv⟩
  | next => exact let ⟨σ', H', J', qv⟩ := hs; ⟨V.non, H', J'.os, J'.bare, J'.base, J'.hok, rfl, qv⟩
  | brk => exact let ⟨_, _, _, qv⟩ := hs; False.elim qv
  | cont => exact let ⟨_, _, _, qv⟩ := hs; False.elim qv
end
/-! ### repr of data -/
section
variable {X : Cx}
def rRepr (K : PySem.W.Frag) : List V → Hp → VK → Prop := fun xs H Q => ∃ (a : Addr) (d : PyData), xs = [.ref a] ∧ Dp K H (.ref a) d ∧ SeqAt.shaped d = true ∧ d.showable = true ∧ d.shown.length ≤ sizeLine ∧ Q (.str d.shown) H
theorem call_repr (hg : X.A.guards = some []) (hu : X.A.units + 200 < cLine) : CallR X (.builtin "repr") (rRepr X.K) := by
  intro pins s σ H xs us Q I r h
  obtain ⟨a, d, rfl, hd, hs, hsh, hz, q⟩ := h
  obtain ⟨u, rfl, ru⟩ := vals1 r
  obtain rfl : u = .ref a := ru
  obtain ⟨as, rd⟩ := Dp.reads I d (.ref a) (.ref a) hd rfl
  have dep := SeqAt.depth_of_shaped hs
  refine repr_of_reads' rd hsh (PyData.noDict_hsm (PyData.hasDict_of_canLay d (SeqAt.canLay_of_shaped hs))) hg (by omega) (fun _ _ e => e) (fun h' v tk k => ⟨.str d.shown, H, I.kept k, ⟨_, rfl⟩, q⟩) hz
/-- a call of such a def -/
theorem pe_callG {x : Str} {k : Nat} {g : Addr} {gd : FuncData} {names : List Str} {sp : Sp} {e : Expr} {es : List Expr} {t : TA} {p pos : Pos} (F : FnG X.prog X.w X.K X.mg X.base k g gd names sp) (hr : Room k X.A) (gu : X.A.guards = some []) (hgl : Gl X x) (hm : X.mg x = some (.ref g))
    (kp : PySem.W.keepIn X.K (.ref g) = true) (hb : Binds X.K gd names []) (hx : Passes CX0 X E0) (ha : PA X (e :: es) t) (hdb : (x == ("__debug__" : Str)) = false := by decide)
    (he : starEach (e :: es) X.env = (false, eval e X.env) :: starEach es X.env := by rfl) (hpl : (backTo pos (starEach es X.env)).any (·.1) = false := by rfl) : PE X (.Call (.Name x p) (e :: es) [] pos) (tCall sp [] E0 t) := by
  refine ⟨fun pins s σ H Q I h => wpAny_Call_Name_kw (ld_glob I hgl hm ?_ hdb)⟩
  refine PySem.W.callWith_K (h₀ := X.base) I.ok.mod.kin kp (thn (ha.run pos pins s σ H _ I h) fun ws s1 ⟨us, H1, I1, rel, hq⟩ => ⟨I1.kIn, ?_⟩) he hpl
  have hq' : sp us H1 Q E0 := by simpa using hq
  have nw : (ws ++ []).length = names.length := by rw [List.append_nil, ← rel.length]; exact F.len _ _ _ _ hq'
  refine wpAny_call (codeAny_mono (F.go X.A X.stack s1 H1 ⟨ws, []⟩ (ws ++ []) us Q E0 hr gu I1.env0 (hb s1 ws I1.kIn nw) (by rw [List.append_nil]; exact rel) hq') fun r s' z => ?_)
  cases r with
  | error v => exact hx pins σ H1 s1 v s' I1 z
  | ok fl =>
    cases fl with
    | ret u => exact I1.after z
    | next => exact False.elim z
    | brk => exact False.elim z
    | cont => exact False.elim z
end
section
variable {K : PySem.W.Frag} {Φ : Dt → Prop}
theorem ac_repr {d : Dt} (h : ShOk d) (hk : ∃ k l, d = sq k l) (q : Φ (.str d.pd.shown)) : AC K (rRepr K) [d] Φ := fun G H s vs r Q qq => by
  obtain ⟨x, rfl, rd⟩ := r.one
  obtain ⟨k, l, e⟩ := hk
  obtain ⟨a, b, c, e2⟩ := lay_okR d h.ok
  have hx : ∃ p, x = V.ref p := by
    subst e
    obtain ⟨p, xs, ex, _⟩ := sqK_of s rd
    exact ⟨p, ex⟩
  obtain ⟨p, rfl⟩ := hx
  exact ⟨p, d.pd, rfl, rd.dp s c, h.shaped, b, by have := shown_len d h.ok; have := h.ln; rw [sizeLine_eq]; omega, qq _ (.str d.pd.shown) G H (Nw.refl s) rfl q⟩
theorem ar_neText {s : Str} (h : Φ (.bl false)) : AR K rNe (.str s) (.str s) Φ := ar_ne3 ⟨rfl, rfl, rfl⟩ (by rw [decide_eq_true rfl]; exact h)
theorem ar_eqText {s : Str} (h : Φ (.bl true)) : AR K rEq (.str s) (.str s) Φ := ar_eq3 ⟨rfl, rfl, rfl⟩ (by rw [decide_eq_true rfl]; exact h)
end
section
variable {P : Program} {w : World} {K : PySem.W.Frag} {mg : Str → Option Value} {base : Heap}
/-- a def that draws and may ask for repr -/
theorem okBG {x qual : Str} {st : Stmt} {f : Addr} {fd : FuncData} {N ps : List Str} {k n : Nat} {dom : List Dt → Prop} {post : List Dt → Dt → Prop} (F : Fun K x qual st f fd) (sc : FnScope N ps (defScope st)) (len : ∀ ds, dom ds → ds.length + 1 = ps.length)
    (body : ∀ (cdv : Value) (A : Around) (outer : List Env) (s : Shared) (H : Hp) (E : XK), Room k (A.deeper (envOfC qual (defScope st) s.heap.objs.size f cdv)) → (A.deeper (envOfC qual (defScope st) s.heap.objs.size f cdv)).guards = some [] → ∀ ds, dom ds →
      ∃ t, PSs (cxOf CX0 P w K mg base N qual (defScope st) f cdv A outer s H E).nox (defBody st) t ∧ ∀ (b : Addr) (F : Nat), AS K t (envB N b (F + n) ds) (fun ρ => post ds .non ∧ ∃ f, ρ[0]? = some (.bx b f) ∧ F ≤ f) (fun d ρ => post ds d ∧ ∃ f, ρ[0]? = some (.bx b f) ∧ F ≤ f)) : FnG P w K mg base (k + 1) f fd ps (spB K n dom post) := by
  refine okG F sc (fun vs H Q E h => ?_) (fun cdv A outer s H vs Q E hr gu h => ?_)
  · obtain ⟨G, ds, b, us, y, c, F', rfl, sm, hb, c0, c1, gb, rd, hd, _⟩ := h
    rw [List.length_cons, rd.length]; exact len ds hd
  · obtain ⟨G, ds, b, us, y, c, F', rfl, sm, hb, c0, c1, gb, rd, hd, q⟩ := h
    obtain ⟨t, ht, ha⟩ := body cdv A outer s H E hr gu ds hd
    refine ⟨t, ht, ha b F' _ _ G H (mt_startB sm rd hb c0 c1 gb) _ (fun σ' ρ' G' H' m' s' t' e => ?_) (fun v d σ' ρ' G' H' m' s' t' rv e => ?_)⟩
    all_goals
      obtain ⟨hp, f', he, hf⟩ := e
      have nb : Nb b G H G' H' := ⟨s', m'.sub, fun a o ne e => by
          cases z : G a with
          | none => exact t' a o ⟨some_ne e, z, ne⟩ e
          | some o' => rw [sm _ _ z] at e; cases e; exact m'.sub _ _ (s' _ _ z), fun a h1 h2 => by
          by_cases w : a = b
          · subst w
            obtain ⟨_, _, _, _, _, _, z, _⟩ := m'.bx 0 a f' he
            exact z
          · exact (m'.pro a ⟨h2, h1, w⟩).1⟩
      obtain ⟨y', c', w1, w2, w3, w4, w5, w6⟩ := m'.bx 0 b f' he
    · exact q .non .non G' H' y' c' nb w2 w3 (by omega) rfl hp
    · exact q v d G' H' y' c' nb w2 w3 (by omega) rv hp
end
end Sh
set_option Elab.async false
set_option linter.all false
set_option maxRecDepth 100000
set_option maxHeartbeats 4000000
namespace Sh
open PySem PySem.Spec PyProof.Rows L2
abbrev s_l_single_right : Stmt := topS 27
abbrev N_l_single_right : List Str := ["_law_box_here", "_law_rows_here", "_law_size", "_law_by", "_law_due", "_law_told", "_law_named", "_law_at", "_law_to", "_law_loose_here", "_law_was", "_law_line", "_law_limit_here"]
abbrev p_l_single_right : List Str := ["_law_box_here", "_law_rows_here", "_law_size"]
theorem sc_l_single_right : FnScope N_l_single_right p_l_single_right (defScope s_l_single_right) := ⟨rfl, rfl, rfl, by decide +kernel, rfl, by decide +kernel, by decide +kernel⟩
theorem deps_le {n : Nat} : ∀ {l : List Dt}, (∀ d ∈ l, d.dep ≤ n) → deps l ≤ n
  | [], _ => Nat.zero_le _
  | d :: l, h => by
    unfold deps
    have h1 := h d List.mem_cons_self
    have h2 := deps_le (l := l) fun e he => h e (List.mem_cons_of_mem _ he)
    omega
theorem fits_all : ∀ {l : List Dt}, (∀ d ∈ l, d.fit = true) → fits l = true
  | [], _ => rfl
  | d :: l, h => by
    unfold fits
    rw [h d List.mem_cons_self, fits_all (l := l) fun e he => h e (List.mem_cons_of_mem _ he)]; rfl
def DF (n : Nat) (d : Dt) : Prop := d.dep ≤ n ∧ d.fit = true
theorem df_tup {n : Nat} {l : List Dt} (h1 : l.length ≤ 9000) (h : ∀ d ∈ l, DF n d) : DF (n + 1) (.tup l) := ⟨Nat.succ_le_succ (deps_le fun d hd => (h d hd).1), by
  show (decide (l.length ≤ 9000) && fits l) = true
  rw [fits_all fun d hd => (h d hd).2, decide_eq_true h1]; rfl⟩
theorem df_lst {n : Nat} {l : List Dt} (h1 : l.length ≤ 9000) (h : ∀ d ∈ l, DF n d) : DF (n + 1) (.lst l) := ⟨Nat.succ_le_succ (deps_le fun d hd => (h d hd).1), by
  show (decide (l.length ≤ 9000) && fits l) = true
  rw [fits_all fun d hd => (h d hd).2, decide_eq_true h1]; rfl⟩
theorem df_sq {n : Nat} {k : Bool} {l : List Dt} (h1 : l.length ≤ 9000) (h : ∀ d ∈ l, DF n d) : DF (n + 1) (sq k l) := by
  cases k
  · exact df_lst h1 h
  · exact df_tup h1 h
theorem df_o {o : Option Int} : DF 1 (oD o) := by cases o <;> exact ⟨Nat.le_refl _, rfl⟩
theorem df_gD {k k' : Bool} {n : Nat} {M : Mx} (h : n ≤ 9000) : DF 3 (gD k k' n M) := df_sq (by simpa using h) fun d hd => by
  obtain ⟨i, _, rfl⟩ := List.mem_map.mp hd
  refine df_sq (by rw [rw_rg]; simpa using h) fun e he => ?_
  rw [rw_rg] at he
  obtain ⟨j, _, rfl⟩ := List.mem_map.mp he
  exact df_o
theorem ar_neN {K : PySem.W.Frag} {i a : Nat} {Φ : Dt → Prop} (h : Φ (.bl (!decide (i = a)))) : AR K rNe (.int (i : Int)) (.int (a : Int)) Φ := ar_ne3 ⟨rfl, rfl, rfl⟩ (by rw [dec_int]; exact h)
theorem ae_callK3 {K : PySem.W.Frag} {ρ : List En} {Ψ : Dt → List En → Prop} {E : XK} {tk : TA} {S : List Dt → Dt → Prop} {m : Nat} (hm : m = 3) (h : AA K tk ρ fun ds ρ1 => ∃ a b c, ds = [a, b, c] ∧ ∃ r, S [c, b, a] r ∧ Ψ r ρ1) : AE K (tCallK0 m (spP K S) List.reverse E tk) ρ Ψ :=
  ae_callK List.reverse (fun r _ => RDs.rev r) (fun B σ G H m Q q => h B σ G H m Q fun vs ds ρ' G' H' m' s t r ⟨a, b, c, e, k⟩ => q vs ds ρ' G' H' m' s t r ⟨by rw [e, hm]; rfl, by rw [e]; exact k⟩)
theorem ae_callK2 {K : PySem.W.Frag} {ρ : List En} {Ψ : Dt → List En → Prop} {E : XK} {tk : TA} {S : List Dt → Dt → Prop} {m : Nat} (hm : m = 2) (h : AA K tk ρ fun ds ρ1 => ∃ a b, ds = [a, b] ∧ ∃ r, S [b, a] r ∧ Ψ r ρ1) : AE K (tCallK0 m (spP K S) List.reverse E tk) ρ Ψ :=
  ae_callK List.reverse (fun r _ => RDs.rev r) (fun B σ G H m Q q => h B σ G H m Q fun vs ds ρ' G' H' m' s t r ⟨a, b, e, k⟩ => q vs ds ρ' G' H' m' s t r ⟨by rw [e, hm]; rfl, by rw [e]; exact k⟩)
theorem ae_callK4 {K : PySem.W.Frag} {ρ : List En} {Ψ : Dt → List En → Prop} {E : XK} {tk : TA} {S : List Dt → Dt → Prop} {m : Nat} (hm : m = 4) (h : AA K tk ρ fun ds ρ1 => ∃ a b c d, ds = [a, b, c, d] ∧ ∃ r, S [d, c, b, a] r ∧ Ψ r ρ1) : AE K (tCallK0 m (spP K S) List.reverse E tk) ρ Ψ :=
  ae_callK List.reverse (fun r _ => RDs.rev r) (fun B σ G H m Q q => h B σ G H m Q fun vs ds ρ' G' H' m' s t r ⟨a, b, c, d, e, k⟩ => q vs ds ρ' G' H' m' s t r ⟨by rw [e, hm]; rfl, by rw [e]; exact k⟩)
theorem loo_gD {n : Nat} {M : Mx} {k k' : Bool} : looD (gD k k' n M) = gD false false n M := by
  have row : ∀ i, looD (sq k' (rwD n M i)) = .lst (rwD n M i) := fun i => by
    have e : looL (rwD n M i) = rwD n M i := by
      rw [loo_map, rw_rg, List.map_map]
      refine List.map_congr_left fun j _ => ?_
      show looD (oD (M i j)) = oD (M i j)
      cases M i j <;> simp [oD, looD]
    cases k'
    · show looD (.lst _) = _; rw [looD, e]
    · show looD (.tup _) = _; rw [looD, e]
  have top : looL ((List.range n).map fun i => sq k' (rwD n M i)) = (List.range n).map fun i => .lst (rwD n M i) := by
    rw [loo_map, List.map_map]
    exact List.map_congr_left fun i _ => row i
  cases k
  · show looD (.lst _) = Dt.lst _; rw [looD, top]; rfl
  · show looD (.tup _) = Dt.lst _; rw [looD, top]; rfl
/-! what is shown -/
theorem okRs_all : ∀ {l : List Dt}, (∀ d ∈ l, d.okR = true) → okRs l = true
  | [], _ => rfl
  | d :: l, h => by
    show (d.okR && okRs l) = true
    rw [h d List.mem_cons_self, okRs_all fun e he => h e (List.mem_cons_of_mem _ he)]; rfl
theorem rls_le {b : Nat} : ∀ {l : List Dt}, (∀ d ∈ l, d.rl ≤ b) → rls l ≤ l.length * (b + 2)
  | [], _ => Nat.zero_le _
  | d :: l, h => by
    have h1 := h d List.mem_cons_self
    have h2 := rls_le fun e (he : e ∈ l) => h e (List.mem_cons_of_mem _ he)
    show d.rl + 2 + rls l ≤ (l.length + 1) * (b + 2)
    rw [Nat.succ_mul]; omega
theorem hgts_le {b : Nat} : ∀ {l : List Dt}, (∀ d ∈ l, d.hgt ≤ b) → hgts l ≤ b
  | [], _ => Nat.zero_le _
  | d :: l, h => by
    have h1 := h d List.mem_cons_self
    have h2 := hgts_le fun e (he : e ∈ l) => h e (List.mem_cons_of_mem _ he)
    show max d.hgt (hgts l) ≤ b
    omega
theorem bn_sh {o : Option Int} (h : bnO 2 o) : (oD o).okR = true ∧ (oD o).rl ≤ 1921 ∧ (oD o).hgt ≤ 0 := by
  cases o with
  | none => exact ⟨rfl, (by decide), Nat.le_refl _⟩
  | some x =>
    refine ⟨decide_eq_true ?_, Nat.le_refl _, Nat.le_refl _⟩
    have hx := h x rfl
    have : x.natAbs < 2 ^ 64 := by omega
    by_cases z : x.natAbs = 0
    · rw [z]; decide
    · exact Nat.lt_trans ((Nat.log2_lt z).mpr this) (by decide)
theorem sq_sh {k : Bool} {l : List Dt} : (sq k l).okR = okRs l ∧ (sq k l).rl = rls l + 3 ∧ (sq k l).hgt = hgts l + 1 := by cases k <;> exact ⟨rfl, rfl, rfl⟩
theorem gD_sh {k k' : Bool} {n : Nat} {M : Mx} (h5 : n ≤ 5) (h : bnM 2 M) : (gD k k' n M).okR = true ∧ (gD k k' n M).rl ≤ 60000 ∧ (gD k k' n M).hgt ≤ 2 := by
  have row : ∀ d, d ∈ (List.range n).map (fun i => sq k' (rwD n M i)) → d.okR = true ∧ d.rl ≤ 10000 ∧ d.hgt ≤ 1 := fun d hd => by
    obtain ⟨i, _, rfl⟩ := List.mem_map.mp hd
    have cell : ∀ e, e ∈ rwD n M i → e.okR = true ∧ e.rl ≤ 1921 ∧ e.hgt ≤ 0 := fun e he => by
      rw [rw_rg] at he
      obtain ⟨j, _, rfl⟩ := List.mem_map.mp he
      exact bn_sh (h i j)
    obtain ⟨a, b, c⟩ := sq_sh (k := k') (l := rwD n M i)
    rw [a, b, c]
    have l1 := rls_le fun e he => (cell e he).2.1
    have l2 : (rwD n M i).length * (1921 + 2) ≤ 5 * 1923 := Nat.mul_le_mul (by rw [rw_rg]; simpa using h5) (Nat.le_refl _)
    exact ⟨okRs_all fun e he => (cell e he).1, by omega, Nat.succ_le_succ (hgts_le fun e he => (cell e he).2.2)⟩
  obtain ⟨a, b, c⟩ := sq_sh (k := k) (l := (List.range n).map fun i => sq k' (rwD n M i))
  unfold gD
  rw [a, b, c]
  have l1 := rls_le fun e he => (row e he).2.1
  have l2 : ((List.range n).map fun i => sq k' (rwD n M i)).length * (10000 + 2) ≤ 5 * 10002 := Nat.mul_le_mul (by simpa using h5) (Nat.le_refl _)
  exact ⟨okRs_all fun e he => (row e he).1, by omega, Nat.succ_le_succ (hgts_le fun e he => (row e he).2.2)⟩
theorem gD_ok {k k' : Bool} {n : Nat} {M : Mx} (h5 : n ≤ 5) (h : bnM 2 M) : ShOk (gD k k' n M) := by
  obtain ⟨a, b, c⟩ := gD_sh (k := k) (k' := k') h5 h
  exact ⟨a, by omega, by omega⟩
theorem bnM_up {M : Mx} (h : bnM 0 M) : bnM 2 M := fun i j => bn_up (h i j) (by decide)
theorem gD_sq {k k' : Bool} {n : Nat} {M : Mx} : ∃ k0 l, gD k k' n M = sq k0 l := ⟨k, _, rfl⟩
/-! a row, an item put in -/
theorem cutD_of {l : List Dt} {n : Nat} (h : n ≤ l.length) : cutD l (some (n : Int)) none = l.drop n := by
  unfold cutD
  rw [HT.sIx_none, HT.sIx_nat, Nat.min_eq_left h, List.take_of_length_le (by rw [List.length_drop]; exact Nat.le_refl _)]
theorem put_at {n i : Nat} {f : Nat → Dt} {x : Dt} (h : i < n) : cutD ((List.range n).map f) none (some (i : Int)) ++ [x] ++ cutD ((List.range n).map f) (some ((i + 1 : Nat) : Int)) none = (List.range n).map fun j => if j = i then x else f j := by
  rw [cutD_to, cutD_of (by simp; omega), ← List.map_take, ← List.map_drop]
  refine List.ext_getElem? fun j => ?_
  rw [List.getElem?_map]
  have lt : (((List.range n).take i).map f).length = i := by simp; omega
  rcases Nat.lt_trichotomy j i with c | c | c
  · rw [List.append_assoc, List.getElem?_append_left (by omega), List.getElem?_map, List.getElem?_take, if_pos c]
    rw [List.getElem?_range (by omega)]
    show some (f j) = some (if j = i then x else f j)
    rw [if_neg (by omega)]
  · subst c
    rw [List.append_assoc, List.getElem?_append_right (by omega), lt, Nat.sub_self, List.getElem?_range (by omega)]
    show some x = some (if j = j then x else f j)
    rw [if_pos rfl]
  · rw [List.getElem?_append_right (by rw [List.length_append, lt]; show i + 1 ≤ j; omega), List.length_append, lt]
    show (((List.range n).drop (i + 1)).map f)[j - (i + 1)]? = _
    rw [List.getElem?_map, List.getElem?_drop, show i + 1 + (j - (i + 1)) = j by omega]
    by_cases hj : j < n
    · rw [List.getElem?_range hj]
      show some (f j) = some (if j = i then x else f j)
      rw [if_neg (by omega)]
    · rw [List.getElem?_eq_none (by simp; omega)]; rfl
theorem bd_data {n a c : Nat} {v : Int} {M : Mx} {x : Dt} (hx : oD (tmH (M a c) (some v)) = x) : (List.range n).map (fun i => if i = a then Dt.tup ((List.range n).map fun j => if j = c then x else oD (M a j)) else sq true (rwD n M i)) = (List.range n).map fun i => sq true (rwD n (bdM M a c v) i) := by
  subst hx
  refine List.map_congr_left fun i _ => ?_
  by_cases h : i = a
  · rw [if_pos h, h]
    show Dt.tup _ = Dt.tup (rwD n (bdM M a c v) a)
    rw [rw_rg]
    congr 1
    refine List.map_congr_left fun j _ => ?_
    unfold bdM
    by_cases k : j = c
    · rw [if_pos k, if_pos ⟨rfl, k⟩, k]
    · rw [if_neg k, if_neg (fun z => k z.2)]
  · rw [if_neg h, rw_rg, rw_rg]
    congr 1
    refine List.map_congr_left fun j _ => ?_
    unfold bdM
    rw [if_neg (fun z => h z.1)]
theorem gd_at {n i : Nat} {M : Mx} (h : i < n) : ((List.range n).map fun i => sq true (rwD n M i))[i]? = some (.tup (rwD n M i)) := by
  rw [List.getElem?_map, List.getElem?_range h]; rfl
def domV (ds : List Dt) : Prop := ∃ (n : Nat) (M : Mx), ds = [gD true true n M, .int (n : Int)] ∧ 1 ≤ n ∧ n ≤ 5 ∧ (∀ i, i < n → M i i = some 0) ∧ bnM 0 M
def postB (_ : List Dt) (d : Dt) : Prop := d = .bl true
section
variable {P : Program} {w : World} {K : PySem.W.Frag} {mg : Str → Option Value} {base : Heap}
theorem ok_l_single_right (bl : Blts mg) {g4_l_take : Addr} {d4_l_take : FuncData} (c4_l_take : Cal P w K mg base 3 "_law_take" p_l_take (spB K 2 domT2 postT) g4_l_take d4_l_take) {g_l_of : Addr} {d_l_of : FuncData} (c_l_of : Cal P w K mg base 3 "_law_of" p_l_of (spB K 1 domO postO) g_l_of d_l_of) {g_l_loose : Addr} {d_l_loose : FuncData} (c_l_loose : Cal P w K mg base 3 "_law_loose" p_l_loose (spP K (S_loo 3)) g_l_loose d_l_loose) {g_l_turned_rows : Addr} {d_l_turned_rows : FuncData} (c_l_turned_rows : Cal P w K mg base 1 "_law_turned_rows" p_l_turned_rows (spP K S_tu) g_l_turned_rows d_l_turned_rows) {g_gaps_without : Addr} {d_gaps_without : FuncData} (c_gaps_without : Cal P w K mg base 2 "gaps_without" p_gaps_without (spP K S_wo) g_gaps_without d_gaps_without) {g_gaps_moved : Addr} {d_gaps_moved : FuncData} (c_gaps_moved : Cal P w K mg base 2 "gaps_moved" p_gaps_moved (spP K S_mv) g_gaps_moved d_gaps_moved) {g_gaps_bound : Addr} {d_gaps_bound : FuncData} (c_gaps_bound : Cal P w K mg base 2 "gaps_bound" p_gaps_bound (spP K S_bd) g_gaps_bound d_gaps_bound) {g_l_same : Addr} {d_l_same : FuncData} (c_l_same : Cal P w K mg base 5 "_law_same" p_l_same (spP K (S_same 5)) g_l_same d_l_same) (k_gaps_without : KB0 K d_gaps_without p_gaps_without ["i", "gaps"] List.reverse List.reverse) (k_gaps_moved : KB0 K d_gaps_moved p_gaps_moved ["n", "i", "gaps"] List.reverse List.reverse) (k_gaps_bound : KB0 K d_gaps_bound p_gaps_bound ["n", "j", "i", "gaps"] List.reverse List.reverse)  {f : Addr} {fd : FuncData} (F : Fun K "_law_single_right" "_law_single_right" s_l_single_right f fd) : FnG P w K mg base 6 f fd p_l_single_right (spB K 7 (domV) (postB)) := by
  refine okBG F sc_l_single_right (fun ds h => ?_) (fun cdv A outer s H E hr gu ds h => ?_)
  · obtain ⟨n, M, rfl, n1, n5, hMd, hMb⟩ := h
    rfl
  obtain ⟨n, M, rfl, n1, n5, hMd, hMb⟩ := h
  have hu : (A.deeper (envOfC "_law_single_right" (defScope s_l_single_right) s.heap.objs.size f cdv)).units + 200 < cLine := by have := hr.un; omega
  refine ⟨_, (pss_cons (ps_par (i := 7) (j := 8) (by rfl) sc_l_single_right.nd rfl rfl (by decide) rfl rfl (pa_cons (pe_call c4_l_take.ok (hr.mono (by decide)) rfl c4_l_take.mg c4_l_take.kp c4_l_take.bi .nil pass0 (pa_cons (pv 0) (pa_cons (pv 2) pa_nil))) (pa_cons (pe_call c4_l_take.ok (hr.mono (by decide)) rfl c4_l_take.mg c4_l_take.kp c4_l_take.bi .nil pass0 (pa_cons (pv 0) (pa_cons (pv 2) pa_nil))) pa_nil)) (by rfl))
    (pss_cons (ps_set (i := 3) sc_l_single_right.nd rfl (by first | exact Or.inl rfl | exact Or.inr rfl) (pe_call c_l_of.ok (hr.mono (by decide)) rfl c_l_of.mg c_l_of.kp c_l_of.bi .nil pass0 (pa_cons (pv 0) (pa_cons (pe_lst (pa_cons pe_int (pa_cons pe_int (pa_cons (pe_un un_neg pe_int) (pa_cons (pe_op op_sub (pe_call c4_l_take.ok (hr.mono (by decide)) rfl c4_l_take.mg c4_l_take.kp c4_l_take.bi .nil pass0 (pa_cons (pv 0) (pa_cons pe_int pa_nil))) pe_int) (pa_cons (pe_op op_sub pe_int (pe_op op_pow pe_int pe_int)) pa_nil)))))) pa_nil))))
    (pss_cons (ps_par (i := 9) (j := 10) (by rfl) sc_l_single_right.nd rfl rfl (by decide) rfl rfl (pa_cons (pe_call c_l_loose.ok (hr.mono (by decide)) rfl c_l_loose.mg c_l_loose.kp c_l_loose.bi .nil pass0 (pa_cons (pv 1) pa_nil)) (pa_cons (pe_callB (call_repr gu hu) rfl bl.repr (by decide +kernel) (pa_cons (pv 1) pa_nil)) pa_nil)) (by rfl))
    (pss_cons (ps_set (i := 4) sc_l_single_right.nd rfl (by first | exact Or.inl rfl | exact Or.inr rfl) (pe_lst (pa_cons (pe_call c_l_turned_rows.ok (hr.mono (by decide)) rfl c_l_turned_rows.mg c_l_turned_rows.kp c_l_turned_rows.bi .nil pass0 (pa_cons (pv 1) (pa_cons (pv 7) (pa_cons pe_non pa_nil)))) (pa_cons (pe_call c_l_turned_rows.ok (hr.mono (by decide)) rfl c_l_turned_rows.mg c_l_turned_rows.kp c_l_turned_rows.bi .nil pass0 (pa_cons (pv 1) (pa_cons (pv 7) (pa_cons (pv 3) pa_nil)))) pa_nil))))
    (pss_cons (ps_set (i := 5) sc_l_single_right.nd rfl (by first | exact Or.inl rfl | exact Or.inr rfl) (pe_lst (pa_cons (pe_call c_gaps_without.ok (hr.mono (by decide)) rfl c_gaps_without.mg c_gaps_without.kp c_gaps_without.bi .nil pass0 (pa_cons (pv 1) (pa_cons (pv 7) pa_nil))) (pa_cons (pe_call c_gaps_moved.ok (hr.mono (by decide)) rfl c_gaps_moved.mg c_gaps_moved.kp c_gaps_moved.bi .nil pass0 (pa_cons (pv 1) (pa_cons (pv 7) (pa_cons (pv 3) pa_nil)))) pa_nil))))
    (pss_cons (ps_set (i := 6) sc_l_single_right.nd rfl (by first | exact Or.inl rfl | exact Or.inr rfl) (pe_lst (pa_cons (pe_callK0 c_gaps_without.ok (hr.mono (by decide)) rfl c_gaps_without.mg c_gaps_without.kp k_gaps_without pass0 (pk_cons (pv 7) (pk_cons (pv 9) pk_nil))) (pa_cons (pe_callK0 c_gaps_moved.ok (hr.mono (by decide)) rfl c_gaps_moved.mg c_gaps_moved.kp k_gaps_moved pass0 (pk_cons (pv 3) (pk_cons (pv 7) (pk_cons (pv 9) pk_nil)))) pa_nil))))
    (pss_cons (ps_if (pt_cmpR op_ne (pv 7) (pv 8) (nomark _)) (pss_cons (ps_set (i := 11) sc_l_single_right.nd rfl (by first | exact Or.inl rfl | exact Or.inr rfl) (pe_ix ix_tup (pv 1) (pv 7) (fun _ _ => rfl)))
    (pss_cons (ps_set (i := 12) sc_l_single_right.nd rfl (by first | exact Or.inl rfl | exact Or.inr rfl) (pe_ifExp (pt_cmpR op_isN (pe_ix ix_tup (pv 11) (pv 8) (fun _ _ => rfl)) pe_non (nomark _)) (pv 3) (pe_callB (call_min2 rfl) rfl bl.min (by decide +kernel) (pa_cons (pv 3) (pa_cons (pe_ix ix_tup (pv 11) (pv 8) (fun _ _ => rfl)) pa_nil)))))
    (pss_cons (ps_set (i := 11) sc_l_single_right.nd rfl (by first | exact Or.inl rfl | exact Or.inr rfl) (pe_op op_catA (pe_op op_catA (pe_slice sl_tupA (pv 11) po_none (po_some (pv 8))) (pe_tup (pa_cons (pv 12) pa_nil))) (pe_slice sl_tupA (pv 11) (po_some (pe_op op_add (pv 8) pe_int)) po_none)))
    (pss_cons (ps_expr (pe_bm PySem.F.plainAttrs_list PySem.F.slot_list_append PySem.F.type_list_append mt_append (pv 4) (pa_cons (pe_op op_catA (pe_op op_catA (pe_slice sl_tupA (pv 1) po_none (po_some (pv 7))) (pe_tup (pa_cons (pv 11) pa_nil))) (pe_slice sl_tupA (pv 1) (po_some (pe_op op_add (pv 7) pe_int)) po_none)) pa_nil)))
    (pss_cons (ps_expr (pe_bm PySem.F.plainAttrs_list PySem.F.slot_list_append PySem.F.type_list_append mt_append (pv 5) (pa_cons (pe_call c_gaps_bound.ok (hr.mono (by decide)) rfl c_gaps_bound.mg c_gaps_bound.kp c_gaps_bound.bi .nil pass0 (pa_cons (pv 1) (pa_cons (pv 7) (pa_cons (pv 8) (pa_cons (pv 3) pa_nil))))) pa_nil)))
    (pss_one (ps_expr (pe_bm PySem.F.plainAttrs_list PySem.F.slot_list_append PySem.F.type_list_append mt_append (pv 6) (pa_cons (pe_callK0 c_gaps_bound.ok (hr.mono (by decide)) rfl c_gaps_bound.mg c_gaps_bound.kp k_gaps_bound pass0 (pk_cons (pv 3) (pk_cons (pv 8) (pk_cons (pv 7) (pk_cons (pv 9) pk_nil))))) pa_nil))))))))) pss_nil)
    (pss_one (ps_ret (pe_and (pe_call c_l_same.ok (hr.mono (by decide)) rfl c_l_same.mg c_l_same.kp c_l_same.bi .nil pass0 (pa_cons (pe_lst (pa_cons (pv 5) (pa_cons (pv 6) pa_nil))) (pa_cons (pe_lst (pa_cons (pv 4) (pa_cons (pv 4) pa_nil))) pa_nil))) (pe_and (pe_cmpR op_eq (pe_callB (call_repr gu hu) rfl bl.repr (by decide +kernel) (pa_cons (pv 1) pa_nil)) (pv 10) (nomark _)) (pe_one (pe_cmpR (op_eqD hr.units) (pv 9) (pe_call c_l_loose.ok (hr.mono (by decide)) rfl c_l_loose.mg c_l_loose.kp c_l_loose.bi .nil pass0 (pa_cons (pv 1) pa_nil)) (nomark _)))))))))))))), fun b F => ?_⟩
  change AS K _ [En.bx _ _, En.da _, En.da _, En.no, En.no, En.no, En.no, En.no, En.no, En.no, En.no, En.no, En.no] _ _
  try simp only [cxOf_K, cxOf_w]
  have z9 : 9000 ≤ sizeLine := by decide
  have rg : ∀ k : Nat, (rgD 0 ((k : Nat) : Int).toNat) = (List.range k).map fun i => Dt.int ((i : Nat) : Int) := fun k => by
    unfold rgD
    rw [Int.toNat_natCast]
    exact List.map_congr_left fun i _ => by rw [Int.zero_add]
  have rl : ∀ k : Nat, ((List.range k).map fun i => Dt.int ((i : Nat) : Int)).length = k := fun k => by rw [List.length_map, List.length_range]
  refine as_seq (as_par (aa_cons (ae_take2 rfl (ae_var rfl ⟨_, rfl, (by omega), (by omega), F + 5, rfl, fun v1 a0 a1 => ?_⟩))))
  refine aa_cons (ae_take2 rfl (ae_var rfl ⟨_, rfl, (by omega), (by omega), F + 3, rfl, fun v2 b0 b1 => aa_nil ⟨_, _, rfl, ?_⟩⟩))
  obtain ⟨a, rfl⟩ : ∃ a : Nat, v1 = (a : Int) := ⟨v1.toNat, by omega⟩
  obtain ⟨c, rfl⟩ : ∃ c : Nat, v2 = (c : Int) := ⟨v2.toNat, by omega⟩
  have ha : a < n := by omega
  have hc : c < n := by omega
  refine as_seq (as_set (ae_ofL rfl (ae_lst (aa_cons (ae_int (aa_cons (ae_int (aa_cons (ae_un (ae_int (au_Ui (aa_cons (ae_op (ae_take2 rfl (ae_int ⟨_, rfl, (by decide), (by decide), F + 1, rfl, fun v3 _ _ => ?_⟩)))))))))))))))
  refine ae_int (ar_I0i (aa_cons (ae_op (ae_int (ae_op (ae_int (ae_int (ar_Ii (C := CPow) ⟨(by decide), (by decide), (by decide)⟩ (ar_I0i (aa_nil ⟨(by show 5 ≤ sizeLine; omega), _, rfl, (by show 1 ≤ 5; decide), (by show 5 ≤ 1000; decide), F, rfl, fun d hd => ?_⟩))))))))))
  obtain ⟨v, rfl⟩ : ∃ v, d = .int v := by
    have hd : d ∈ [Dt.int _, Dt.int _, Dt.int _, Dt.int _, Dt.int _] := hd
    simp only [List.mem_cons, List.not_mem_nil, or_false] at hd
    rcases hd with rfl | rfl | rfl | rfl | rfl <;> exact ⟨_, rfl⟩
  clear hd
  have sh := gD_ok (k := true) (k' := true) n5 (bnM_up hMb)
  have shl := gD_ok (k := false) (k' := false) n5 (bnM_up hMb)
  have dg : ∀ k k' : Bool, ∀ N : Mx, DF 3 (gD k k' n N) := fun k k' N => df_gD (by omega)
  refine as_seq (as_par (aa_cons (ae_call (aa_cons (ae_var rfl (aa_nil ⟨_, ⟨gD true true n M, rfl, (dg true true M).1, (dg true true M).2, rfl⟩, ?_⟩))))))
  rw [loo_gD]
  refine aa_cons (ae_cb (aa_cons (ae_var rfl (aa_nil (ac_repr sh gD_sq (aa_nil ⟨_, _, rfl, ?_⟩))))))
  show AS K _ [.bx b F, .da (gD true true n M), .da (.int (n : Int)), .da (.int v), .no, .no, .no, .da (.int (a : Int)), .da (.int (c : Int)), .da (gD false false n M), .da (.str (gD true true n M).pd.shown), .no, .no] _ _
  refine as_seq (as_own (aa_cons (ae_call (aa_cons (ae_var rfl (aa_cons (ae_var rfl (aa_cons (ae_non (aa_nil ⟨_, ⟨n, M, a, none, rfl, hMd, (by omega), rfl⟩, aa_cons (ae_call (aa_cons (ae_var rfl (aa_cons (ae_var rfl (aa_cons (ae_var rfl (aa_nil ⟨_, ⟨n, M, a, some v, rfl, hMd, (by omega), rfl⟩, aa_nil ⟨(by show 2 ≤ sizeLine; omega), ?_⟩⟩))))))))⟩))))))))))
  refine as_seq (as_own (aa_cons (ae_call (aa_cons (ae_var rfl (aa_cons (ae_var rfl (aa_nil ⟨_, ⟨true, true, n, M, a, rfl, (by omega), rfl⟩, aa_cons (ae_call (aa_cons (ae_var rfl (aa_cons (ae_var rfl (aa_cons (ae_var rfl (aa_nil ⟨_, ⟨true, true, n, M, a, v, rfl, (by omega), rfl⟩, aa_nil ⟨(by show 2 ≤ sizeLine; omega), ?_⟩⟩))))))))⟩))))))))
  refine as_seq (as_own (aa_cons (ae_callK2 rfl (aa_cons (ae_var rfl (aa_cons (ae_var rfl (aa_nil ⟨_, _, rfl, _, ⟨false, false, n, M, a, rfl, (by omega), rfl⟩, aa_cons (ae_callK3 rfl (aa_cons (ae_var rfl (aa_cons (ae_var rfl (aa_cons (ae_var rfl (aa_nil ⟨_, _, _, rfl, _, ⟨false, false, n, M, a, v, rfl, (by omega), rfl⟩, aa_nil ⟨(by show 2 ≤ sizeLine; omega), ?_⟩⟩))))))))⟩))))))))
  show AS K _ [.bx b F, .da (gD true true n M), .da (.int (n : Int)), .da (.int v), .own [gD true true n (woM M a), gD true true n (mvM M a v)], .own [gD true true n (woM M a), gD true true n (mvM M a v)], .own [gD true true n (woM M a), gD true true n (mvM M a v)], .da (.int (a : Int)), .da (.int (c : Int)), .da (gD false false n M), .da (.str (gD true true n M).pd.shown), .no, .no] _ _
  refine as_seq (as_if (at_test (ae_op (ae_var rfl (ae_var rfl (ar_neN ⟨_, rfl, fun h => ?_, fun h => as_next ?_⟩))))))
  · have hac : ¬ a = c := fun z => by rw [z] at h; simp at h
    refine as_seq (as_set (ae_op (ae_var rfl (ae_var rfl (ar_ixT (d := .tup (rwD n M a)) (atI_nat (gd_at ha)) ?_)))))
    cases hm : M a c with
    | none =>
      refine as_seq (as_set (ae_if (at_test (ae_op (ae_op (ae_var rfl (ae_var rfl (ar_ixT (d := .non) (atI_nat (by rw [rwD_at hc, hm]; rfl)) (ae_non (ar_isN ⟨true, rfl, fun _ => ae_var rfl ?_, fun h => absurd (show true = false from h) (by decide)⟩))))))))))
      have ht : oD (tmH (M a c) (some v)) = .int v := by
        rw [hm]
        rfl
      show AS K _ [.bx b F, .da (gD true true n M), .da (.int (n : Int)), .da (.int v), .own [gD true true n (woM M a), gD true true n (mvM M a v)], .own [gD true true n (woM M a), gD true true n (mvM M a v)], .own [gD true true n (woM M a), gD true true n (mvM M a v)], .da (.int (a : Int)), .da (.int (c : Int)), .da (gD false false n M), .da (.str (gD true true n M).pd.shown), .da (.tup (rwD n M a)), .da (.int v)] _ _
      have lr : ∀ x y, (cutD (rwD n M a) x y).length ≤ 100 := fun x y => by unfold cutD; rw [List.length_take, List.length_drop, rw_rg, List.length_map, List.length_range]; omega
      have lg : ∀ x y, (cutD ((List.range n).map fun i => sq true (rwD n M i)) x y).length ≤ 100 := fun x y => by unfold cutD; rw [List.length_take, List.length_drop, List.length_map, List.length_range]; omega
      refine as_seq (as_set (ae_op (ae_op (ae_slT (ae_var rfl ⟨_, rfl, ao_none (ao_some (ae_var rfl ⟨_, rfl, ae_tup (aa_cons (ae_var rfl (aa_nil ⟨(by show 1 ≤ sizeLine; omega), ar_catA (by have := lr none (some (c : Int)); show _ + 1 ≤ _; omega) ?_⟩)))⟩))⟩)))))
      refine ae_slT (ae_var rfl ⟨_, rfl, ao_some (ae_op (ae_var rfl (ae_int (ar_I0i ⟨_, rfl, ao_none ?_⟩))))⟩)
      refine ar_catA (by have := lr none (some (c : Int)); have := lr (some ((c : Int) + 1)) none; rw [List.length_append]; show _ + 1 + _ ≤ _; omega) ?_
      rw [show ((c : Nat) : Int) + 1 = ((c + 1 : Nat) : Int) by omega, show rwD n M a = (List.range n).map fun j => oD (M a j) from rfl, put_at hc]
      show AS K _ [.bx b F, .da (gD true true n M), .da (.int (n : Int)), .da (.int v), .own [gD true true n (woM M a), gD true true n (mvM M a v)], .own [gD true true n (woM M a), gD true true n (mvM M a v)], .own [gD true true n (woM M a), gD true true n (mvM M a v)], .da (.int (a : Int)), .da (.int (c : Int)), .da (gD false false n M), .da (.str (gD true true n M).pd.shown), .da (.tup ((List.range n).map fun j => if j = c then .int v else oD (M a j))), .da (.int v)] _ _
      refine as_seq (as_append ?_ ⟨_, rfl⟩)
      refine ae_op (ae_op (ae_slT (ae_var rfl ⟨_, rfl, ao_none (ao_some (ae_var rfl ⟨_, rfl, ae_tup (aa_cons (ae_var rfl (aa_nil ⟨(by show 1 ≤ sizeLine; omega), ar_catA (by have := lg none (some (a : Int)); show _ + 1 ≤ _; omega) ?_⟩)))⟩))⟩)))
      refine ae_slT (ae_var rfl ⟨_, rfl, ao_some (ae_op (ae_var rfl (ae_int (ar_I0i ⟨_, rfl, ao_none ?_⟩))))⟩)
      refine ar_catA (by have := lg none (some (a : Int)); have := lg (some ((a : Int) + 1)) none; rw [List.length_append]; show _ + 1 + _ ≤ _; omega) ?_
      rw [show ((a : Nat) : Int) + 1 = ((a + 1 : Nat) : Int) by omega, put_at ha, bd_data ht]
      refine ⟨_, rfl, (by show 2 < sizeLine; omega), ?_⟩
      show AS K _ [.bx b F, .da (gD true true n M), .da (.int (n : Int)), .da (.int v), .own [gD true true n (woM M a), gD true true n (mvM M a v), gD true true n (bdM M a c v)], .own [gD true true n (woM M a), gD true true n (mvM M a v)], .own [gD true true n (woM M a), gD true true n (mvM M a v)], .da (.int (a : Int)), .da (.int (c : Int)), .da (gD false false n M), .da (.str (gD true true n M).pd.shown), .da (.tup ((List.range n).map fun j => if j = c then .int v else oD (M a j))), .da (.int v)] _ _
      refine as_seq (as_append ?_ ⟨_, rfl⟩)
      refine ae_call (aa_cons (ae_var rfl (aa_cons (ae_var rfl (aa_cons (ae_var rfl (aa_cons (ae_var rfl (aa_nil ⟨_, ⟨true, true, n, M, a, c, v, rfl, (by omega), rfl⟩, _, rfl, (by show 2 < sizeLine; omega), ?_⟩)))))))))
      refine as_append ?_ ⟨_, rfl⟩
      refine ae_callK4 rfl (aa_cons (ae_var rfl (aa_cons (ae_var rfl (aa_cons (ae_var rfl (aa_cons (ae_var rfl (aa_nil ⟨_, _, _, _, rfl, _, ⟨false, false, n, M, a, c, v, rfl, (by omega), rfl⟩, _, rfl, (by show 2 < sizeLine; omega), ?_⟩)))))))))
      show AS K _ [.bx b F, .da (gD true true n M), .da (.int (n : Int)), .da (.int v), .own [gD true true n (woM M a), gD true true n (mvM M a v), gD true true n (bdM M a c v)], .own [gD true true n (woM M a), gD true true n (mvM M a v), gD true true n (bdM M a c v)], .own [gD true true n (woM M a), gD true true n (mvM M a v), gD true true n (bdM M a c v)], .da (.int (a : Int)), .da (.int (c : Int)), .da (gD false false n M), .da (.str (gD true true n M).pd.shown), .da (.tup ((List.range n).map fun j => if j = c then .int v else oD (M a j))), .da (.int v)] _ _
      have dl : ∀ d, d ∈ [gD true true n (woM M a), gD true true n (mvM M a v), gD true true n (bdM M a c v)] → DF 3 d := fun d hd => by
        simp only [List.mem_cons, List.not_mem_nil, or_false] at hd
        rcases hd with rfl | rfl | rfl
        all_goals exact dg true true _
      have d5 : DF 5 (.lst [.lst [gD true true n (woM M a), gD true true n (mvM M a v), gD true true n (bdM M a c v)], .lst [gD true true n (woM M a), gD true true n (mvM M a v), gD true true n (bdM M a c v)]]) := df_lst (by show 2 ≤ 9000; decide) fun d hd => by
        simp only [List.mem_cons, List.not_mem_nil, or_false] at hd
        rcases hd with rfl | rfl <;> exact df_lst (by show 3 ≤ 9000; decide) dl
      refine as_frz (i := 4) rfl (as_frz (i := 5) rfl (as_frz (i := 6) rfl ?_))
      refine as_ret (ae_andV (ae_call (aa_cons (ae_lst (aa_cons (ae_var rfl (aa_cons (ae_var rfl (aa_nil ⟨(by show 2 ≤ sizeLine; omega), aa_cons (ae_lst (aa_cons (ae_var rfl (aa_cons (ae_var rfl (aa_nil ⟨(by show 2 ≤ sizeLine; omega), aa_nil ⟨_, ⟨_, rfl, d5.1, d5.2, rfl⟩, true, rfl, fun _ => ?_, fun h => absurd (show true = false from h) (by decide)⟩⟩))))))⟩)))))))))
      refine ae_andV (ae_op (ae_cb (aa_cons (ae_var rfl (aa_nil (ac_repr sh gD_sq (ae_var rfl (ar_eqText ⟨true, rfl, fun _ => ?_, fun h => absurd (show true = false from h) (by decide)⟩))))))))
      refine ae_op (ae_var rfl (ae_call (aa_cons (ae_var rfl (aa_nil ⟨_, ⟨gD true true n M, rfl, (dg true true M).1, (dg true true M).2, rfl⟩, ?_⟩)))))
      rw [loo_gD]
      exact ar_eqS ⟨(lay_okR _ shl.ok).2.2.1, shl.shaped⟩ ⟨rfl, _, rfl, Nat.le_refl _⟩
    | some x =>
      refine as_seq (as_set (ae_if (at_test (ae_op (ae_op (ae_var rfl (ae_var rfl (ar_ixT (d := .int x) (atI_nat (by rw [rwD_at hc, hm]; rfl)) (ae_non (ar_isN ⟨false, rfl, fun h => absurd (show false = true from h) (by decide), fun _ => ?_⟩))))))))))
      refine ae_cb (aa_cons (ae_var rfl (aa_cons (ae_op (ae_var rfl (ae_var rfl (ar_ixT (d := .int x) (atI_nat (by rw [rwD_at hc, hm]; rfl)) (aa_nil (ac_min2 ?_)))))))))
      have ht : oD (tmH (M a c) (some v)) = .int (if x < v then x else v) := by
        rw [hm]
        show Dt.int (if v < x then v else x) = _
        congr 1
        by_cases z : v < x
        · rw [if_pos z, if_neg (by omega)]
        · rw [if_neg z]; by_cases y : x < v
          · rw [if_pos y]
          · rw [if_neg y]; omega
      show AS K _ [.bx b F, .da (gD true true n M), .da (.int (n : Int)), .da (.int v), .own [gD true true n (woM M a), gD true true n (mvM M a v)], .own [gD true true n (woM M a), gD true true n (mvM M a v)], .own [gD true true n (woM M a), gD true true n (mvM M a v)], .da (.int (a : Int)), .da (.int (c : Int)), .da (gD false false n M), .da (.str (gD true true n M).pd.shown), .da (.tup (rwD n M a)), .da (.int (if x < v then x else v))] _ _
      have lr : ∀ x y, (cutD (rwD n M a) x y).length ≤ 100 := fun x y => by unfold cutD; rw [List.length_take, List.length_drop, rw_rg, List.length_map, List.length_range]; omega
      have lg : ∀ x y, (cutD ((List.range n).map fun i => sq true (rwD n M i)) x y).length ≤ 100 := fun x y => by unfold cutD; rw [List.length_take, List.length_drop, List.length_map, List.length_range]; omega
      refine as_seq (as_set (ae_op (ae_op (ae_slT (ae_var rfl ⟨_, rfl, ao_none (ao_some (ae_var rfl ⟨_, rfl, ae_tup (aa_cons (ae_var rfl (aa_nil ⟨(by show 1 ≤ sizeLine; omega), ar_catA (by have := lr none (some (c : Int)); show _ + 1 ≤ _; omega) ?_⟩)))⟩))⟩)))))
      refine ae_slT (ae_var rfl ⟨_, rfl, ao_some (ae_op (ae_var rfl (ae_int (ar_I0i ⟨_, rfl, ao_none ?_⟩))))⟩)
      refine ar_catA (by have := lr none (some (c : Int)); have := lr (some ((c : Int) + 1)) none; rw [List.length_append]; show _ + 1 + _ ≤ _; omega) ?_
      rw [show ((c : Nat) : Int) + 1 = ((c + 1 : Nat) : Int) by omega, show rwD n M a = (List.range n).map fun j => oD (M a j) from rfl, put_at hc]
      show AS K _ [.bx b F, .da (gD true true n M), .da (.int (n : Int)), .da (.int v), .own [gD true true n (woM M a), gD true true n (mvM M a v)], .own [gD true true n (woM M a), gD true true n (mvM M a v)], .own [gD true true n (woM M a), gD true true n (mvM M a v)], .da (.int (a : Int)), .da (.int (c : Int)), .da (gD false false n M), .da (.str (gD true true n M).pd.shown), .da (.tup ((List.range n).map fun j => if j = c then .int (if x < v then x else v) else oD (M a j))), .da (.int (if x < v then x else v))] _ _
      refine as_seq (as_append ?_ ⟨_, rfl⟩)
      refine ae_op (ae_op (ae_slT (ae_var rfl ⟨_, rfl, ao_none (ao_some (ae_var rfl ⟨_, rfl, ae_tup (aa_cons (ae_var rfl (aa_nil ⟨(by show 1 ≤ sizeLine; omega), ar_catA (by have := lg none (some (a : Int)); show _ + 1 ≤ _; omega) ?_⟩)))⟩))⟩)))
      refine ae_slT (ae_var rfl ⟨_, rfl, ao_some (ae_op (ae_var rfl (ae_int (ar_I0i ⟨_, rfl, ao_none ?_⟩))))⟩)
      refine ar_catA (by have := lg none (some (a : Int)); have := lg (some ((a : Int) + 1)) none; rw [List.length_append]; show _ + 1 + _ ≤ _; omega) ?_
      rw [show ((a : Nat) : Int) + 1 = ((a + 1 : Nat) : Int) by omega, put_at ha, bd_data ht]
      refine ⟨_, rfl, (by show 2 < sizeLine; omega), ?_⟩
      show AS K _ [.bx b F, .da (gD true true n M), .da (.int (n : Int)), .da (.int v), .own [gD true true n (woM M a), gD true true n (mvM M a v), gD true true n (bdM M a c v)], .own [gD true true n (woM M a), gD true true n (mvM M a v)], .own [gD true true n (woM M a), gD true true n (mvM M a v)], .da (.int (a : Int)), .da (.int (c : Int)), .da (gD false false n M), .da (.str (gD true true n M).pd.shown), .da (.tup ((List.range n).map fun j => if j = c then .int (if x < v then x else v) else oD (M a j))), .da (.int (if x < v then x else v))] _ _
      refine as_seq (as_append ?_ ⟨_, rfl⟩)
      refine ae_call (aa_cons (ae_var rfl (aa_cons (ae_var rfl (aa_cons (ae_var rfl (aa_cons (ae_var rfl (aa_nil ⟨_, ⟨true, true, n, M, a, c, v, rfl, (by omega), rfl⟩, _, rfl, (by show 2 < sizeLine; omega), ?_⟩)))))))))
      refine as_append ?_ ⟨_, rfl⟩
      refine ae_callK4 rfl (aa_cons (ae_var rfl (aa_cons (ae_var rfl (aa_cons (ae_var rfl (aa_cons (ae_var rfl (aa_nil ⟨_, _, _, _, rfl, _, ⟨false, false, n, M, a, c, v, rfl, (by omega), rfl⟩, _, rfl, (by show 2 < sizeLine; omega), ?_⟩)))))))))
      show AS K _ [.bx b F, .da (gD true true n M), .da (.int (n : Int)), .da (.int v), .own [gD true true n (woM M a), gD true true n (mvM M a v), gD true true n (bdM M a c v)], .own [gD true true n (woM M a), gD true true n (mvM M a v), gD true true n (bdM M a c v)], .own [gD true true n (woM M a), gD true true n (mvM M a v), gD true true n (bdM M a c v)], .da (.int (a : Int)), .da (.int (c : Int)), .da (gD false false n M), .da (.str (gD true true n M).pd.shown), .da (.tup ((List.range n).map fun j => if j = c then .int (if x < v then x else v) else oD (M a j))), .da (.int (if x < v then x else v))] _ _
      have dl : ∀ d, d ∈ [gD true true n (woM M a), gD true true n (mvM M a v), gD true true n (bdM M a c v)] → DF 3 d := fun d hd => by
        simp only [List.mem_cons, List.not_mem_nil, or_false] at hd
        rcases hd with rfl | rfl | rfl
        all_goals exact dg true true _
      have d5 : DF 5 (.lst [.lst [gD true true n (woM M a), gD true true n (mvM M a v), gD true true n (bdM M a c v)], .lst [gD true true n (woM M a), gD true true n (mvM M a v), gD true true n (bdM M a c v)]]) := df_lst (by show 2 ≤ 9000; decide) fun d hd => by
        simp only [List.mem_cons, List.not_mem_nil, or_false] at hd
        rcases hd with rfl | rfl <;> exact df_lst (by show 3 ≤ 9000; decide) dl
      refine as_frz (i := 4) rfl (as_frz (i := 5) rfl (as_frz (i := 6) rfl ?_))
      refine as_ret (ae_andV (ae_call (aa_cons (ae_lst (aa_cons (ae_var rfl (aa_cons (ae_var rfl (aa_nil ⟨(by show 2 ≤ sizeLine; omega), aa_cons (ae_lst (aa_cons (ae_var rfl (aa_cons (ae_var rfl (aa_nil ⟨(by show 2 ≤ sizeLine; omega), aa_nil ⟨_, ⟨_, rfl, d5.1, d5.2, rfl⟩, true, rfl, fun _ => ?_, fun h => absurd (show true = false from h) (by decide)⟩⟩))))))⟩)))))))))
      refine ae_andV (ae_op (ae_cb (aa_cons (ae_var rfl (aa_nil (ac_repr sh gD_sq (ae_var rfl (ar_eqText ⟨true, rfl, fun _ => ?_, fun h => absurd (show true = false from h) (by decide)⟩))))))))
      refine ae_op (ae_var rfl (ae_call (aa_cons (ae_var rfl (aa_nil ⟨_, ⟨gD true true n M, rfl, (dg true true M).1, (dg true true M).2, rfl⟩, ?_⟩)))))
      rw [loo_gD]
      exact ar_eqS ⟨(lay_okR _ shl.ok).2.2.1, shl.shaped⟩ ⟨rfl, _, rfl, Nat.le_refl _⟩
  · skip
    have dl : ∀ d, d ∈ [gD true true n (woM M a), gD true true n (mvM M a v)] → DF 3 d := fun d hd => by
      simp only [List.mem_cons, List.not_mem_nil, or_false] at hd
      rcases hd with rfl | rfl
      all_goals exact dg true true _
    have d5 : DF 5 (.lst [.lst [gD true true n (woM M a), gD true true n (mvM M a v)], .lst [gD true true n (woM M a), gD true true n (mvM M a v)]]) := df_lst (by show 2 ≤ 9000; decide) fun d hd => by
      simp only [List.mem_cons, List.not_mem_nil, or_false] at hd
      rcases hd with rfl | rfl <;> exact df_lst (by show 2 ≤ 9000; decide) dl
    refine as_frz (i := 4) rfl (as_frz (i := 5) rfl (as_frz (i := 6) rfl ?_))
    refine as_ret (ae_andV (ae_call (aa_cons (ae_lst (aa_cons (ae_var rfl (aa_cons (ae_var rfl (aa_nil ⟨(by show 2 ≤ sizeLine; omega), aa_cons (ae_lst (aa_cons (ae_var rfl (aa_cons (ae_var rfl (aa_nil ⟨(by show 2 ≤ sizeLine; omega), aa_nil ⟨_, ⟨_, rfl, d5.1, d5.2, rfl⟩, true, rfl, fun _ => ?_, fun h => absurd (show true = false from h) (by decide)⟩⟩))))))⟩)))))))))
    refine ae_andV (ae_op (ae_cb (aa_cons (ae_var rfl (aa_nil (ac_repr sh gD_sq (ae_var rfl (ar_eqText ⟨true, rfl, fun _ => ?_, fun h => absurd (show true = false from h) (by decide)⟩))))))))
    refine ae_op (ae_var rfl (ae_call (aa_cons (ae_var rfl (aa_nil ⟨_, ⟨gD true true n M, rfl, (dg true true M).1, (dg true true M).2, rfl⟩, ?_⟩)))))
    rw [loo_gD]
    exact ar_eqS ⟨(lay_okR _ shl.ok).2.2.1, shl.shaped⟩ ⟨rfl, _, rfl, Nat.le_refl _⟩
end
end Sh
set_option Elab.async false
set_option linter.all false
set_option maxRecDepth 100000
set_option maxHeartbeats 4000000
namespace Sh
open PySem PySem.Spec PyProof.Rows L2
abbrev s_l_right : Stmt := topS 28
abbrev N_l_right : List Str := ["_law_box_here", "_law_turn", "_law_size", "_law_rows_here", "_law_others", "_law_bare", "_law_fits", "_law_due", "_law_told", "_law_named", "_law_was", "_law_loose_here", "_law_soft", "_law_row", "_law_line", "_law_at", "_law_mine", "_law_its"]
abbrev p_l_right : List Str := ["_law_box_here"]
theorem sc_l_right : FnScope N_l_right p_l_right (defScope s_l_right) := ⟨rfl, rfl, rfl, by decide +kernel, rfl, by decide +kernel, by decide +kernel⟩
structure CalG (P : Program) (w : World) (K : PySem.W.Frag) (mg : Str → Option Value) (base : Heap) (n : Nat) (x : Str) (ps : List Str) (sp : Sp) (g : Addr) (d : FuncData) : Prop where
  ok : FnG P w K mg base n g d ps sp
  bi : Binds K d ps []
  kp : PySem.W.keepIn K (.ref g) = true
  mg : mg x = some (.ref g)
def nnM : Mx := fun _ _ => none
def noR (i : Nat) : Dt → Dt
  | .tup [.int a, .tup l] => .tup (cutD l none (some a) ++ [.int 0] ++ cutD l (some (a + 1)) none)
  | _ => .non
theorem noR_is {n i : Nat} (h : i < n) : noR 0 (.tup [.int (i : Int), .tup (rwD n nnM i)]) = .tup (rwD n noM i) := by
  show Dt.tup (cutD (rwD n nnM i) none (some (i : Int)) ++ [.int 0] ++ cutD (rwD n nnM i) (some ((i : Int) + 1)) none) = _
  rw [show (i : Int) + 1 = ((i + 1 : Nat) : Int) by omega, rw_rg, put_at h, rw_rg]
  congr 1
  refine List.map_congr_left fun j _ => ?_
  unfold noM
  by_cases c : j = i
  · rw [if_pos c, if_pos c]; rfl
  · rw [if_neg c, if_neg c]; rfl
def hwd : Dt → Dt
  | .tup [p, q] => .bl (hwI (unO p) (unO q))
  | _ => .non
theorem hwd_map {n i : Nat} {M N : Mx} : ((List.range n).map fun j => Dt.tup [oD (M i j), oD (N i j)]).map hwd = ((List.range n).map fun j => hwI (M i j) (N i j)).map Dt.bl := by
  rw [List.map_map, List.map_map]
  refine List.map_congr_left fun j _ => ?_
  show Dt.bl (hwI (unO (oD (M i j))) (unO (oD (N i j)))) = _
  rw [unO_is, unO_is]; rfl
def rfB (n : Nat) (M N : Mx) (i : Nat) : Bool := (List.range n).all fun j => hwI (M i j) (N i j)
theorem rep_nn {n : Nat} : Dt.tup (List.replicate n (.tup (List.replicate n .non))) = gD true true n nnM := by
  show _ = Dt.tup _
  have row : ∀ i, Dt.tup (List.replicate n .non) = sq true (rwD n nnM i) := fun i => by
    rw [rw_rg]
    show Dt.tup _ = Dt.tup ((List.range n).map fun _ => Dt.non)
    rw [List.map_const', List.length_range]
  congr 1
  refine Eq.trans ?_ (List.map_congr_left fun i _ => row i)
  rw [List.map_const', List.length_range]
theorem jn_nn {n : Nat} {M : Mx} : gD true true n (fun i j => ech 0 (M i j) (nnM i j)) = gD true true n nnM := by
  unfold gD
  congr 1
  refine List.map_congr_left fun i _ => ?_
  rw [rw_rg, rw_rg]
  congr 1
  refine List.map_congr_left fun j _ => ?_
  show oD (jnH (M i j) none) = oD none
  cases M i j <;> rfl
def domR (ds : List Dt) : Prop := ds = []
def postR (ds : List Dt) (d : Dt) : Prop := d = .bl true
section
variable {P : Program} {w : World} {K : PySem.W.Frag} {mg : Str → Option Value} {base : Heap}
theorem ok_l_right (bl : Blts mg) {g4_l_take : Addr} {d4_l_take : FuncData} (c4_l_take : Cal P w K mg base 3 "_law_take" p_l_take (spB K 2 domT2 postT) g4_l_take d4_l_take) {g_l_of : Addr} {d_l_of : FuncData} (c_l_of : Cal P w K mg base 3 "_law_of" p_l_of (spB K 1 domO postO) g_l_of d_l_of) {g_l_rows : Addr} {d_l_rows : FuncData} (c_l_rows : Cal P w K mg base 5 "_law_rows" p_l_rows (spB K 175 domN postRw) g_l_rows d_l_rows) {g_l_near : Addr} {d_l_near : FuncData} (c_l_near : Cal P w K mg base 5 "_law_near" p_l_near (spB K 275 domM postM) g_l_near d_l_near) {g_l_loose : Addr} {d_l_loose : FuncData} (c_l_loose : Cal P w K mg base 3 "_law_loose" p_l_loose (spP K (S_loo 3)) g_l_loose d_l_loose) {g_l_each : Addr} {d_l_each : FuncData} (c_l_each : Cal P w K mg base 3 "_law_each" p_l_each (spP K S_ea) g_l_each d_l_each) {g_l_below : Addr} {d_l_below : FuncData} (c_l_below : Cal P w K mg base 1 "_law_below" p_l_below (spP K S_hw) g_l_below d_l_below) {g_no_gaps : Addr} {d_no_gaps : FuncData} (c_no_gaps : Cal P w K mg base 1 "no_gaps" p_no_gaps (spP K S_no) g_no_gaps d_no_gaps) {g_gaps_within : Addr} {d_gaps_within : FuncData} (c_gaps_within : Cal P w K mg base 2 "gaps_within" p_gaps_within (spP K S_gw) g_gaps_within d_gaps_within) {g_gaps_join : Addr} {d_gaps_join : FuncData} (c_gaps_join : Cal P w K mg base 2 "gaps_join" p_gaps_join (spP K (S_gm jnH)) g_gaps_join d_gaps_join) {g_gaps_meet : Addr} {d_gaps_meet : FuncData} (c_gaps_meet : Cal P w K mg base 2 "gaps_meet" p_gaps_meet (spP K (S_gm tmH)) g_gaps_meet d_gaps_meet) {g_gaps_widen : Addr} {d_gaps_widen : FuncData} (c_gaps_widen : Cal P w K mg base 2 "gaps_widen" p_gaps_widen (spP K (S_gm wdH)) g_gaps_widen d_gaps_widen) {g_l_single_right : Addr} {d_l_single_right : FuncData} (c_l_single_right : CalG P w K mg base 6 "_law_single_right" p_l_single_right (spB K 7 domV postB) g_l_single_right d_l_single_right) {g_l_same : Addr} {d_l_same : FuncData} (c_l_same : Cal P w K mg base 5 "_law_same" p_l_same (spP K (S_same 5)) g_l_same d_l_same) (k_gaps_within : KB0 K d_gaps_within p_gaps_within ["other", "one"] List.reverse List.reverse) (k_gaps_join : KB0 K d_gaps_join p_gaps_join ["other", "one"] List.reverse List.reverse) (k_gaps_meet : KB0 K d_gaps_meet p_gaps_meet ["other", "one"] List.reverse List.reverse) (k_gaps_widen : KB0 K d_gaps_widen p_gaps_widen ["other", "one"] List.reverse List.reverse)  {f : Addr} {fd : FuncData} (F : Fun K "_law_right" "_law_right" s_l_right f fd) : FnG P w K mg base 7 f fd p_l_right (spB K 3255 (domR) (postR)) := by
  refine okBG F sc_l_right (fun ds h => ?_) (fun cdv A outer s H E hr gu ds h => ?_)
  · obtain ⟨rfl⟩ := h
    rfl
  obtain ⟨rfl⟩ := h
  have hu : (A.deeper (envOfC "_law_right" (defScope s_l_right) s.heap.objs.size f cdv)).units + 200 < cLine := by have := hr.un; omega
  refine ⟨_, (pss_cons (ps_for PassesOwn.never rfl (pi_range1 rfl bl.range (pa_cons pe_int pa_nil)) (pg_name (i := 1) sc_l_right.nd rfl (by first | exact Or.inl rfl | exact Or.inr rfl)) (pss_cons (ps_set (i := 2) sc_l_right.nd rfl (by first | exact Or.inl rfl | exact Or.inr rfl) (pe_call c4_l_take.ok (hr.mono (by decide)) rfl c4_l_take.mg c4_l_take.kp c4_l_take.bi .nil pass0 (pa_cons (pv 0) (pa_cons pe_int pa_nil))))
    (pss_cons (ps_set (i := 3) sc_l_right.nd rfl (by first | exact Or.inl rfl | exact Or.inr rfl) (pe_call c_l_rows.ok (hr.mono (by decide)) rfl c_l_rows.mg c_l_rows.kp c_l_rows.bi .nil pass0 (pa_cons (pv 0) (pa_cons (pv 2) pa_nil))))
    (pss_cons (ps_set (i := 4) sc_l_right.nd rfl (by first | exact Or.inl rfl | exact Or.inr rfl) (pe_call c_l_of.ok (hr.mono (by decide)) rfl c_l_of.mg c_l_of.kp c_l_of.bi .nil pass0 (pa_cons (pv 0) (pa_cons (pe_lst (pa_cons (pv 3) (pa_cons (pe_call c_l_near.ok (hr.mono (by decide)) rfl c_l_near.mg c_l_near.kp c_l_near.bi .nil pass0 (pa_cons (pv 0) (pa_cons (pv 3) pa_nil))) (pa_cons (pe_call c_l_near.ok (hr.mono (by decide)) rfl c_l_near.mg c_l_near.kp c_l_near.bi .nil pass0 (pa_cons (pv 0) (pa_cons (pv 3) pa_nil))) (pa_cons (pe_call c_l_rows.ok (hr.mono (by decide)) rfl c_l_rows.mg c_l_rows.kp c_l_rows.bi .nil pass0 (pa_cons (pv 0) (pa_cons (pv 2) pa_nil))) pa_nil))))) pa_nil))))
    (pss_cons (ps_par3 (i := 10) (j := 11) (l := 12) (by rfl) sc_l_right.nd rfl rfl rfl (by decide) (by decide) (by decide) rfl rfl rfl (pa_cons (pe_callB (call_repr gu hu) rfl bl.repr (by decide +kernel) (pa_cons (pe_lst (pa_cons (pv 3) (pa_cons (pv 4) pa_nil))) pa_nil)) (pa_cons (pe_call c_l_loose.ok (hr.mono (by decide)) rfl c_l_loose.mg c_l_loose.kp c_l_loose.bi .nil pass0 (pa_cons (pv 3) pa_nil)) (pa_cons (pe_call c_l_loose.ok (hr.mono (by decide)) rfl c_l_loose.mg c_l_loose.kp c_l_loose.bi .nil pass0 (pa_cons (pv 4) pa_nil)) pa_nil))) (by rfl))
    (pss_cons (ps_set (i := 5) sc_l_right.nd rfl (by first | exact Or.inl rfl | exact Or.inr rfl) (pe_ifExp (pt_cmpR op_eq (pv 2) pe_int (nomark _)) (pe_call c_l_rows.ok (hr.mono (by decide)) rfl c_l_rows.mg c_l_rows.kp c_l_rows.bi .nil pass0 (pa_cons (pv 0) (pa_cons pe_int pa_nil))) (pe_call c_l_each.ok (hr.mono (by decide)) rfl c_l_each.mg c_l_each.kp c_l_each.bi .nil pass0 (pa_cons (pv 3) (pa_cons (pe_op op_repT1 (pe_tup (pa_cons (pe_op op_repT1 (pe_tup (pa_cons pe_non pa_nil)) (pv 2)) pa_nil)) (pv 2)) (pa_cons pe_int pa_nil))))))
    (pss_cons (ps_set (i := 5) sc_l_right.nd rfl (by first | exact Or.inl rfl | exact Or.inr rfl) (pe_callTy call_tuple_of rfl bl.tuple (by decide +kernel) (pa_cons (pe_lc (own := [("_law_at", 15), ("_law_row", 13)]) (g := (gTup K 2 (gCons (gName 15) (gCons (gName 13) gNil)))) (te := (tOp (rCatA K) (tOp (rCatA K) (tSl (rSlA K) (tVar 13) tNoPart (tPart (tVar 15))) (tTup (tCons (tC (.int 0)) tNil))) (tSl (rSlA K) (tVar 13) (tPart (tOp (rI0 fun i j => .int (i + j)) (tVar 15) (tC (.int 1)))) tNoPart))) (tt := tYes) rfl sc_l_right.nd (pi_enT rfl bl.enumerate (pa_cons (pv 5) pa_nil)) (blkOk_by (N := N_l_right) (sc := defScope s_l_right) (by decide +kernel)) (fun _ _ _ _ _ => (pg_tup rfl (pgs_cons (pg_name (i := 15) sc_l_right.nd rfl (by first | exact Or.inl rfl | exact Or.inr rfl)) (pgs_cons (pg_name (i := 13) sc_l_right.nd rfl (by first | exact Or.inl rfl | exact Or.inr rfl)) pgs_nil)))) (fun _ _ _ _ _ => pts_nil) (fun _ _ _ _ _ => (pe_op op_catA (pe_op op_catA (pe_slice sl_tupA (pv 13) po_none (po_some (pv 15))) (pe_tup (pa_cons pe_int pa_nil))) (pe_slice sl_tupA (pv 13) (po_some (pe_op op_add (pv 15) pe_int)) po_none)))) pa_nil)))
    (pss_cons (ps_if (pt_not (pt_val (pe_call c_l_same.ok (hr.mono (by decide)) rfl c_l_same.mg c_l_same.kp c_l_same.bi .nil pass0 (pa_cons (pe_call c_no_gaps.ok (hr.mono (by decide)) rfl c_no_gaps.mg c_no_gaps.kp c_no_gaps.bi .nil pass0 (pa_cons (pv 2) pa_nil)) (pa_cons (pv 5) pa_nil))))) (pss_one (ps_ret pe_bl)) pss_nil)
    (pss_cons (ps_set (i := 6) sc_l_right.nd rfl (by first | exact Or.inl rfl | exact Or.inr rfl) pe_bl)
    (pss_cons (ps_for PassesOwn.never rfl (pi_zipK rfl bl.zip (pa_cons (pv 3) (pa_cons (pv 4) pa_nil))) (pg_tup rfl (pgs_cons (pg_name (i := 13) sc_l_right.nd rfl (by first | exact Or.inl rfl | exact Or.inr rfl)) (pgs_cons (pg_name (i := 14) sc_l_right.nd rfl (by first | exact Or.inl rfl | exact Or.inr rfl)) pgs_nil))) (pss_one (ps_set (i := 6) sc_l_right.nd rfl (by first | exact Or.inl rfl | exact Or.inr rfl) (pe_and (pv 6) (pe_one (pe_callB (cr_all rfl) rfl bl.all (by decide +kernel) (pa_cons (pe_lc (own := [("_law_mine", 16), ("_law_its", 17)]) (g := (gTup K 2 (gCons (gName 16) (gCons (gName 17) gNil)))) (te := (tCall (spP K S_hw) [] E0 (tCons (tVar 16) (tCons (tVar 17) tNil)))) (tt := tYes) rfl sc_l_right.nd (pi_zipK rfl bl.zip (pa_cons (pv 13) (pa_cons (pv 14) pa_nil))) (blkOk_by (N := N_l_right) (sc := defScope s_l_right) (by decide +kernel)) (fun _ _ _ _ _ => (pg_tup rfl (pgs_cons (pg_name (i := 16) sc_l_right.nd rfl (by first | exact Or.inl rfl | exact Or.inr rfl)) (pgs_cons (pg_name (i := 17) sc_l_right.nd rfl (by first | exact Or.inl rfl | exact Or.inr rfl)) pgs_nil)))) (fun _ _ _ _ _ => pts_nil) (fun _ _ _ _ _ => (pe_call c_l_below.ok (hr.mono (by decide)) rfl c_l_below.mg c_l_below.kp c_l_below.bi .nil pass0 (pa_cons (pv 16) (pa_cons (pv 17) pa_nil))))) pa_nil)))))))
    (pss_cons (ps_set (i := 7) sc_l_right.nd rfl (by first | exact Or.inl rfl | exact Or.inr rfl) (pe_lst (pa_cons (pv 6) (pa_cons (pe_call c_l_each.ok (hr.mono (by decide)) rfl c_l_each.mg c_l_each.kp c_l_each.bi .nil pass0 (pa_cons (pv 3) (pa_cons (pv 4) (pa_cons pe_int pa_nil)))) (pa_cons (pe_call c_l_each.ok (hr.mono (by decide)) rfl c_l_each.mg c_l_each.kp c_l_each.bi .nil pass0 (pa_cons (pv 3) (pa_cons (pv 4) (pa_cons pe_int pa_nil)))) (pa_cons (pe_call c_l_each.ok (hr.mono (by decide)) rfl c_l_each.mg c_l_each.kp c_l_each.bi .nil pass0 (pa_cons (pv 3) (pa_cons (pv 4) (pa_cons pe_int pa_nil)))) pa_nil))))))
    (pss_cons (ps_set (i := 8) sc_l_right.nd rfl (by first | exact Or.inl rfl | exact Or.inr rfl) (pe_lst (pa_cons (pe_call c_gaps_within.ok (hr.mono (by decide)) rfl c_gaps_within.mg c_gaps_within.kp c_gaps_within.bi .nil pass0 (pa_cons (pv 3) (pa_cons (pv 4) pa_nil))) (pa_cons (pe_call c_gaps_join.ok (hr.mono (by decide)) rfl c_gaps_join.mg c_gaps_join.kp c_gaps_join.bi .nil pass0 (pa_cons (pv 3) (pa_cons (pv 4) pa_nil))) (pa_cons (pe_call c_gaps_meet.ok (hr.mono (by decide)) rfl c_gaps_meet.mg c_gaps_meet.kp c_gaps_meet.bi .nil pass0 (pa_cons (pv 3) (pa_cons (pv 4) pa_nil))) (pa_cons (pe_call c_gaps_widen.ok (hr.mono (by decide)) rfl c_gaps_widen.mg c_gaps_widen.kp c_gaps_widen.bi .nil pass0 (pa_cons (pv 3) (pa_cons (pv 4) pa_nil))) pa_nil))))))
    (pss_cons (ps_set (i := 9) sc_l_right.nd rfl (by first | exact Or.inl rfl | exact Or.inr rfl) (pe_lst (pa_cons (pe_callK0 c_gaps_within.ok (hr.mono (by decide)) rfl c_gaps_within.mg c_gaps_within.kp k_gaps_within pass0 (pk_cons (pv 12) (pk_cons (pv 11) pk_nil))) (pa_cons (pe_callK0 c_gaps_join.ok (hr.mono (by decide)) rfl c_gaps_join.mg c_gaps_join.kp k_gaps_join pass0 (pk_cons (pv 12) (pk_cons (pv 11) pk_nil))) pa_nil))))
    (pss_cons (ps_set (i := 9) sc_l_right.nd rfl (by first | exact Or.inl rfl | exact Or.inr rfl) (pe_op op_cat (pv 9) (pe_lst (pa_cons (pe_callK0 c_gaps_meet.ok (hr.mono (by decide)) rfl c_gaps_meet.mg c_gaps_meet.kp k_gaps_meet pass0 (pk_cons (pv 12) (pk_cons (pv 11) pk_nil))) (pa_cons (pe_callK0 c_gaps_widen.ok (hr.mono (by decide)) rfl c_gaps_widen.mg c_gaps_widen.kp k_gaps_widen pass0 (pk_cons (pv 12) (pk_cons (pv 11) pk_nil))) pa_nil)))))
    (pss_cons (ps_if (PW.pt (pw_or (pt_not (pt_val (pe_call c_l_same.ok (hr.mono (by decide)) rfl c_l_same.mg c_l_same.kp c_l_same.bi .nil pass0 (pa_cons (pe_lst (pa_cons (pv 8) (pa_cons (pv 9) pa_nil))) (pa_cons (pe_lst (pa_cons (pv 7) (pa_cons (pv 7) pa_nil))) pa_nil))))) (pw_or1 (pt_cmpR op_ne (pe_callB (call_repr gu hu) rfl bl.repr (by decide +kernel) (pa_cons (pe_lst (pa_cons (pv 3) (pa_cons (pv 4) pa_nil))) pa_nil)) (pv 10) (nomark _))))) (pss_one (ps_ret pe_bl)) pss_nil)
    (pss_one (ps_if (PW.pt (pw_and (pt_cmpR op_gt (pv 2) pe_int (nomark _)) (pw_and1 (pt_not (pt_val (pe_callG c_l_single_right.ok (hr.mono (by decide)) gu rfl c_l_single_right.mg c_l_single_right.kp c_l_single_right.bi pass0 (pa_cons (pv 0) (pa_cons (pv 3) (pa_cons (pv 2) pa_nil))))))))) (pss_one (ps_ret pe_bl)) pss_nil)))))))))))))))))
    (pss_one (ps_ret pe_bl))), fun b F => ?_⟩
  change AS K _ [En.bx _ _, En.no, En.no, En.no, En.no, En.no, En.no, En.no, En.no, En.no, En.no, En.no, En.no, En.no, En.no, En.no, En.no, En.no] _ _
  try simp only [cxOf_K, cxOf_w]
  have z9 : 9000 ≤ sizeLine := by decide
  have rg : ∀ k : Nat, (rgD 0 ((k : Nat) : Int).toNat) = (List.range k).map fun i => Dt.int ((i : Nat) : Int) := fun k => by
    unfold rgD
    rw [Int.toNat_natCast]
    exact List.map_congr_left fun i _ => by rw [Int.zero_add]
  have rl : ∀ k : Nat, ((List.range k).map fun i => Dt.int ((i : Nat) : Int)).length = k := fun k => by rw [List.length_map, List.length_range]
  refine as_seq (as_for (ai_rng1 (aa_cons (ae_int (aa_nil ⟨_, rfl, (by decide), (by decide), ?_⟩)))))
  rw [show (3 : Int) = ((3 : Nat) : Int) from rfl, rg]
  refine ⟨fun t ρ => ∃ f e1 e2 e3 e4 e5 e6 e7 e8 e9 e10 e11 e12 e13 e14, ρ = [.bx b f, e1, e2, e3, e4, e5, e6, e7, e8, e9, e10, e11, e12, e13, e14, .no, .no, .no] ∧ F + 1085 * (3 - t) ≤ f, ⟨_, .no, .no, .no, .no, .no, .no, .no, .no, .no, .no, .no, .no, .no, .no, rfl, Nat.le_refl _⟩, ?_, ?_⟩
  · rintro t d ρ2 hd ⟨f, e1, e2, e3, e4, e5, e6, e7, e8, e9, e10, e11, e12, e13, e14, rfl, hf⟩
    obtain ⟨ht, rfl⟩ := rg_at hd
    obtain ⟨f1, rfl⟩ : ∃ f1, f = f1 + 1085 := ⟨f - 1085, by omega⟩
    have hf1 : F + 1085 * (3 - (t + 1)) ≤ f1 := by omega
    clear hf hd
    refine ag_name (as_seq (as_set (ae_take2 rfl (ae_int ⟨_, rfl, (by decide), (by decide), f1 + 1083, rfl, fun v v0 v1 => ?_⟩))))
    obtain ⟨n, rfl⟩ : ∃ n : Nat, v = (n : Int) := ⟨v.toNat, by omega⟩
    have n5 : n ≤ 5 := by omega
    clear v0 v1
    refine as_seq (as_set (ae_draw rfl (aa_cons (ae_var rfl (aa_nil ⟨⟨n, rfl, n5⟩, f1 + 908, rfl, fun d hd => ?_⟩)))))
    obtain ⟨M, rfl, hMd, hMb⟩ := hd n rfl
    clear hd
    refine as_seq (as_set (ae_ofL rfl (ae_lst (aa_cons (ae_var rfl (aa_cons (ae_draw rfl (aa_cons (ae_var rfl (aa_nil ⟨⟨n, M, rfl, hMd, hMb, n5⟩, f1 + 633, rfl, fun d1 hd1 => ?_⟩))))))))))
    refine aa_cons (ae_draw rfl (aa_cons (ae_var rfl (aa_nil ⟨⟨n, M, rfl, hMd, hMb, n5⟩, f1 + 358, rfl, fun d2 hd2 => ?_⟩))))
    refine aa_cons (ae_draw rfl (aa_cons (ae_var rfl (aa_nil ⟨⟨n, rfl, n5⟩, f1 + 183, rfl, fun d3 hd3 => aa_nil ⟨(by show 4 ≤ sizeLine; omega), _, rfl, (by show 1 ≤ 4; decide), (by show 4 ≤ 1000; decide), f1 + 182, rfl, fun d hd => ?_⟩⟩))))
    obtain ⟨N, rfl, hNb⟩ : ∃ N, d = gD true true n N ∧ bnM 2 N := by
      obtain ⟨N1, e1, _, b1⟩ := hd1 n M rfl
      obtain ⟨N2, e2, _, b2⟩ := hd2 n M rfl
      obtain ⟨N3, e3, _, b3⟩ := hd3 n rfl
      have hd : d ∈ [gD true true n M, d1, d2, d3] := hd
      simp only [List.mem_cons, List.not_mem_nil, or_false] at hd
      rcases hd with e | e | e | e
      · exact ⟨M, e, bnM_up hMb⟩
      · exact ⟨N1, e.trans e1, b1⟩
      · exact ⟨N2, e.trans e2, b2⟩
      · exact ⟨N3, e.trans e3, bnM_up b3⟩
    clear hd hd1 hd2 hd3
    have dg : ∀ k k' : Bool, ∀ N : Mx, DF 3 (gD k k' n N) := fun k k' N => df_gD (by omega)
    have sh : ShOk (.lst [gD true true n M, gD true true n N]) := by
      obtain ⟨a1, a2, a3⟩ := gD_sh (k := true) (k' := true) n5 (bnM_up hMb)
      obtain ⟨c1, c2, c3⟩ := gD_sh (k := true) (k' := true) n5 hNb
      refine ⟨?_, ?_, ?_⟩
      · show ((gD true true n M).okR && ((gD true true n N).okR && true)) = true
        rw [a1, c1]; rfl
      · show max (gD true true n M).hgt (max (gD true true n N).hgt 0) + 1 ≤ 64
        omega
      · show (gD true true n M).rl + 2 + ((gD true true n N).rl + 2 + 0) + 3 ≤ 16000000
        omega
    refine as_seq (as_par3 (aa_cons (ae_cb (aa_cons (ae_lst (aa_cons (ae_var rfl (aa_cons (ae_var rfl (aa_nil ⟨(by show 2 ≤ sizeLine; omega), aa_nil (ac_repr sh ⟨false, _, rfl⟩ ?_)⟩))))))))))
    refine aa_cons (ae_call (aa_cons (ae_var rfl (aa_nil ⟨_, ⟨gD true true n M, rfl, (dg true true M).1, (dg true true M).2, rfl⟩, ?_⟩))))
    refine aa_cons (ae_call (aa_cons (ae_var rfl (aa_nil ⟨_, ⟨gD true true n N, rfl, (dg true true N).1, (dg true true N).2, rfl⟩, aa_nil ⟨_, _, _, rfl, ?_⟩⟩))))
    rw [loo_gD, loo_gD]
    show AS K _ [.bx b (f1 + 182), .da (.int ((t : Nat) : Int)), .da (.int (n : Int)), .da (gD true true n M), .da (gD true true n N), e5, e6, e7, e8, e9, .da (.str (Dt.lst [gD true true n M, gD true true n N]).pd.shown), .da (gD false false n M), .da (gD false false n N), e13, e14, .no, .no, .no] _ _
    refine as_seq (as_set (ae_if (at_test (ae_op (ae_var rfl (ae_int (ar_eq3 ⟨rfl, rfl, rfl⟩ ⟨_, rfl, fun h => ?_, fun h => ?_⟩)))))))
    · have h0 : n = 0 := by have := of_decide_eq_true h; injection this with q; omega
      refine ae_draw rfl (aa_cons (ae_int (aa_nil ⟨⟨0, rfl, by omega⟩, f1 + 7, rfl, fun d hd => ?_⟩)))
      obtain ⟨M0, rfl, _, _⟩ := hd 0 rfl
      rw [show gD true true 0 M0 = gD true true n nnM by rw [h0]; rfl]
      obtain ⟨fu, hfu, hfe⟩ : ∃ fu, f1 + 7 ≤ fu ∧ f1 + 7 = fu := ⟨_, Nat.le_refl _, rfl⟩
      show AS K _ [.bx b (f1 + 7), .da (.int ((t : Nat) : Int)), .da (.int (n : Int)), .da (gD true true n M), .da (gD true true n N), .da (gD true true n nnM), e6, e7, e8, e9, .da (.str (Dt.lst [gD true true n M, gD true true n N]).pd.shown), .da (gD false false n M), .da (gD false false n N), e13, e14, .no, .no, .no] _ _
      rw [hfe]
      refine as_seq (as_set (ae_cb (aa_cons (ae_lcMap (noR 0) (ai_enT (aa_cons (ae_var rfl (aa_nil ⟨_, rfl, ?_⟩))))))))
      rw [show enD ((List.range n).map fun i => sq true (rwD n nnM i)) = (List.range n).map fun i => .tup [.int ((i : Nat) : Int), .tup (rwD n nnM i)] from enD_rg]
      refine ⟨(by rw [List.length_map, List.length_range]; omega), fun d hd => ?_, ?_⟩
      · obtain ⟨i, hi, rfl⟩ := List.mem_map.mp hd
        have hi := List.mem_range.mp hi
        have lr : ∀ x y, (cutD (rwD n nnM i) x y).length ≤ 100 := fun x y => by unfold cutD; rw [List.length_take, List.length_drop, rw_rg, List.length_map, List.length_range]; omega
        refine agv_tup rfl (agvs_cons (agv_name (by decide) (agvs_cons (agv_name (by decide) (agvs_nil (ae_op (ae_op (ae_slT (ae_var rfl ⟨_, rfl, ao_none (ao_some (ae_var rfl ⟨_, rfl, ae_tup (aa_cons (ae_int (aa_nil ⟨(by show 1 ≤ sizeLine; omega), ar_catA (by have := lr none (some (i : Int)); show _ + 1 ≤ _; omega) ?_⟩)))⟩))⟩)))))))))
        refine ae_slT (ae_var rfl ⟨_, rfl, ao_some (ae_op (ae_var rfl (ae_int (ar_I0i ⟨_, rfl, ao_none ?_⟩))))⟩)
        exact ar_catA (by have := lr none (some (i : Int)); have := lr (some ((i : Int) + 1)) none; rw [List.length_append]; show _ + 1 + _ ≤ _; omega) ⟨rfl, rfl⟩
      have eb : ((List.range n).map fun i => Dt.tup [.int ((i : Nat) : Int), .tup (rwD n nnM i)]).map (noR 0) = (List.range n).map fun i => sq true (rwD n noM i) := by
        rw [List.map_map]
        exact List.map_congr_left fun i hi => noR_is (List.mem_range.mp hi)
      rw [eb]
      refine aa_nil (ac_tupL ?_)
      show AS K _ [.bx b (fu), .da (.int ((t : Nat) : Int)), .da (.int (n : Int)), .da (gD true true n M), .da (gD true true n N), .da (gD true true n noM), e6, e7, e8, e9, .da (.str (Dt.lst [gD true true n M, gD true true n N]).pd.shown), .da (gD false false n M), .da (gD false false n N), .no, e14, .no, .no, .no] _ _
      refine as_seq (as_if (at_not (at_b (ae_call (aa_cons (ae_call (aa_cons (ae_var rfl (aa_nil ⟨_, ⟨n, rfl, (by omega), rfl⟩, aa_cons (ae_var rfl (aa_nil ⟨_, ⟨_, rfl, Nat.le_trans (dg true true noM).1 (by decide), (dg true true noM).2, rfl⟩, _, rfl, fun h => absurd (show false = true from h) (by decide), fun _ => as_next ?_⟩))⟩)))))))))
      refine as_seq (as_set (ae_bl ?_))
      refine as_seq (as_for (ai_zipK (aa_cons (ae_var rfl (aa_cons (ae_var rfl (aa_nil ⟨true, true, _, _, rfl, ?_⟩)))))))
      rw [zp_rg]
      refine ⟨fun i ρ => ∃ x13 x14, ρ = [.bx b (fu), .da (.int ((t : Nat) : Int)), .da (.int (n : Int)), .da (gD true true n M), .da (gD true true n N), .da (gD true true n noM), .da (.bl ((List.range i).all (rfB n M N))), e7, e8, e9, .da (.str (Dt.lst [gD true true n M, gD true true n N]).pd.shown), .da (gD false false n M), .da (gD false false n N), x13, x14, .no, .no, .no], ⟨.no, e14, rfl⟩, ?_, ?_⟩
      · rintro i d ρ3 hd ⟨x13, x14, rfl⟩
        obtain ⟨hi, rfl⟩ := rg_at hd
        refine ag_tup rfl (ags_cons (ag_name (ags_cons (ag_name (ags_nil ?_)))))
        have ea : (List.range (i + 1)).all (rfB n M N) = ((List.range i).all (rfB n M N) && rfB n M N i) := by rw [List.range_succ, List.all_append]; simp
        cases hb : (List.range i).all (rfB n M N) with
        | false => exact as_set (ae_andV (ae_var rfl ⟨false, rfl, fun h => absurd (show false = true from h) (by decide), fun _ => ⟨_, _, (by rw [ea, hb]; rfl)⟩⟩))
        | true =>
          refine as_set (ae_andV (ae_var rfl ⟨true, rfl, fun _ => ?_, fun h => absurd (show true = false from h) (by decide)⟩))
          refine ae_cb (aa_cons (ae_lcMap hwd (ai_zipK (aa_cons (ae_var rfl (aa_cons (ae_var rfl (aa_nil ⟨true, true, _, _, rfl, ?_⟩))))))))
          rw [zp_row]
          refine ⟨(by rw [List.length_map, List.length_range]; omega), fun d hd => ?_, ?_⟩
          · obtain ⟨j, hj, rfl⟩ := List.mem_map.mp hd
            refine agv_tup rfl (agvs_cons (agv_name (by decide) (agvs_cons (agv_name (by decide) (agvs_nil (ae_call (aa_cons (ae_var rfl (aa_cons (ae_var rfl (aa_nil ⟨_, ⟨_, _, rfl, rfl⟩, ?_⟩)))))))))))
            exact ⟨by show _ = Dt.bl (hwI (unO (oD (M i j))) (unO (oD (N i j)))); rw [unO_is, unO_is], rfl⟩
          · rw [hwd_map]
            refine aa_nil (ac_all ⟨.da (sq true (rwD n M i)), .da (sq true (rwD n N i)), ?_⟩)
            rw [ea, hb, List.all_map]; rfl
      rintro ρ3 ⟨x13, x14, rfl⟩
      rw [List.length_map, List.length_range, show (List.range n).all (rfB n M N) = wiM n M N from rfl]
      refine as_seq (as_set (ae_lst (aa_cons (ae_var rfl (aa_cons (ae_call (aa_cons (ae_var rfl (aa_cons (ae_var rfl (aa_cons (ae_int (aa_nil ⟨gD true true n (fun i j => jnH (M i j) (N i j)), ⟨n, M, N, 0, rfl, (by omega), (by decide), rfl⟩, aa_cons (ae_call (aa_cons (ae_var rfl (aa_cons (ae_var rfl (aa_cons (ae_int (aa_nil ⟨gD true true n (fun i j => tmH (M i j) (N i j)), ⟨n, M, N, 1, rfl, (by omega), (by decide), rfl⟩, aa_cons (ae_call (aa_cons (ae_var rfl (aa_cons (ae_var rfl (aa_cons (ae_int (aa_nil ⟨gD true true n (fun i j => wdH (M i j) (N i j)), ⟨n, M, N, 2, rfl, (by omega), (by decide), rfl⟩, aa_nil ⟨(by show 4 ≤ sizeLine; omega), ?_⟩⟩))))))))⟩))))))))⟩)))))))))))))
      refine as_seq (as_set (ae_lst (aa_cons (ae_call (aa_cons (ae_var rfl (aa_cons (ae_var rfl (aa_nil ⟨.bl (wiM n M N), ⟨true, true, true, true, n, M, N, rfl, (by omega), rfl⟩, aa_cons (ae_call (aa_cons (ae_var rfl (aa_cons (ae_var rfl (aa_nil ⟨gD true true n (fun i j => jnH (M i j) (N i j)), ⟨true, true, true, true, n, M, N, rfl, (by omega), rfl⟩, aa_cons (ae_call (aa_cons (ae_var rfl (aa_cons (ae_var rfl (aa_nil ⟨gD true true n (fun i j => tmH (M i j) (N i j)), ⟨true, true, true, true, n, M, N, rfl, (by omega), rfl⟩, aa_cons (ae_call (aa_cons (ae_var rfl (aa_cons (ae_var rfl (aa_nil ⟨gD true true n (fun i j => wdH (M i j) (N i j)), ⟨true, true, true, true, n, M, N, rfl, (by omega), rfl⟩, aa_nil ⟨(by show 4 ≤ sizeLine; omega), ?_⟩⟩))))))⟩))))))⟩))))))⟩)))))))))
      refine as_seq (as_set (ae_lst (aa_cons (ae_callK2 rfl (aa_cons (ae_var rfl (aa_cons (ae_var rfl (aa_nil ⟨_, _, rfl, .bl (wiM n M N), ⟨false, false, false, false, n, M, N, rfl, (by omega), rfl⟩, aa_cons (ae_callK2 rfl (aa_cons (ae_var rfl (aa_cons (ae_var rfl (aa_nil ⟨_, _, rfl, gD true true n (fun i j => jnH (M i j) (N i j)), ⟨false, false, false, false, n, M, N, rfl, (by omega), rfl⟩, aa_nil ⟨(by show 2 ≤ sizeLine; omega), ?_⟩⟩))))))⟩)))))))))
      refine as_seq (as_set (ae_op (ae_var rfl (ae_lst (aa_cons (ae_callK2 rfl (aa_cons (ae_var rfl (aa_cons (ae_var rfl (aa_nil ⟨_, _, rfl, gD true true n (fun i j => tmH (M i j) (N i j)), ⟨false, false, false, false, n, M, N, rfl, (by omega), rfl⟩, aa_cons (ae_callK2 rfl (aa_cons (ae_var rfl (aa_cons (ae_var rfl (aa_nil ⟨_, _, rfl, gD true true n (fun i j => wdH (M i j) (N i j)), ⟨false, false, false, false, n, M, N, rfl, (by omega), rfl⟩, aa_nil ⟨(by show 2 ≤ sizeLine; omega), ar_catL (by show 2 + 2 ≤ sizeLine; omega) ?_⟩⟩))))))⟩)))))))))))
      show AS K _ [.bx b (fu), .da (.int ((t : Nat) : Int)), .da (.int (n : Int)), .da (gD true true n M), .da (gD true true n N), .da (gD true true n noM), .da (.bl (wiM n M N)), .da (.lst [.bl (wiM n M N), gD true true n (fun i j => jnH (M i j) (N i j)), gD true true n (fun i j => tmH (M i j) (N i j)), gD true true n (fun i j => wdH (M i j) (N i j))]), .da (.lst [.bl (wiM n M N), gD true true n (fun i j => jnH (M i j) (N i j)), gD true true n (fun i j => tmH (M i j) (N i j)), gD true true n (fun i j => wdH (M i j) (N i j))]), .da (.lst [.bl (wiM n M N), gD true true n (fun i j => jnH (M i j) (N i j)), gD true true n (fun i j => tmH (M i j) (N i j)), gD true true n (fun i j => wdH (M i j) (N i j))]), .da (.str (Dt.lst [gD true true n M, gD true true n N]).pd.shown), .da (gD false false n M), .da (gD false false n N), x13, x14, .no, .no, .no] _ _
      have d4 : DF 4 (.lst [.bl (wiM n M N), gD true true n (fun i j => jnH (M i j) (N i j)), gD true true n (fun i j => tmH (M i j) (N i j)), gD true true n (fun i j => wdH (M i j) (N i j))]) := df_lst (by show 4 ≤ 9000; decide) fun d hd => by
        simp only [List.mem_cons, List.not_mem_nil, or_false] at hd
        rcases hd with rfl | rfl | rfl | rfl
        · exact ⟨by cases wiM n M N <;> decide, by cases wiM n M N <;> rfl⟩
        all_goals exact dg true true _
      have d5 : DF 5 (.lst [.lst [.bl (wiM n M N), gD true true n (fun i j => jnH (M i j) (N i j)), gD true true n (fun i j => tmH (M i j) (N i j)), gD true true n (fun i j => wdH (M i j) (N i j))], .lst [.bl (wiM n M N), gD true true n (fun i j => jnH (M i j) (N i j)), gD true true n (fun i j => tmH (M i j) (N i j)), gD true true n (fun i j => wdH (M i j) (N i j))]]) := df_lst (by show 2 ≤ 9000; decide) fun d hd => by
        simp only [List.mem_cons, List.not_mem_nil, or_false] at hd
        rcases hd with rfl | rfl <;> exact d4
      refine as_seq (as_if (at_or (at_not (at_b (ae_call (aa_cons (ae_lst (aa_cons (ae_var rfl (aa_cons (ae_var rfl (aa_nil ⟨(by show 2 ≤ sizeLine; omega), aa_cons (ae_lst (aa_cons (ae_var rfl (aa_cons (ae_var rfl (aa_nil ⟨(by show 2 ≤ sizeLine; omega), aa_nil ⟨_, ⟨_, rfl, d5.1, d5.2, rfl⟩, _, rfl, fun h => absurd (show false = true from h) (by decide), fun _ => ?_⟩⟩))))))⟩))))))))))))
      refine at_test (ae_op (ae_cb (aa_cons (ae_lst (aa_cons (ae_var rfl (aa_cons (ae_var rfl (aa_nil ⟨(by show 2 ≤ sizeLine; omega), aa_nil (ac_repr sh ⟨false, _, rfl⟩ ?_)⟩)))))))))
      refine ae_var rfl (ar_neText ⟨_, rfl, fun h => absurd (show false = true from h) (by decide), fun _ => as_next ?_⟩)
      refine as_if (at_and (at_test (ae_op (ae_var rfl (ae_int (ar_I0b ⟨_, rfl, fun h2 => ?_, fun h2 => ⟨fun h => absurd (show false = true from h) (by decide), fun _ => as_next ?_⟩⟩))))))
      · have h2 := of_decide_eq_true h2
        obtain ⟨fw, rfl⟩ : ∃ fw, fu = fw + 7 := ⟨fu - 7, by omega⟩
        refine at_not (at_b (ae_draw rfl (aa_cons (ae_var rfl (aa_cons (ae_var rfl (aa_nil ⟨⟨n, M, rfl, by omega, n5, hMd, hMb⟩, fw, rfl, fun d hd => ⟨true, hd, fun h => absurd (show false = true from h) (by decide), fun _ => as_next ?_⟩⟩)))))))
        exact ⟨_, _, _, _, _, _, _, _, _, _, _, _, _, _, _, rfl, by omega⟩
      · exact ⟨_, _, _, _, _, _, _, _, _, _, _, _, _, _, _, rfl, by omega⟩
    · have h0 : ¬ n = 0 := fun z => by rw [z] at h; exact absurd h (by decide)
      refine ae_call (aa_cons (ae_var rfl (aa_cons (ae_op (ae_tup (aa_cons (ae_op (ae_tup (aa_cons (ae_non (aa_nil ⟨(by show 1 ≤ sizeLine; omega), ae_var rfl (ar_repT1 (by omega) (by omega) (aa_nil ⟨(by show 1 ≤ sizeLine; omega), ae_var rfl (ar_repT1 (by omega) (by omega) ?_)⟩))⟩)))))))))))
      rw [rep_nn]
      refine aa_cons (ae_int (aa_nil ⟨gD true true n nnM, ⟨n, M, nnM, 0, rfl, (by omega), (by decide), jn_nn.symm⟩, ?_⟩))
      obtain ⟨fu, hfu, hfe⟩ : ∃ fu, f1 + 7 ≤ fu ∧ f1 + 182 = fu := ⟨_, (by omega), rfl⟩
      show AS K _ [.bx b (f1 + 182), .da (.int ((t : Nat) : Int)), .da (.int (n : Int)), .da (gD true true n M), .da (gD true true n N), .da (gD true true n nnM), e6, e7, e8, e9, .da (.str (Dt.lst [gD true true n M, gD true true n N]).pd.shown), .da (gD false false n M), .da (gD false false n N), e13, e14, .no, .no, .no] _ _
      rw [hfe]
      refine as_seq (as_set (ae_cb (aa_cons (ae_lcMap (noR 0) (ai_enT (aa_cons (ae_var rfl (aa_nil ⟨_, rfl, ?_⟩))))))))
      rw [show enD ((List.range n).map fun i => sq true (rwD n nnM i)) = (List.range n).map fun i => .tup [.int ((i : Nat) : Int), .tup (rwD n nnM i)] from enD_rg]
      refine ⟨(by rw [List.length_map, List.length_range]; omega), fun d hd => ?_, ?_⟩
      · obtain ⟨i, hi, rfl⟩ := List.mem_map.mp hd
        have hi := List.mem_range.mp hi
        have lr : ∀ x y, (cutD (rwD n nnM i) x y).length ≤ 100 := fun x y => by unfold cutD; rw [List.length_take, List.length_drop, rw_rg, List.length_map, List.length_range]; omega
        refine agv_tup rfl (agvs_cons (agv_name (by decide) (agvs_cons (agv_name (by decide) (agvs_nil (ae_op (ae_op (ae_slT (ae_var rfl ⟨_, rfl, ao_none (ao_some (ae_var rfl ⟨_, rfl, ae_tup (aa_cons (ae_int (aa_nil ⟨(by show 1 ≤ sizeLine; omega), ar_catA (by have := lr none (some (i : Int)); show _ + 1 ≤ _; omega) ?_⟩)))⟩))⟩)))))))))
        refine ae_slT (ae_var rfl ⟨_, rfl, ao_some (ae_op (ae_var rfl (ae_int (ar_I0i ⟨_, rfl, ao_none ?_⟩))))⟩)
        exact ar_catA (by have := lr none (some (i : Int)); have := lr (some ((i : Int) + 1)) none; rw [List.length_append]; show _ + 1 + _ ≤ _; omega) ⟨rfl, rfl⟩
      have eb : ((List.range n).map fun i => Dt.tup [.int ((i : Nat) : Int), .tup (rwD n nnM i)]).map (noR 0) = (List.range n).map fun i => sq true (rwD n noM i) := by
        rw [List.map_map]
        exact List.map_congr_left fun i hi => noR_is (List.mem_range.mp hi)
      rw [eb]
      refine aa_nil (ac_tupL ?_)
      show AS K _ [.bx b (fu), .da (.int ((t : Nat) : Int)), .da (.int (n : Int)), .da (gD true true n M), .da (gD true true n N), .da (gD true true n noM), e6, e7, e8, e9, .da (.str (Dt.lst [gD true true n M, gD true true n N]).pd.shown), .da (gD false false n M), .da (gD false false n N), .no, e14, .no, .no, .no] _ _
      refine as_seq (as_if (at_not (at_b (ae_call (aa_cons (ae_call (aa_cons (ae_var rfl (aa_nil ⟨_, ⟨n, rfl, (by omega), rfl⟩, aa_cons (ae_var rfl (aa_nil ⟨_, ⟨_, rfl, Nat.le_trans (dg true true noM).1 (by decide), (dg true true noM).2, rfl⟩, _, rfl, fun h => absurd (show false = true from h) (by decide), fun _ => as_next ?_⟩))⟩)))))))))
      refine as_seq (as_set (ae_bl ?_))
      refine as_seq (as_for (ai_zipK (aa_cons (ae_var rfl (aa_cons (ae_var rfl (aa_nil ⟨true, true, _, _, rfl, ?_⟩)))))))
      rw [zp_rg]
      refine ⟨fun i ρ => ∃ x13 x14, ρ = [.bx b (fu), .da (.int ((t : Nat) : Int)), .da (.int (n : Int)), .da (gD true true n M), .da (gD true true n N), .da (gD true true n noM), .da (.bl ((List.range i).all (rfB n M N))), e7, e8, e9, .da (.str (Dt.lst [gD true true n M, gD true true n N]).pd.shown), .da (gD false false n M), .da (gD false false n N), x13, x14, .no, .no, .no], ⟨.no, e14, rfl⟩, ?_, ?_⟩
      · rintro i d ρ3 hd ⟨x13, x14, rfl⟩
        obtain ⟨hi, rfl⟩ := rg_at hd
        refine ag_tup rfl (ags_cons (ag_name (ags_cons (ag_name (ags_nil ?_)))))
        have ea : (List.range (i + 1)).all (rfB n M N) = ((List.range i).all (rfB n M N) && rfB n M N i) := by rw [List.range_succ, List.all_append]; simp
        cases hb : (List.range i).all (rfB n M N) with
        | false => exact as_set (ae_andV (ae_var rfl ⟨false, rfl, fun h => absurd (show false = true from h) (by decide), fun _ => ⟨_, _, (by rw [ea, hb]; rfl)⟩⟩))
        | true =>
          refine as_set (ae_andV (ae_var rfl ⟨true, rfl, fun _ => ?_, fun h => absurd (show true = false from h) (by decide)⟩))
          refine ae_cb (aa_cons (ae_lcMap hwd (ai_zipK (aa_cons (ae_var rfl (aa_cons (ae_var rfl (aa_nil ⟨true, true, _, _, rfl, ?_⟩))))))))
          rw [zp_row]
          refine ⟨(by rw [List.length_map, List.length_range]; omega), fun d hd => ?_, ?_⟩
          · obtain ⟨j, hj, rfl⟩ := List.mem_map.mp hd
            refine agv_tup rfl (agvs_cons (agv_name (by decide) (agvs_cons (agv_name (by decide) (agvs_nil (ae_call (aa_cons (ae_var rfl (aa_cons (ae_var rfl (aa_nil ⟨_, ⟨_, _, rfl, rfl⟩, ?_⟩)))))))))))
            exact ⟨by show _ = Dt.bl (hwI (unO (oD (M i j))) (unO (oD (N i j)))); rw [unO_is, unO_is], rfl⟩
          · rw [hwd_map]
            refine aa_nil (ac_all ⟨.da (sq true (rwD n M i)), .da (sq true (rwD n N i)), ?_⟩)
            rw [ea, hb, List.all_map]; rfl
      rintro ρ3 ⟨x13, x14, rfl⟩
      rw [List.length_map, List.length_range, show (List.range n).all (rfB n M N) = wiM n M N from rfl]
      refine as_seq (as_set (ae_lst (aa_cons (ae_var rfl (aa_cons (ae_call (aa_cons (ae_var rfl (aa_cons (ae_var rfl (aa_cons (ae_int (aa_nil ⟨gD true true n (fun i j => jnH (M i j) (N i j)), ⟨n, M, N, 0, rfl, (by omega), (by decide), rfl⟩, aa_cons (ae_call (aa_cons (ae_var rfl (aa_cons (ae_var rfl (aa_cons (ae_int (aa_nil ⟨gD true true n (fun i j => tmH (M i j) (N i j)), ⟨n, M, N, 1, rfl, (by omega), (by decide), rfl⟩, aa_cons (ae_call (aa_cons (ae_var rfl (aa_cons (ae_var rfl (aa_cons (ae_int (aa_nil ⟨gD true true n (fun i j => wdH (M i j) (N i j)), ⟨n, M, N, 2, rfl, (by omega), (by decide), rfl⟩, aa_nil ⟨(by show 4 ≤ sizeLine; omega), ?_⟩⟩))))))))⟩))))))))⟩)))))))))))))
      refine as_seq (as_set (ae_lst (aa_cons (ae_call (aa_cons (ae_var rfl (aa_cons (ae_var rfl (aa_nil ⟨.bl (wiM n M N), ⟨true, true, true, true, n, M, N, rfl, (by omega), rfl⟩, aa_cons (ae_call (aa_cons (ae_var rfl (aa_cons (ae_var rfl (aa_nil ⟨gD true true n (fun i j => jnH (M i j) (N i j)), ⟨true, true, true, true, n, M, N, rfl, (by omega), rfl⟩, aa_cons (ae_call (aa_cons (ae_var rfl (aa_cons (ae_var rfl (aa_nil ⟨gD true true n (fun i j => tmH (M i j) (N i j)), ⟨true, true, true, true, n, M, N, rfl, (by omega), rfl⟩, aa_cons (ae_call (aa_cons (ae_var rfl (aa_cons (ae_var rfl (aa_nil ⟨gD true true n (fun i j => wdH (M i j) (N i j)), ⟨true, true, true, true, n, M, N, rfl, (by omega), rfl⟩, aa_nil ⟨(by show 4 ≤ sizeLine; omega), ?_⟩⟩))))))⟩))))))⟩))))))⟩)))))))))
      refine as_seq (as_set (ae_lst (aa_cons (ae_callK2 rfl (aa_cons (ae_var rfl (aa_cons (ae_var rfl (aa_nil ⟨_, _, rfl, .bl (wiM n M N), ⟨false, false, false, false, n, M, N, rfl, (by omega), rfl⟩, aa_cons (ae_callK2 rfl (aa_cons (ae_var rfl (aa_cons (ae_var rfl (aa_nil ⟨_, _, rfl, gD true true n (fun i j => jnH (M i j) (N i j)), ⟨false, false, false, false, n, M, N, rfl, (by omega), rfl⟩, aa_nil ⟨(by show 2 ≤ sizeLine; omega), ?_⟩⟩))))))⟩)))))))))
      refine as_seq (as_set (ae_op (ae_var rfl (ae_lst (aa_cons (ae_callK2 rfl (aa_cons (ae_var rfl (aa_cons (ae_var rfl (aa_nil ⟨_, _, rfl, gD true true n (fun i j => tmH (M i j) (N i j)), ⟨false, false, false, false, n, M, N, rfl, (by omega), rfl⟩, aa_cons (ae_callK2 rfl (aa_cons (ae_var rfl (aa_cons (ae_var rfl (aa_nil ⟨_, _, rfl, gD true true n (fun i j => wdH (M i j) (N i j)), ⟨false, false, false, false, n, M, N, rfl, (by omega), rfl⟩, aa_nil ⟨(by show 2 ≤ sizeLine; omega), ar_catL (by show 2 + 2 ≤ sizeLine; omega) ?_⟩⟩))))))⟩)))))))))))
      show AS K _ [.bx b (fu), .da (.int ((t : Nat) : Int)), .da (.int (n : Int)), .da (gD true true n M), .da (gD true true n N), .da (gD true true n noM), .da (.bl (wiM n M N)), .da (.lst [.bl (wiM n M N), gD true true n (fun i j => jnH (M i j) (N i j)), gD true true n (fun i j => tmH (M i j) (N i j)), gD true true n (fun i j => wdH (M i j) (N i j))]), .da (.lst [.bl (wiM n M N), gD true true n (fun i j => jnH (M i j) (N i j)), gD true true n (fun i j => tmH (M i j) (N i j)), gD true true n (fun i j => wdH (M i j) (N i j))]), .da (.lst [.bl (wiM n M N), gD true true n (fun i j => jnH (M i j) (N i j)), gD true true n (fun i j => tmH (M i j) (N i j)), gD true true n (fun i j => wdH (M i j) (N i j))]), .da (.str (Dt.lst [gD true true n M, gD true true n N]).pd.shown), .da (gD false false n M), .da (gD false false n N), x13, x14, .no, .no, .no] _ _
      have d4 : DF 4 (.lst [.bl (wiM n M N), gD true true n (fun i j => jnH (M i j) (N i j)), gD true true n (fun i j => tmH (M i j) (N i j)), gD true true n (fun i j => wdH (M i j) (N i j))]) := df_lst (by show 4 ≤ 9000; decide) fun d hd => by
        simp only [List.mem_cons, List.not_mem_nil, or_false] at hd
        rcases hd with rfl | rfl | rfl | rfl
        · exact ⟨by cases wiM n M N <;> decide, by cases wiM n M N <;> rfl⟩
        all_goals exact dg true true _
      have d5 : DF 5 (.lst [.lst [.bl (wiM n M N), gD true true n (fun i j => jnH (M i j) (N i j)), gD true true n (fun i j => tmH (M i j) (N i j)), gD true true n (fun i j => wdH (M i j) (N i j))], .lst [.bl (wiM n M N), gD true true n (fun i j => jnH (M i j) (N i j)), gD true true n (fun i j => tmH (M i j) (N i j)), gD true true n (fun i j => wdH (M i j) (N i j))]]) := df_lst (by show 2 ≤ 9000; decide) fun d hd => by
        simp only [List.mem_cons, List.not_mem_nil, or_false] at hd
        rcases hd with rfl | rfl <;> exact d4
      refine as_seq (as_if (at_or (at_not (at_b (ae_call (aa_cons (ae_lst (aa_cons (ae_var rfl (aa_cons (ae_var rfl (aa_nil ⟨(by show 2 ≤ sizeLine; omega), aa_cons (ae_lst (aa_cons (ae_var rfl (aa_cons (ae_var rfl (aa_nil ⟨(by show 2 ≤ sizeLine; omega), aa_nil ⟨_, ⟨_, rfl, d5.1, d5.2, rfl⟩, _, rfl, fun h => absurd (show false = true from h) (by decide), fun _ => ?_⟩⟩))))))⟩))))))))))))
      refine at_test (ae_op (ae_cb (aa_cons (ae_lst (aa_cons (ae_var rfl (aa_cons (ae_var rfl (aa_nil ⟨(by show 2 ≤ sizeLine; omega), aa_nil (ac_repr sh ⟨false, _, rfl⟩ ?_)⟩)))))))))
      refine ae_var rfl (ar_neText ⟨_, rfl, fun h => absurd (show false = true from h) (by decide), fun _ => as_next ?_⟩)
      refine as_if (at_and (at_test (ae_op (ae_var rfl (ae_int (ar_I0b ⟨_, rfl, fun h2 => ?_, fun h2 => ⟨fun h => absurd (show false = true from h) (by decide), fun _ => as_next ?_⟩⟩))))))
      · have h2 := of_decide_eq_true h2
        obtain ⟨fw, rfl⟩ : ∃ fw, fu = fw + 7 := ⟨fu - 7, by omega⟩
        refine at_not (at_b (ae_draw rfl (aa_cons (ae_var rfl (aa_cons (ae_var rfl (aa_nil ⟨⟨n, M, rfl, by omega, n5, hMd, hMb⟩, fw, rfl, fun d hd => ⟨true, hd, fun h => absurd (show false = true from h) (by decide), fun _ => as_next ?_⟩⟩)))))))
        exact ⟨_, _, _, _, _, _, _, _, _, _, _, _, _, _, _, rfl, by omega⟩
      · exact ⟨_, _, _, _, _, _, _, _, _, _, _, _, _, _, _, rfl, by omega⟩
  · rintro ρ ⟨f, e1, e2, e3, e4, e5, e6, e7, e8, e9, e10, e11, e12, e13, e14, rfl, hf⟩
    exact as_ret (ae_bl ⟨rfl, _, rfl, by omega⟩)
end
end Sh
set_option Elab.async false
set_option linter.all false
set_option maxRecDepth 100000
set_option maxHeartbeats 4000000
/-! ### the end for such a law -/
namespace Sh
open PySem PySem.Spec PyProof.Rows L2
/-- what the caller is promised -/
def Done (s : Shared) : Result → Shared → Prop := fun r s' => r = .ok (.ret (.bool true)) ∧ OldK s.heap s'.heap ∧ s'.os = s.os ∧ AllBare s'.gens
section
variable {P : Program} {w : World} {K : PySem.W.Frag} {mg mb : Str → Option Value} {k : Nat} {fa a : Addr} {fd : FuncData} {x : Str} {sp : Sp} {s : Shared} {us : List Value} {ns : List Int}
/-- behind a heap H in which at most the script is tracked -/
theorem law_at (inK : K.In s.heap) (glob : s.heap.Ns mainGlobals mg) (bltn : s.heap.Ns builtinsNs mb) (same_b : ∀ z : Str, z ≠ "__name__" → mb z = bootBuiltins z) (nolim : s.heap.NoLimit) (nog : s.gens = #[])
    (room : Room k callerA) (F : ∀ base : Heap, K.In base → base.Ns mainGlobals mg → FnG P w K mg base k fa fd [x] sp) (bind : ∀ (s : Shared) (u : Value), BindsTo s fd ⟨[u], []⟩ [(x, u)])
    (H : Hp) (only : Only H) (hok : HOk P w H s.heap) (at_a : ∀ b, H b ≠ none → b = a) (notK : H a ≠ none → K.lookup a = none) (lst : ∃ o, s.heap.get? a = some o ∧ ∀ es ep, o.data ≠ .dict es ep)
    (hsp : sp [.ref a] H (fun v _ => v = .bl true) E0) : codeAny (model P w) callerA (.call (.ref fa) ⟨[.ref a], []⟩) (Done s) s := by
  have tracked : ∀ {b : Addr}, (H b = none → False) → b = a := fun {b} h => at_a b fun z => h z
  have kept : ∀ {b : Addr} {m : Str → Option Value}, s.heap.Ns b m → (hidT s.heap H).Ns b m := by
    rintro b m ⟨o, es, ep, eo, ed, rest⟩
    refine ⟨o, es, ep, hidT_get eo ?_, ed, rest⟩
    cases hb : H b with
    | none => rfl
    | some v =>
      have eb := tracked (b := b) (fun z => by rw [z] at hb; cases hb)
      subst eb
      obtain ⟨o', eo', nd⟩ := lst
      rw [eo] at eo'
      cases eo'
      exact absurd ed (nd es ep)
  have inB : K.In (hidT s.heap H) := by
    intro b o look
    refine hidT_get (inK b o look) ?_
    cases hb : H b with
    | none => rfl
    | some v =>
      have eb := tracked (b := b) (fun z => by rw [z] at hb; cases hb)
      subst eb
      have nk := notK (fun z => by rw [z] at hb; cases hb)
      rw [nk] at look
      cases look
  have md : Mod K mg (hidT s.heap H) := by
    obtain ⟨mc, l1, l2⟩ := nolim
    exact ⟨inB, kept glob, ⟨mb, kept bltn, same_b⟩, mc, kept l1, l2⟩
  have env : Env0 P w K mg (hidT s.heap H) callerA [] s H := by
    refine ⟨rfl, md, fun b o z => of_hidT z, ?_, trivial, fun b hb => absurd (show b ∈ ([] : List Addr) from hb) List.not_mem_nil, hok, .of_eq nog⟩
    exact Nat.le_of_eq (hidT_size _ _)
  have run := (F _ inB (kept glob)).go callerA [] s H ⟨[.ref a], []⟩ [.ref a] [.ref a] _ _ room rfl env (bind s (.ref a)) (.cons rfl .nil) hsp
  refine codeAny_mono run fun r s' hr => ?_
  rcases r with e | fl
  · exact False.elim hr
  rcases fl with _ | _ | _ | u
  · exact False.elim hr
  · exact False.elim hr
  · exact False.elim hr
  obtain ⟨v, H', eos, bare, un, hok', ru, ev⟩ := hr
  cases (show v = .bl true from ev)
  cases (show u = .bool true from ru)
  refine ⟨rfl, OldK.of_keep fun b o eb => ?_, eos, bare⟩
  cases hb : H b with
  | none => exact un.keep b o eb hb (fun z => nomatch z) (fun z => nomatch z)
  | some v =>
    rcases only b with z | ⟨o1, xs, z⟩
    · rw [hb] at z
      cases z
    · obtain ⟨g1, _⟩ := hok b _ z
      obtain ⟨g2, _⟩ := hok' b _ (un.frzs b o1 _ z)
      rw [eb] at g1
      cases g1
      exact g2
theorem law_g (inK : K.In s.heap) (glob : s.heap.Ns mainGlobals mg) (bltn : s.heap.Ns builtinsNs mb) (same_b : ∀ z : Str, z ≠ "__name__" → mb z = bootBuiltins z) (nolim : s.heap.NoLimit) (nog : s.gens = #[])
    (script : s.heap.get? a = some { cls := .type "list", data := .seq us.toArray }) (numb : IntsAre us ns) (short : ns.length ≤ sizeLine) (room : Room k callerA)
    (F : ∀ base : Heap, K.In base → base.Ns mainGlobals mg → FnG P w K mg base k fa fd [x] sp) (bind : ∀ (s : Shared) (u : Value), BindsTo s fd ⟨[u], []⟩ [(x, u)])
    (hsp : ∀ H : Hp, Only H → SqL K H a (ns.map V.int) → sp [.ref a] H (fun v _ => v = .bl true) E0) : codeAny (model P w) callerA (.call (.ref fa) ⟨[.ref a], []⟩) (Done s) s := by
  have rel := vals_ints numb
  have nl := numb.length
  have lst : ∃ o, s.heap.get? a = some o ∧ ∀ es ep, o.data ≠ .dict es ep := ⟨_, script, fun es ep z => nomatch z⟩
  cases look : K.lookup a with
  | some o =>
    have eo := inK a o look
    rw [script] at eo
    cases eo
    refine law_at inK glob bltn same_b nolim nog room F bind (fun _ => none) (fun _ => .inl rfl) (fun b v z => nomatch (show (none : Option HO) = some v from z)) (fun b z => absurd rfl z) (fun z => absurd rfl z) lst (hsp _ (fun _ => .inl rfl) (.inr ?_))
    exact ⟨_, us.toArray, _, look, rfl, rfl, rfl, by rw [List.size_toArray, nl]; exact short, by simpa using rel⟩
  | none =>
    have here : (fun b => if b = a then some (HO.frz { cls := .type "list", data := .seq us.toArray } (.lst (ns.map V.int))) else none) a = some (HO.frz { cls := .type "list", data := .seq us.toArray } (.lst (ns.map V.int))) := if_pos rfl
    have only : Only (fun b => if b = a then some (HO.frz { cls := .type "list", data := .seq us.toArray } (.lst (ns.map V.int))) else none) := by
      intro b
      by_cases e : b = a
      · exact .inr ⟨_, _, if_pos e⟩
      · exact .inl (if_neg e)
    refine law_at inK glob bltn same_b nolim nog room F bind _ only (fun b v z => ?_) (fun b z => ?_) (fun _ => look) lst (hsp _ only (.inl (.inr ⟨_, here⟩)))
    · by_cases e : b = a
      · subst e
        have z2 := here.symm.trans z
        cases z2
        exact ⟨script, by rw [List.length_map]; exact short, us, _, rel, script⟩
      · have z' : (if b = a then some (HO.frz { cls := .type "list", data := .seq us.toArray } (.lst (ns.map V.int))) else none) = some v := z
        rw [if_neg e] at z'
        cases z'
    · by_cases e : b = a
      · exact e
      · exact absurd (if_neg e) z
end
/-- the goal that the head leaves, from such a promise -/
theorem walk_g {l : PySem.W.OpenLaw} {n k : Nat} {q : Program} {loose : List Str} {XP : (Str → Option Value) → Heap → Prop} {YP : World → Heap → Prop} {d : DefRec} {K : Params → PySem.W.Frag} {sp : World → Sp} {x : Str}
    (hn : l.most = some n) (hn2 : n ≤ sizeLine) (hdf : d.params.defaults = []) (room : Room k callerA) (hY : ∀ (w : World) (h : Heap), YP w h → (K w.params).In h)
    (F : ∀ (w : World) (mg : Str → Option Value) (fa : Addr) (h : Heap), (K w.params).In h → h.Ns mainGlobals mg → mg d.name = some (.ref fa) →
      ∃ fd : FuncData, (∀ (s : Shared) (u : Value), BindsTo s fd ⟨[u], []⟩ [(x, u)]) ∧ ∀ base : Heap, (K w.params).In base → base.Ns mainGlobals mg → FnG l.prog w (K w.params) mg base k fa fd [x] (sp w))
    (hsp : ∀ (w : World) (H : Hp) (a : Addr) (ns : List Int), ns.length ≤ n → Only H → SqL (K w.params) H a (ns.map V.int) → sp w [.ref a] H (fun v _ => v = .bl true) E0) :
    PySem.W.WalkO q loose XP YP l.row.toRowW d [] (fun f vs => PySem.call f vs) := by
  refine Att.attach_call hn hdf fun w t0 t1 mg mb fa oo pm cv doc a us ns G Y ho hd hcd hmg script numb short nog => ?_
  have inK := hY w _ Y
  obtain ⟨fd, bind, H⟩ := F w mg fa _ inK G.T.g hmg
  exact law_g inK G.T.g G.T.b G.T.builtins G.T.nolimit nog script numb (Nat.le_trans short hn2) room H bind fun Hh only hS => hsp w Hh a ns short only hS
end Sh
set_option Elab.async false
set_option linter.all false
set_option maxRecDepth 100000
set_option maxHeartbeats 4000000
namespace Sh
open PySem PySem.Spec PyProof.Rows L2
theorem kb0_of {K : PySem.W.Frag} {x qual : Str} {st : Stmt} {f : Addr} {fd : FuncData} {ps ks : List Str} {g : List Value → List Value} {gV : List V → List V} (F : Fun K x qual st f fd)
    (h : ∀ (kV doc pm : Value) (an : Option Addr) (cdv ct : Value) (ws : List Value), ws.length = ks.length → bindArgs (PySem.W.fnOf x qual (defArgs st) (defBody st) (defScope st) .none kV doc pm an cdv ct) ⟨[], ks.zip ws⟩ = pure (ps.zip (g ws)))
    (rel : ∀ {zs : List V} {ws : List Value}, Vals zs ws → zs.length = ks.length → Vals (gV zs) (g ws)) : KB0 K fd ps ks g gV := by
  obtain ⟨oc, od, kV, doc, pm, an, cdv, ct, osl, rfl, lk, hcd⟩ := F.ex
  exact ⟨fun s ws hl => .of_eq (h kV doc pm an cdv ct ws hl), rel⟩
abbrev sLaw : Stmt := topS 29
abbrev NL : List Str := ["_law_script", "_law_cells_here", "_law_k"]
theorem scLaw : FnScope NL ["_law_script"] (defScope sLaw) := ⟨rfl, rfl, rfl, by decide +kernel, rfl, by decide +kernel, by decide +kernel⟩
section
variable {P : Program} {w : World} {K : PySem.W.Frag} {mg : Str → Option Value} {base : Heap}
def spLaw (K : PySem.W.Frag) : Sp := fun vs H Q _ => ∃ (a : Addr) (ns : List Int), vs = [.ref a] ∧ SqL K H a (ns.map V.int) ∧ ns.length ≤ 63 ∧ ∀ H', Q (.bl true) H'
theorem ok_law {f gC gB gR : Addr} {fd dC dB dR : FuncData} (F : Fun K "law" "law" sLaw f fd)
    (GC : FnOk P w K mg base CX0 1 gC dC ["_law_script", "_law_most"] (spCells K)) (bC : Binds K dC ["_law_script", "_law_most"] []) (kC : PySem.W.keepIn K (.ref gC) = true) (mC : mg "_law_cells" = some (.ref gC))
    (GB : FnOk P w K mg base CX0 1 gB dB ["_law_script", "_law_k"] (spBox K)) (bB : Binds K dB ["_law_script", "_law_k"] []) (kB : PySem.W.keepIn K (.ref gB) = true) (mB : mg "_law_box" = some (.ref gB))
    (GR : FnG P w K mg base 7 gR dR ["_law_box_here"] (spB K 3255 domR postR)) (bR : Binds K dR ["_law_box_here"] []) (kR : PySem.W.keepIn K (.ref gR) = true) (mR : mg "_law_right" = some (.ref gR))
    (mr : mg "range" = none) (ml : mg "len" = none) (mall : mg "all" = none) : FnG P w K mg base 8 f fd ["_law_script"] (spLaw K) := by
  refine okG F scLaw (fun vs H Q E h => ?_) (fun cdv A outer s H vs Q Ex hr gu h => ?_)
  · obtain ⟨a, ns, rfl, _⟩ := h
    rfl
  obtain ⟨a, ns, rfl, hS, hlen, q⟩ := h
  refine ⟨_, pss_cons (ps_set (i := 1) scLaw.nd rfl (by first | exact Or.inl rfl | exact Or.inr rfl) (pe_call GC (hr.mono (by decide)) rfl mC kC bC .nil pass0 (pa_cons (pv 0) (pa_cons pe_int pa_nil))))
    (pss_one (ps_ret (pe_callB (cr_all rfl) rfl mall (by decide +kernel) (pa_cons (pe_lc (own := [("_law_k", 2)]) (g := gName 2) (te := (tCall (spB K 3255 domR postR) [] E0 (tCons (tCall (spBox K) [] E0 (tCons (tVar 1) (tCons (tVar 2) tNil))) tNil))) (tt := tYes) rfl scLaw.nd (pi_range1 rfl mr (pa_cons (pe_callB call_len_seq rfl ml PySem.boot_len (pa_cons (pv 1) pa_nil)) pa_nil)) (blkOk_by (N := NL) (sc := defScope sLaw) (by decide +kernel))
        (fun _ _ _ _ _ => pg_name (i := 2) scLaw.nd rfl (by first | exact Or.inl rfl | exact Or.inr rfl)) (fun _ _ _ _ _ => pts_nil) (fun _ _ _ _ _ => pe_callG GR hr gu rfl mR kR bR pass0 (pa_cons (pe_call GB (hr.mono (by decide)) rfl mB kB bB .nil pass0 (pa_cons (pv 1) (pa_cons (pv 2) pa_nil))) pa_nil))) pa_nil)))), ?_⟩
  refine ⟨_, rfl, a, ns, 3, rfl, hS, hlen, by decide, by decide, fun p ms H1 np s1 ep l1 l2 => ?_⟩
  have hml : (ms.map V.int).length = ms.length := List.length_map _
  refine ⟨_, rfl, p, _, rfl, .inl (SqL.of ep), _, rfl, by omega, by omega, fun D hD => lc_range (lo := 0) (n := (ms.map V.int).length) (fun t H4 => Same H1 H4 ∧ H4 D = some (.lst ((List.replicate t true).map V.bl))) ?_ ?_ ?_⟩
  · exact ⟨same_up hD, upd_same⟩
  · rintro t H4 ht ⟨s4, e4⟩
    rw [hml] at ht
    refine ⟨rfl, ?_⟩
    refine ⟨_, rfl, _, rfl, p, ms, _, rfl, SqL.of (s4 _ _ ep), by omega, by omega, by omega, fun bx x y nbx x0 y0 y1 => ?_⟩
    have s3 := same_up (o := .lst [.int x, .int y, .int 0]) nbx
    have hb0 : Bx (upd H4 bx (.lst [.int x, .int y, .int 0])) bx y 0 := ⟨x, upd_same, x0, y0, y1⟩
    have neD : D ≠ bx := fun e => by
      rw [← e, e4] at nbx
      cases nbx
    refine ⟨fun _ => none, [], bx, [], y, 0, 0, rfl, (fun a o e => nomatch e), hb0, by omega, by unfold BxM; decide, rfl, rfl, rfl, fun v d G' H5 y' c' nb hB' c0' c1' rd hp => ?_⟩
    have e5 := nb.h _ _ neD (s3 _ _ e4)
    refine ⟨_, e5, ?_, fun b o e => ?_, ?_⟩
    · rw [List.length_map, List.length_replicate]; exact sz60' (by omega)
    · have nD : b ≠ D := fun z => by rw [z, hD] at e; cases e
      rw [upd_ne nD]
      exact nb.h _ _ (ne_of_none (s4 _ _ e) nbx) (s3 _ _ (s4 _ _ e))
    · subst hp
      cases (show v = .bl true from rd)
      rw [upd_same, List.replicate_succ', List.map_append]; rfl
  · rintro H4 ⟨s4, e4⟩
    refine ⟨D, _, rfl, SqL.of e4, ?_⟩
    rw [all_true]
    exact q _
end
theorem all_mk {l : PySem.W.OpenLaw} {w : World} {K : PySem.W.Frag} {h : Heap} {mg : Str → Option Value} {fa fD0 fD1 fD2 fD3 fD4 fD5 fD6 fD7 fD8 fD9 fD10 fD11 fD12 fD13 fD14 fD15 fD16 fD17 fD18 fD19 fD20 fD21 fD22 fD23 fD24 fD25 fD26 : Addr} (X : K.In h) (G : h.Ns mainGlobals mg) (hfa : mg "law" = some (.ref fa))
    {odD0 anD0 odD1 anD1 odD2 anD2 odD3 anD3 odD4 anD4 odD5 anD5 odD6 anD6 odD7 anD7 odD8 anD8 odD9 anD9 odD10 anD10 odD11 anD11 odD12 anD12 odD13 anD13 odD14 anD14 odD15 anD15 odD16 anD16 odD17 anD17 odD18 anD18 odD19 anD19 odD20 anD20 odD21 anD21 odD22 anD22 odD23 anD23 odD24 anD24 odD25 anD25 odD26 anD26 : Option Addr} {slD0 slD1 slD2 slD3 slD4 slD5 slD6 slD7 slD8 slD9 slD10 slD11 slD12 slD13 slD14 slD15 slD16 slD17 slD18 slD19 slD20 slD21 slD22 slD23 slD24 slD25 slD26 : Array (Option Value)} {ocD0 kVD0 dcD0 pmD0 cdD0 ctD0 ocD1 kVD1 dcD1 pmD1 cdD1 ctD1 ocD2 kVD2 dcD2 pmD2 cdD2 ctD2 ocD3 kVD3 dcD3 pmD3 cdD3 ctD3 ocD4 kVD4 dcD4 pmD4 cdD4 ctD4 ocD5 kVD5 dcD5 pmD5 cdD5 ctD5 ocD6 kVD6 dcD6 pmD6 cdD6 ctD6 ocD7 kVD7 dcD7 pmD7 cdD7 ctD7 ocD8 kVD8 dcD8 pmD8 cdD8 ctD8 ocD9 kVD9 dcD9 pmD9 cdD9 ctD9 ocD10 kVD10 dcD10 pmD10 cdD10 ctD10 ocD11 kVD11 dcD11 pmD11 cdD11 ctD11 ocD12 kVD12 dcD12 pmD12 cdD12 ctD12 ocD13 kVD13 dcD13 pmD13 cdD13 ctD13 ocD14 kVD14 dcD14 pmD14 cdD14 ctD14 ocD15 kVD15 dcD15 pmD15 cdD15 ctD15 ocD16 kVD16 dcD16 pmD16 cdD16 ctD16 ocD17 kVD17 dcD17 pmD17 cdD17 ctD17 ocD18 kVD18 dcD18 pmD18 cdD18 ctD18 ocD19 kVD19 dcD19 pmD19 cdD19 ctD19 ocD20 kVD20 dcD20 pmD20 cdD20 ctD20 ocD21 kVD21 dcD21 pmD21 cdD21 ctD21 ocD22 kVD22 dcD22 pmD22 cdD22 ctD22 ocD23 kVD23 dcD23 pmD23 cdD23 ctD23 ocD24 kVD24 dcD24 pmD24 cdD24 ctD24 ocD25 kVD25 dcD25 pmD25 cdD25 ctD25 ocD26 kVD26 dcD26 pmD26 cdD26 ctD26 : Value} 
    (aD0 : PySem.W.nsIn K mainGlobals "loosest_high" = some (some (.ref fD0)))
    (lD0 : K.lookup fD0 = some ⟨ocD0, odD0, .func (PySem.W.fnOf "loosest_high" "loosest_high" (defArgs s_loosest_high) (defBody s_loosest_high) (defScope s_loosest_high) .none kVD0 dcD0 pmD0 anD0 cdD0 ctD0), slD0⟩)
    (cD0 : PySem.W.codeIn K cdD0 "loosest_high" = true)
    (kD0 : PySem.W.keepIn K (.ref fD0) = true)
    (aD1 : PySem.W.nsIn K mainGlobals "tightest_high" = some (some (.ref fD1)))
    (lD1 : K.lookup fD1 = some ⟨ocD1, odD1, .func (PySem.W.fnOf "tightest_high" "tightest_high" (defArgs s_tightest_high) (defBody s_tightest_high) (defScope s_tightest_high) .none kVD1 dcD1 pmD1 anD1 cdD1 ctD1), slD1⟩)
    (cD1 : PySem.W.codeIn K cdD1 "tightest_high" = true)
    (kD1 : PySem.W.keepIn K (.ref fD1) = true)
    (aD2 : PySem.W.nsIn K mainGlobals "high_within" = some (some (.ref fD2)))
    (lD2 : K.lookup fD2 = some ⟨ocD2, odD2, .func (PySem.W.fnOf "high_within" "high_within" (defArgs s_high_within) (defBody s_high_within) (defScope s_high_within) .none kVD2 dcD2 pmD2 anD2 cdD2 ctD2), slD2⟩)
    (cD2 : PySem.W.codeIn K cdD2 "high_within" = true)
    (kD2 : PySem.W.keepIn K (.ref fD2) = true)
    (aD3 : PySem.W.nsIn K mainGlobals "total" = some (some (.ref fD3)))
    (lD3 : K.lookup fD3 = some ⟨ocD3, odD3, .func (PySem.W.fnOf "total" "total" (defArgs s_total) (defBody s_total) (defScope s_total) .none kVD3 dcD3 pmD3 anD3 cdD3 ctD3), slD3⟩)
    (cD3 : PySem.W.codeIn K cdD3 "total" = true)
    (kD3 : PySem.W.keepIn K (.ref fD3) = true)
    (aD4 : PySem.W.nsIn K mainGlobals "no_gaps" = some (some (.ref fD4)))
    (lD4 : K.lookup fD4 = some ⟨ocD4, odD4, .func (PySem.W.fnOf "no_gaps" "no_gaps" (defArgs s_no_gaps) (defBody s_no_gaps) (defScope s_no_gaps) .none kVD4 dcD4 pmD4 anD4 cdD4 ctD4), slD4⟩)
    (cD4 : PySem.W.codeIn K cdD4 "no_gaps" = true)
    (kD4 : PySem.W.keepIn K (.ref fD4) = true)
    (aD5 : PySem.W.nsIn K mainGlobals "gaps_within" = some (some (.ref fD5)))
    (lD5 : K.lookup fD5 = some ⟨ocD5, odD5, .func (PySem.W.fnOf "gaps_within" "gaps_within" (defArgs s_gaps_within) (defBody s_gaps_within) (defScope s_gaps_within) .none kVD5 dcD5 pmD5 anD5 cdD5 ctD5), slD5⟩)
    (cD5 : PySem.W.codeIn K cdD5 "gaps_within" = true)
    (kD5 : PySem.W.keepIn K (.ref fD5) = true)
    (aD6 : PySem.W.nsIn K mainGlobals "gaps_join" = some (some (.ref fD6)))
    (lD6 : K.lookup fD6 = some ⟨ocD6, odD6, .func (PySem.W.fnOf "gaps_join" "gaps_join" (defArgs s_gaps_join) (defBody s_gaps_join) (defScope s_gaps_join) .none kVD6 dcD6 pmD6 anD6 cdD6 ctD6), slD6⟩)
    (cD6 : PySem.W.codeIn K cdD6 "gaps_join" = true)
    (kD6 : PySem.W.keepIn K (.ref fD6) = true)
    (aD7 : PySem.W.nsIn K mainGlobals "gaps_meet" = some (some (.ref fD7)))
    (lD7 : K.lookup fD7 = some ⟨ocD7, odD7, .func (PySem.W.fnOf "gaps_meet" "gaps_meet" (defArgs s_gaps_meet) (defBody s_gaps_meet) (defScope s_gaps_meet) .none kVD7 dcD7 pmD7 anD7 cdD7 ctD7), slD7⟩)
    (cD7 : PySem.W.codeIn K cdD7 "gaps_meet" = true)
    (kD7 : PySem.W.keepIn K (.ref fD7) = true)
    (aD8 : PySem.W.nsIn K mainGlobals "gaps_widen" = some (some (.ref fD8)))
    (lD8 : K.lookup fD8 = some ⟨ocD8, odD8, .func (PySem.W.fnOf "gaps_widen" "gaps_widen" (defArgs s_gaps_widen) (defBody s_gaps_widen) (defScope s_gaps_widen) .none kVD8 dcD8 pmD8 anD8 cdD8 ctD8), slD8⟩)
    (cD8 : PySem.W.codeIn K cdD8 "gaps_widen" = true)
    (kD8 : PySem.W.keepIn K (.ref fD8) = true)
    (aD9 : PySem.W.nsIn K mainGlobals "gaps_without" = some (some (.ref fD9)))
    (lD9 : K.lookup fD9 = some ⟨ocD9, odD9, .func (PySem.W.fnOf "gaps_without" "gaps_without" (defArgs s_gaps_without) (defBody s_gaps_without) (defScope s_gaps_without) .none kVD9 dcD9 pmD9 anD9 cdD9 ctD9), slD9⟩)
    (cD9 : PySem.W.codeIn K cdD9 "gaps_without" = true)
    (kD9 : PySem.W.keepIn K (.ref fD9) = true)
    (aD10 : PySem.W.nsIn K mainGlobals "gaps_moved" = some (some (.ref fD10)))
    (lD10 : K.lookup fD10 = some ⟨ocD10, odD10, .func (PySem.W.fnOf "gaps_moved" "gaps_moved" (defArgs s_gaps_moved) (defBody s_gaps_moved) (defScope s_gaps_moved) .none kVD10 dcD10 pmD10 anD10 cdD10 ctD10), slD10⟩)
    (cD10 : PySem.W.codeIn K cdD10 "gaps_moved" = true)
    (kD10 : PySem.W.keepIn K (.ref fD10) = true)
    (aD11 : PySem.W.nsIn K mainGlobals "gaps_bound" = some (some (.ref fD11)))
    (lD11 : K.lookup fD11 = some ⟨ocD11, odD11, .func (PySem.W.fnOf "gaps_bound" "gaps_bound" (defArgs s_gaps_bound) (defBody s_gaps_bound) (defScope s_gaps_bound) .none kVD11 dcD11 pmD11 anD11 cdD11 ctD11), slD11⟩)
    (cD11 : PySem.W.codeIn K cdD11 "gaps_bound" = true)
    (kD11 : PySem.W.keepIn K (.ref fD11) = true)
    (aD12 : PySem.W.nsIn K mainGlobals "_law_box" = some (some (.ref fD12)))
    (lD12 : K.lookup fD12 = some ⟨ocD12, odD12, .func (PySem.W.fnOf "_law_box" "_law_box" (defArgs sBox) (defBody sBox) (defScope sBox) .none kVD12 dcD12 pmD12 anD12 cdD12 ctD12), slD12⟩)
    (cD12 : PySem.W.codeIn K cdD12 "_law_box" = true)
    (kD12 : PySem.W.keepIn K (.ref fD12) = true)
    (aD13 : PySem.W.nsIn K mainGlobals "_law_take" = some (some (.ref fD13)))
    (lD13 : K.lookup fD13 = some ⟨ocD13, odD13, .func (PySem.W.fnOf "_law_take" "_law_take" (defArgs sTake) (defBody sTake) (defScope sTake) .none kVD13 dcD13 pmD13 anD13 cdD13 ctD13), slD13⟩)
    (cD13 : PySem.W.codeIn K cdD13 "_law_take" = true)
    (kD13 : PySem.W.keepIn K (.ref fD13) = true)
    (aD14 : PySem.W.nsIn K mainGlobals "_law_cells" = some (some (.ref fD14)))
    (lD14 : K.lookup fD14 = some ⟨ocD14, odD14, .func (PySem.W.fnOf "_law_cells" "_law_cells" (defArgs sCells) (defBody sCells) (defScope sCells) .none kVD14 dcD14 pmD14 anD14 cdD14 ctD14), slD14⟩)
    (cD14 : PySem.W.codeIn K cdD14 "_law_cells" = true)
    (kD14 : PySem.W.keepIn K (.ref fD14) = true)
    (aD15 : PySem.W.nsIn K mainGlobals "_law_of" = some (some (.ref fD15)))
    (lD15 : K.lookup fD15 = some ⟨ocD15, odD15, .func (PySem.W.fnOf "_law_of" "_law_of" (defArgs sOf) (defBody sOf) (defScope sOf) .none kVD15 dcD15 pmD15 anD15 cdD15 ctD15), slD15⟩)
    (cD15 : PySem.W.codeIn K cdD15 "_law_of" = true)
    (kD15 : PySem.W.keepIn K (.ref fD15) = true)
    (aD16 : PySem.W.nsIn K mainGlobals "_law_same" = some (some (.ref fD16)))
    (lD16 : K.lookup fD16 = some ⟨ocD16, odD16, .func (PySem.W.fnOf "_law_same" "_law_same" (defArgs s_l_same) (defBody s_l_same) (defScope s_l_same) .none kVD16 dcD16 pmD16 anD16 cdD16 ctD16), slD16⟩)
    (cD16 : PySem.W.codeIn K cdD16 "_law_same" = true)
    (kD16 : PySem.W.keepIn K (.ref fD16) = true)
    (aD17 : PySem.W.nsIn K mainGlobals "_law_limit" = some (some (.ref fD17)))
    (lD17 : K.lookup fD17 = some ⟨ocD17, odD17, .func (PySem.W.fnOf "_law_limit" "_law_limit" (defArgs s_l_limit) (defBody s_l_limit) (defScope s_l_limit) .none kVD17 dcD17 pmD17 anD17 cdD17 ctD17), slD17⟩)
    (cD17 : PySem.W.codeIn K cdD17 "_law_limit" = true)
    (kD17 : PySem.W.keepIn K (.ref fD17) = true)
    (aD18 : PySem.W.nsIn K mainGlobals "_law_rows" = some (some (.ref fD18)))
    (lD18 : K.lookup fD18 = some ⟨ocD18, odD18, .func (PySem.W.fnOf "_law_rows" "_law_rows" (defArgs s_l_rows) (defBody s_l_rows) (defScope s_l_rows) .none kVD18 dcD18 pmD18 anD18 cdD18 ctD18), slD18⟩)
    (cD18 : PySem.W.codeIn K cdD18 "_law_rows" = true)
    (kD18 : PySem.W.keepIn K (.ref fD18) = true)
    (aD19 : PySem.W.nsIn K mainGlobals "_law_loose" = some (some (.ref fD19)))
    (lD19 : K.lookup fD19 = some ⟨ocD19, odD19, .func (PySem.W.fnOf "_law_loose" "_law_loose" (defArgs s_l_loose) (defBody s_l_loose) (defScope s_l_loose) .none kVD19 dcD19 pmD19 anD19 cdD19 ctD19), slD19⟩)
    (cD19 : PySem.W.codeIn K cdD19 "_law_loose" = true)
    (kD19 : PySem.W.keepIn K (.ref fD19) = true)
    (aD20 : PySem.W.nsIn K mainGlobals "_law_near" = some (some (.ref fD20)))
    (lD20 : K.lookup fD20 = some ⟨ocD20, odD20, .func (PySem.W.fnOf "_law_near" "_law_near" (defArgs s_l_near) (defBody s_l_near) (defScope s_l_near) .none kVD20 dcD20 pmD20 anD20 cdD20 ctD20), slD20⟩)
    (cD20 : PySem.W.codeIn K cdD20 "_law_near" = true)
    (kD20 : PySem.W.keepIn K (.ref fD20) = true)
    (aD21 : PySem.W.nsIn K mainGlobals "_law_below" = some (some (.ref fD21)))
    (lD21 : K.lookup fD21 = some ⟨ocD21, odD21, .func (PySem.W.fnOf "_law_below" "_law_below" (defArgs s_l_below) (defBody s_l_below) (defScope s_l_below) .none kVD21 dcD21 pmD21 anD21 cdD21 ctD21), slD21⟩)
    (cD21 : PySem.W.codeIn K cdD21 "_law_below" = true)
    (kD21 : PySem.W.keepIn K (.ref fD21) = true)
    (aD22 : PySem.W.nsIn K mainGlobals "_law_each" = some (some (.ref fD22)))
    (lD22 : K.lookup fD22 = some ⟨ocD22, odD22, .func (PySem.W.fnOf "_law_each" "_law_each" (defArgs s_l_each) (defBody s_l_each) (defScope s_l_each) .none kVD22 dcD22 pmD22 anD22 cdD22 ctD22), slD22⟩)
    (cD22 : PySem.W.codeIn K cdD22 "_law_each" = true)
    (kD22 : PySem.W.keepIn K (.ref fD22) = true)
    (aD23 : PySem.W.nsIn K mainGlobals "_law_turned_rows" = some (some (.ref fD23)))
    (lD23 : K.lookup fD23 = some ⟨ocD23, odD23, .func (PySem.W.fnOf "_law_turned_rows" "_law_turned_rows" (defArgs s_l_turned_rows) (defBody s_l_turned_rows) (defScope s_l_turned_rows) .none kVD23 dcD23 pmD23 anD23 cdD23 ctD23), slD23⟩)
    (cD23 : PySem.W.codeIn K cdD23 "_law_turned_rows" = true)
    (kD23 : PySem.W.keepIn K (.ref fD23) = true)
    (aD24 : PySem.W.nsIn K mainGlobals "_law_single_right" = some (some (.ref fD24)))
    (lD24 : K.lookup fD24 = some ⟨ocD24, odD24, .func (PySem.W.fnOf "_law_single_right" "_law_single_right" (defArgs s_l_single_right) (defBody s_l_single_right) (defScope s_l_single_right) .none kVD24 dcD24 pmD24 anD24 cdD24 ctD24), slD24⟩)
    (cD24 : PySem.W.codeIn K cdD24 "_law_single_right" = true)
    (kD24 : PySem.W.keepIn K (.ref fD24) = true)
    (aD25 : PySem.W.nsIn K mainGlobals "_law_right" = some (some (.ref fD25)))
    (lD25 : K.lookup fD25 = some ⟨ocD25, odD25, .func (PySem.W.fnOf "_law_right" "_law_right" (defArgs s_l_right) (defBody s_l_right) (defScope s_l_right) .none kVD25 dcD25 pmD25 anD25 cdD25 ctD25), slD25⟩)
    (cD25 : PySem.W.codeIn K cdD25 "_law_right" = true)
    (kD25 : PySem.W.keepIn K (.ref fD25) = true)
    (aD26 : PySem.W.nsIn K mainGlobals "law" = some (some (.ref fD26)))
    (lD26 : K.lookup fD26 = some ⟨ocD26, odD26, .func (PySem.W.fnOf "law" "law" (defArgs sLaw) (defBody sLaw) (defScope sLaw) .none kVD26 dcD26 pmD26 anD26 cdD26 ctD26), slD26⟩)
    (cD26 : PySem.W.codeIn K cdD26 "law" = true)
    (kD26 : PySem.W.keepIn K (.ref fD26) = true)
    (b_len : PySem.W.nsIn K mainGlobals "len" = some none)
    (b_abs : PySem.W.nsIn K mainGlobals "abs" = some none)
    (b_int : PySem.W.nsIn K mainGlobals "int" = some none)
    (b_list : PySem.W.nsIn K mainGlobals "list" = some none)
    (b_tuple : PySem.W.nsIn K mainGlobals "tuple" = some none)
    (b_bool : PySem.W.nsIn K mainGlobals "bool" = some none)
    (b_str : PySem.W.nsIn K mainGlobals "str" = some none)
    (b_enumerate : PySem.W.nsIn K mainGlobals "enumerate" = some none)
    (b_isinstance : PySem.W.nsIn K mainGlobals "isinstance" = some none)
    (b_all : PySem.W.nsIn K mainGlobals "all" = some none)
    (b_any : PySem.W.nsIn K mainGlobals "any" = some none)
    (b_zip : PySem.W.nsIn K mainGlobals "zip" = some none)
    (b_range : PySem.W.nsIn K mainGlobals "range" = some none)
    (b_min : PySem.W.nsIn K mainGlobals "min" = some none)
    (b_max : PySem.W.nsIn K mainGlobals "max" = some none)
    (b_set : PySem.W.nsIn K mainGlobals "set" = some none)
    (b_sorted : PySem.W.nsIn K mainGlobals "sorted" = some none)
    (b_repr : PySem.W.nsIn K mainGlobals "repr" = some none)
    (b_sum : PySem.W.nsIn K mainGlobals "sum" = some none) :
    ∃ fd : FuncData, (∀ (s : Shared) (v : Value), BindsTo s fd ⟨[v], []⟩ [("_law_script", v)]) ∧ ∀ base : Heap, K.In base → base.Ns mainGlobals mg → FnG l.prog w K mg base 8 fa fd ["_law_script"] (spLaw K) := by
  have e := hfa.symm.trans (PySem.W.mg_of X G aD26)
  cases e
  have F_loosest_high := fun_mk (st := s_loosest_high) lD0 cD0 kD0
  have b_loosest_high := F_loosest_high.binds (ps := ["one", "other"]) fun _ _ _ _ _ _ us hl => match us, hl with | [_, _], _ => rfl
  have F_tightest_high := fun_mk (st := s_tightest_high) lD1 cD1 kD1
  have b_tightest_high := F_tightest_high.binds (ps := ["one", "other"]) fun _ _ _ _ _ _ us hl => match us, hl with | [_, _], _ => rfl
  have F_high_within := fun_mk (st := s_high_within) lD2 cD2 kD2
  have b_high_within := F_high_within.binds (ps := ["one", "other"]) fun _ _ _ _ _ _ us hl => match us, hl with | [_, _], _ => rfl
  have F_total := fun_mk (st := s_total) lD3 cD3 kD3
  have b_total := F_total.binds (ps := ["one", "other"]) fun _ _ _ _ _ _ us hl => match us, hl with | [_, _], _ => rfl
  have F_no_gaps := fun_mk (st := s_no_gaps) lD4 cD4 kD4
  have b_no_gaps := F_no_gaps.binds (ps := ["k"]) fun _ _ _ _ _ _ us hl => match us, hl with | [_], _ => rfl
  have F_gaps_within := fun_mk (st := s_gaps_within) lD5 cD5 kD5
  have b_gaps_within := F_gaps_within.binds (ps := ["one", "other"]) fun _ _ _ _ _ _ us hl => match us, hl with | [_, _], _ => rfl
  have F_gaps_join := fun_mk (st := s_gaps_join) lD6 cD6 kD6
  have b_gaps_join := F_gaps_join.binds (ps := ["one", "other"]) fun _ _ _ _ _ _ us hl => match us, hl with | [_, _], _ => rfl
  have F_gaps_meet := fun_mk (st := s_gaps_meet) lD7 cD7 kD7
  have b_gaps_meet := F_gaps_meet.binds (ps := ["one", "other"]) fun _ _ _ _ _ _ us hl => match us, hl with | [_, _], _ => rfl
  have F_gaps_widen := fun_mk (st := s_gaps_widen) lD8 cD8 kD8
  have b_gaps_widen := F_gaps_widen.binds (ps := ["one", "other"]) fun _ _ _ _ _ _ us hl => match us, hl with | [_, _], _ => rfl
  have F_gaps_without := fun_mk (st := s_gaps_without) lD9 cD9 kD9
  have b_gaps_without := F_gaps_without.binds (ps := ["gaps", "i"]) fun _ _ _ _ _ _ us hl => match us, hl with | [_, _], _ => rfl
  have F_gaps_moved := fun_mk (st := s_gaps_moved) lD10 cD10 kD10
  have b_gaps_moved := F_gaps_moved.binds (ps := ["gaps", "i", "n"]) fun _ _ _ _ _ _ us hl => match us, hl with | [_, _, _], _ => rfl
  have F_gaps_bound := fun_mk (st := s_gaps_bound) lD11 cD11 kD11
  have b_gaps_bound := F_gaps_bound.binds (ps := ["gaps", "i", "j", "n"]) fun _ _ _ _ _ _ us hl => match us, hl with | [_, _, _, _], _ => rfl
  have F_l_box := fun_mk (st := sBox) lD12 cD12 kD12
  have b_l_box := F_l_box.binds (ps := ["_law_script", "_law_k"]) fun _ _ _ _ _ _ us hl => match us, hl with | [_, _], _ => rfl
  have F_l_take := fun_mk (st := sTake) lD13 cD13 kD13
  have b_l_take := F_l_take.binds (ps := ["_law_box_here", "_law_below_here"]) fun _ _ _ _ _ _ us hl => match us, hl with | [_, _], _ => rfl
  have F_l_cells := fun_mk (st := sCells) lD14 cD14 kD14
  have b_l_cells := F_l_cells.binds (ps := ["_law_script", "_law_most"]) fun _ _ _ _ _ _ us hl => match us, hl with | [_, _], _ => rfl
  have F_l_of := fun_mk (st := sOf) lD15 cD15 kD15
  have b_l_of := F_l_of.binds (ps := ["_law_box_here", "_law_some"]) fun _ _ _ _ _ _ us hl => match us, hl with | [_, _], _ => rfl
  have F_l_same := fun_mk (st := s_l_same) lD16 cD16 kD16
  have b_l_same := F_l_same.binds (ps := ["_law_found", "_law_due"]) fun _ _ _ _ _ _ us hl => match us, hl with | [_, _], _ => rfl
  have F_l_limit := fun_mk (st := s_l_limit) lD17 cD17 kD17
  have b_l_limit := F_l_limit.binds (ps := ["_law_box_here"]) fun _ _ _ _ _ _ us hl => match us, hl with | [_], _ => rfl
  have F_l_rows := fun_mk (st := s_l_rows) lD18 cD18 kD18
  have b_l_rows := F_l_rows.binds (ps := ["_law_box_here", "_law_size"]) fun _ _ _ _ _ _ us hl => match us, hl with | [_, _], _ => rfl
  have F_l_loose := fun_mk (st := s_l_loose) lD19 cD19 kD19
  have b_l_loose := F_l_loose.binds (ps := ["_law_matter"]) fun _ _ _ _ _ _ us hl => match us, hl with | [_], _ => rfl
  have F_l_near := fun_mk (st := s_l_near) lD20 cD20 kD20
  have b_l_near := F_l_near.binds (ps := ["_law_box_here", "_law_rows_here"]) fun _ _ _ _ _ _ us hl => match us, hl with | [_, _], _ => rfl
  have F_l_below := fun_mk (st := s_l_below) lD21 cD21 kD21
  have b_l_below := F_l_below.binds (ps := ["_law_mine", "_law_its"]) fun _ _ _ _ _ _ us hl => match us, hl with | [_, _], _ => rfl
  have F_l_each := fun_mk (st := s_l_each) lD22 cD22 kD22
  have b_l_each := F_l_each.binds (ps := ["_law_rows_here", "_law_others", "_law_way"]) fun _ _ _ _ _ _ us hl => match us, hl with | [_, _, _], _ => rfl
  have F_l_turned_rows := fun_mk (st := s_l_turned_rows) lD23 cD23 kD23
  have b_l_turned_rows := F_l_turned_rows.binds (ps := ["_law_rows_here", "_law_at", "_law_by"]) fun _ _ _ _ _ _ us hl => match us, hl with | [_, _, _], _ => rfl
  have F_l_single_right := fun_mk (st := s_l_single_right) lD24 cD24 kD24
  have b_l_single_right := F_l_single_right.binds (ps := ["_law_box_here", "_law_rows_here", "_law_size"]) fun _ _ _ _ _ _ us hl => match us, hl with | [_, _, _], _ => rfl
  have F_l_right := fun_mk (st := s_l_right) lD25 cD25 kD25
  have b_l_right := F_l_right.binds (ps := ["_law_box_here"]) fun _ _ _ _ _ _ us hl => match us, hl with | [_], _ => rfl
  have F_law := fun_mk (st := sLaw) lD26 cD26 kD26
  have b_law := F_law.binds (ps := ["_law_script"]) fun _ _ _ _ _ _ us hl => match us, hl with | [_], _ => rfl
  have bl : Blts mg := ⟨PySem.W.mg_none_of X G b_len, PySem.W.mg_none_of X G b_abs, PySem.W.mg_none_of X G b_int, PySem.W.mg_none_of X G b_list, PySem.W.mg_none_of X G b_tuple, PySem.W.mg_none_of X G b_bool, PySem.W.mg_none_of X G b_str, PySem.W.mg_none_of X G b_enumerate, PySem.W.mg_none_of X G b_isinstance, PySem.W.mg_none_of X G b_all, PySem.W.mg_none_of X G b_any, PySem.W.mg_none_of X G b_zip, PySem.W.mg_none_of X G b_range, PySem.W.mg_none_of X G b_min, PySem.W.mg_none_of X G b_max, PySem.W.mg_none_of X G b_set, PySem.W.mg_none_of X G b_sorted, PySem.W.mg_none_of X G b_repr, PySem.W.mg_none_of X G b_sum⟩
  have n_loosest_high := PySem.W.mg_of X G aD0
  have n_tightest_high := PySem.W.mg_of X G aD1
  have n_high_within := PySem.W.mg_of X G aD2
  have n_total := PySem.W.mg_of X G aD3
  have n_no_gaps := PySem.W.mg_of X G aD4
  have n_gaps_within := PySem.W.mg_of X G aD5
  have n_gaps_join := PySem.W.mg_of X G aD6
  have n_gaps_meet := PySem.W.mg_of X G aD7
  have n_gaps_widen := PySem.W.mg_of X G aD8
  have n_gaps_without := PySem.W.mg_of X G aD9
  have n_gaps_moved := PySem.W.mg_of X G aD10
  have n_gaps_bound := PySem.W.mg_of X G aD11
  have n_l_box := PySem.W.mg_of X G aD12
  have n_l_take := PySem.W.mg_of X G aD13
  have n_l_cells := PySem.W.mg_of X G aD14
  have n_l_of := PySem.W.mg_of X G aD15
  have n_l_same := PySem.W.mg_of X G aD16
  have n_l_limit := PySem.W.mg_of X G aD17
  have n_l_rows := PySem.W.mg_of X G aD18
  have n_l_loose := PySem.W.mg_of X G aD19
  have n_l_near := PySem.W.mg_of X G aD20
  have n_l_below := PySem.W.mg_of X G aD21
  have n_l_each := PySem.W.mg_of X G aD22
  have n_l_turned_rows := PySem.W.mg_of X G aD23
  have n_l_single_right := PySem.W.mg_of X G aD24
  have n_l_right := PySem.W.mg_of X G aD25
  refine ⟨PySem.W.fnOf "law" "law" (defArgs sLaw) (defBody sLaw) (defScope sLaw) .none kVD26 dcD26 pmD26 anD26 cdD26 ctD26, fun s v => .of_eq rfl, fun base _ _ => ?_⟩
  have c_tightest_high : Cal l.prog w K mg base 1 "tightest_high" ["one", "other"] (spP K S_th) _ _ := ⟨ok_tightest_high bl F_tightest_high, b_tightest_high, F_tightest_high.kp, n_tightest_high⟩
  have c_loosest_high : Cal l.prog w K mg base 1 "loosest_high" ["one", "other"] (spP K S_lh) _ _ := ⟨ok_loosest_high bl F_loosest_high, b_loosest_high, F_loosest_high.kp, n_loosest_high⟩
  have c_total : Cal l.prog w K mg base 1 "total" ["one", "other"] (spP K S_to) _ _ := ⟨ok_total bl F_total, b_total, F_total.kp, n_total⟩
  have c_high_within : Cal l.prog w K mg base 1 "high_within" ["one", "other"] (spP K S_hw) _ _ := ⟨ok_high_within bl F_high_within, b_high_within, F_high_within.kp, n_high_within⟩
  have c_no_gaps : Cal l.prog w K mg base 1 "no_gaps" ["k"] (spP K S_no) _ _ := ⟨ok_no_gaps bl F_no_gaps, b_no_gaps, F_no_gaps.kp, n_no_gaps⟩
  have c_gaps_within : Cal l.prog w K mg base 2 "gaps_within" ["one", "other"] (spP K S_gw) _ _ := ⟨ok_gaps_within bl c_high_within F_gaps_within, b_gaps_within, F_gaps_within.kp, n_gaps_within⟩
  have c_gaps_join : Cal l.prog w K mg base 2 "gaps_join" ["one", "other"] (spP K (S_gm jnH)) _ _ := ⟨ok_gaps_join bl c_loosest_high F_gaps_join, b_gaps_join, F_gaps_join.kp, n_gaps_join⟩
  have c_gaps_meet : Cal l.prog w K mg base 2 "gaps_meet" ["one", "other"] (spP K (S_gm tmH)) _ _ := ⟨ok_gaps_meet bl c_tightest_high F_gaps_meet, b_gaps_meet, F_gaps_meet.kp, n_gaps_meet⟩
  have c_gaps_widen : Cal l.prog w K mg base 2 "gaps_widen" ["one", "other"] (spP K (S_gm wdH)) _ _ := ⟨ok_gaps_widen bl c_high_within F_gaps_widen, b_gaps_widen, F_gaps_widen.kp, n_gaps_widen⟩
  have c_gaps_without : Cal l.prog w K mg base 2 "gaps_without" ["gaps", "i"] (spP K S_wo) _ _ := ⟨ok_gaps_without bl F_gaps_without, b_gaps_without, F_gaps_without.kp, n_gaps_without⟩
  have c_gaps_moved : Cal l.prog w K mg base 2 "gaps_moved" ["gaps", "i", "n"] (spP K S_mv) _ _ := ⟨ok_gaps_moved bl c_total F_gaps_moved, b_gaps_moved, F_gaps_moved.kp, n_gaps_moved⟩
  have c_gaps_bound : Cal l.prog w K mg base 2 "gaps_bound" ["gaps", "i", "j", "n"] (spP K S_bd) _ _ := ⟨ok_gaps_bound bl c_tightest_high F_gaps_bound, b_gaps_bound, F_gaps_bound.kp, n_gaps_bound⟩
  have k_gaps_within : KB0 K _ p_gaps_within ["other", "one"] List.reverse List.reverse := kb0_of F_gaps_within (fun _ _ _ _ _ _ us hl => match us, hl with | [_, _], _ => rfl) (fun r _ => vals_rev r)
  have k_gaps_join : KB0 K _ p_gaps_join ["other", "one"] List.reverse List.reverse := kb0_of F_gaps_join (fun _ _ _ _ _ _ us hl => match us, hl with | [_, _], _ => rfl) (fun r _ => vals_rev r)
  have k_gaps_meet : KB0 K _ p_gaps_meet ["other", "one"] List.reverse List.reverse := kb0_of F_gaps_meet (fun _ _ _ _ _ _ us hl => match us, hl with | [_, _], _ => rfl) (fun r _ => vals_rev r)
  have k_gaps_widen : KB0 K _ p_gaps_widen ["other", "one"] List.reverse List.reverse := kb0_of F_gaps_widen (fun _ _ _ _ _ _ us hl => match us, hl with | [_, _], _ => rfl) (fun r _ => vals_rev r)
  have k_gaps_without : KB0 K _ p_gaps_without ["i", "gaps"] List.reverse List.reverse := kb0_of F_gaps_without (fun _ _ _ _ _ _ us hl => match us, hl with | [_, _], _ => rfl) (fun r _ => vals_rev r)
  have k_gaps_moved : KB0 K _ p_gaps_moved ["n", "i", "gaps"] List.reverse List.reverse := kb0_of F_gaps_moved (fun _ _ _ _ _ _ us hl => match us, hl with | [_, _, _], _ => rfl) (fun r _ => vals_rev r)
  have k_gaps_bound : KB0 K _ p_gaps_bound ["n", "j", "i", "gaps"] List.reverse List.reverse := kb0_of F_gaps_bound (fun _ _ _ _ _ _ us hl => match us, hl with | [_, _, _, _], _ => rfl) (fun r _ => vals_rev r)
  have T1 := ok_take (n := 1) (P := l.prog) (w := w) (mg := mg) (base := base) F_l_take
  have T2 := ok_take2 F_l_take T1 b_l_take F_l_take.kp n_l_take
  have c4_l_take : Cal l.prog w K mg base 3 "_law_take" ["_law_box_here", "_law_below_here"] (spB K 2 domT2 postT) _ _ := ⟨take_B2 T2, b_l_take, F_l_take.kp, n_l_take⟩
  have c_l_take : Cal l.prog w K mg base 2 "_law_take" ["_law_box_here", "_law_below_here"] (spB K 1 domT postT) _ _ := ⟨take_B T1, b_l_take, F_l_take.kp, n_l_take⟩
  have c_l_of : Cal l.prog w K mg base 3 "_law_of" ["_law_box_here", "_law_some"] (spB K 1 domO postO) _ _ := ⟨ok_l_of bl c_l_take F_l_of, b_l_of, F_l_of.kp, n_l_of⟩
  have c_l_same : Cal l.prog w K mg base 5 "_law_same" ["_law_found", "_law_due"] (spP K (S_same 5)) _ _ := ⟨all_same bl F_l_same b_l_same n_l_same 5, b_l_same, F_l_same.kp, n_l_same⟩
  have c_l_limit : Cal l.prog w K mg base 4 "_law_limit" ["_law_box_here"] (spB K 7 domL postL) _ _ := ⟨ok_l_limit bl c4_l_take c_l_of F_l_limit, b_l_limit, F_l_limit.kp, n_l_limit⟩
  have c_l_rows : Cal l.prog w K mg base 5 "_law_rows" ["_law_box_here", "_law_size"] (spB K 175 domN postRw) _ _ := ⟨ok_l_rows bl c_l_limit F_l_rows, b_l_rows, F_l_rows.kp, n_l_rows⟩
  have c_l_loose : Cal l.prog w K mg base 3 "_law_loose" ["_law_matter"] (spP K (S_loo 3)) _ _ := ⟨all_loose bl F_l_loose b_l_loose n_l_loose 3, b_l_loose, F_l_loose.kp, n_l_loose⟩
  have c_l_near : Cal l.prog w K mg base 5 "_law_near" ["_law_box_here", "_law_rows_here"] (spB K 275 domM postM) _ _ := ⟨ok_l_near bl c4_l_take c_l_limit F_l_near, b_l_near, F_l_near.kp, n_l_near⟩
  have c_l_below : Cal l.prog w K mg base 1 "_law_below" ["_law_mine", "_law_its"] (spP K S_hw) _ _ := ⟨ok_l_below bl F_l_below, b_l_below, F_l_below.kp, n_l_below⟩
  have c_l_each : Cal l.prog w K mg base 3 "_law_each" ["_law_rows_here", "_law_others", "_law_way"] (spP K S_ea) _ _ := ⟨ok_l_each bl c_l_below F_l_each, b_l_each, F_l_each.kp, n_l_each⟩
  have c_l_turned_rows : Cal l.prog w K mg base 1 "_law_turned_rows" ["_law_rows_here", "_law_at", "_law_by"] (spP K S_tu) _ _ := ⟨ok_l_turned_rows bl F_l_turned_rows, b_l_turned_rows, F_l_turned_rows.kp, n_l_turned_rows⟩
  have c_l_single_right : CalG l.prog w K mg base 6 "_law_single_right" ["_law_box_here", "_law_rows_here", "_law_size"] (spB K 7 domV postB) _ _ := ⟨ok_l_single_right bl c4_l_take c_l_of c_l_loose c_l_turned_rows c_gaps_without c_gaps_moved c_gaps_bound c_l_same k_gaps_without k_gaps_moved k_gaps_bound F_l_single_right, b_l_single_right, F_l_single_right.kp, n_l_single_right⟩
  have GR := ok_l_right bl c4_l_take c_l_of c_l_rows c_l_near c_l_loose c_l_each c_l_below c_no_gaps c_gaps_within c_gaps_join c_gaps_meet c_gaps_widen c_l_single_right c_l_same k_gaps_within k_gaps_join k_gaps_meet k_gaps_widen F_l_right
  have GC := ok_cells (P := l.prog) (w := w) (mg := mg) (base := base) (n := 0) F_l_cells bl.list bl.enumerate
  have GB := ok_box (P := l.prog) (w := w) (mg := mg) (base := base) (n := 0) F_l_box bl.len bl.abs bl.int
  exact ok_law F_law GC b_l_cells F_l_cells.kp n_l_cells GB b_l_box F_l_box.kp n_l_box GR b_l_right F_l_right.kp n_l_right bl.range bl.len bl.all
end Sh
set_option Elab.async false
open PySem PySem.W PyProof.Rows
set_option maxRecDepth 100000 in
set_option maxHeartbeats 0 in
theorem PySem.Challenge.cw_shadowruns_k42_gaps_item_by_item_holds : PySem.Challenge.rw_shadowruns_k42_gaps_item_by_item.Holds := by
  w_on; o_law; k_head; (case hw => w_witness2)
  k_fill
  refine Sh.walk_g (l := PySem.Challenge.rw_shadowruns_k42_gaps_item_by_item) (n := 63) (k := 8) (x := "_law_script") (sp := fun w => Sh.spLaw _) rfl (by decide) rfl ⟨rfl, by decide, by decide⟩ (fun w h Y => PySem.W.kIn_of Y) ?F (fun _ _ a ns hl _ hS => ⟨a, ns, rfl, hS, hl, fun _ => rfl⟩)
  case F =>
    intro w mg fa h KX G hmg
    refine' Sh.all_mk KX G hmg ?aD0 ?lD0 ?cD0 ?kD0 ?aD1 ?lD1 ?cD1 ?kD1 ?aD2 ?lD2 ?cD2 ?kD2 ?aD3 ?lD3 ?cD3 ?kD3 ?aD4 ?lD4 ?cD4 ?kD4 ?aD5 ?lD5 ?cD5 ?kD5 ?aD6 ?lD6 ?cD6 ?kD6 ?aD7 ?lD7 ?cD7 ?kD7 ?aD8 ?lD8 ?cD8 ?kD8 ?aD9 ?lD9 ?cD9 ?kD9 ?aD10 ?lD10 ?cD10 ?kD10 ?aD11 ?lD11 ?cD11 ?kD11 ?aD12 ?lD12 ?cD12 ?kD12 ?aD13 ?lD13 ?cD13 ?kD13 ?aD14 ?lD14 ?cD14 ?kD14 ?aD15 ?lD15 ?cD15 ?kD15 ?aD16 ?lD16 ?cD16 ?kD16 ?aD17 ?lD17 ?cD17 ?kD17 ?aD18 ?lD18 ?cD18 ?kD18 ?aD19 ?lD19 ?cD19 ?kD19 ?aD20 ?lD20 ?cD20 ?kD20 ?aD21 ?lD21 ?cD21 ?kD21 ?aD22 ?lD22 ?cD22 ?kD22 ?aD23 ?lD23 ?cD23 ?kD23 ?aD24 ?lD24 ?cD24 ?kD24 ?aD25 ?lD25 ?cD25 ?kD25 ?aD26 ?lD26 ?cD26 ?kD26 ?b_len ?b_abs ?b_int ?b_list ?b_tuple ?b_bool ?b_str ?b_enumerate ?b_isinstance ?b_all ?b_any ?b_zip ?b_range ?b_min ?b_max ?b_set ?b_sorted ?b_repr ?b_sum
    (case aD0 => k_is)
    (case lD0 => k_is)
    (case cD0 => k_is)
    (case kD0 => k_is)
    (case aD1 => k_is)
    (case lD1 => k_is)
    (case cD1 => k_is)
    (case kD1 => k_is)
    (case aD2 => k_is)
    (case lD2 => k_is)
    (case cD2 => k_is)
    (case kD2 => k_is)
    (case aD3 => k_is)
    (case lD3 => k_is)
    (case cD3 => k_is)
    (case kD3 => k_is)
    (case aD4 => k_is)
    (case lD4 => k_is)
    (case cD4 => k_is)
    (case kD4 => k_is)
    (case aD5 => k_is)
    (case lD5 => k_is)
    (case cD5 => k_is)
    (case kD5 => k_is)
    (case aD6 => k_is)
    (case lD6 => k_is)
    (case cD6 => k_is)
    (case kD6 => k_is)
    (case aD7 => k_is)
    (case lD7 => k_is)
    (case cD7 => k_is)
    (case kD7 => k_is)
    (case aD8 => k_is)
    (case lD8 => k_is)
    (case cD8 => k_is)
    (case kD8 => k_is)
    (case aD9 => k_is)
    (case lD9 => k_is)
    (case cD9 => k_is)
    (case kD9 => k_is)
    (case aD10 => k_is)
    (case lD10 => k_is)
    (case cD10 => k_is)
    (case kD10 => k_is)
    (case aD11 => k_is)
    (case lD11 => k_is)
    (case cD11 => k_is)
    (case kD11 => k_is)
    (case aD12 => k_is)
    (case lD12 => k_is)
    (case cD12 => k_is)
    (case kD12 => k_is)
    (case aD13 => k_is)
    (case lD13 => k_is)
    (case cD13 => k_is)
    (case kD13 => k_is)
    (case aD14 => k_is)
    (case lD14 => k_is)
    (case cD14 => k_is)
    (case kD14 => k_is)
    (case aD15 => k_is)
    (case lD15 => k_is)
    (case cD15 => k_is)
    (case kD15 => k_is)
    (case aD16 => k_is)
    (case lD16 => k_is)
    (case cD16 => k_is)
    (case kD16 => k_is)
    (case aD17 => k_is)
    (case lD17 => k_is)
    (case cD17 => k_is)
    (case kD17 => k_is)
    (case aD18 => k_is)
    (case lD18 => k_is)
    (case cD18 => k_is)
    (case kD18 => k_is)
    (case aD19 => k_is)
    (case lD19 => k_is)
    (case cD19 => k_is)
    (case kD19 => k_is)
    (case aD20 => k_is)
    (case lD20 => k_is)
    (case cD20 => k_is)
    (case kD20 => k_is)
    (case aD21 => k_is)
    (case lD21 => k_is)
    (case cD21 => k_is)
    (case kD21 => k_is)
    (case aD22 => k_is)
    (case lD22 => k_is)
    (case cD22 => k_is)
    (case kD22 => k_is)
    (case aD23 => k_is)
    (case lD23 => k_is)
    (case cD23 => k_is)
    (case kD23 => k_is)
    (case aD24 => k_is)
    (case lD24 => k_is)
    (case cD24 => k_is)
    (case kD24 => k_is)
    (case aD25 => k_is)
    (case lD25 => k_is)
    (case cD25 => k_is)
    (case kD25 => k_is)
    (case aD26 => k_is)
    (case lD26 => k_is)
    (case cD26 => k_is)
    (case kD26 => k_is)
    (case b_len => k_is)
    (case b_abs => k_is)
    (case b_int => k_is)
    (case b_list => k_is)
    (case b_tuple => k_is)
    (case b_bool => k_is)
    (case b_str => k_is)
    (case b_enumerate => k_is)
    (case b_isinstance => k_is)
    (case b_all => k_is)
    (case b_any => k_is)
    (case b_zip => k_is)
    (case b_range => k_is)
    (case b_min => k_is)
    (case b_max => k_is)
    (case b_set => k_is)
    (case b_sorted => k_is)
    (case b_repr => k_is)
    (case b_sum => k_is)
