import PyProof.Rows.All
import Wide.All
import OpenK.AllK
import Wide.FinOn
import HandS.ForMost
import HandS.Flow
import HandS.IsInst
import HandS.FStr
import HandS.Zip
import HandS.Walk
import HandS.Wide
import HandS.TupAny
import HandS.Defaults
import HandS.Style
import HandS.SetFor
import HandS.Strs
import HandS.SortKw
import KE.DatumOrd
import HandS.NoneIn
import HandS.Conv
import HandS.Rev
import HandS.RevTup
import HandS.MapObj
import HandS.MapJoin
import HandS.Gcd
import PyProof.Rows.SortShellAny
import HandS.FromBytesMap
import KE.GoesMore
import PyProof.TupleOfGen
import HandS.Iter
import KE.KDictZip
import PyProof.ListNew
import HandS.Deep
import KE.GoesNew
import KE.KStar
import HandS.Star
import PyProof.Draws
import KE.GoesEnum
import KE.KRevSl
import PyProof.ReprRoads
import PyProof.StrLawsRepr
import PyProof.Rows.StrDigits
import PyProof.Rows.RegStrFacts
import KE.RegKIsAll
import PySem.Challenge.RW_shadowruns_k40_gaps_closed_by_ways
set_option Elab.async false
set_option linter.all false
set_option maxRecDepth 100000
set_option maxHeartbeats 4000000
/-! A layer of its own over the hand layer: values as data, the heap out of sight. -/
namespace Sh
open PySem PySem.Spec PyProof.Rows L2
inductive Dt where
  | non | bl (b : Bool) | int (i : Int) | str (s : Str) | ty (n : String) | tup (l : List Dt) | lst (l : List Dt)
section
variable (K : PySem.W.Frag)
mutual
def RD (G : Hp) : Dt → V → Prop
  | .non, v => v = .non
  | .bl b, v => v = .bl b
  | .int i, v => v = .int i
  | .str s, v => v = .str s
  | .ty n, v => v = .ty n
  | .tup l, v => ∃ a xs, v = .ref a ∧ SqT K G a xs ∧ RDs G l xs
  | .lst l, v => ∃ a xs, v = .ref a ∧ G a = some (.lst xs) ∧ RDs G l xs
def RDs (G : Hp) : List Dt → List V → Prop
  | [], xs => xs = []
  | d :: l, xs => ∃ x r, xs = x :: r ∧ RD G d x ∧ RDs G l r
end
end
section
variable {K : PySem.W.Frag}
theorem same_rd {H H' : Hp} {a : Addr} {u : HO} (e : Same H H') (h : Rd H a u) : Rd H' a u := by
  rcases h with h | ⟨o, h⟩
  · exact .inl (e _ _ h)
  · exact .inr ⟨o, e _ _ h⟩
theorem same_sqT {H H' : Hp} {a : Addr} {xs : List V} (e : Same H H') (h : SqT K H a xs) : SqT K H' a xs := by
  rcases h with h | h
  · exact .inl (same_rd e h)
  · exact .inr h
theorem same_sqL {H H' : Hp} {a : Addr} {xs : List V} (e : Same H H') (h : SqL K H a xs) : SqL K H' a xs := by
  rcases h with h | h
  · exact .inl (same_rd e h)
  · exact .inr h
mutual
theorem RD.same {G G' : Hp} (k : Same G G') : ∀ {d : Dt} {v : V}, RD K G d v → RD K G' d v
  | .non, _, h => h
  | .bl _, _, h => h
  | .int _, _, h => h
  | .str _, _, h => h
  | .ty _, _, h => h
  | .tup _, _, ⟨a, xs, e, q, r⟩ => ⟨a, xs, e, same_sqT k q, RDs.same k r⟩
  | .lst _, _, ⟨a, xs, e, q, r⟩ => ⟨a, xs, e, k _ _ q, RDs.same k r⟩
theorem RDs.same {G G' : Hp} (k : Same G G') : ∀ {l : List Dt} {xs : List V}, RDs K G l xs → RDs K G' l xs
  | [], _, h => h
  | _ :: _, _, ⟨x, r, e, h1, h2⟩ => ⟨x, r, e, RD.same k h1, RDs.same k h2⟩
end
theorem RDs.length {G : Hp} : ∀ {l : List Dt} {xs : List V}, RDs K G l xs → xs.length = l.length
  | [], _, h => by rw [show _ = [] from h]; rfl
  | _ :: _, _, ⟨x, r, e, h1, h2⟩ => by rw [e, List.length_cons, List.length_cons, RDs.length h2]
theorem RDs.get {G : Hp} : ∀ {l : List Dt} {xs : List V} {i : Nat} {d : Dt}, RDs K G l xs → l[i]? = some d → ∃ x, xs[i]? = some x ∧ RD K G d x
  | [], _, i, _, h, e => by simp at e
  | d :: l, _, 0, _, ⟨y, r, e1, h1, h2⟩, e => by
    cases e; subst e1; exact ⟨y, rfl, h1⟩
  | d :: l, _, i + 1, _, ⟨y, r, e1, h1, h2⟩, e => by
    subst e1
    obtain ⟨x, q1, q2⟩ := RDs.get (i := i) h2 (by simpa using e)
    exact ⟨x, by simpa using q1, q2⟩
theorem RDs.back {G : Hp} : ∀ {l : List Dt} {xs : List V} {i : Nat} {x : V}, RDs K G l xs → xs[i]? = some x → ∃ d, l[i]? = some d ∧ RD K G d x
  | [], _, i, x, h, e => by rw [show _ = [] from h] at e; simp at e
  | d :: l, _, 0, x, ⟨y, r, e1, h1, h2⟩, e => by
    rw [e1] at e; cases e; exact ⟨d, rfl, h1⟩
  | d :: l, _, i + 1, x, ⟨y, r, e1, h1, h2⟩, e => by
    rw [e1] at e
    obtain ⟨d', q1, q2⟩ := RDs.back (i := i) h2 (by simpa using e)
    exact ⟨d', by simpa using q1, q2⟩
theorem RDs.snoc {G : Hp} : ∀ {l : List Dt} {xs : List V} {d : Dt} {x : V}, RDs K G l xs → RD K G d x → RDs K G (l ++ [d]) (xs ++ [x])
  | [], _, d, x, h, r => by rw [show _ = [] from h]; exact ⟨x, [], rfl, r, rfl⟩
  | d :: l, _, _, x, ⟨y, r, e1, h1, h2⟩, q => ⟨y, r ++ [x], by rw [e1]; rfl, h1, RDs.snoc h2 q⟩
theorem RDs.app {G : Hp} : ∀ {l m : List Dt} {xs ys : List V}, RDs K G l xs → RDs K G m ys → RDs K G (l ++ m) (xs ++ ys)
  | [], _, _, _, h, r => by rw [show _ = [] from h]; exact r
  | d :: l, _, _, ys, ⟨y, r, e1, h1, h2⟩, q => ⟨y, r ++ ys, by rw [e1]; rfl, h1, RDs.app h2 q⟩
theorem RDs.take {G : Hp} : ∀ {l : List Dt} {xs : List V} (n : Nat), RDs K G l xs → RDs K G (l.take n) (xs.take n)
  | _, _, 0, h => by rw [List.take_zero, List.take_zero]; rfl
  | [], _, n + 1, h => by rw [show _ = [] from h]; rfl
  | d :: l, _, n + 1, ⟨y, r, e1, h1, h2⟩ => ⟨y, r.take n, by rw [e1]; rfl, h1, RDs.take n h2⟩
theorem RDs.drop {G : Hp} : ∀ {l : List Dt} {xs : List V} (n : Nat), RDs K G l xs → RDs K G (l.drop n) (xs.drop n)
  | _, _, 0, h => h
  | [], _, n + 1, h => by rw [show _ = [] from h]; rfl
  | d :: l, _, n + 1, ⟨y, r, e1, h1, h2⟩ => by rw [e1]; exact RDs.drop n h2
theorem RDs.ints {G : Hp} : ∀ {ns : List Int} {xs : List V}, RDs K G (ns.map Dt.int) xs → xs = ns.map V.int
  | [], _, h => h
  | n :: ns, _, ⟨y, r, e1, h1, h2⟩ => by rw [e1, show y = V.int n from h1, RDs.ints h2]; rfl
theorem RDs.bls {G : Hp} : ∀ {ns : List Bool} {xs : List V}, RDs K G (ns.map Dt.bl) xs → xs = ns.map V.bl
  | [], _, h => h
  | n :: ns, _, ⟨y, r, e1, h1, h2⟩ => by rw [e1, show y = V.bl n from h1, RDs.bls h2]; rfl
theorem RDs.one {G : Hp} {d : Dt} {xs : List V} (h : RDs K G [d] xs) : ∃ x, xs = [x] ∧ RD K G d x := by
  obtain ⟨x, r, rfl, h1, rfl⟩ := h
  exact ⟨x, rfl, h1⟩
theorem RDs.two {G : Hp} {d e : Dt} {xs : List V} (h : RDs K G [d, e] xs) : ∃ x y, xs = [x, y] ∧ RD K G d x ∧ RD K G e y := by
  obtain ⟨x, r, rfl, h1, y, r2, rfl, h2, rfl⟩ := h
  exact ⟨x, y, rfl, h1, h2⟩
theorem same_up {H : Hp} {p : Addr} {o : HO} (h : H p = none) : Same H (upd H p o) := fun b x e => by
  rw [upd_ne (ne_of_none e h)]; exact e
theorem same_upd {G H : Hp} {p : Addr} {o : HO} (h : Same G H) : Same (upd G p o) (upd H p o) := fun b x e => by
  by_cases z : b = p
  · subst z; rw [upd_same] at e ⊢; exact e
  · rw [upd_ne z] at e ⊢; exact h _ _ e
/-! ### what stands in the slots -/
def BxM : Int := 1000000000000
def Bx (H : Hp) (b : Addr) (y c : Int) : Prop := ∃ x : Int, H b = some (.lst [.int x, .int y, .int c]) ∧ 0 ≤ x ∧ 0 ≤ y ∧ y < 4611686018427387904
inductive En where
  | no | da (d : Dt) | own (l : List Dt) | bx (b : Addr) (f : Nat)
def En.isOwn : En → Prop
  | .own _ => True
  | .bx _ _ => True
  | _ => False
end
/-- G: what is data; H: all; B: what others hold and is no data -/
structure Mt (K : PySem.W.Frag) (B : Addr → Prop) (ρ : List En) (σ : L2.St) (G H : Hp) : Prop where
  sub : Same G H
  pro : ∀ a, B a → G a = none ∧ H a ≠ none
  len : σ.length = ρ.length
  da : ∀ (i : Nat) (d : Dt), ρ[i]? = some (.da d) → ∃ v, σ[i]? = some (some v) ∧ RD K G d v
  own : ∀ (i : Nat) (l : List Dt), ρ[i]? = some (.own l) → ∃ (q : Addr) (xs : List V), σ[i]? = some (some (V.ref q)) ∧ H q = some (.lst xs) ∧ RDs K G l xs ∧ G q = none ∧ ¬ B q
  bx : ∀ (i : Nat) (b : Addr) (f : Nat), ρ[i]? = some (.bx b f) → ∃ (y c : Int), σ[i]? = some (some (V.ref b)) ∧ Bx H b y c ∧ 0 ≤ c ∧ c + f ≤ BxM ∧ G b = none ∧ ¬ B b
  dis : ∀ (i j : Nat) (e e' : En) (a : Addr), ρ[i]? = some e → ρ[j]? = some e' → e.isOwn → e'.isOwn → i ≠ j → σ[i]? = some (some (V.ref a)) → σ[j]? = some (some (V.ref a)) → False
/-- what others hold stays -/
def Tr (B : Addr → Prop) (H H' : Hp) : Prop := ∀ a o, B a → H a = some o → H' a = some o
theorem Tr.refl {B : Addr → Prop} {H : Hp} : Tr B H H := fun _ _ _ e => e
theorem Tr.trans {B : Addr → Prop} {H H1 H2 : Hp} (x : Tr B H H1) (y : Tr B H1 H2) : Tr B H H2 := fun a o b e => y a o b (x a o b e)
theorem Tr.same {B : Addr → Prop} {H H' : Hp} (x : Same H H') : Tr B H H' := fun a o _ e => x a o e
/-- a step that only lays new data -/
structure Nw (G H G' H' : Hp) : Prop where
  g : Same G G'
  s : Same G' H'
  h : Same H H'
  f : ∀ a, G a = none → H a ≠ none → G' a = none
theorem Nw.refl {G H : Hp} (s : Same G H) : Nw G H G H := ⟨Same.refl _, s, Same.refl _, fun _ h _ => h⟩
theorem Nw.trans {G H G1 H1 G2 H2 : Hp} (x : Nw G H G1 H1) (y : Nw G1 H1 G2 H2) : Nw G H G2 H2 :=
  ⟨x.g.trans y.g, y.s, x.h.trans y.h, fun a h1 h2 => y.f a (x.f a h1 h2) (fun z => by
    cases e : H a with
    | none => exact h2 e
    | some o => rw [x.h _ _ e] at z; cases z)⟩
theorem Nw.new {G H : Hp} {p : Addr} {o : HO} (s : Same G H) (n : H p = none) : Nw G H (upd G p o) (upd H p o) :=
  ⟨same_up (s.free n), same_upd s, same_up n, fun a h1 h2 => by
    rw [upd_ne (fun z => h2 (by rw [z]; exact n))]; exact h1⟩
section
variable {K : PySem.W.Frag} {B : Addr → Prop} {ρ : List En} {σ : L2.St} {G H G' H' : Hp}
theorem ne_none {H H' : Hp} {a : Addr} (s : Same H H') (h : H a ≠ none) : H' a ≠ none := fun z => h (s.free z)
theorem some_ne {H : Hp} {a : Addr} {o : HO} (e : H a = some o) : H a ≠ none := fun z => by rw [z] at e; cases e
theorem Bx.ne {b : Addr} {y c : Int} (h : Bx H b y c) : H b ≠ none := by
  obtain ⟨x, e, _⟩ := h
  exact some_ne e
theorem Bx.same {b : Addr} {y c : Int} (s : Same H H') (h : Bx H b y c) : Bx H' b y c := by
  obtain ⟨x, e, r⟩ := h
  exact ⟨x, s _ _ e, r⟩
theorem Mt.nw (m : Mt K B ρ σ G H) (n : Nw G H G' H') : Mt K B ρ σ G' H' where
  sub := n.s
  pro := fun a b => ⟨n.f a (m.pro a b).1 (m.pro a b).2, ne_none n.h (m.pro a b).2⟩
  len := m.len
  da := fun i d e => by
    obtain ⟨v, h1, h2⟩ := m.da i d e
    exact ⟨v, h1, h2.same n.g⟩
  own := fun i l e => by
    obtain ⟨q, xs, h1, h2, h3, h4, h5⟩ := m.own i l e
    exact ⟨q, xs, h1, n.h _ _ h2, h3.same n.g, n.f q h4 (some_ne h2), h5⟩
  bx := fun i b f e => by
    obtain ⟨y, c, h1, h2, h3, h4, h5, h6⟩ := m.bx i b f e
    exact ⟨y, c, h1, h2.same n.h, h3, h4, n.f b h5 h2.ne, h6⟩
  dis := m.dis
theorem get_set {α : Type} {l : List α} {i j : Nat} {x y : α} (h : (l.set i x)[j]? = some y) : (i = j ∧ y = x ∧ i < l.length) ∨ (i ≠ j ∧ l[j]? = some y) := by
  rw [List.getElem?_set] at h
  by_cases e : i = j
  · rw [if_pos e] at h
    split at h
    · cases h; exact .inl ⟨e, rfl, by assumption⟩
    · cases h
  · rw [if_neg e] at h; exact .inr ⟨e, h⟩
theorem set_at {α : Type} {l : List α} {i : Nat} {x : α} (h : i < l.length) : (l.set i x)[i]? = some x := by
  rw [List.getElem?_set, if_pos rfl, if_pos h]
theorem set_off {α : Type} {l : List α} {i j : Nat} {x : α} (h : i ≠ j) : (l.set i x)[j]? = l[j]? := by
  rw [List.getElem?_set, if_neg h]
/-- a slot gets data -/
theorem Mt.set (m : Mt K B ρ σ G H) (i : Nat) {d : Dt} {v : V} (r : RD K G d v) : Mt K B (ρ.set i (.da d)) (σ.set i (some v)) G H where
  sub := m.sub
  pro := m.pro
  len := by rw [List.length_set, List.length_set]; exact m.len
  da := fun j e h => by
    rcases get_set h with ⟨rfl, z, lt⟩ | ⟨ne, z⟩
    · cases z; exact ⟨v, set_at (by rw [m.len]; exact lt), r⟩
    · rw [set_off ne]; exact m.da j e z
  own := fun j l h => by
    rcases get_set h with ⟨rfl, z, lt⟩ | ⟨ne, z⟩
    · cases z
    · rw [set_off ne]; exact m.own j l z
  bx := fun j b f h => by
    rcases get_set h with ⟨rfl, z, lt⟩ | ⟨ne, z⟩
    · cases z
    · rw [set_off ne]; exact m.bx j b f z
  dis := fun j k e e' a h1 h2 o1 o2 ne s1 s2 => by
    rcases get_set h1 with ⟨rfl, z, lt⟩ | ⟨n1, z1⟩
    · subst z; exact o1
    · rcases get_set h2 with ⟨rfl, z, lt⟩ | ⟨n2, z2⟩
      · subst z; exact o2
      · rw [set_off n1] at s1; rw [set_off n2] at s2; exact m.dis j k e e' a z1 z2 o1 o2 ne s1 s2
/-- a slot is forgotten -/
theorem Mt.drop (m : Mt K B ρ σ G H) (i : Nat) (o : Option V) : Mt K B (ρ.set i .no) (σ.set i o) G H where
  sub := m.sub
  pro := m.pro
  len := by rw [List.length_set, List.length_set]; exact m.len
  da := fun j e h => by
    rcases get_set h with ⟨rfl, z, lt⟩ | ⟨ne, z⟩
    · cases z
    · rw [set_off ne]; exact m.da j e z
  own := fun j l h => by
    rcases get_set h with ⟨rfl, z, lt⟩ | ⟨ne, z⟩
    · cases z
    · rw [set_off ne]; exact m.own j l z
  bx := fun j b f h => by
    rcases get_set h with ⟨rfl, z, lt⟩ | ⟨ne, z⟩
    · cases z
    · rw [set_off ne]; exact m.bx j b f z
  dis := fun j k e e' a h1 h2 o1 o2 ne s1 s2 => by
    rcases get_set h1 with ⟨rfl, z, lt⟩ | ⟨n1, z1⟩
    · subst z; exact o1
    · rcases get_set h2 with ⟨rfl, z, lt⟩ | ⟨n2, z2⟩
      · subst z; exact o2
      · rw [set_off n1] at s1; rw [set_off n2] at s2; exact m.dis j k e e' a z1 z2 o1 o2 ne s1 s2
/-- less is protected -/
theorem Mt.less (m : Mt K B ρ σ G H) {B' : Addr → Prop} (h : ∀ a, B' a → B a) : Mt K B' ρ σ G H where
  sub := m.sub
  pro := fun a b => m.pro a (h a b)
  len := m.len
  da := m.da
  own := fun i l e => by
    obtain ⟨q, xs, h1, h2, h3, h4, h5⟩ := m.own i l e
    exact ⟨q, xs, h1, h2, h3, h4, fun z => h5 (h _ z)⟩
  bx := fun i b f e => by
    obtain ⟨y, c, h1, h2, h3, h4, h5, h6⟩ := m.bx i b f e
    exact ⟨y, c, h1, h2, h3, h4, h5, fun z => h6 (h _ z)⟩
  dis := m.dis
/-- a new object that is no data is protected, too -/
theorem Mt.guard (m : Mt K B ρ σ G H) {p : Addr} {o : HO} (n : H p = none) : Mt K (fun a => B a ∨ a = p) ρ σ G (upd H p o) where
  sub := m.sub.trans (same_up n)
  pro := fun a b => by
    rcases b with b | rfl
    · exact ⟨(m.pro a b).1, ne_none (same_up n) (m.pro a b).2⟩
    · exact ⟨m.sub.free n, some_ne upd_same⟩
  len := m.len
  da := m.da
  own := fun i l e => by
    obtain ⟨q, xs, h1, h2, h3, h4, h5⟩ := m.own i l e
    exact ⟨q, xs, h1, same_up n _ _ h2, h3, h4, fun z => z.elim h5 (ne_of_none h2 n)⟩
  bx := fun i b f e => by
    obtain ⟨y, c, h1, h2, h3, h4, h5, h6⟩ := m.bx i b f e
    exact ⟨y, c, h1, h2.same (same_up n), h3, h4, h5, fun z => z.elim h6 (fun w => h2.ne (by rw [w]; exact n))⟩
  dis := m.dis
/-- a protected object changes -/
theorem Mt.turn (m : Mt K B ρ σ G H) {p : Addr} {o : HO} (bp : B p) : Mt K B ρ σ G (upd H p o) where
  sub := fun a u e => by
    rw [upd_ne (fun z => by rw [z, (m.pro p bp).1] at e; cases e)]; exact m.sub _ _ e
  pro := fun a ba => ⟨(m.pro a ba).1, by
    by_cases z : a = p
    · subst z; exact some_ne upd_same
    · rw [upd_ne z]; exact (m.pro a ba).2⟩
  len := m.len
  da := m.da
  own := fun i l e => by
    obtain ⟨q, xs, h1, h2, h3, h4, h5⟩ := m.own i l e
    exact ⟨q, xs, h1, by rw [upd_ne (fun z => h5 (by rw [z]; exact bp))]; exact h2, h3, h4, h5⟩
  bx := fun i b f e => by
    obtain ⟨y, k, h1, ⟨x, h2, h2'⟩, h3, h4, h5, h6⟩ := m.bx i b f e
    exact ⟨y, k, h1, ⟨x, by rw [upd_ne (fun z => h6 (by rw [z]; exact bp))]; exact h2, h2'⟩, h3, h4, h5, h6⟩
  dis := m.dis
/-- an own list becomes data -/
theorem Mt.frz (m : Mt K B ρ σ G H) {i : Nat} {l : List Dt} (e : ρ[i]? = some (.own l)) : ∃ G', Mt K B (ρ.set i (.da (.lst l))) σ G' H ∧ Same G G' := by
  obtain ⟨q, xs, h1, h2, h3, h4, h5⟩ := m.own i l e
  have sg : Same G (upd G q (.lst xs)) := same_up h4
  have li : i < ρ.length := (List.getElem?_eq_some_iff.mp e).1
  refine ⟨upd G q (.lst xs), ⟨?_, ?_, ?_, ?_, ?_, ?_, ?_⟩, sg⟩
  · intro a o z
    by_cases w : a = q
    · subst w; rw [upd_same] at z; cases z; exact h2
    · rw [upd_ne w] at z; exact m.sub _ _ z
  · exact fun a b => ⟨by rw [upd_ne (fun z => h5 (by rw [← z]; exact b))]; exact (m.pro a b).1, (m.pro a b).2⟩
  · rw [List.length_set]; exact m.len
  · intro j d h
    rcases get_set h with ⟨rfl, z, lt⟩ | ⟨ne, z⟩
    · cases z; exact ⟨_, h1, q, xs, rfl, upd_same, h3.same sg⟩
    · obtain ⟨v, z1, z2⟩ := m.da j d z
      exact ⟨v, z1, z2.same sg⟩
  · intro j k h
    rcases get_set h with ⟨rfl, z, lt⟩ | ⟨ne, z⟩
    · cases z
    · obtain ⟨q', ys, z1, z2, z3, z4, z5⟩ := m.own j k z
      exact ⟨q', ys, z1, z2, z3.same sg, by rw [upd_ne (fun w => m.dis i j _ _ q e z trivial trivial ne h1 (by rw [← w]; exact z1))]; exact z4, z5⟩
  · intro j b f h
    rcases get_set h with ⟨rfl, z, lt⟩ | ⟨ne, z⟩
    · cases z
    · obtain ⟨y, c, z1, z2, z3, z4, z5, z6⟩ := m.bx j b f z
      exact ⟨y, c, z1, z2, z3, z4, by rw [upd_ne (fun w => m.dis i j _ _ q e z trivial trivial ne h1 (by rw [← w]; exact z1))]; exact z5, z6⟩
  · intro j k e1 e2 a g1 g2 o1 o2 ne s1 s2
    rcases get_set g1 with ⟨rfl, z, lt⟩ | ⟨n1, z1⟩
    · subst z; exact o1
    · rcases get_set g2 with ⟨rfl, z, lt⟩ | ⟨n2, z2⟩
      · subst z; exact o2
      · exact m.dis j k e1 e2 a z1 z2 o1 o2 ne s1 s2
end
end Sh
set_option Elab.async false
set_option linter.all false
set_option maxRecDepth 100000
set_option maxHeartbeats 4000000
namespace Sh
open PySem PySem.Spec PyProof.Rows L2
section
variable (K : PySem.W.Frag)
/-- what must hold so that an expression gives d, leaving ρ', of which Ψ d ρ' holds: of data alone -/
def AE (te : TE) (ρ : List En) (Ψ : Dt → List En → Prop) : Prop := ∀ B σ G H, Mt K B ρ σ G H → ∀ Q : VK, (∀ v d ρ' G' H', Mt K B ρ' σ G' H' → Same G G' → Tr B H H' → RD K G' d v → Ψ d ρ' → Q v H') → te σ H Q
def AT (tt : TT) (ρ : List En) (Ψ : Bool → List En → Prop) : Prop := ∀ B σ G H, Mt K B ρ σ G H → ∀ Q : Bool → Hp → Prop, (∀ b ρ' G' H', Mt K B ρ' σ G' H' → Same G G' → Tr B H H' → Ψ b ρ' → Q b H') → tt σ H Q
def AA (ta : TA) (ρ : List En) (Ψ : List Dt → List En → Prop) : Prop := ∀ B σ G H, Mt K B ρ σ G H → ∀ Q : List V → Hp → Prop, (∀ vs ds ρ' G' H', Mt K B ρ' σ G' H' → Same G G' → Tr B H H' → RDs K G' ds vs → Ψ ds ρ' → Q vs H') → ta σ H Q
/-- a block: N of what it goes on with, R of what it returns -/
def AS (ts : TS) (ρ : List En) (N : List En → Prop) (R : Dt → List En → Prop) : Prop := ∀ B σ G H, Mt K B ρ σ G H → ∀ D : Ends,
  (∀ σ' ρ' G' H', Mt K B ρ' σ' G' H' → Same G G' → Tr B H H' → N ρ' → D.nx σ' H') →
  (∀ v d σ' ρ' G' H', Mt K B ρ' σ' G' H' → Same G G' → Tr B H H' → RD K G' d v → R d ρ' → D.rt v H') → ts D σ H
/-- by values: of data to data, only new data laid -/
def AR (r : R2) (d1 d2 : Dt) (Φ : Dt → Prop) : Prop := ∀ G H, Same G H → ∀ x y, RD K G d1 x → RD K G d2 y → ∀ Q : VK, (∀ v d G' H', Nw G H G' H' → RD K G' d v → Φ d → Q v H') → r x y H Q
def AC (r : List V → Hp → VK → Prop) (ds : List Dt) (Φ : Dt → Prop) : Prop := ∀ G H, Same G H → ∀ vs, RDs K G ds vs → ∀ Q : VK, (∀ v d G' H', Nw G H G' H' → RD K G' d v → Φ d → Q v H') → r vs H Q
end
section
variable {K : PySem.W.Frag} {ρ : List En} {Ψ : Dt → List En → Prop} {ΨT : Bool → List En → Prop} {ΨA : List Dt → List En → Prop} {N : List En → Prop} {R : Dt → List En → Prop} {Φ : Dt → Prop}
theorem ae_var {i : Nat} {d : Dt} (e : ρ[i]? = some (.da d)) (h : Ψ d ρ) : AE K (tVar i) ρ Ψ := fun B σ G H m Q q => by
  obtain ⟨v, h1, h2⟩ := m.da i d e
  exact ⟨v, h1, q v d ρ G H m (Same.refl _) Tr.refl h2 h⟩
theorem ae_c {v : V} (d : Dt) (e : ∀ G, RD K G d v) (h : Ψ d ρ) : AE K (tC v) ρ Ψ := fun B σ G H m Q q => q v d ρ G H m (Same.refl _) Tr.refl (e G) h
theorem ae_int {i : Int} (h : Ψ (.int i) ρ) : AE K (tC (.int i)) ρ Ψ := ae_c (.int i) (fun _ => rfl) h
theorem ae_non (h : Ψ .non ρ) : AE K (tC .non) ρ Ψ := ae_c .non (fun _ => rfl) h
theorem ae_mono {te : TE} {Ψ' : Dt → List En → Prop} (h : AE K te ρ Ψ') (k : ∀ d ρ', Ψ' d ρ' → Ψ d ρ') : AE K te ρ Ψ := fun B σ G H m Q q =>
  h B σ G H m Q fun v d ρ' G' H' m' s t r p => q v d ρ' G' H' m' s t r (k d ρ' p)
theorem ae_op {r : R2} {ta tb : TE} (h : AE K ta ρ fun d1 ρ1 => AE K tb ρ1 fun d2 ρ2 => AR K r d1 d2 fun d => Ψ d ρ2) : AE K (tOp r ta tb) ρ Ψ := fun B σ G H m Q q =>
  h B σ G H m _ fun x d1 ρ1 G1 H1 m1 s1 t1 r1 h1 => h1 B σ G1 H1 m1 _ fun y d2 ρ2 G2 H2 m2 s2 t2 r2 h2 =>
    h2 G2 H2 m2.sub x y (r1.same s2) r2 Q fun v d G3 H3 n3 r3 p3 => q v d ρ2 G3 H3 (m2.nw n3) ((s1.trans s2).trans n3.g) ((t1.trans t2).trans (Tr.same n3.h)) r3 p3
theorem aa_nil (h : ΨA [] ρ) : AA K tNil ρ ΨA := fun B σ G H m Q q => q [] [] ρ G H m (Same.refl _) Tr.refl rfl h
theorem aa_cons {ta : TE} {tr : TA} (h : AE K ta ρ fun d ρ1 => AA K tr ρ1 fun ds ρ2 => ΨA (d :: ds) ρ2) : AA K (tCons ta tr) ρ ΨA := fun B σ G H m Q q =>
  h B σ G H m _ fun x d ρ1 G1 H1 m1 s1 t1 r1 h1 => h1 B σ G1 H1 m1 _ fun xs ds ρ2 G2 H2 m2 s2 t2 r2 h2 =>
    q (x :: xs) (d :: ds) ρ2 G2 H2 m2 (s1.trans s2) (t1.trans t2) ⟨x, xs, rfl, r1.same s2, r2⟩ h2
theorem ae_cb {r : List V → Hp → VK → Prop} {ta : TA} (h : AA K ta ρ fun ds ρ1 => AC K r ds fun d => Ψ d ρ1) : AE K (tCB r ta) ρ Ψ := fun B σ G H m Q q =>
  h B σ G H m _ fun x d1 ρ1 G1 H1 m1 s1 t1 r1 h1 => h1 G1 H1 m1.sub x r1 Q fun v d G3 H3 n3 r3 p3 => q v d ρ1 G3 H3 (m1.nw n3) (s1.trans n3.g) (t1.trans (Tr.same n3.h)) r3 p3
theorem ae_tup {ta : TA} (h : AA K ta ρ fun ds ρ1 => ds.length ≤ sizeLine ∧ Ψ (.tup ds) ρ1) : AE K (tTup ta) ρ Ψ := fun B σ G H m Q q =>
  h B σ G H m _ fun xs ds ρ1 G1 H1 m1 s1 t1 r1 h1 => ⟨by rw [r1.length]; exact h1.1, fun p hp => by
    have n := Nw.new (o := .tup xs) m1.sub hp
    exact q _ (.tup ds) ρ1 _ _ (m1.nw n) (s1.trans n.g) (t1.trans (Tr.same n.h)) ⟨p, xs, rfl, SqT.of upd_same, r1.same n.g⟩ h1.2⟩
theorem ae_lst {ta : TA} (h : AA K ta ρ fun ds ρ1 => ds.length ≤ sizeLine ∧ Ψ (.lst ds) ρ1) : AE K (tLst ta) ρ Ψ := fun B σ G H m Q q =>
  h B σ G H m _ fun xs ds ρ1 G1 H1 m1 s1 t1 r1 h1 => ⟨by rw [r1.length]; exact h1.1, fun p hp => by
    have n := Nw.new (o := .lst xs) m1.sub hp
    exact q _ (.lst ds) ρ1 _ _ (m1.nw n) (s1.trans n.g) (t1.trans (Tr.same n.h)) ⟨p, xs, rfl, upd_same, r1.same n.g⟩ h1.2⟩
theorem ae_if {tt : TT} {ta tb : TE} (h : AT K tt ρ fun b ρ1 => (b = true → AE K ta ρ1 Ψ) ∧ (b = false → AE K tb ρ1 Ψ)) : AE K (tIf tt ta tb) ρ Ψ := fun B σ G H m Q q =>
  h B σ G H m _ fun b ρ1 G1 H1 m1 s1 t1 h1 => by
    cases b
    · rw [if_neg (by decide)]; exact h1.2 rfl B σ G1 H1 m1 Q fun v d ρ' G' H' m' s t r p => q v d ρ' G' H' m' (s1.trans s) (t1.trans t) r p
    · rw [if_pos rfl]; exact h1.1 rfl B σ G1 H1 m1 Q fun v d ρ' G' H' m' s t r p => q v d ρ' G' H' m' (s1.trans s) (t1.trans t) r p
theorem at_test {te : TE} (h : AE K te ρ fun d ρ1 => ∃ b, d = .bl b ∧ ΨT b ρ1) : AT K (tTest te) ρ ΨT := fun B σ G H m Q q =>
  h B σ G H m _ fun v d ρ1 G1 H1 m1 s1 t1 r1 ⟨b, e, p⟩ => by
    subst e; exact ⟨b, r1, q b ρ1 G1 H1 m1 s1 t1 p⟩
theorem at_b {te : TE} (h : AE K te ρ fun d ρ1 => ∃ b, d = .bl b ∧ ΨT b ρ1) : AT K (tB te) ρ ΨT := at_test h
theorem at_and {t u : TT} (h : AT K t ρ fun b ρ1 => (b = true → AT K u ρ1 ΨT) ∧ (b = false → ΨT false ρ1)) : AT K (tAnd t u) ρ ΨT := fun B σ G H m Q q =>
  h B σ G H m _ fun b ρ1 G1 H1 m1 s1 t1 h1 => by
    cases b
    · rw [if_neg (by decide)]; exact q false ρ1 G1 H1 m1 s1 t1 (h1.2 rfl)
    · rw [if_pos rfl]; exact h1.1 rfl B σ G1 H1 m1 Q fun d ρ' G' H' m' s t p => q d ρ' G' H' m' (s1.trans s) (t1.trans t) p
theorem at_or {t u : TT} (h : AT K t ρ fun b ρ1 => (b = true → ΨT true ρ1) ∧ (b = false → AT K u ρ1 ΨT)) : AT K (tOr t u) ρ ΨT := fun B σ G H m Q q =>
  h B σ G H m _ fun b ρ1 G1 H1 m1 s1 t1 h1 => by
    cases b
    · rw [if_neg (by decide)]; exact h1.2 rfl B σ G1 H1 m1 Q fun d ρ' G' H' m' s t p => q d ρ' G' H' m' (s1.trans s) (t1.trans t) p
    · rw [if_pos rfl]; exact q true ρ1 G1 H1 m1 s1 t1 (h1.1 rfl)
theorem at_not {t : TT} (h : AT K t ρ fun b ρ1 => ΨT (!b) ρ1) : AT K (tNot t) ρ ΨT := fun B σ G H m Q q =>
  h B σ G H m _ fun b ρ1 G1 H1 m1 s1 t1 h1 => q (!b) ρ1 G1 H1 m1 s1 t1 h1
theorem ae_andV {ta tb : TE} (h : AE K ta ρ fun d ρ1 => ∃ b, d = .bl b ∧ (b = true → AE K tb ρ1 Ψ) ∧ (b = false → Ψ (.bl false) ρ1)) : AE K (tAndV ta tb) ρ Ψ := fun B σ G H m Q q =>
  h B σ G H m _ fun v d ρ1 G1 H1 m1 s1 t1 r1 ⟨b, e, h1, h2⟩ => by
    subst e
    refine ⟨b, r1, ?_⟩
    cases b
    · rw [if_neg (by decide)]; exact q _ (.bl false) ρ1 G1 H1 m1 s1 t1 rfl (h2 rfl)
    · rw [if_pos rfl]; exact h1 rfl B σ G1 H1 m1 Q fun v d ρ' G' H' m' s t r p => q v d ρ' G' H' m' (s1.trans s) (t1.trans t) r p
theorem ae_notV {ta : TE} (h : AE K ta ρ fun d ρ1 => ∃ b, d = .bl b ∧ Ψ (.bl (!b)) ρ1) : AE K (tNotV ta) ρ Ψ := fun B σ G H m Q q =>
  h B σ G H m _ fun v d ρ1 G1 H1 m1 s1 t1 r1 ⟨b, e, h1⟩ => by
    subst e
    exact ⟨b, r1, q _ (.bl (!b)) ρ1 G1 H1 m1 s1 t1 rfl h1⟩
/-! statements -/
theorem as_seq {t u : TS} (h : AS K t ρ (fun ρ1 => AS K u ρ1 N R) R) : AS K (tSeq t u) ρ N R := fun B σ G H m D qn qr =>
  h B σ G H m { D with nx := u D } (fun σ1 ρ1 G1 H1 m1 s1 t1 h1 => h1 B σ1 G1 H1 m1 D (fun σ' ρ' G' H' m' s t p => qn σ' ρ' G' H' m' (s1.trans s) (t1.trans t) p) fun v d σ' ρ' G' H' m' s t r p => qr v d σ' ρ' G' H' m' (s1.trans s) (t1.trans t) r p) qr
theorem as_next (h : N ρ) : AS K tNext ρ N R := fun B σ G H m D qn qr => qn σ ρ G H m (Same.refl _) Tr.refl h
theorem as_ret {te : TE} (h : AE K te ρ R) : AS K (tRet te) ρ N R := fun B σ G H m D qn qr => h B σ G H m _ fun v d ρ1 G1 H1 m1 s1 t1 r1 h1 => qr v d σ ρ1 G1 H1 m1 s1 t1 r1 h1
theorem as_if {c : TT} {t u : TS} (h : AT K c ρ fun b ρ1 => (b = true → AS K t ρ1 N R) ∧ (b = false → AS K u ρ1 N R)) : AS K (tIfS c t u) ρ N R := fun B σ G H m D qn qr =>
  h B σ G H m _ fun b ρ1 G1 H1 m1 s1 t1 h1 => by
    cases b
    · rw [if_neg (by decide)]
      exact h1.2 rfl B σ G1 H1 m1 D (fun σ' ρ' G' H' m' s t p => qn σ' ρ' G' H' m' (s1.trans s) (t1.trans t) p) fun v d σ' ρ' G' H' m' s t r p => qr v d σ' ρ' G' H' m' (s1.trans s) (t1.trans t) r p
    · rw [if_pos rfl]
      exact h1.1 rfl B σ G1 H1 m1 D (fun σ' ρ' G' H' m' s t p => qn σ' ρ' G' H' m' (s1.trans s) (t1.trans t) p) fun v d σ' ρ' G' H' m' s t r p => qr v d σ' ρ' G' H' m' (s1.trans s) (t1.trans t) r p
theorem as_set {te : TE} {i : Nat} (h : AE K te ρ fun d ρ1 => N (ρ1.set i (.da d))) : AS K (tAsg te (gName i)) ρ N R := fun B σ G H m D qn qr =>
  h B σ G H m _ fun v d ρ1 G1 H1 m1 s1 t1 r1 h1 => qn _ _ G1 H1 (m1.set i r1) s1 t1 h1
theorem as_par {ta : TA} {i j : Nat} (h : AA K ta ρ fun ds ρ1 => ∃ d e, ds = [d, e] ∧ N ((ρ1.set i (.da d)).set j (.da e))) : AS K (tPar i j ta) ρ N R := fun B σ G H m D qn qr =>
  h B σ G H m _ fun vs ds ρ1 G1 H1 m1 s1 t1 r1 ⟨d, e, z, h1⟩ => by
    subst z
    obtain ⟨x, y, rfl, r2, r3⟩ := r1.two
    exact ⟨x, y, rfl, qn _ _ G1 H1 ((m1.set i r2).set j r3) s1 t1 h1⟩
/-- targets -/
def AG (K : PySem.W.Frag) (g : TG) (d : Dt) (ρ : List En) (N : List En → Prop) : Prop := ∀ B σ G H, Mt K B ρ σ G H → ∀ v, RD K G d v → ∀ Q : L2.St → Hp → Prop, (∀ σ' ρ' G' H', Mt K B ρ' σ' G' H' → Same G G' → Tr B H H' → N ρ' → Q σ' H') → g v σ H Q
def AGs (K : PySem.W.Frag) (g : TGs) (ds : List Dt) (ρ : List En) (N : List En → Prop) : Prop := ∀ B σ G H, Mt K B ρ σ G H → ∀ vs, RDs K G ds vs → ∀ Q : L2.St → Hp → Prop, (∀ σ' ρ' G' H', Mt K B ρ' σ' G' H' → Same G G' → Tr B H H' → N ρ' → Q σ' H') → g vs σ H Q
theorem ag_name {i : Nat} {d : Dt} (h : N (ρ.set i (.da d))) : AG K (gName i) d ρ N := fun B σ G H m v r Q q => q _ _ G H (m.set i r) (Same.refl _) Tr.refl h
theorem ags_nil (h : N ρ) : AGs K gNil [] ρ N := fun B σ G H m vs r Q q => ⟨r, q σ ρ G H m (Same.refl _) Tr.refl h⟩
theorem ags_cons {t : TG} {u : TGs} {d : Dt} {ds : List Dt} (h : AG K t d ρ fun ρ1 => AGs K u ds ρ1 N) : AGs K (gCons t u) (d :: ds) ρ N := fun B σ G H m vs r Q q => by
  obtain ⟨x, xs, rfl, r1, r2⟩ := r
  exact ⟨x, xs, rfl, h B σ G H m x r1 _ fun σ1 ρ1 G1 H1 m1 s1 t1 h1 => h1 B σ1 G1 H1 m1 xs (r2.same s1) Q fun σ' ρ' G' H' m' s t p => q σ' ρ' G' H' m' (s1.trans s) (t1.trans t) p⟩
theorem ag_tup {t : TGs} {n : Nat} {ds : List Dt} (hn : ds.length = n) (h : AGs K t ds ρ N) : AG K (gTup K n t) (.tup ds) ρ N := fun B σ G H m v r Q q => by
  obtain ⟨a, xs, rfl, r1, r2⟩ := r
  exact ⟨a, xs, rfl, same_sqT m.sub r1, by rw [r2.length]; exact hn, h B σ G H m xs r2 Q q⟩
theorem as_asg {te : TE} {g : TG} (h : AE K te ρ fun d ρ1 => AG K g d ρ1 N) : AS K (tAsg te g) ρ N R := fun B σ G H m D qn qr =>
  h B σ G H m _ fun v d ρ1 G1 H1 m1 s1 t1 r1 h1 => h1 B σ G1 H1 m1 v r1 _ fun σ' ρ' G' H' m' s t p => qn σ' ρ' G' H' m' (s1.trans s) (t1.trans t) p
/-! own lists -/
theorem Mt.setOwn {B : Addr → Prop} {σ : L2.St} {G H : Hp} (m : Mt K B ρ σ G H) (i : Nat) {p : Addr} {xs : List V} {l : List Dt} (n : H p = none) (r : RDs K G l xs) : Mt K B (ρ.set i (.own l)) (σ.set i (some (.ref p))) G (upd H p (.lst xs)) where
  sub := m.sub.trans (same_up n)
  pro := fun a b => ⟨(m.pro a b).1, ne_none (same_up n) (m.pro a b).2⟩
  len := by rw [List.length_set, List.length_set]; exact m.len
  da := fun j e h => by
    rcases get_set h with ⟨rfl, z, lt⟩ | ⟨ne, z⟩
    · cases z
    · rw [set_off ne]; exact m.da j e z
  own := fun j k h => by
    rcases get_set h with ⟨rfl, z, lt⟩ | ⟨ne, z⟩
    · cases z
      exact ⟨p, xs, set_at (by rw [m.len]; exact lt), upd_same, r, m.sub.free n, fun b => (m.pro p b).2 n⟩
    · rw [set_off ne]
      obtain ⟨q, ys, z1, z2, z3, z4, z5⟩ := m.own j k z
      exact ⟨q, ys, z1, same_up n _ _ z2, z3, z4, z5⟩
  bx := fun j b f h => by
    rcases get_set h with ⟨rfl, z, lt⟩ | ⟨ne, z⟩
    · cases z
    · rw [set_off ne]
      obtain ⟨y, c, z1, z2, z3⟩ := m.bx j b f z
      exact ⟨y, c, z1, z2.same (same_up n), z3⟩
  dis := fun j k e e' a h1 h2 o1 o2 ne s1 s2 => by
    have there : ∀ (j : Nat) (e : En), ρ[j]? = some e → e.isOwn → σ[j]? = some (some (V.ref a)) → H a ≠ none := fun j e h o s => by
      cases e with
      | no => exact o.elim
      | da d => exact o.elim
      | own l => obtain ⟨q, ys, z1, z2, _⟩ := m.own j l h; rw [z1] at s; cases s; exact some_ne z2
      | bx b f => obtain ⟨y, c, z1, z2, _⟩ := m.bx j b f h; rw [z1] at s; cases s; exact z2.ne
    rcases get_set h1 with ⟨rfl, z, lt⟩ | ⟨n1, z1⟩
    · rcases get_set h2 with ⟨w, z', lt'⟩ | ⟨n2, z2⟩
      · exact ne w
      · rw [set_at (by rw [m.len]; exact lt)] at s1
        cases s1
        rw [set_off n2] at s2
        exact there k e' z2 o2 s2 n
    · rcases get_set h2 with ⟨rfl, z, lt⟩ | ⟨n2, z2⟩
      · rw [set_at (by rw [m.len]; exact lt)] at s2
        cases s2
        rw [set_off n1] at s1
        exact there j e z1 o1 s1 n
      · rw [set_off n1] at s1; rw [set_off n2] at s2; exact m.dis j k e e' a z1 z2 o1 o2 ne s1 s2
/-- xs = [e, ..], a list that will grow -/
theorem as_own {ta : TA} {i : Nat} (h : AA K ta ρ fun ds ρ1 => ds.length ≤ sizeLine ∧ N (ρ1.set i (.own ds))) : AS K (tAsg (tLst ta) (gName i)) ρ N R := fun B σ G H m D qn qr =>
  h B σ G H m _ fun vs ds ρ1 G1 H1 m1 s1 t1 r1 h1 => ⟨by rw [r1.length]; exact h1.1, fun p hp => qn _ _ G1 _ (m1.setOwn i hp r1) s1 (t1.trans (Tr.same (same_up hp))) h1.2⟩
/-- an own list's content changes -/
theorem Mt.chOwn {B : Addr → Prop} {σ : L2.St} {G H : Hp} (m : Mt K B ρ σ G H) {i : Nat} {p : Addr} {xs : List V} {l l' : List Dt} (e : ρ[i]? = some (.own l)) (s : σ[i]? = some (some (.ref p))) (r : RDs K G l' xs) : Mt K B (ρ.set i (.own l')) σ G (upd H p (.lst xs)) := by
  obtain ⟨q, ys, h1, h2, h3, h4, h5⟩ := m.own i l e
  rw [h1] at s
  cases s
  have keep : ∀ {a : Addr} {o : HO}, a ≠ p → H a = some o → (upd H p (.lst xs)) a = some o := fun n z => by rw [upd_ne n]; exact z
  refine ⟨?_, ?_, ?_, ?_, ?_, ?_, ?_⟩
  · intro a o z
    exact keep (fun w => by rw [w, h4] at z; cases z) (m.sub _ _ z)
  · exact fun a b => ⟨(m.pro a b).1, by rw [upd_ne (fun w => h5 (by rw [← w]; exact b))]; exact (m.pro a b).2⟩
  · rw [List.length_set]; exact m.len
  · intro j d h
    rcases get_set h with ⟨rfl, z, lt⟩ | ⟨ne, z⟩
    · cases z
    · exact m.da j d z
  · intro j k h
    rcases get_set h with ⟨rfl, z, lt⟩ | ⟨ne, z⟩
    · cases z; exact ⟨p, xs, h1, upd_same, r, h4, h5⟩
    · obtain ⟨q', zs, z1, z2, z3⟩ := m.own j k z
      exact ⟨q', zs, z1, keep (fun w => m.dis i j _ _ p e z trivial trivial ne h1 (by rw [← w]; exact z1)) z2, z3⟩
  · intro j b f h
    rcases get_set h with ⟨rfl, z, lt⟩ | ⟨ne, z⟩
    · cases z
    · obtain ⟨y, c, z1, ⟨x, z2, z2'⟩, z3⟩ := m.bx j b f z
      exact ⟨y, c, z1, ⟨x, keep (fun w => m.dis i j _ _ p e z trivial trivial ne h1 (by rw [← w]; exact z1)) z2, z2'⟩, z3⟩
  · intro j k e1 e2 a g1 g2 o1 o2 ne s1 s2
    rcases get_set g1 with ⟨rfl, z, lt⟩ | ⟨n1, z1⟩
    · rcases get_set g2 with ⟨w, z', lt'⟩ | ⟨n2, z2⟩
      · exact ne w
      · exact m.dis i k _ e2 a e z2 trivial o2 ne s1 s2
    · rcases get_set g2 with ⟨rfl, z, lt⟩ | ⟨n2, z2⟩
      · exact m.dis j i e1 _ a z1 e o1 trivial ne s1 s2
      · exact m.dis j k e1 e2 a z1 z2 o1 o2 ne s1 s2
/-- xs.append(e) -/
theorem as_append {te : TE} {i : Nat} (h : AE K te ρ fun d ρ1 => ∃ l, ρ1[i]? = some (.own l) ∧ l.length < sizeLine ∧ N (ρ1.set i (.own (l ++ [d])))) (o : ∃ l, ρ[i]? = some (.own l)) : AS K (tDrop (tBM K "list" rAppend (tVar i) (tCons te tNil))) ρ N R := fun B σ G H m D qn qr => by
  obtain ⟨l0, e0⟩ := o
  obtain ⟨p0, xs0, a1, a2, _⟩ := m.own i l0 e0
  refine ⟨_, a1, .inl ⟨rfl, _, SqL.of a2⟩, ?_⟩
  refine h B σ G H m _ fun v d ρ1 G1 H1 m1 s1 t1 r1 ⟨l, e, hl, n⟩ => ?_
  obtain ⟨p, xs, b1, b2, b3, b4, b5⟩ := m1.own i l e
  rw [a1] at b1
  cases b1
  refine ⟨p0, xs, v, rfl, rfl, b2, by rw [b3.length]; exact hl, ?_⟩
  exact qn _ _ G1 _ (m1.chOwn e a1 (b3.snoc r1)) s1 (t1.trans fun a o b z => by rw [upd_ne (fun w => b5 (by rw [← w]; exact b))]; exact z) n
/-- from here on the list is data -/
theorem ae_frz {te : TE} {i : Nat} {l : List Dt} (e : ρ[i]? = some (.own l)) (h : AE K te (ρ.set i (.da (.lst l))) Ψ) : AE K te ρ Ψ := fun B σ G H m Q q => by
  obtain ⟨G1, m1, s1⟩ := m.frz e
  exact h B σ G1 H m1 Q fun v d ρ' G' H' m' s t r p => q v d ρ' G' H' m' (s1.trans s) t r p
end
end Sh
set_option Elab.async false
set_option linter.all false
set_option maxRecDepth 100000
set_option maxHeartbeats 4000000
namespace Sh
open PySem PySem.Spec PyProof.Rows L2
section
variable {K : PySem.W.Frag} {ρ : List En} {Ψ : Dt → List En → Prop} {ΨT : Bool → List En → Prop} {ΨA : List Dt → List En → Prop} {N : List En → Prop} {R : Dt → List En → Prop} {Φ : Dt → Prop}
/-! ### operators -/
theorem ar_I0i {g : Int → Int → Int} {i j : Int} (h : Φ (.int (g i j))) : AR K (rI0 fun i j => .int (g i j)) (.int i) (.int j) Φ := fun G H s x y r1 r2 Q q =>
  ⟨i, j, r1, r2, q _ (.int (g i j)) G H (Nw.refl s) rfl h⟩
theorem ar_I0b {g : Int → Int → Bool} {i j : Int} (h : Φ (.bl (g i j))) : AR K (rI0 fun i j => .bl (g i j)) (.int i) (.int j) Φ := fun G H s x y r1 r2 Q q =>
  ⟨i, j, r1, r2, q _ (.bl (g i j)) G H (Nw.refl s) rfl h⟩
theorem ar_Ii {C : Int → Int → Prop} {g : Int → Int → Int} {i j : Int} (c : C i j) (h : Φ (.int (g i j))) : AR K (rI C fun i j => .int (g i j)) (.int i) (.int j) Φ := fun G H s x y r1 r2 Q q =>
  ⟨i, j, r1, r2, c, q _ (.int (g i j)) G H (Nw.refl s) rfl h⟩
def Dt.isNon : Dt → Bool
  | .non => true
  | _ => false
theorem RD.isNon {G : Hp} : ∀ {d : Dt} {x : V}, RD K G d x → decide (x = V.non) = d.isNon
  | .non, _, r => by rw [show _ = V.non from r]; rfl
  | .bl _, _, r => by rw [show _ = V.bl _ from r]; rfl
  | .int _, _, r => by rw [show _ = V.int _ from r]; rfl
  | .str _, _, r => by rw [show _ = V.str _ from r]; rfl
  | .ty _, _, r => by rw [show _ = V.ty _ from r]; rfl
  | .tup _, _, ⟨a, _, e, _⟩ => by rw [e]; rfl
  | .lst _, _, ⟨a, _, e, _⟩ => by rw [e]; rfl
theorem ar_isN {d : Dt} (h : Φ (.bl d.isNon)) : AR K (fun x y H Q => y = .non ∧ Q (.bl (decide (x = .non))) H) d .non Φ := fun G H s x y r1 r2 Q q =>
  ⟨r2, q _ (.bl d.isNon) G H (Nw.refl s) (by rw [r1.isNon]; rfl) h⟩
theorem ar_notN {d : Dt} (h : Φ (.bl (!d.isNon))) : AR K (fun x y H Q => y = .non ∧ Q (.bl (!decide (x = .non))) H) d .non Φ := fun G H s x y r1 r2 Q q =>
  ⟨r2, q _ (.bl (!d.isNon)) G H (Nw.refl s) (by rw [r1.isNon]; rfl) h⟩
/-- flat data as a value -/
def Dt.v? : Dt → Option V
  | .non => some .non
  | .bl b => some (.bl b)
  | .int i => some (.int i)
  | .str s => some (.str s)
  | _ => none
theorem RD.v {G : Hp} : ∀ {d : Dt} {x y : V}, d.v? = some y → RD K G d x → x = y
  | .non, _, _, e, r => by cases e; exact r
  | .bl _, _, _, e, r => by cases e; exact r
  | .int _, _, _, e, r => by cases e; exact r
  | .str _, _, _, e, r => by cases e; exact r
theorem ar_eq {d e : Dt} {x y : V} (h1 : d.v? = some x) (h2 : e.v? = some y) (hs : scal x y = true) (h : Φ (.bl (decide (x = y)))) : AR K rEq d e Φ := fun G H s x' y' r1 r2 Q q => by
  cases RD.v h1 r1; cases RD.v h2 r2
  exact ⟨hs, q _ (.bl (decide (x = y))) G H (Nw.refl s) rfl h⟩
theorem ar_ne {d e : Dt} {x y : V} (h1 : d.v? = some x) (h2 : e.v? = some y) (hs : scal x y = true) (h : Φ (.bl (!decide (x = y)))) : AR K rNe d e Φ := fun G H s x' y' r1 r2 Q q => by
  cases RD.v h1 r1; cases RD.v h2 r2
  exact ⟨hs, q _ (.bl (!decide (x = y))) G H (Nw.refl s) rfl h⟩
def vs? : List Dt → Option (List V)
  | [] => some []
  | d :: l => match d.v?, vs? l with
    | some x, some xs => some (x :: xs)
    | _, _ => none
theorem RDs.v {G : Hp} : ∀ {l : List Dt} {xs ys : List V}, vs? l = some ys → RDs K G l xs → xs = ys
  | [], _, _, e, r => by cases e; exact r
  | d :: l, _, ys, e, ⟨x, r, e1, h1, h2⟩ => by
    unfold vs? at e
    cases q1 : d.v? with
    | none => rw [q1] at e; cases e
    | some z =>
      cases q2 : vs? l with
      | none => rw [q1, q2] at e; cases e
      | some zs => rw [q1, q2] at e; cases e; rw [e1, RD.v q1 h1, RDs.v q2 h2]
theorem ar_inL {neg : Bool} {d : Dt} {l : List Dt} {x : V} {xs : List V} (h1 : d.v? = some x) (h2 : vs? l = some xs) (f1 : flatV x = true) (f2 : xs.all flatV = true) (h : Φ (.bl (if neg then !inV x xs else inV x xs))) : AR K (rIn K neg) d (.lst l) Φ := fun G H s x' y' r1 ⟨a, ys, e, q1, q2⟩ Q q => by
  cases RD.v h1 r1; cases RDs.v h2 q2
  exact ⟨a, xs, e, .inl (SqL.of (s _ _ q1)), f1, f2, q _ (.bl (if neg then !inV x xs else inV x xs)) G H (Nw.refl s) rfl h⟩
/-! places -/
theorem atI_get {l : List Dt} {xs : List V} {G : Hp} {i : Int} {d : Dt} (r : RDs K G l xs) (e : atI l i = some d) : ∃ x, atI xs i = some x ∧ RD K G d x := by
  unfold atI at e ⊢
  rw [r.length]
  cases q : ixN l.length i with
  | none => rw [q] at e; cases e
  | some j =>
    rw [q] at e
    obtain ⟨x, h1, h2⟩ := r.get (i := j) e
    exact ⟨x, h1, h2⟩
theorem ar_ixT {l : List Dt} {i : Int} {d : Dt} (e : atI l i = some d) (h : Φ d) : AR K (rIxT K) (.tup l) (.int i) Φ := fun G H s x y ⟨a, xs, e1, q1, q2⟩ r2 Q q => by
  obtain ⟨z, h1, h2⟩ := atI_get q2 e
  exact ⟨a, xs, i, z, e1, r2, same_sqT s q1, h1, q _ d G H (Nw.refl s) h2 h⟩
theorem ar_ixL {l : List Dt} {i : Int} {d : Dt} (e : atI l i = some d) (h : Φ d) : AR K (rIxL K) (.lst l) (.int i) Φ := fun G H s x y ⟨a, xs, e1, q1, q2⟩ r2 Q q => by
  obtain ⟨z, h1, h2⟩ := atI_get q2 e
  exact ⟨a, xs, i, z, e1, r2, SqL.of (s _ _ q1), h1, q _ d G H (Nw.refl s) h2 h⟩
def sq (k : Bool) (l : List Dt) : Dt := if k then .tup l else .lst l
theorem ar_ix {k : Bool} {l : List Dt} {i : Int} {d : Dt} (e : atI l i = some d) (h : Φ d) : AR K (rIx K) (sq k l) (.int i) Φ := fun G H s x y r1 r2 Q q => by
  cases k
  · exact .inl (ar_ixL e h G H s x y r1 r2 Q q)
  · exact .inr (.inl (ar_ixT e h G H s x y r1 r2 Q q))
theorem ar_ixTs {l : List Dt} {i : Int} {d : Dt} (e : atI l i = some d) (h : Φ d) : AR K (rIx K) (.tup l) (.int i) Φ := ar_ix (k := true) e h
/-! ### built-ins -/
theorem ac_lenT {l : List Dt} (h : Φ (.int (l.length : Nat))) : AC K (fun xs H Q => ∃ p ys, xs = [.ref p] ∧ (SqL K H p ys ∨ SqT K H p ys) ∧ Q (.int ys.length) H) [.tup l] Φ := fun G H s vs r Q q => by
  obtain ⟨x, rfl, a, xs, rfl, h1, h2⟩ := r.one
  exact ⟨a, xs, rfl, .inr (same_sqT s h1), q _ (.int (l.length : Nat)) G H (Nw.refl s) (by rw [h2.length]; rfl) h⟩
theorem ac_lenL {l : List Dt} (h : Φ (.int (l.length : Nat))) : AC K (fun xs H Q => ∃ p ys, xs = [.ref p] ∧ (SqL K H p ys ∨ SqT K H p ys) ∧ Q (.int ys.length) H) [.lst l] Φ := fun G H s vs r Q q => by
  obtain ⟨x, rfl, a, xs, rfl, h1, h2⟩ := r.one
  exact ⟨a, xs, rfl, .inl (SqL.of (s _ _ h1)), q _ (.int (l.length : Nat)) G H (Nw.refl s) (by rw [h2.length]; rfl) h⟩
theorem ac_listT {l : List Dt} (h : Φ (.lst l)) : AC K (fun xs H Q => ∃ p ys, xs = [.ref p] ∧ (SqL K H p ys ∨ SqT K H p ys) ∧ ∀ l, H l = none → Q (.ref l) (upd H l (.lst ys))) [.tup l] Φ := fun G H s vs r Q q => by
  obtain ⟨x, rfl, a, xs, rfl, h1, h2⟩ := r.one
  refine ⟨a, xs, rfl, .inr (same_sqT s h1), fun p hp => ?_⟩
  have n := Nw.new (o := .lst xs) s hp
  exact q _ (.lst l) _ _ n ⟨p, xs, rfl, upd_same, h2.same n.g⟩ h
theorem ac_tupL {l : List Dt} (h : Φ (.tup l)) : AC K (fun xs H Q => ∃ p ys, xs = [.ref p] ∧ ((SqL K H p ys ∧ ∀ l, H l = none → Q (.ref l) (upd H l (.tup ys))) ∨ (SqT K H p ys ∧ Q (.ref p) H))) [.lst l] Φ := fun G H s vs r Q q => by
  obtain ⟨x, rfl, a, xs, rfl, h1, h2⟩ := r.one
  refine ⟨a, xs, rfl, .inl ⟨SqL.of (s _ _ h1), fun p hp => ?_⟩⟩
  have n := Nw.new (o := .tup xs) s hp
  exact q _ (.tup l) _ _ n ⟨p, xs, rfl, SqT.of upd_same, h2.same n.g⟩ h
theorem ac_all {bs : List Bool} (h : Φ (.bl (bs.all id))) : AC K (rAll K) [.lst (bs.map Dt.bl)] Φ := fun G H s vs r Q q => by
  obtain ⟨x, rfl, a, xs, rfl, h1, h2⟩ := r.one
  cases h2.bls
  exact ⟨a, bs, rfl, SqL.of (s _ _ h1), q _ (.bl (bs.all id)) G H (Nw.refl s) rfl h⟩
theorem ac_any {bs : List Bool} (h : Φ (.bl (bs.any id))) : AC K (rAny K) [.lst (bs.map Dt.bl)] Φ := fun G H s vs r Q q => by
  obtain ⟨x, rfl, a, xs, rfl, h1, h2⟩ := r.one
  cases h2.bls
  exact ⟨a, bs, rfl, SqL.of (s _ _ h1), q _ (.bl (bs.any id)) G H (Nw.refl s) rfl h⟩
theorem ac_min {ns : List Int} (h0 : 0 < ns.length) (h : ∀ m, m ∈ ns → (∀ y, y ∈ ns → m ≤ y) → Φ (.int m)) : AC K (rMin K) [.lst (ns.map Dt.int)] Φ := fun G H s vs r Q q => by
  obtain ⟨x, rfl, a, xs, rfl, h1, h2⟩ := r.one
  cases h2.ints
  exact ⟨a, ns, rfl, SqL.of (s _ _ h1), h0, fun m m1 m2 => q _ (.int m) G H (Nw.refl s) rfl (h m m1 m2)⟩
/-! kinds -/
def Dt.kind : Dt → String
  | .non => "NoneType" | .bl _ => "bool" | .int _ => "int" | .str _ => "str" | .ty _ => "type" | .tup _ => "tuple" | .lst _ => "list"
def Dt.noTy : Dt → Bool
  | .ty _ => false
  | _ => true
theorem RD.kind {G H : Hp} (s : Same G H) : ∀ {d : Dt} {x : V}, d.noTy = true → RD K G d x → TyX K H x (.type d.kind)
  | .non, _, _, r => by cases (show _ = V.non from r); exact .base .non
  | .bl _, _, _, r => by cases (show _ = V.bl _ from r); exact .base (.bl _)
  | .int _, _, _, r => by cases (show _ = V.int _ from r); exact .base (.int _)
  | .str _, _, _, r => by cases (show _ = V.str _ from r); exact .base (.str _)
  | .tup _, _, _, ⟨a, xs, e, q, _⟩ => by
    subst e
    rcases q with (q | ⟨o, q⟩) | ⟨o, its, n, q1, q2, _⟩
    · exact .base (.tup (s _ _ q))
    · exact .fTuple (s _ _ q)
    · exact .kTuple q1 q2
  | .lst _, _, _, ⟨a, xs, e, q, _⟩ => by subst e; exact .base (.lst (s _ _ q))
theorem ac_isi {d : Dt} {T : String} {b : Bool} (n : d.noTy = true) (hb : kitB d.kind T = some b) (h : Φ (.bl b)) : AC K (rIsi K) [d, .ty T] Φ := fun G H s vs r Q q => by
  obtain ⟨x, y, rfl, h1, h2⟩ := r.two
  cases (show y = V.ty T from h2)
  exact ⟨x, .ty T, _, _, b, rfl, .ty T, h1.kind s n, kit_ty hb, q _ (.bl b) G H (Nw.refl s) rfl h⟩
theorem kit_2 {a S T : String} {r : Bool} (h1 : kitB a S = some false) (h2 : kitB a T = some r) : PySem.W.kitAny K (.type a) [.type S, .type T] = some r :=
  kitAny_cons (kit_ty h1) (fun _ => kitAny_cons (kit_ty h2) (fun e => by rw [e]; exact kitAny_nil) (fun e => e)) (fun e => nomatch e)
theorem kit_1 {a S T : String} (h1 : kitB a S = some true) : PySem.W.kitAny K (.type a) [.type S, .type T] = some true :=
  kitAny_cons (kit_ty h1) (fun e => nomatch e) (fun _ => rfl)
/-- isinstance(e, (S, T)) -/
theorem ae_isi2 {te : TE} {S T : String} (h : AE K te ρ fun d ρ1 => d.noTy = true ∧ ∃ b, ((kitB d.kind S = some true ∧ b = true) ∨ (kitB d.kind S = some false ∧ kitB d.kind T = some b)) ∧ Ψ (.bl b) ρ1) :
    AE K (tCB (rIsiT K) (tCons te (tCons (tTup (tCons (tC (.ty S)) (tCons (tC (.ty T)) tNil))) tNil))) ρ Ψ := fun B σ G H m Q q =>
  h B σ G H m _ fun v d ρ1 G1 H1 m1 s1 t1 r1 ⟨n, b, hb, p⟩ => by
    refine ⟨by show 2 ≤ sizeLine; decide, fun a ha => ?_⟩
    have k : PySem.W.kitAny K (.type d.kind) [.type S, .type T] = some b := by
      rcases hb with ⟨h1, rfl⟩ | ⟨h1, h2⟩
      · exact kit_1 h1
      · exact kit_2 h1 h2
    have nw := Nw.new (o := .tup [V.ty S, V.ty T]) m1.sub ha
    exact ⟨v, a, _, _, _, b, rfl, upd_same, .cons (.ty _) (.cons (.ty _) .nil), (r1.same nw.g).kind nw.s n, k, q _ (.bl b) ρ1 _ _ (m1.nw nw) (s1.trans nw.g) (t1.trans (Tr.same nw.h)) rfl p⟩
theorem ae_ty {T : String} (h : Ψ (.ty T) ρ) : AE K (tC (.ty T)) ρ Ψ := ae_c (.ty T) (fun _ => rfl) h
/-! ### deep equality -/
mutual
def Dt.pd : Dt → PyData
  | .non => .none | .bl b => .bool b | .int i => .int i | .str s => .str s | .ty _ => .none
  | .tup l => .tuple (pds l)
  | .lst l => .list (pds l)
def pds : List Dt → List PyData
  | [] => []
  | d :: l => d.pd :: pds l
def Dt.pl : Dt → Bool
  | .ty _ => false
  | .tup l => pls l
  | .lst l => pls l
  | _ => true
def pls : List Dt → Bool
  | [] => true
  | d :: l => d.pl && pls l
end
mutual
theorem RD.dp {G H : Hp} (s : Same G H) : ∀ {d : Dt} {v : V}, d.pl = true → RD K G d v → Dp K H v d.pd
  | .non, v, _, h => by cases (show v = .non from h); exact .non
  | .bl b, v, _, h => by cases (show v = .bl b from h); exact .bl b
  | .int i, v, _, h => by cases (show v = .int i from h); exact .int i
  | .str z, v, _, h => by cases (show v = .str z from h); exact .str z
  | .tup l, _, p, ⟨a, xs, e, ha, r⟩ => by subst e; exact .tup (same_sqT s ha) (RDs.dp s p r)
  | .lst l, _, p, ⟨a, xs, e, ha, r⟩ => by subst e; exact .lst (SqL.of (s _ _ ha)) (RDs.dp s p r)
theorem RDs.dp {G H : Hp} (s : Same G H) : ∀ {l : List Dt} {xs : List V}, pls l = true → RDs K G l xs → DpAll K H xs (pds l)
  | [], xs, _, h => by cases (show xs = [] from h); exact .nil
  | d :: l, _, p, ⟨x, r, e, h1, h2⟩ => by
    subst e
    have p' : (d.pl && pls l) = true := p
    rw [Bool.and_eq_true] at p'
    exact .cons (RD.dp s p'.1 h1) (RDs.dp s p'.2 h2)
end
theorem ar_neD {d e : Dt} (p1 : d.pl = true) (p2 : e.pl = true) (s1 : SeqAt.shaped d.pd = true) (s2 : SeqAt.shaped e.pd = true) (h : Φ (.bl (!PyData.eqv d.pd e.pd))) : AR K (rNeD K) d e Φ := fun G H s x y r1 r2 Q q =>
  ⟨d.pd, e.pd, r1.dp s p1, r2.dp s p2, s1, s2, q _ (.bl (!PyData.eqv d.pd e.pd)) G H (Nw.refl s) rfl h⟩
end
end Sh
set_option Elab.async false
set_option linter.all false
set_option maxRecDepth 100000
set_option maxHeartbeats 4000000
namespace Sh
open PySem PySem.Spec PyProof.Rows L2
section
variable {K : PySem.W.Frag} {ρ : List En} {Ψ : Dt → List En → Prop} {ΨT : Bool → List En → Prop} {ΨA : List Dt → List En → Prop} {N : List En → Prop} {R : Dt → List En → Prop} {Φ : Dt → Prop}
/-! ### walks -/
def Wj (K : PySem.W.Frag) (J : It) (l : List Dt) (G0 : Hp) : Prop :=
  (∀ i H, i < l.length → Same G0 H → J.go i H) ∧ (∀ H, Same G0 H → J.stop l.length H) ∧ ∀ i G H x H', i < l.length → Same G0 G → Same G H → J.yld i H x H' → ∃ G' d, Nw G H G' H' ∧ l[i]? = some d ∧ RD K G' d x
theorem Wj.walk {J : It} {l : List Dt} {G0 : Hp} (w : Wj K J l G0) : Walk J l.length (fun H => Same G0 H) fun i H x H' => ∀ G, Same G0 G → Same G H → ∃ G' d, Nw G H G' H' ∧ l[i]? = some d ∧ RD K G' d x :=
  ⟨fun i H hi s => w.1 i H hi s, fun H s => w.2.1 H s, fun i H x H' hi s y G s1 s2 => w.2.2 i G H x H' hi s1 s2 y⟩
def AI (K : PySem.W.Frag) (wi : TI) (ρ : List En) (Θ : List Dt → List En → Prop) : Prop := ∀ B σ G H, Mt K B ρ σ G H → ∀ R : It → Hp → Prop, (∀ J l ρ' G' H', Mt K B ρ' σ G' H' → Same G G' → Tr B H H' → Wj K J l G' → Θ l ρ' → R J H') → wi σ H R
theorem wj_list {a : Addr} {xs : List V} {l : List Dt} {G : Hp} (h : G a = some (.lst xs)) (r : RDs K G l xs) : Wj K (Itl K a) l G := by
  have e := r.length
  refine ⟨fun i H hi s => ⟨xs, xs[i]'(by omega), SqL.of (s _ _ h), by simp [show i < xs.length by omega]⟩, fun H s => ⟨xs, SqL.of (s _ _ h), by omega⟩, fun i G1 H x H' hi s1 s2 y => ?_⟩
  obtain ⟨d, h1, h2⟩ := r.back (i := i) (y.2 xs (SqL.of (s2 _ _ (s1 _ _ h))))
  refine ⟨G1, d, ?_, h1, h2.same s1⟩
  rw [y.1]; exact Nw.refl s2
theorem wj_tup {a : Addr} {xs : List V} {l : List Dt} {G : Hp} (h : SqT K G a xs) (r : RDs K G l xs) : Wj K (Itt K a) l G := by
  have e := r.length
  refine ⟨fun i H hi s => ⟨xs, xs[i]'(by omega), same_sqT s h, by simp [show i < xs.length by omega]⟩, fun H s => ⟨xs, same_sqT s h, by omega⟩, fun i G1 H x H' hi s1 s2 y => ?_⟩
  obtain ⟨d, h1, h2⟩ := r.back (i := i) (y.2 xs (same_sqT s2 (same_sqT s1 h)))
  refine ⟨G1, d, ?_, h1, h2.same s1⟩
  rw [y.1]; exact Nw.refl s2
def rgD (lo : Int) (n : Nat) : List Dt := (List.range n).map fun i => .int (lo + (i : Nat))
theorem wj_range {lo : Int} {n : Nat} {G : Hp} : Wj K (Itr lo n) (rgD lo n) G := by
  have e : (rgD lo n).length = n := by unfold rgD; rw [List.length_map, List.length_range]
  refine ⟨fun i H hi s => by rw [e] at hi; exact hi, fun H s => by rw [e]; exact Nat.le_refl _, fun i G1 H x H' hi s1 s2 y => ⟨G1, .int (lo + (i : Nat)), ?_, ?_, y.2⟩⟩
  · rw [y.1]; exact Nw.refl s2
  · rw [e] at hi; unfold rgD; rw [List.getElem?_map, List.getElem?_range hi]; rfl
theorem ai_list {te : TE} {Θ : List Dt → List En → Prop} (h : AE K te ρ fun d ρ1 => ∃ l, d = .lst l ∧ Θ l ρ1) : AI K (iList K te) ρ Θ := fun B σ G H m Rr q =>
  h B σ G H m _ fun v d ρ1 G1 H1 m1 s1 t1 r1 ⟨l, e, p⟩ => by
    subst e
    obtain ⟨a, xs, e, h1, h2⟩ := r1
    exact ⟨a, e, ⟨xs, SqL.of (m1.sub _ _ h1)⟩, q _ l ρ1 G1 H1 m1 s1 t1 (wj_list h1 h2) p⟩
theorem ai_tup {te : TE} {Θ : List Dt → List En → Prop} (h : AE K te ρ fun d ρ1 => ∃ l, d = .tup l ∧ Θ l ρ1) : AI K (iTup K te) ρ Θ := fun B σ G H m Rr q =>
  h B σ G H m _ fun v d ρ1 G1 H1 m1 s1 t1 r1 ⟨l, e, p⟩ => by
    subst e
    obtain ⟨a, xs, e, h1, h2⟩ := r1
    exact ⟨a, e, ⟨xs, same_sqT m1.sub h1⟩, q _ l ρ1 G1 H1 m1 s1 t1 (wj_tup h1 h2) p⟩
theorem pi_or {X : Cx} {tg l : Expr} {w1 w2 : TI} (h1 : PI X tg l w1) (h2 : PI X tg l w2) : PI X tg l (fun σ H R => w1 σ H R ∨ w2 σ H R) :=
  ⟨fun pins s σ H R I h => h.elim (h1.run pins s σ H R I) (h2.run pins s σ H R I)⟩
theorem ai_or1 {w1 w2 : TI} {Θ : List Dt → List En → Prop} (h : AI K w1 ρ Θ) : AI K (fun σ H R => w1 σ H R ∨ w2 σ H R) ρ Θ := fun B σ G H m Rr q => .inl (h B σ G H m Rr q)
theorem ai_or2 {w1 w2 : TI} {Θ : List Dt → List En → Prop} (h : AI K w2 ρ Θ) : AI K (fun σ H R => w1 σ H R ∨ w2 σ H R) ρ Θ := fun B σ G H m Rr q => .inr (h B σ G H m Rr q)
theorem ai_rng1 {ta : TA} {Θ : List Dt → List En → Prop} (h : AA K ta ρ fun ds ρ1 => ∃ j : Int, ds = [.int j] ∧ -(2 ^ 62) ≤ j ∧ j < 2 ^ 62 ∧ Θ (rgD 0 j.toNat) ρ1) : AI K (iRng1 ta) ρ Θ := fun B σ G H m Rr q =>
  h B σ G H m _ fun vs ds ρ1 G1 H1 m1 s1 t1 r1 ⟨j, e, p1, p2, p⟩ => by
    subst e
    obtain ⟨x, rfl, h1⟩ := r1.one
    cases (show x = .int j from h1)
    exact ⟨j, rfl, p1, p2, q _ _ ρ1 G1 H1 m1 s1 t1 wj_range p⟩
/-! new pairs -/
theorem nw_pair {G H : Hp} {T : Addr} {x y : V} {d e : Dt} (s : Same G H) (n : H T = none) (r1 : RD K G d x) (r2 : RD K G e y) : ∃ G', Nw G H G' (upd H T (.tup [x, y])) ∧ RD K G' (.tup [d, e]) (.ref T) := by
  have nw := Nw.new (o := .tup [x, y]) s n
  exact ⟨_, nw, T, _, rfl, SqT.of upd_same, x, [y], rfl, r1.same nw.g, y, [], rfl, r2.same nw.g, rfl⟩
theorem zip_get {α β : Type} : ∀ {xs : List α} {ys : List β} {i : Nat} {x : α} {y : β}, xs[i]? = some x → ys[i]? = some y → (xs.zip ys)[i]? = some (x, y)
  | a :: xs, b :: ys, 0, _, _, h1, h2 => by cases h1; cases h2; rfl
  | a :: xs, b :: ys, i + 1, x, y, h1, h2 => by
    have := zip_get (i := i) (by simpa using h1) (by simpa using h2)
    simpa using this
  | [], _, _, _, _, h1, _ => by simp at h1
  | _ :: _, [], _, _, _, _, h2 => by simp at h2
def zpD (l m : List Dt) : List Dt := (l.zip m).map fun p => .tup [p.1, p.2]
theorem zpD_len {l m : List Dt} : (zpD l m).length = min l.length m.length := by unfold zpD; rw [List.length_map, List.length_zip]
theorem zpD_get {l m : List Dt} {i : Nat} {d e : Dt} (h1 : l[i]? = some d) (h2 : m[i]? = some e) : (zpD l m)[i]? = some (.tup [d, e]) := by
  unfold zpD; rw [List.getElem?_map, zip_get h1 h2]; rfl
theorem wj_zipL {a b : Addr} {xs ys : List V} {l m : List Dt} {G : Hp} (h : G a = some (.lst xs)) (h' : G b = some (.lst ys)) (r : RDs K G l xs) (r' : RDs K G m ys) : Wj K (Itz K a b) (zpD l m) G := by
  have e := r.length
  have e' := r'.length
  have w := walk_zip (K := K) (a := a) (b := b) (xs := xs) (ys := ys) rfl
  have el : (zpD l m).length = min xs.length ys.length := by rw [zpD_len, e, e']
  refine ⟨fun i H hi s => w.goes i H (by rw [el] at hi; exact hi) ⟨SqL.of (s _ _ h), SqL.of (s _ _ h')⟩, fun H s => by rw [el]; exact w.stops H ⟨SqL.of (s _ _ h), SqL.of (s _ _ h')⟩, fun i G1 H x H' hi s1 s2 y => ?_⟩
  obtain ⟨T, u, v, rfl, nT, rfl, f1, f2⟩ := w.yields i H x H' (by rw [el] at hi; exact hi) ⟨SqL.of (s2 _ _ (s1 _ _ h)), SqL.of (s2 _ _ (s1 _ _ h'))⟩ y
  obtain ⟨d1, g1, q1⟩ := r.back f1
  obtain ⟨d2, g2, q2⟩ := r'.back f2
  obtain ⟨G', n, rd⟩ := nw_pair s2 nT (q1.same s1) (q2.same s1)
  exact ⟨G', _, n, zpD_get g1 g2, rd⟩
theorem walk_zipT {a b : Addr} {xs ys : List V} : Walk (RZ.ItzT K a b) (min xs.length ys.length) (fun H => SqT K H a xs ∧ SqT K H b ys) (YPair (fun i => xs[i]?) (fun i => ys[i]?)) := by
  refine ⟨fun i H hi q => ?_, fun _ q => ⟨xs, ys, q.1, q.2, by omega⟩, fun _ _ _ _ _ q ⟨T, x, y, e1, e2, e3, f, g⟩ => ⟨T, x, y, e1, e2, e3, f xs q.1, g ys q.2⟩⟩
  have h1 : i < xs.length := by omega
  have h2 : i < ys.length := by omega
  exact ⟨xs, ys, xs[i], ys[i], q.1, q.2, List.getElem?_eq_getElem h1, List.getElem?_eq_getElem h2⟩
theorem wj_zipT {a b : Addr} {xs ys : List V} {l m : List Dt} {G : Hp} (h : SqT K G a xs) (h' : SqT K G b ys) (r : RDs K G l xs) (r' : RDs K G m ys) : Wj K (RZ.ItzT K a b) (zpD l m) G := by
  have e := r.length
  have e' := r'.length
  have w := walk_zipT (K := K) (a := a) (b := b) (xs := xs) (ys := ys)
  have el : (zpD l m).length = min xs.length ys.length := by rw [zpD_len, e, e']
  refine ⟨fun i H hi s => w.goes i H (by rw [el] at hi; exact hi) ⟨same_sqT s h, same_sqT s h'⟩, fun H s => by rw [el]; exact w.stops H ⟨same_sqT s h, same_sqT s h'⟩, fun i G1 H x H' hi s1 s2 y => ?_⟩
  obtain ⟨T, u, v, rfl, nT, rfl, f1, f2⟩ := w.yields i H x H' (by rw [el] at hi; exact hi) ⟨same_sqT s2 (same_sqT s1 h), same_sqT s2 (same_sqT s1 h')⟩ y
  obtain ⟨d1, g1, q1⟩ := r.back f1
  obtain ⟨d2, g2, q2⟩ := r'.back f2
  obtain ⟨G', n, rd⟩ := nw_pair s2 nT (q1.same s1) (q2.same s1)
  exact ⟨G', _, n, zpD_get g1 g2, rd⟩
theorem ai_zipL {ta : TA} {Θ : List Dt → List En → Prop} (h : AA K ta ρ fun ds ρ1 => ∃ l m, ds = [.lst l, .lst m] ∧ Θ (zpD l m) ρ1) : AI K (RZ.iZipA K ta) ρ Θ := fun B σ G H mm Rr q =>
  h B σ G H mm _ fun vs ds ρ1 G1 H1 m1 s1 t1 r1 ⟨l, m, e, p⟩ => by
    subst e
    obtain ⟨x, y, rfl, ⟨a, xs, rfl, h1, h2⟩, ⟨b, ys, rfl, h3, h4⟩⟩ := r1.two
    exact ⟨a, b, xs, ys, rfl, .inl ⟨SqL.of (m1.sub _ _ h1), SqL.of (m1.sub _ _ h3), q _ _ ρ1 G1 H1 m1 s1 t1 (wj_zipL h1 h3 h2 h4) p⟩⟩
theorem ai_zipT {ta : TA} {Θ : List Dt → List En → Prop} (h : AA K ta ρ fun ds ρ1 => ∃ l m, ds = [.tup l, .tup m] ∧ Θ (zpD l m) ρ1) : AI K (RZ.iZipA K ta) ρ Θ := fun B σ G H mm Rr q =>
  h B σ G H mm _ fun vs ds ρ1 G1 H1 m1 s1 t1 r1 ⟨l, m, e, p⟩ => by
    subst e
    obtain ⟨x, y, rfl, ⟨a, xs, rfl, h1, h2⟩, ⟨b, ys, rfl, h3, h4⟩⟩ := r1.two
    exact ⟨a, b, xs, ys, rfl, .inr ⟨same_sqT m1.sub h1, same_sqT m1.sub h3, q _ _ ρ1 G1 H1 m1 s1 t1 (wj_zipT h1 h3 h2 h4) p⟩⟩
/-! ### for -/
theorem as_for {wi : TI} {g : TG} {tb : TS} (h : AI K wi ρ fun l ρ1 => ∃ I : Nat → List En → Prop, I 0 ρ1 ∧ (∀ i d ρ2, l[i]? = some d → I i ρ2 → AG K g d ρ2 fun ρ3 => AS K tb ρ3 (I (i + 1)) R) ∧ ∀ ρ2, I l.length ρ2 → N ρ2) : AS K (tFor wi g tb) ρ N R := fun B σ G H m D qn qr =>
  h B σ G H m _ fun J l ρ1 G1 H1 m1 s1 t1 w ⟨I, i0, is, ie⟩ => by
    refine for_it w.walk (fun i σ2 H2 => ∃ ρ2 G2, Mt K B ρ2 σ2 G2 H2 ∧ Same G1 G2 ∧ Tr B H1 H2 ∧ I i ρ2) ⟨ρ1, G1, m1, Same.refl _, Tr.refl, i0⟩ (fun i σ2 H2 _ ⟨ρ2, G2, m2, s2, t2, p⟩ => s2.trans m2.sub) ?_ ?_
    · rintro i x σ2 H2 H3 hi ⟨ρ2, G2, m2, s2, t2, p⟩ y
      obtain ⟨G3, d, n3, hd, rd⟩ := y G2 s2 m2.sub
      refine is i d ρ2 hd p B σ2 G3 H3 (m2.nw n3) x rd _ fun σ4 ρ4 G4 H4 m4 s4 t4 h4 => ?_
      refine h4 B σ4 G4 H4 m4 _ (fun σ5 ρ5 G5 H5 m5 s5 t5 p5 => ⟨ρ5, G5, m5, (((s2.trans n3.g).trans s4).trans s5), (((t2.trans (Tr.same n3.h)).trans t4).trans t5), p5⟩) ?_
      exact fun v d σ5 ρ5 G5 H5 m5 s5 t5 r5 p5 => qr v d σ5 ρ5 G5 H5 m5 ((((s1.trans s2).trans n3.g).trans s4).trans s5) ((((t1.trans t2).trans (Tr.same n3.h)).trans t4).trans t5) r5 p5
    · rintro σ2 H2 ⟨ρ2, G2, m2, s2, t2, p⟩
      exact qn σ2 ρ2 G2 H2 m2 (s1.trans s2) (t1.trans t2) (ie ρ2 p)
/-! ### comprehensions -/
def wipeE (ρ : List En) : List Nat → List En
  | [] => ρ
  | v :: vs => (wipeE ρ vs).set v .no
theorem Mt.wipe {B : Addr → Prop} {σ : L2.St} {G H : Hp} (m : Mt K B ρ σ G H) : ∀ vs : List Nat, Mt K B (wipeE ρ vs) (L2.wipe σ vs) G H
  | [] => m
  | v :: vs => (Mt.wipe m vs).drop v none
/-- the slots may be others where nothing is known -/
theorem Mt.other {B : Addr → Prop} {σ σ' : L2.St} {G H : Hp} (m : Mt K B ρ σ G H) (hl : σ'.length = σ.length) (h : ∀ i : Nat, ρ[i]? = some En.no ∨ σ'[i]? = σ[i]?) : Mt K B ρ σ' G H where
  sub := m.sub
  pro := m.pro
  len := hl.trans m.len
  da := fun i d e => by
    rcases h i with z | z
    · rw [z] at e; cases e
    · rw [z]; exact m.da i d e
  own := fun i d e => by
    rcases h i with z | z
    · rw [z] at e; cases e
    · rw [z]; exact m.own i d e
  bx := fun i b f e => by
    rcases h i with z | z
    · rw [z] at e; cases e
    · rw [z]; exact m.bx i b f e
  dis := fun i j e e' a h1 h2 o1 o2 ne s1 s2 => by
    rcases h i with z | z
    · rw [z] at h1; cases h1; exact o1
    · rcases h j with z' | z'
      · rw [z'] at h2; cases h2; exact o2
      · rw [z] at s1; rw [z'] at s2; exact m.dis i j e e' a h1 h2 o1 o2 ne s1 s2
/-- off vs the slots are the same -/
def Off (vs : List Nat) (σ σ' : L2.St) : Prop := σ'.length = σ.length ∧ ∀ i, i ∉ vs → σ'[i]? = σ[i]?
theorem wipe_in {σ : L2.St} {i : Nat} : ∀ {vs : List Nat}, i ∈ vs → i < σ.length → (L2.wipe σ vs)[i]? = some none
  | v :: vs, h, lt => by
    unfold L2.wipe
    by_cases e : v = i
    · subst e; exact set_at (by rw [wipe_length]; exact lt)
    · rw [set_off e]
      exact wipe_in (by rcases List.mem_cons.mp h with z | z; exact absurd z.symm e; exact z) lt
theorem Off.wipe {vs : List Nat} {σ σ' : L2.St} (o : Off vs σ σ') : L2.wipe σ' vs = L2.wipe σ vs := by
  apply List.ext_getElem?
  intro i
  by_cases h : i ∈ vs
  · by_cases lt : i < σ.length
    · rw [wipe_in h lt, wipe_in h (by rw [o.1]; exact lt)]
    · rw [List.getElem?_eq_none (by rw [wipe_length, o.1]; omega), List.getElem?_eq_none (by rw [wipe_length]; omega)]
  · rw [wipe_out h, wipe_out h, o.2 i h]
theorem wipe_off (vs : List Nat) (σ : L2.St) : Off vs (L2.wipe σ vs) σ := ⟨(wipe_length σ vs).symm, fun i h => (wipe_out h).symm⟩
def AGv (K : PySem.W.Frag) (vs : List Nat) (g : TG) (d : Dt) (ρ : List En) (N : List En → Prop) : Prop := ∀ B σ G H, Mt K B ρ σ G H → ∀ v, RD K G d v → ∀ Q : L2.St → Hp → Prop, (∀ σ' ρ' G' H', Mt K B ρ' σ' G' H' → Same G G' → Tr B H H' → Off vs σ σ' → N ρ' → Q σ' H') → g v σ H Q
def AGvs (K : PySem.W.Frag) (vs : List Nat) (g : TGs) (ds : List Dt) (ρ : List En) (N : List En → Prop) : Prop := ∀ B σ G H, Mt K B ρ σ G H → ∀ xs, RDs K G ds xs → ∀ Q : L2.St → Hp → Prop, (∀ σ' ρ' G' H', Mt K B ρ' σ' G' H' → Same G G' → Tr B H H' → Off vs σ σ' → N ρ' → Q σ' H') → g xs σ H Q
theorem agv_name {vs : List Nat} {i : Nat} {d : Dt} (hi : i ∈ vs) (h : N (ρ.set i (.da d))) : AGv K vs (gName i) d ρ N := fun B σ G H m v r Q q => q _ _ G H (m.set i r) (Same.refl _) Tr.refl ⟨List.length_set, fun j hj => set_off (fun z => hj (by rw [← z]; exact hi))⟩ h
theorem agvs_nil {vs : List Nat} (h : N ρ) : AGvs K vs gNil [] ρ N := fun B σ G H m xs r Q q => ⟨r, q σ ρ G H m (Same.refl _) Tr.refl ⟨rfl, fun _ _ => rfl⟩ h⟩
theorem agvs_cons {vs : List Nat} {t : TG} {u : TGs} {d : Dt} {ds : List Dt} (h : AGv K vs t d ρ fun ρ1 => AGvs K vs u ds ρ1 N) : AGvs K vs (gCons t u) (d :: ds) ρ N := fun B σ G H m xs r Q q => by
  obtain ⟨x, ys, rfl, r1, r2⟩ := r
  exact ⟨x, ys, rfl, h B σ G H m x r1 _ fun σ1 ρ1 G1 H1 m1 s1 t1 o1 h1 => h1 B σ1 G1 H1 m1 ys (r2.same s1) Q fun σ' ρ' G' H' m' s t o p => q σ' ρ' G' H' m' (s1.trans s) (t1.trans t) ⟨o.1.trans o1.1, fun i hi => (o.2 i hi).trans (o1.2 i hi)⟩ p⟩
theorem agv_tup {vs : List Nat} {t : TGs} {n : Nat} {ds : List Dt} (hn : ds.length = n) (h : AGvs K vs t ds ρ N) : AGv K vs (gTup K n t) (.tup ds) ρ N := fun B σ G H m v r Q q => by
  obtain ⟨a, xs, rfl, r1, r2⟩ := r
  exact ⟨a, xs, rfl, same_sqT m.sub r1, by rw [r2.length]; exact hn, h B σ G H m xs r2 Q q⟩
theorem at_yes (h : ΨT true ρ) : AT K tYes ρ ΨT := fun B σ G H m Q q => q true ρ G H m (Same.refl _) Tr.refl h
/-- [e for .. in ..]: ρ is silent about the slots of the targets -/
theorem ae_lc {wi : TI} {g : TG} {tt : TT} {te : TE} {vs : List Nat}
    (h : AI K wi ρ fun l ρ1 => ∃ I : Nat → List Dt → List En → Prop, I 0 [] (wipeE ρ1 vs) ∧
      (∀ i d acc ρ2, l[i]? = some d → I i acc ρ2 → AGv K vs g d ρ2 fun ρ3 => AT K tt ρ3 fun b ρ4 => (b = true → AE K te ρ4 fun e ρ5 => acc.length < sizeLine ∧ I (i + 1) (acc ++ [e]) (wipeE ρ5 vs)) ∧ (b = false → I (i + 1) acc (wipeE ρ4 vs))) ∧
      ∀ acc ρ2, I l.length acc ρ2 → (∀ i ∈ vs, i < ρ2.length → ρ2[i]? = some En.no) ∧ Ψ (.lst acc) ρ2) : AE K (tLc wi g tt te vs) ρ Ψ := fun B σ G H m Q q =>
  h B σ G H m _ fun J l ρ1 G1 H1 m1 s1 t1 w ⟨I, i0, is, ie⟩ => fun D hD => by
    have back : ∀ {σ2 : L2.St} {ρ2 : List En} {B' : Addr → Prop} {G2 H2 : Hp}, L2.wipe σ2 vs = L2.wipe σ vs → Mt K B' ρ2 σ2 G2 H2 → Mt K B' (wipeE ρ2 vs) (L2.wipe σ vs) G2 H2 := fun e m2 => by
      rw [← e]; exact m2.wipe vs
    have mg := m1.guard (o := .lst []) hD
    refine lc_it w.walk (fun i H2 => ∃ (acc : List Dt) (xs : List V) (ρ2 : List En) (G2 : Hp), Mt K (fun a => B a ∨ a = D) ρ2 (L2.wipe σ vs) G2 H2 ∧ Same G1 G2 ∧ Tr B H1 H2 ∧ H2 D = some (.lst xs) ∧ RDs K G2 acc xs ∧ I i acc ρ2)
      ⟨[], [], wipeE ρ1 vs, G1, mg.wipe vs, Same.refl _, Tr.same (same_up hD), upd_same, rfl, i0⟩ (fun i H2 _ ⟨acc, xs, ρ2, G2, m2, s2, t2, e2, r2, p⟩ => s2.trans m2.sub) ?_ ?_
    · rintro i x H2 H3 hi ⟨acc, xs, ρ2, G2, m2, s2, t2, e2, r2, p⟩ y
      obtain ⟨G3, d, n3, hd, rd⟩ := y G2 s2 m2.sub
      have m3 := m2.nw n3
      refine is i d acc ρ2 hd p _ (L2.wipe σ vs) G3 H3 m3 x rd _ fun σ4 ρ4 G4 H4 m4 s4 t4 o4 h4 => ?_
      have ew : L2.wipe σ4 vs = L2.wipe σ vs := by
        rw [o4.wipe]
        exact (Off.wipe (wipe_off vs σ)).symm
      have e3 := n3.h _ _ e2
      have e4 := t4 _ _ (.inr rfl) e3
      have tB3 : Tr B H1 H4 := (t2.trans (Tr.same n3.h)).trans fun a o b e => t4 a o (.inl b) e
      refine ⟨ew, ?_⟩
      refine h4 _ σ4 G4 H4 m4 _ fun b ρ5 G5 H5 m5 s5 t5 h5 => ?_
      have e5 := t5 _ _ (.inr rfl) e4
      have tB5 : Tr B H1 H5 := tB3.trans fun a o b e => t5 a o (.inl b) e
      have s15 : Same G1 G5 := ((s2.trans n3.g).trans s4).trans s5
      cases b
      · rw [if_neg (by decide)]
        exact ⟨acc, xs, wipeE ρ5 vs, G5, back ew m5, s15, tB5, e5, ((r2.same n3.g).same s4).same s5, h5.2 rfl⟩
      · rw [if_pos rfl]
        refine h5.1 rfl _ σ4 G5 H5 m5 _ fun v e ρ6 G6 H6 m6 s6 t6 r6 h6 => ?_
        have e6 := t6 _ _ (.inr rfl) e5
        have rr : RDs K G6 acc xs := (((r2.same n3.g).same s4).same s5).same s6
        refine ⟨xs, e6, by rw [rr.length]; exact h6.1, acc ++ [e], xs ++ [v], wipeE ρ6 vs, G6, (back ew m6).turn (.inr rfl), s15.trans s6, ?_, upd_same, rr.snoc r6, h6.2⟩
        intro a o b z
        have z1 := t6 a o (.inl b) (tB5 a o b z)
        rw [upd_ne (fun z' => (m1.pro a b).2 (by rw [z']; exact hD))]; exact z1
    · rintro H2 ⟨acc, xs, ρ2, G2, m2, s2, t2, e2, r2, p⟩
      obtain ⟨hn, hp⟩ := ie acc ρ2 p
      have m3 : Mt K (fun a => B a ∨ a = D) ρ2 σ G2 H2 := m2.other (wipe_length σ vs).symm fun i => by
        by_cases hi : i ∈ vs
        · by_cases lt : i < ρ2.length
          · exact .inl (hn i hi lt)
          · exact .inr (by rw [List.getElem?_eq_none (by have := m2.len; rw [wipe_length] at this; omega), List.getElem?_eq_none (by have := m2.len; omega)])
        · exact .inr (wipe_out hi).symm
      have nD : G2 D = none := (m2.pro D (.inr rfl)).1
      have mB : Mt K B ρ2 σ G2 H2 := m3.less fun a b => .inl b
      -- the new list becomes data
      have sg : Same G2 (upd G2 D (.lst xs)) := same_up nD
      have mF : Mt K B ρ2 σ (upd G2 D (.lst xs)) H2 := ⟨fun a o z => by
          by_cases w : a = D
          · subst w; rw [upd_same] at z; cases z; exact e2
          · rw [upd_ne w] at z; exact m2.sub _ _ z,
        fun a b => ⟨by rw [upd_ne (fun w => (m1.pro a b).2 (by rw [w]; exact hD))]; exact (mB.pro a b).1, (mB.pro a b).2⟩, mB.len, fun i d e => by
          obtain ⟨v, z1, z2⟩ := mB.da i d e
          exact ⟨v, z1, z2.same sg⟩, fun i k e => by
          obtain ⟨q', ys, z1, z2, z3, z4, z5⟩ := m3.own i k e
          exact ⟨q', ys, z1, z2, z3.same sg, by rw [upd_ne (fun w => z5 (.inr w))]; exact z4, fun b => z5 (.inl b)⟩, fun i b f e => by
          obtain ⟨y, c, z1, z2, z3, z4, z5, z6⟩ := m3.bx i b f e
          exact ⟨y, c, z1, z2, z3, z4, by rw [upd_ne (fun w => z6 (.inr w))]; exact z5, fun b => z6 (.inl b)⟩, mB.dis⟩
      exact q _ (.lst acc) ρ2 _ H2 mF ((s1.trans s2).trans sg) (t1.trans t2) ⟨D, xs, rfl, upd_same, r2.same sg⟩ hp
end
end Sh
set_option Elab.async false
set_option linter.all false
set_option maxRecDepth 100000
set_option maxHeartbeats 4000000
namespace Sh
open PySem PySem.Spec PyProof.Rows L2
/-! ### promises over data -/
def spP (K : PySem.W.Frag) (S : List Dt → Dt → Prop) : Sp := fun vs H Q _ => ∃ G ds r, Same G H ∧ RDs K G ds vs ∧ S ds r ∧ ∀ v G' H', Nw G H G' H' → RD K G' r v → Q v H'
def But (b : Addr) (H H' : Hp) : Prop := ∀ a o, a ≠ b → H a = some o → H' a = some o
theorem but_upd {H : Hp} {b : Addr} {o : HO} : But b H (upd H b o) := fun a u n e => by rw [upd_ne n]; exact e
structure Nb (b : Addr) (G H G' H' : Hp) : Prop where
  g : Same G G'
  s : Same G' H'
  h : But b H H'
  f : ∀ a, G a = none → H a ≠ none → G' a = none
def spB (K : PySem.W.Frag) (n : Nat) (dom : List Dt → Prop) (post : List Dt → Dt → Prop) : Sp := fun vs H Q _ => ∃ G ds b us y c, ∃ F : Nat, vs = .ref b :: us ∧ Same G H ∧ Bx H b y c ∧ 0 ≤ c ∧ c + (F + n : Nat) ≤ BxM ∧ G b = none ∧ RDs K G ds us ∧ dom ds ∧
  ∀ v d G' H' y' c', Nb b G H G' H' → Bx H' b y' c' → 0 ≤ c' → c' + F ≤ BxM → RD K G' d v → post ds d → Q v H'
section
variable {K : PySem.W.Frag} {ρ : List En} {Ψ : Dt → List En → Prop} {ΨT : Bool → List En → Prop} {ΨA : List Dt → List En → Prop} {N : List En → Prop} {R : Dt → List En → Prop} {Φ : Dt → Prop}
theorem ae_call {S : List Dt → Dt → Prop} {E : XK} {ta : TA} (h : AA K ta ρ fun ds ρ1 => ∃ r, S ds r ∧ Ψ r ρ1) : AE K (tCall (spP K S) [] E ta) ρ Ψ := fun B σ G H m Q q =>
  h B σ G H m _ fun vs ds ρ1 G1 H1 m1 s1 t1 r1 ⟨r, hs, p⟩ => ⟨G1, ds, r, m1.sub, by rw [List.append_nil]; exact r1, hs, fun v G2 H2 n r2 => q v r ρ1 G2 H2 (m1.nw n) (s1.trans n.g) (t1.trans (Tr.same n.h)) r2 p⟩
/-- a box has been drawn from -/
theorem Mt.box {B : Addr → Prop} {σ : L2.St} {G H G' H' : Hp} (m : Mt K B ρ σ G H) {i f : Nat} {b : Addr} {y c : Int} (e : ρ[i]? = some (.bx b f)) (n : Nb b G H G' H') {F : Nat} (h : Bx H' b y c) (c0 : 0 ≤ c) (c1 : c + F ≤ BxM) : Mt K B (ρ.set i (.bx b F)) σ G' H' ∧ Tr B H H' := by
  obtain ⟨y0, k0, z1, z2, z3, z4, z5, z6⟩ := m.bx i b f e
  have tr : Tr B H H' := fun a o ba e => n.h a o (fun w => z6 (by rw [← w]; exact ba)) e
  refine ⟨⟨n.s, fun a ba => ⟨n.f a (m.pro a ba).1 (m.pro a ba).2, ?_⟩, by rw [List.length_set]; exact m.len, ?_, ?_, ?_, ?_⟩, tr⟩
  · intro z
    cases q : H a with
    | none => exact (m.pro a ba).2 q
    | some o => rw [tr a o ba q] at z; cases z
  · intro j d hj
    rcases get_set hj with ⟨rfl, w, lt⟩ | ⟨ne, w⟩
    · cases w
    · obtain ⟨v, w1, w2⟩ := m.da j d w
      exact ⟨v, w1, w2.same n.g⟩
  · intro j l hj
    rcases get_set hj with ⟨rfl, w, lt⟩ | ⟨ne, w⟩
    · cases w
    · obtain ⟨q, xs, w1, w2, w3, w4, w5⟩ := m.own j l w
      exact ⟨q, xs, w1, n.h _ _ (fun z => m.dis i j _ _ b e w trivial trivial ne z1 (by rw [← z]; exact w1)) w2, w3.same n.g, n.f q w4 (some_ne w2), w5⟩
  · intro j b' f' hj
    rcases get_set hj with ⟨rfl, w, lt⟩ | ⟨ne, w⟩
    · cases w
      exact ⟨y, c, z1, h, c0, c1, n.f b z5 z2.ne, z6⟩
    · obtain ⟨y', c', w1, ⟨x, w2, w2'⟩, w3, w4, w5, w6⟩ := m.bx j b' f' w
      exact ⟨y', c', w1, ⟨x, n.h _ _ (fun z => m.dis i j _ _ b e w trivial trivial ne z1 (by rw [← z]; exact w1)) w2, w2'⟩, w3, w4, n.f b' w5 (some_ne w2), w6⟩
  · intro j k e1 e2 a g1 g2 o1 o2 ne s1 s2
    rcases get_set g1 with ⟨rfl, z, lt⟩ | ⟨n1, z1'⟩
    · rcases get_set g2 with ⟨w, z', lt'⟩ | ⟨n2, z2'⟩
      · exact ne w
      · exact m.dis i k _ e2 a e z2' trivial o2 ne s1 s2
    · rcases get_set g2 with ⟨rfl, z, lt⟩ | ⟨n2, z2'⟩
      · exact m.dis j i e1 _ a z1' e o1 trivial ne s1 s2
      · exact m.dis j k e1 e2 a z1' z2' o1 o2 ne s1 s2
theorem ae_draw {n : Nat} {dom : List Dt → Prop} {post : List Dt → Dt → Prop} {E : XK} {ta : TA} {i : Nat} {b : Addr} {f0 : Nat} (e0 : ρ[i]? = some (.bx b f0))
    (h : AA K ta ρ fun ds ρ1 => dom ds ∧ ∃ F, ρ1[i]? = some (.bx b (F + n)) ∧ ∀ d, post ds d → Ψ d (ρ1.set i (.bx b F))) : AE K (tCall (spB K n dom post) [] E (tCons (tVar i) ta)) ρ Ψ := fun B σ G H m Q q => by
  obtain ⟨y0, k0, z1, _⟩ := m.bx i b f0 e0
  refine ⟨_, z1, h B σ G H m _ fun vs ds ρ1 G1 H1 m1 s1 t1 r1 ⟨hd, F, e, p⟩ => ?_⟩
  obtain ⟨y, c, w1, w2, w3, w4, w5, w6⟩ := m1.bx i b (F + n) e
  refine ⟨G1, ds, b, vs, y, c, F, by rw [List.append_nil], m1.sub, w2, w3, w4, w5, r1, hd, fun v d G2 H2 y' c' nb hb c0 c1 r2 hp => ?_⟩
  obtain ⟨m2, t2⟩ := m1.box e nb hb c0 c1
  exact q v d _ G2 H2 m2 (s1.trans nb.g) (t1.trans t2) r2 (p d hp)
/-! ### a def keeps such a promise -/
def env0 (N : List Str) (ds : List Dt) : List En := ds.map En.da ++ List.replicate (N.length - ds.length) .no
def envB (N : List Str) (b : Addr) (f : Nat) (ds : List Dt) : List En := .bx b f :: (ds.map En.da ++ List.replicate (N.length - (ds.length + 1)) .no)
theorem rep_get {n i : Nat} {e : En} (h : (List.replicate n En.no)[i]? = some e) : e = .no := by
  rw [List.getElem?_replicate] at h
  split at h
  · cases h; rfl
  · cases h
theorem da_get {ds : List Dt} {n i : Nat} {e : En} (h : (ds.map En.da ++ List.replicate n En.no)[i]? = some e) : e = .no ∨ ∃ d, ds[i]? = some d ∧ e = .da d := by
  by_cases lt : i < ds.length
  · rw [List.getElem?_append_left (by rw [List.length_map]; exact lt), List.getElem?_map] at h
    obtain ⟨d, h1, h2⟩ := Option.map_eq_some_iff.mp h
    exact .inr ⟨d, h1, h2.symm⟩
  · rw [List.getElem?_append_right (by rw [List.length_map]; omega)] at h
    exact .inl (rep_get h)
theorem start_get {N : List Str} {vs : List V} {i : Nat} {x : V} (h : vs[i]? = some x) : (L2.start N vs)[i]? = some (some x) := by
  have lt := (List.getElem?_eq_some_iff.mp h).1
  unfold L2.start
  rw [List.getElem?_append_left (by rw [List.length_map]; exact lt), List.getElem?_map, h]; rfl
theorem mt_start {N : List Str} {ds : List Dt} {vs : List V} {G H : Hp} (s : Same G H) (r : RDs K G ds vs) : Mt K (fun a => H a ≠ none ∧ G a = none) (env0 N ds) (L2.start N vs) G H where
  sub := s
  pro := fun a b => ⟨b.2, b.1⟩
  len := by unfold L2.start env0; simp [r.length]
  da := fun i d e => by
    rcases da_get e with z | ⟨d', z1, z2⟩
    · cases z
    · cases z2
      obtain ⟨x, h1, h2⟩ := r.get z1
      exact ⟨x, start_get h1, h2⟩
  own := fun i l e => by rcases da_get e with z | ⟨d', z1, z2⟩ <;> contradiction
  bx := fun i b f e => by rcases da_get e with z | ⟨d', z1, z2⟩ <;> contradiction
  dis := fun i j e e' a h1 h2 o1 o2 ne s1 s2 => by
    rcases da_get h1 with z | ⟨d', z1, z2⟩
    · subst z; exact o1
    · subst z2; exact o1
theorem mt_startB {N : List Str} {ds : List Dt} {vs : List V} {G H : Hp} {b : Addr} {y c : Int} {f : Nat} (s : Same G H) (r : RDs K G ds vs) (hb : Bx H b y c) (c0 : 0 ≤ c) (c1 : c + f ≤ BxM) (gb : G b = none) : Mt K (fun a => H a ≠ none ∧ G a = none ∧ a ≠ b) (envB N b f ds) (L2.start N (.ref b :: vs)) G H where
  sub := s
  pro := fun a b => ⟨b.2.1, b.1⟩
  len := by unfold L2.start envB; simp [r.length]
  da := fun i d e => by
    cases i with
    | zero => cases e
    | succ i =>
      rcases da_get (show _ = some _ from e) with z | ⟨d', z1, z2⟩
      · cases z
      · cases z2
        obtain ⟨x, h1, h2⟩ := r.get z1
        exact ⟨x, start_get (vs := .ref b :: vs) (i := i + 1) h1, h2⟩
  own := fun i l e => by
    cases i with
    | zero => cases e
    | succ i => rcases da_get (show _ = some _ from e) with z | ⟨d', z1, z2⟩ <;> contradiction
  bx := fun i b' f' e => by
    cases i with
    | zero => cases e; exact ⟨y, c, rfl, hb, c0, c1, gb, fun z => z.2.2 rfl⟩
    | succ i => rcases da_get (show _ = some _ from e) with z | ⟨d', z1, z2⟩ <;> contradiction
  dis := fun i j e e' a h1 h2 o1 o2 ne s1 s2 => by
    cases i with
    | zero =>
      cases j with
      | zero => exact ne rfl
      | succ j => rcases da_get (show _ = some _ from h2) with z | ⟨d', z1, z2⟩ <;> (subst_vars; exact o2)
    | succ i => rcases da_get (show _ = some _ from h1) with z | ⟨d', z1, z2⟩ <;> (subst_vars; exact o1)
end
section
variable {P : Program} {w : World} {K : PySem.W.Frag} {mg : Str → Option Value} {base : Heap}
theorem okP {x qual : Str} {st : Stmt} {f : Addr} {fd : FuncData} {N ps : List Str} {k : Nat} {S : List Dt → Dt → Prop} (F : Fun K x qual st f fd) (sc : FnScope N ps (defScope st)) (len : ∀ ds r, S ds r → ds.length = ps.length)
    (body : ∀ (cdv : Value) (A : Around) (outer : List Env) (s : Shared) (H : Hp) (E : XK), Room k (A.deeper (envOfC qual (defScope st) s.heap.objs.size f cdv)) → ∀ ds r, S ds r →
      ∃ t, PSs (cxOf CX0 P w K mg base N qual (defScope st) f cdv A outer s H E).nox (defBody st) t ∧ AS K t (env0 N ds) (fun _ => r = .non) (fun d _ => d = r)) : FnOk P w K mg base CX0 (k + 1) f fd ps (spP K S) := by
  refine F.ok sc (fun vs H Q E h => ?_) (fun cdv A outer s H vs Q E hr h => ?_)
  · obtain ⟨G, ds, r, s, rd, hs, _⟩ := h
    rw [rd.length]; exact len ds r hs
  · obtain ⟨G, ds, r, sm, rd, hs, q⟩ := h
    obtain ⟨t, ht, ha⟩ := body cdv A outer s H E hr ds r hs
    refine ⟨t, ht, ha _ _ G H (mt_start sm rd) _ (fun σ' ρ' G' H' m' s' t' e => ?_) (fun v d σ' ρ' G' H' m' s' t' rv e => ?_)⟩
    all_goals
      have nw : Nw G H G' H' := ⟨s', m'.sub, fun a o e => by
          cases z : G a with
          | none => exact t' a o ⟨some_ne e, z⟩ e
          | some o' => rw [sm _ _ z] at e; cases e; exact m'.sub _ _ (s' _ _ z), fun a h1 h2 => (m'.pro a ⟨h2, h1⟩).1⟩
    · exact q .non G' H' nw (by rw [e]; rfl)
    · exact q v G' H' nw (by rw [← e]; exact rv)
theorem okB {x qual : Str} {st : Stmt} {f : Addr} {fd : FuncData} {N ps : List Str} {k n : Nat} {dom : List Dt → Prop} {post : List Dt → Dt → Prop} (F : Fun K x qual st f fd) (sc : FnScope N ps (defScope st)) (len : ∀ ds, dom ds → ds.length + 1 = ps.length)
    (body : ∀ (cdv : Value) (A : Around) (outer : List Env) (s : Shared) (H : Hp) (E : XK), Room k (A.deeper (envOfC qual (defScope st) s.heap.objs.size f cdv)) → ∀ ds, dom ds →
      ∃ t, PSs (cxOf CX0 P w K mg base N qual (defScope st) f cdv A outer s H E).nox (defBody st) t ∧ ∀ (b : Addr) (F : Nat), AS K t (envB N b (F + n) ds) (fun ρ => post ds .non ∧ ∃ f, ρ[0]? = some (.bx b f) ∧ F ≤ f) (fun d ρ => post ds d ∧ ∃ f, ρ[0]? = some (.bx b f) ∧ F ≤ f)) : FnOk P w K mg base CX0 (k + 1) f fd ps (spB K n dom post) := by
  refine F.ok sc (fun vs H Q E h => ?_) (fun cdv A outer s H vs Q E hr h => ?_)
  · obtain ⟨G, ds, b, us, y, c, F', rfl, sm, hb, c0, c1, gb, rd, hd, _⟩ := h
    rw [List.length_cons, rd.length]; exact len ds hd
  · obtain ⟨G, ds, b, us, y, c, F', rfl, sm, hb, c0, c1, gb, rd, hd, q⟩ := h
    obtain ⟨t, ht, ha⟩ := body cdv A outer s H E hr ds hd
    refine ⟨t, ht, ha b F' _ _ G H (mt_startB sm rd hb c0 c1 gb) _ (fun σ' ρ' G' H' m' s' t' e => ?_) (fun v d σ' ρ' G' H' m' s' t' rv e => ?_)⟩
    all_goals
      obtain ⟨hp, f', he, hf⟩ := e
      have nb : Nb b G H G' H' := ⟨s', m'.sub, fun a o ne e => by
          cases z : G a with
          | none => exact t' a o ⟨some_ne e, z, ne⟩ e
          | some o' => rw [sm _ _ z] at e; cases e; exact m'.sub _ _ (s' _ _ z), fun a h1 h2 => by
          by_cases w : a = b
          · subst w
            obtain ⟨_, _, _, _, _, _, z, _⟩ := m'.bx 0 a f' he
            exact z
          · exact (m'.pro a ⟨h2, h1, w⟩).1⟩
      obtain ⟨y', c', w1, w2, w3, w4, w5, w6⟩ := m'.bx 0 b f' he
    · exact q .non .non G' H' y' c' nb w2 w3 (by omega) rfl hp
    · exact q v d G' H' y' c' nb w2 w3 (by omega) rv hp
end
/-! ### calls by keywords alone -/
def tCallK0 (m : Nat) (sp : Sp) (gV : List V → List V) (E : XK) (tk : TA) : TE := fun σ H Q => tk σ H fun zs H2 => zs.length = m ∧ sp (gV zs) H2 Q E
structure KB0 (K : PySem.W.Frag) (fd : FuncData) (ps ks : List Str) (g : List Value → List Value) (gV : List V → List V) : Prop where
  to : ∀ (s : Shared) (ws : List Value), ws.length = ks.length → BindsTo s fd ⟨[], ks.zip ws⟩ (ps.zip (g ws))
  rel : ∀ {zs : List V} {ws : List Value}, Vals zs ws → zs.length = ks.length → Vals (gV zs) (g ws)
section
variable {X : Cx} {CX : CXT} {k n : Nat} {f : Addr} {fd : FuncData} {ps ks : List Str} {sp : Sp} {E : XK} {x : Str} {p pos : Pos} {kws : List Keyword} {tk : TA} {g : List Value → List Value} {gV : List V → List V}
theorem run_fnK0 {pins : List (Addr × Obj)} {σ : L2.St} {H : Hp} {s : Shared} {Q : VK} {ws : List Value} {zs : List V} (F : FnOk X.prog X.w X.K X.mg X.base CX k f fd ps sp) (hr : Room k X.A) (hb : KB0 X.K fd ps ks g gV) (hx : Passes CX X E)
    (I : Inv X pins σ H s) (rz : Vals zs ws) (l2 : zs.length = ks.length) (h : sp (gV zs) H Q E) : wpAny (model X.prog X.w) X.A (call (.ref f) [] (ks.zip ws)) (EP X pins σ Q) X.xe s := by
  have r2 := hb.rel rz l2
  refine wpAny_call (codeAny_mono (F.run X.A X.stack s H ⟨[], ks.zip ws⟩ (g ws) (gV zs) Q E hr I.env0 (hb.to s ws (rz.length.symm.trans l2)) r2 h) fun r s' hq => ?_)
  cases r with
  | error e => exact hx pins σ H s e s' I hq
  | ok fl =>
    cases fl with
    | ret u => exact I.after hq
    | next => exact False.elim hq
    | brk => exact False.elim hq
    | cont => exact False.elim hq
theorem pe_callK0 (F : FnOk X.prog X.w X.K X.mg X.base CX k f fd ps sp) (hr : Room k X.A) (hg : Gl X x) (hm : X.mg x = some (.ref f)) (hk : PySem.W.keepIn X.K (.ref f) = true) (hb : KB0 X.K fd ps ks g gV) (hx : Passes CX X E)
    (hkw : PK X kws tk) (hall : (backToKw pos (keywordEach kws X.env)).all (·.1.isSome) = true := by rfl) (hks : (backToKw pos (keywordEach kws X.env)).filterMap (·.1) = ks := by rfl)
    (hdb : (x == ("__debug__" : Str)) = false := by decide) (hpl : ((backTo pos (starEach [] X.env)).any (·.1) || (backToKw pos (keywordEach kws X.env)).any (·.1.isNone)) = false := by rfl) :
    PE X (.Call (.Name x p) [] kws pos) (tCallK0 ks.length sp gV E tk) := by
  refine ⟨fun pins s σ H Q I h => ?_⟩
  refine wpAny_Call_Name_kw (ld_glob I hg hm ?_ hdb)
  refine PySem.W.callWith_KW0 (h₀ := X.base) I.ok.mod.kin hk hall ?_ hpl
  refine thn (hkw.run pos pins s σ H _ I h) fun ws s2 ⟨zs, H2, I2, rz, l2, q2⟩ => ⟨I2.kIn, ?_⟩
  rw [hks]
  exact run_fnK0 F hr hb hx I2 rz l2 q2
end
section
variable {K : PySem.W.Frag} {ρ : List En} {Ψ : Dt → List En → Prop} {E : XK} {tk : TA}
theorem ae_callK {m : Nat} {S : List Dt → Dt → Prop} {gV : List V → List V} (gD : List Dt → List Dt) (hg : ∀ {G : Hp} {ds : List Dt} {vs : List V}, RDs K G ds vs → ds.length = m → RDs K G (gD ds) (gV vs)) (h : AA K tk ρ fun ds ρ1 => ds.length = m ∧ ∃ r, S (gD ds) r ∧ Ψ r ρ1) : AE K (tCallK0 m (spP K S) gV E tk) ρ Ψ := fun B σ G H mm Q q =>
  h B σ G H mm _ fun vs ds ρ1 G1 H1 m1 s1 t1 r1 ⟨l, r, hs, p⟩ => ⟨by rw [r1.length]; exact l, G1, gD ds, r, m1.sub, hg r1 l, hs, fun v G2 H2 n r2 => q v r ρ1 G2 H2 (m1.nw n) (s1.trans n.g) (t1.trans (Tr.same n.h)) r2 p⟩
end
end Sh
set_option Elab.async false
set_option linter.all false
set_option maxRecDepth 100000
set_option maxHeartbeats 4000000
namespace Sh
open PySem PySem.Spec PyProof.Rows L2
/-- a def that may be called: its promise, how its arguments bind -/
structure Cal (P : Program) (w : World) (K : PySem.W.Frag) (mg : Str → Option Value) (base : Heap) (n : Nat) (x : Str) (ps : List Str) (sp : Sp) (g : Addr) (d : FuncData) : Prop where
  ok : FnOk P w K mg base CX0 n g d ps sp
  bi : Binds K d ps []
  kp : PySem.W.keepIn K (.ref g) = true
  mg : mg x = some (.ref g)
structure Blts (mg : Str → Option Value) : Prop where
  len : mg "len" = none
  abs : mg "abs" = none
  int : mg "int" = none
  list : mg "list" = none
  tuple : mg "tuple" = none
  bool : mg "bool" = none
  str : mg "str" = none
  enumerate : mg "enumerate" = none
  isinstance : mg "isinstance" = none
  all : mg "all" = none
  any : mg "any" = none
  zip : mg "zip" = none
  range : mg "range" = none
  min : mg "min" = none
  max : mg "max" = none
  set : mg "set" = none
  sorted : mg "sorted" = none
  repr : mg "repr" = none
  sum : mg "sum" = none
section
variable {K : PySem.W.Frag} {ρ : List En} {N : List En → Prop} {R : Dt → List En → Prop}
theorem ar_eq3 {d e : Dt} {x y : V} {Φ : Dt → Prop} (c : d.v? = some x ∧ e.v? = some y ∧ scal x y = true) (h : Φ (.bl (decide (x = y)))) : AR K rEq d e Φ := ar_eq c.1 c.2.1 c.2.2 h
theorem ar_ne3 {d e : Dt} {x y : V} {Φ : Dt → Prop} (c : d.v? = some x ∧ e.v? = some y ∧ scal x y = true) (h : Φ (.bl (!decide (x = y)))) : AR K rNe d e Φ := ar_ne c.1 c.2.1 c.2.2 h
theorem ac_isi1 {d : Dt} {T : String} {b : Bool} {Φ : Dt → Prop} (c : d.noTy = true ∧ kitB d.kind T = some b) (h : Φ (.bl b)) : AC K (rIsi K) [d, .ty T] Φ := ac_isi c.1 c.2 h
theorem kb_NoneType_list : kitB "NoneType" "list" = some false := by decide +kernel
theorem kb_NoneType_tuple : kitB "NoneType" "tuple" = some false := by decide +kernel
theorem kb_NoneType_bool : kitB "NoneType" "bool" = some false := by decide +kernel
theorem kb_NoneType_int : kitB "NoneType" "int" = some false := by decide +kernel
theorem kb_NoneType_str : kitB "NoneType" "str" = some false := by decide +kernel
theorem kb_bool_list : kitB "bool" "list" = some false := by decide +kernel
theorem kb_bool_tuple : kitB "bool" "tuple" = some false := by decide +kernel
theorem kb_bool_bool : kitB "bool" "bool" = some true := by decide +kernel
theorem kb_bool_int : kitB "bool" "int" = some true := by decide +kernel
theorem kb_bool_str : kitB "bool" "str" = some false := by decide +kernel
theorem kb_int_list : kitB "int" "list" = some false := by decide +kernel
theorem kb_int_tuple : kitB "int" "tuple" = some false := by decide +kernel
theorem kb_int_bool : kitB "int" "bool" = some false := by decide +kernel
theorem kb_int_int : kitB "int" "int" = some true := by decide +kernel
theorem kb_int_str : kitB "int" "str" = some false := by decide +kernel
theorem kb_str_list : kitB "str" "list" = some false := by decide +kernel
theorem kb_str_tuple : kitB "str" "tuple" = some false := by decide +kernel
theorem kb_str_bool : kitB "str" "bool" = some false := by decide +kernel
theorem kb_str_int : kitB "str" "int" = some false := by decide +kernel
theorem kb_str_str : kitB "str" "str" = some true := by decide +kernel
theorem kb_tuple_list : kitB "tuple" "list" = some false := by decide +kernel
theorem kb_tuple_tuple : kitB "tuple" "tuple" = some true := by decide +kernel
theorem kb_tuple_bool : kitB "tuple" "bool" = some false := by decide +kernel
theorem kb_tuple_int : kitB "tuple" "int" = some false := by decide +kernel
theorem kb_tuple_str : kitB "tuple" "str" = some false := by decide +kernel
theorem kb_list_list : kitB "list" "list" = some true := by decide +kernel
theorem kb_list_tuple : kitB "list" "tuple" = some false := by decide +kernel
theorem kb_list_bool : kitB "list" "bool" = some false := by decide +kernel
theorem kb_list_int : kitB "list" "int" = some false := by decide +kernel
theorem kb_list_str : kitB "list" "str" = some false := by decide +kernel
theorem ar_neS {d : Dt} {Φ : Dt → Prop} (c : d.pl = true ∧ SeqAt.shaped d.pd = true) (h : Φ (.bl false)) : AR K (rNeD K) d d Φ := ar_neD c.1 c.1 c.2 c.2 (by rw [SeqAt.eqv_refl d.pd (SeqAt.canLay_of_shaped c.2)]; exact h)
theorem ac_len {k : Bool} {l : List Dt} {Φ : Dt → Prop} (h : Φ (.int (l.length : Nat))) : AC K (fun xs H Q => ∃ p ys, xs = [.ref p] ∧ (SqL K H p ys ∨ SqT K H p ys) ∧ Q (.int ys.length) H) [sq k l] Φ := by
  cases k
  · exact ac_lenL h
  · exact ac_lenT h
theorem wipe_no {ρ : List En} {i : Nat} : ∀ {vs : List Nat}, i ∈ vs → i < ρ.length → (wipeE ρ vs)[i]? = some En.no
  | v :: vs, h, lt => by
    have hl : ∀ ws : List Nat, (wipeE ρ ws).length = ρ.length := fun ws => by
      induction ws with
      | nil => rfl
      | cons w ws ih => unfold wipeE; rw [List.length_set, ih]
    unfold wipeE
    by_cases e : v = i
    · subst e; exact set_at (by rw [hl]; exact lt)
    · rw [set_off e]
      exact wipe_no (by rcases List.mem_cons.mp h with z | z; exact absurd z.symm e; exact z) lt
theorem wipeE_len {ρ : List En} (ws : List Nat) : (wipeE ρ ws).length = ρ.length := by
  induction ws with
  | nil => rfl
  | cons w ws ih => unfold wipeE; rw [List.length_set, ih]
/-- a comprehension item by item -/
theorem ae_lcMap {Ψ : Dt → List En → Prop} {wi : TI} {g : TG} {te : TE} {vs : List Nat} (f : Dt → Dt)
    (h : AI K wi ρ fun l ρ1 => l.length < sizeLine ∧ (∀ d ∈ l, AGv K vs g d (wipeE ρ1 vs) fun ρ3 => AE K te ρ3 fun e ρ5 => e = f d ∧ wipeE ρ5 vs = wipeE ρ1 vs) ∧ Ψ (.lst (l.map f)) (wipeE ρ1 vs)) : AE K (tLc wi g tYes te vs) ρ Ψ := by
  refine ae_lc (fun B σ G H m R q => h B σ G H m R fun J l ρ1 G1 H1 m1 s1 t1 w ⟨h1, h2, h3⟩ => q J l ρ1 G1 H1 m1 s1 t1 w ⟨fun i acc ρ2 => i ≤ l.length ∧ acc = (l.take i).map f ∧ ρ2 = wipeE ρ1 vs, ⟨Nat.zero_le _, rfl, rfl⟩, ?_, ?_⟩)
  · rintro i d acc ρ2 hd ⟨hi, rfl, rfl⟩
    have lt := (List.getElem?_eq_some_iff.mp hd).1
    have hm := List.mem_of_getElem? hd
    intro B σ G H m v r Q q
    refine h2 d hm B σ G H m v r Q fun σ' ρ' G' H' m' s t o p => q σ' ρ' G' H' m' s t o (at_yes ⟨fun _ => ?_, fun z => nomatch z⟩)
    refine ae_mono p fun e ρ5 ⟨e1, e2⟩ => ⟨?_, lt, ?_, e2⟩
    · rw [List.length_map, List.length_take]; exact Nat.lt_of_le_of_lt (Nat.min_le_right _ _) h1
    · rw [e1, List.take_succ, hd, List.map_append]; rfl
  · rintro acc ρ2 ⟨_, rfl, rfl⟩
    refine ⟨fun i hi lt => wipe_no hi (by rw [wipeE_len] at lt; exact lt), ?_⟩
    rw [List.take_length]; exact h3
theorem sz60 {n : Nat} (h : n ≤ 60) : n ≤ sizeLine := Nat.le_trans h (by decide)
theorem sz60' {n : Nat} (h : n ≤ 60) : n < sizeLine := Nat.lt_of_le_of_lt h (by decide)
theorem cxOf_K {CX : CXT} {P : Program} {w : World} {mg : Str → Option Value} {base : Heap} {N : List Str} {q : Str} {sc : Scope} {f : Addr} {cdv : Value} {A : Around} {outer : List Env} {s : Shared} {H : Hp} {E : XK} : (cxOf CX P w K mg base N q sc f cdv A outer s H E).K = K := rfl
end
def oD : Option Int → Dt
  | none => .non
  | some i => .int i
theorem oD_some {i : Int} : oD (some i) = .int i := rfl
theorem oD_none : oD none = .non := rfl
end Sh
set_option Elab.async false
set_option linter.all false
set_option maxRecDepth 100000
set_option maxHeartbeats 4000000
/-! ### set(xs) of a list of whole numbers; max, min of one with a default -/
set_option Elab.async false
set_option linter.all false
set_option maxRecDepth 100000
set_option maxHeartbeats 4000000
set_option Elab.async false
set_option linter.all false
set_option maxRecDepth 100000
set_option maxHeartbeats 4000000
namespace Sh
open PySem PySem.Spec PyProof.Rows L2
section
variable {K : PySem.W.Frag} {ρ : List En} {N : List En → Prop} {Φ : Dt → Prop}
theorem ints_pl : ∀ ns : List Int, pls (ns.map Dt.int) = true
  | [] => rfl
  | n :: ns => by show (true && pls (ns.map Dt.int)) = true; rw [ints_pl ns]; rfl
theorem ints_lay : ∀ ns : List Int, PyData.canLayAll0 (pds (ns.map Dt.int)) = true ∧ PyData.depthAll (pds (ns.map Dt.int)) = 0
  | [] => ⟨rfl, rfl⟩
  | n :: ns => by
    obtain ⟨h1, h2⟩ := ints_lay ns
    refine ⟨?_, ?_⟩
    · show (true && PyData.canLayAll0 (pds (ns.map Dt.int))) = true
      rw [h1]; rfl
    · show max 0 (PyData.depthAll (pds (ns.map Dt.int))) = 0
      rw [h2]; rfl
theorem ints_shaped (ns : List Int) : SeqAt.shaped (Dt.lst (ns.map Dt.int)).pd = true := by
  obtain ⟨h1, h2⟩ := ints_lay ns
  show (PyData.canLayAll0 (pds (ns.map Dt.int)) && decide (PyData.depthAll (pds (ns.map Dt.int)) + 1 ≤ 64)) = true
  rw [h1, h2]; rfl
theorem ar_neNil {ns : List Int} (h : Φ (.bl (!ns.isEmpty))) : AR K (rNeD K) (.lst (ns.map Dt.int)) (.lst []) Φ := by
  refine ar_neD (ints_pl ns) rfl (ints_shaped ns) rfl ?_
  cases ns with
  | nil => exact h
  | cons n ns => exact h
theorem cxOf_w {CX : CXT} {P : Program} {w : World} {mg : Str → Option Value} {base : Heap} {N : List Str} {q : Str} {sc : Scope} {f : Addr} {cdv : Value} {A : Around} {outer : List Env} {s : Shared} {H : Hp} {E : XK} : (cxOf CX P w K mg base N q sc f cdv A outer s H E).w = w := rfl
theorem RDs.rev {G : Hp} : ∀ {ds : List Dt} {vs : List V}, RDs K G ds vs → RDs K G ds.reverse vs.reverse
  | [], _, h => by cases (show _ = [] from h); rfl
  | d :: ds, _, ⟨x, r, e, h1, h2⟩ => by
    subst e
    rw [List.reverse_cons, List.reverse_cons]
    exact (RDs.rev h2).snoc h1
theorem vals_rev : ∀ {zs : List V} {ws : List Value}, Vals zs ws → Vals zs.reverse ws.reverse
  | _, _, .nil => .nil
  | _, _, .cons (l₁ := zs) (l₂ := ws) r t => by
    rw [List.reverse_cons, List.reverse_cons]
    exact (vals_rev t).append (.cons r .nil)
end
end Sh
set_option Elab.async false
set_option linter.all false
set_option maxRecDepth 100000
set_option maxHeartbeats 4000000
namespace Sh
open PySem PySem.Spec PyProof.Rows L2
def topS (i : Nat) : Stmt := PySem.Challenge.pw_shadowruns_k40_gaps_closed_by_ways.main.body.getD i (.Pass ⟨0, 0, 0, 0⟩)
abbrev sBox : Stmt := topS 7
abbrev sTake : Stmt := topS 8
abbrev sCells : Stmt := topS 9
abbrev sOf : Stmt := topS 10
theorem scBox : FnScope ["_law_script", "_law_k", "_law_cell"] ["_law_script", "_law_k"] (defScope sBox) := ⟨rfl, rfl, rfl, by decide +kernel, rfl, by decide +kernel, by decide +kernel⟩
theorem scTake : FnScope ["_law_box_here", "_law_below", "_law_found", "_law_once", "_law_twice"] ["_law_box_here", "_law_below"] (defScope sTake) := ⟨rfl, rfl, rfl, by decide +kernel, rfl, by decide +kernel, by decide +kernel⟩
theorem scCells : FnScope ["_law_script", "_law_most", "_law_cells_here", "_law_k", "_law_cell"] ["_law_script", "_law_most"] (defScope sCells) := ⟨rfl, rfl, rfl, by decide +kernel, rfl, by decide +kernel, by decide +kernel⟩
/-! numbers -/
theorem fm0 {a b : Int} (h : 0 < b) : 0 ≤ a.fmod b := Int.fmod_nonneg_of_pos a h
theorem fm1 {a b : Int} (h : 0 < b) : a.fmod b < b := Int.fmod_lt_of_pos a h
theorem fd0 {a b : Int} (h : 0 ≤ a) (hb : 0 ≤ b) : 0 ≤ a.fdiv b := Int.fdiv_nonneg h hb
theorem fdle {a b : Int} (h : 0 ≤ a) (hb : 0 < b) : a.fdiv b ≤ a := by
  rw [Int.fdiv_eq_ediv_of_nonneg _ (by omega)]
  exact Int.ediv_le_self b h
theorem b01 (c : Bool) : (if c = true then (1 : Int) else 0) = 0 ∨ (if c = true then (1 : Int) else 0) = 1 := by cases c <;> simp
theorem b01s (c : Bool) : -(2 ^ 64) < (if c = true then (1 : Int) else 0) ∧ (if c = true then (1 : Int) else 0) < 2 ^ 64 := by cases c <;> decide
theorem nz (k : Int) (h : decide (k = 0) = false := by decide) : k ≠ 0 := of_decide_eq_false h
theorem But.of {b : Addr} {H H' : Hp} (h : Same H H') : But b H H' := fun a o _ e => h a o e
theorem But.refl {b : Addr} {H : Hp} : But b H H := fun _ _ _ e => e
theorem But.trans {b : Addr} {H H1 H2 : Hp} (x : But b H H1) (y : But b H1 H2) : But b H H2 := fun a o n e => y a o n (x a o n e)
section
variable {P : Program} {w : World} {K : PySem.W.Frag} {mg : Str → Option Value} {base : Heap}
/-! ### _law_box -/
def spBox (K : PySem.W.Frag) : Sp := fun vs H Q _ => ∃ (a : Addr) (ns : List Int) (k : Int), vs = [.ref a, .int k] ∧ SqL K H a (ns.map V.int) ∧ ns.length ≤ 1000 ∧ 0 ≤ k ∧ k ≤ 1000 ∧
  ∀ p x y, H p = none → 0 ≤ x → 0 ≤ y → y < 4611686018427387904 → Q (.ref p) (upd H p (.lst [.int x, .int y, .int 0]))
/-- what is left behind the cell z -/
theorem box_tail {H : Hp} {Q : VK} {k z : Int} (hq : ∀ p x y, H p = none → 0 ≤ x → 0 ≤ y → y < 4611686018427387904 → Q (.ref p) (upd H p (.lst [.int x, .int y, .int 0]))) (k0 : 0 ≤ k) (k1 : k ≤ 1000)
    {p : Addr} (hp : H p = none) (j : Int) (hj : j = 0 ∨ j = 1) : Q (.ref p) (upd H p (.lst [.int ((if z < 0 then -z else z) * j), .int (z.fmod 2305843009213693951 + 39373 * k + 71), .int 0])) := by
  have e0 : (0 : Int) ≤ z.fmod 2305843009213693951 := fm0 (by decide)
  have e1 : z.fmod 2305843009213693951 < 2305843009213693951 := fm1 (by decide)
  refine hq p _ _ hp ?_ (by omega) (by omega)
  have a0 : 0 ≤ (if z < 0 then -z else z) := by split <;> omega
  rcases hj with rfl | rfl
  · rw [Int.mul_zero] <;> decide
  · rw [Int.mul_one]; exact a0
theorem ok_box {f : Addr} {fd : FuncData} {n : Nat} (F : Fun K "_law_box" "_law_box" sBox f fd) (ml : mg "len" = none) (ma : mg "abs" = none) (mi : mg "int" = none) : FnOk P w K mg base CX0 (n + 1) f fd ["_law_script", "_law_k"] (spBox K) := by
  refine F.ok scBox (fun vs H Q E h => ?_) (fun cdv A outer s H vs Q E hr h => ?_)
  · obtain ⟨a, ns, k, rfl, _⟩ := h
    rfl
  obtain ⟨a, ns, k, rfl, hS, hlen, k0, k1, q⟩ := h
  refine ⟨_, pss_cons (ps_set (i := 2) scBox.nd rfl (Or.inl rfl) (pe_ifExp (pt_cmpR op_lt (pv 1) (pe_callB call_len_seq rfl ml PySem.boot_len (pa_cons (pv 0) pa_nil)) (nomark _)) (pe_ix ix_list (pv 0) (pv 1) (fun _ _ => rfl)) pe_int))
    (pss_one (ps_ret (pe_lst (pa_cons (pe_op op_mul (pe_callB call_abs rfl ma (by decide +kernel) (pa_cons (pv 2) pa_nil)) (pe_callTy call_int1 rfl mi (by decide +kernel) (pa_cons (pe_cmpR op_ge (pe_callB call_abs rfl ma (by decide +kernel) (pa_cons (pv 2) pa_nil)) (pe_op op_pow pe_int pe_int) (nomark _)) pa_nil)))
      (pa_cons (pe_op op_add (pe_op op_add (pe_op op_modN (pv 2) pe_int) (pe_op op_mul pe_int (pv 1))) pe_int) (pa_cons pe_int pa_nil)))))), ?_⟩
  have hl : (ns.map V.int).length = ns.length := List.length_map _
  refine ⟨_, rfl, _, rfl, a, _, rfl, .inl hS, _, _, rfl, rfl, _, rfl, ?_⟩
  have hr64 : (0 : Int) < 2305843009213693951 := by decide
  refine ite2 (fun c => ?_) (fun c => ?_)
  have c' : k < (((ns.map V.int).length : Nat) : Int) := of_decide_eq_true c
  rw [hl] at c'
  have hk : k.toNat < ns.length := by omega
  have ek : k = ((k.toNat : Nat) : Int) := by omega
  have g : atI (ns.map V.int) k = some (.int ns[k.toNat]) := at_of ek (by rw [List.getElem?_map, List.getElem?_eq_getElem hk] <;> rfl)
  refine ⟨_, rfl, _, rfl, a, _, _, _, rfl, rfl, hS, g, ?_⟩
  generalize ns[k.toNat] = z
  all_goals
    refine ⟨_, rfl, _, rfl, _, rfl, _, rfl, _, _, rfl, rfl, ⟨by decide, by decide, by decide⟩, _, _, rfl, rfl, .inr ⟨_, rfl, _, _, rfl, rfl, .inr (b01s _), ?_⟩⟩
    refine ⟨_, rfl, _, _, rfl, rfl, (nz _), _, rfl, _, _, rfl, rfl, .inl ⟨by decide, by decide⟩, _, _, rfl, rfl, _, _, rfl, rfl, (by show 3 ≤ sizeLine; decide), fun p hp => ?_⟩
    exact box_tail q k0 k1 hp _ (b01 _)
/-! ### _law_take -/
def spTake : Sp := fun vs H Q _ => ∃ (b : Addr) (m y c : Int), vs = [.ref b, .int m] ∧ Bx H b y c ∧ 0 ≤ c ∧ c < 1000000000000 ∧ 1 ≤ m ∧ m ≤ 10000000 ∧
  ∀ v c' H', 0 ≤ v → v < m → c ≤ c' → c' ≤ c + 1 → Bx H' b y c' → But b H H' → Q (.int v) H'
theorem bx_up {H : Hp} {b : Addr} {x y c : Int} {xs : List V} (e : xs = [.int x, .int y, .int c]) (h : 0 ≤ x) (h1 : 0 ≤ y) (h2 : y < 4611686018427387904) : Bx (upd H b (.lst xs)) b y c := ⟨x, by rw [e, upd_same], h, h1, h2⟩
theorem tw_ok {o c y : Int} (c0 : 0 ≤ c) (c1 : c < 1000000000000) (y0 : 0 ≤ y) (y1 : y < 4611686018427387904) : -(2 ^ 64) < o.fmod 2147483647 + (c + 1) + y.fdiv 1000003 ∧ o.fmod 2147483647 + (c + 1) + y.fdiv 1000003 < 2 ^ 64 := by
  have h0 : (0 : Int) ≤ o.fmod 2147483647 := fm0 (by decide)
  have h1 : o.fmod 2147483647 < 2147483647 := fm1 (by decide)
  have h2 : 0 ≤ y.fdiv 1000003 := fd0 y0 (by decide)
  have h3 : y.fdiv 1000003 ≤ y := fdle y0 (by decide)
  refine ⟨?_, ?_⟩ <;> omega
theorem tw_ok2 {o : Int} : -(2 ^ 64) < o.fmod 2147483629 ∧ o.fmod 2147483629 < 2 ^ 64 := by
  have h0 : (0 : Int) ≤ o.fmod 2147483629 := fm0 (by decide)
  have h1 : o.fmod 2147483629 < 2147483629 := fm1 (by decide)
  refine ⟨?_, ?_⟩ <;> omega
theorem ok_take {f : Addr} {fd : FuncData} {n : Nat} (F : Fun K "_law_take" "_law_take" sTake f fd) : FnOk P w K mg base CX0 (n + 1) f fd ["_law_box_here", "_law_below"] spTake := by
  refine F.ok scTake (fun vs H Q E h => ?_) (fun cdv A outer s H vs Q E hr h => ?_)
  · obtain ⟨b, m, y, c, rfl, _⟩ := h
    rfl
  obtain ⟨b, m, y, c, rfl, ⟨x, hB, x0, y0, y1⟩, c0, c1, m0, m1, q⟩ := h
  refine ⟨_, pss_cons (ps_if (pt_cmpR op_gt (pe_ix ix_list (pv 0) pe_int (fun _ _ => rfl)) pe_int (nomark _))
      (pss_cons (ps_set (i := 2) scTake.nd rfl (Or.inl rfl) (pe_op op_modN (pe_ix ix_list (pv 0) pe_int (fun _ _ => rfl)) (pv 1)))
      (pss_cons (ps_asg (pe_op op_fdivN (pe_ix ix_list (pv 0) pe_int (fun _ _ => rfl)) (pv 1)) (pg_sub (pv 0) pe_int set_list))
      (pss_one (ps_ret (pv 2))))) pss_nil)
    (pss_cons (ps_if (pt_cmpR op_gt (pv 1) (pe_op op_pow pe_int pe_int) (nomark _)) pss_never pss_nil)
    (pss_cons (ps_asg (pe_op op_add (pe_ix ix_list (pv 0) pe_int (fun _ _ => rfl)) pe_int) (pg_sub (pv 0) pe_int set_list))
    (pss_cons (ps_set (i := 3) scTake.nd rfl (Or.inl rfl) (pe_op op_modN (pe_op op_mul (pe_op op_add (pe_ix ix_list (pv 0) pe_int (fun _ _ => rfl)) (pe_op op_mul pe_int (pe_ix ix_list (pv 0) pe_int (fun _ _ => rfl)))) (pe_op op_add pe_int (pe_ix ix_list (pv 0) pe_int (fun _ _ => rfl)))) pe_int))
    (pss_cons (ps_set (i := 4) scTake.nd rfl (Or.inl rfl) (pe_op op_modN (pe_op op_mul (pe_op op_add (pe_op op_add (pv 3) (pe_ix ix_list (pv 0) pe_int (fun _ _ => rfl))) (pe_op op_fdivN (pe_ix ix_list (pv 0) pe_int (fun _ _ => rfl)) pe_int)) (pe_op op_add (pe_op op_modN (pv 3) pe_int) pe_int)) pe_int))
    (pss_one (ps_ret (pe_op op_modN (pe_op op_fdivN (pe_op op_modN (pe_op op_add (pe_op op_mul (pv 4) pe_int) (pv 3)) pe_int) pe_int) (pv 1)))))))), ?_⟩
  refine ⟨_, rfl, b, _, _, _, rfl, rfl, SqL.of hB, at_of (j := 0) rfl rfl, _, _, rfl, rfl, _, rfl, ?_⟩
  refine ite2 (fun t => ?_) (fun t => ?_)
  · have t' : x > 0 := of_decide_eq_true t
    refine ⟨_, rfl, b, _, _, _, rfl, rfl, SqL.of hB, at_of (j := 0) rfl rfl, _, rfl, _, _, rfl, rfl, (by omega), ?_⟩
    refine ⟨_, rfl, b, _, _, _, rfl, rfl, SqL.of hB, at_of (j := 0) rfl rfl, _, rfl, _, _, rfl, rfl, ⟨by omega, by omega⟩, ?_⟩
    refine ⟨_, rfl, b, _, _, 0, rfl, rfl, hB, rfl, _, rfl, ?_⟩
    exact q _ c _ (fm0 (by omega)) (fm1 (by omega)) (by omega) (by omega) (bx_up rfl (fd0 x0 (by omega)) y0 y1) but_upd
  · refine ⟨_, rfl, _, _, rfl, rfl, ⟨by decide, by decide, by decide⟩, _, _, rfl, rfl, _, rfl, ?_⟩
    refine ite2 (fun t2 => ?_) (fun t2 => ?_)
    · exfalso
      have t3 : m > 10 ^ 7 := of_decide_eq_true t2
      have t4 : (10 : Int) ^ 7 = 10000000 := by decide
      omega
    · have hB1 : (upd H b (.lst [.int x, .int y, .int (c + 1)])) b = some (.lst [.int x, .int y, .int (c + 1)]) := upd_same
      refine ⟨_, rfl, b, _, _, _, rfl, rfl, SqL.of hB, at_of (j := 2) rfl rfl, _, _, rfl, rfl, _, rfl, b, _, _, 2, rfl, rfl, hB, rfl, ?_⟩
      refine ⟨_, rfl, b, _, _, _, rfl, rfl, SqL.of hB1, at_of (j := 1) rfl rfl, _, rfl, b, _, _, _, rfl, rfl, SqL.of hB1, at_of (j := 2) rfl rfl, _, _, rfl, rfl, .inl ⟨by decide, by decide⟩, _, _, rfl, rfl,
        _, rfl, b, _, _, _, rfl, rfl, SqL.of hB1, at_of (j := 2) rfl rfl, _, _, rfl, rfl, _, _, rfl, rfl, .inl ⟨by omega, by omega⟩, _, _, rfl, rfl, (nz _), ?_⟩
      refine ⟨_, rfl, _, rfl, b, _, _, _, rfl, rfl, SqL.of hB1, at_of (j := 2) rfl rfl, _, _, rfl, rfl, _, rfl, b, _, _, _, rfl, rfl, SqL.of hB1, at_of (j := 1) rfl rfl, _, _, rfl, rfl, ⟨by decide, by decide⟩, _, _, rfl, rfl,
        _, rfl, _, _, rfl, rfl, (nz _), _, _, rfl, rfl, _, _, rfl, rfl, .inl (tw_ok c0 c1 y0 y1), _, _, rfl, rfl, (nz _), ?_⟩
      refine ⟨_, rfl, _, _, rfl, rfl, .inl tw_ok2, _, rfl, _, _, rfl, rfl, _, _, rfl, rfl, (nz _), _, _, rfl, rfl, ⟨by decide, by decide⟩, _, rfl, _, _, rfl, rfl, (by omega), ?_⟩
      exact q _ (c + 1) _ (fm0 (by omega)) (fm1 (by omega)) (by omega) (by omega) (bx_up rfl x0 y0 y1) but_upd
/-! ### _law_of -/
theorem But.seq {b a : Addr} {H H' : Hp} {xs : List V} (e : But b H H') (n : a ≠ b) (h : SqL K H a xs) : SqL K H' a xs := by
  rcases h with (h | ⟨o, h⟩) | h
  · exact .inl (.inl (e _ _ n h))
  · exact .inl (.inr ⟨o, e _ _ n h⟩)
  · exact .inr h
/-! ### _law_cells -/
theorem fm_nat (i m : Nat) : (i : Int).fmod (m : Int) = ((i % m : Nat) : Int) := by
  rw [Int.fmod_eq_emod_of_nonneg _ (Int.natCast_nonneg m)]; exact (Int.natCast_emod i m).symm
theorem cut_to (ns : List Int) (m : Nat) : cutV (ns.map V.int) none (some (m : Int)) = (ns.take m).map V.int := by
  unfold cutV
  rw [HT.sIx_none, HT.sIx_nat, List.length_map, List.drop_zero, Nat.sub_zero, List.map_take]
  by_cases h : m ≤ ns.length
  · rw [Nat.min_eq_left h]
  · rw [Nat.min_eq_right (by omega), List.take_of_length_le (by rw [List.length_map]; exact Nat.le_refl _), List.take_of_length_le (by rw [List.length_map]; omega)]
theorem cut_from (ns : List Int) (m : Nat) (h : ns.length ≤ 63) : cutV (ns.map V.int) (some (m : Int)) (some 63) = (ns.drop m).map V.int := by
  unfold cutV
  have e63 : HT.sIx (ns.map V.int).length (ns.map V.int).length (some 63) = min 63 (ns.map V.int).length := HT.sIx_nat _ _ 63
  rw [HT.sIx_nat, e63, List.length_map, Nat.min_eq_right h, List.map_drop]
  by_cases hm : m ≤ ns.length
  · rw [Nat.min_eq_left hm, List.take_of_length_le (by rw [List.length_drop, List.length_map]; exact Nat.le_refl _)]
  · rw [Nat.min_eq_right (by omega), List.drop_eq_nil_of_le (by rw [List.length_map]; exact Nat.le_refl _), List.drop_eq_nil_of_le (by rw [List.length_map]; omega), List.take_nil]
def cells0 (ns : List Int) (m : Nat) : List Int := if ns.take m = [] then [0] else ns.take m
theorem cells0_pos {ns : List Int} {m : Nat} : 1 ≤ (cells0 ns m).length := by
  unfold cells0
  split
  · exact Nat.le_refl _
  · rename_i h
    exact List.length_pos_iff.mpr h
theorem cells0_le {ns : List Int} {m : Nat} (hm : 1 ≤ m) : (cells0 ns m).length ≤ m := by
  unfold cells0
  split
  · exact hm
  · rw [List.length_take]; omega
theorem cells0_full {ns : List Int} {m : Nat} (hm : 1 ≤ m) (h : m ≤ ns.length) : (cells0 ns m).length = m := by
  unfold cells0
  have e : (ns.take m).length = m := by rw [List.length_take]; omega
  rw [if_neg (fun z => by rw [z] at e; simp at e; omega), e]
def spCells (K : PySem.W.Frag) : Sp := fun vs H Q _ => ∃ (a : Addr) (ns : List Int) (m : Nat), vs = [.ref a, .int (m : Int)] ∧ SqL K H a (ns.map V.int) ∧ ns.length ≤ 63 ∧ 1 ≤ m ∧ m ≤ 63 ∧
  ∀ p (ms : List Int) H', H p = none → Same H H' → H' p = some (.lst (ms.map V.int)) → 1 ≤ ms.length → ms.length ≤ m → Q (.ref p) H'
theorem ok_cells {f : Addr} {fd : FuncData} {n : Nat} (F : Fun K "_law_cells" "_law_cells" sCells f fd) (ml : mg "list" = none) (me : mg "enumerate" = none) : FnOk P w K mg base CX0 (n + 1) f fd ["_law_script", "_law_most"] (spCells K) := by
  refine F.ok scCells (fun vs H Q E h => ?_) (fun cdv A outer s H vs Q E hr h => ?_)
  · obtain ⟨a, ns, m, rfl, _⟩ := h
    rfl
  obtain ⟨a, ns, m, rfl, hS, hn, m1, m2, q⟩ := h
  refine ⟨_, pss_cons (ps_set (i := 2) scCells.nd rfl (Or.inl rfl) (pe_orT (pe_callTy call_list_of rfl ml (by decide +kernel) (pa_cons (pe_slice sl_list (pv 0) po_none (po_some (pv 1))) pa_nil)) (pe_one (pe_lst (pa_cons pe_int pa_nil)))))
    (pss_cons (ps_for PassesOwn.never rfl (pi_enum rfl me (pa_cons (pe_slice sl_list (pv 0) (po_some (pv 1)) (po_some pe_int)) pa_nil)) (pg_tup rfl (pgs_cons (pg_name (i := 3) scCells.nd rfl (Or.inl rfl)) (pgs_cons (pg_name (i := 4) scCells.nd rfl (Or.inl rfl)) pgs_nil)))
      (pss_one (ps_asg (pe_op op_add (pe_ix ix_list (pv 2) (pe_op op_modN (pv 3) (pv 1)) (fun _ _ => rfl)) (pe_op op_mul (pv 4) (pe_op op_add (pv 3) pe_int))) (pg_sub (pv 2) (pe_op op_modN (pv 3) (pv 1)) set_list))))
    (pss_one (ps_ret (pv 2)))), ?_⟩
  refine ⟨_, rfl, _, rfl, _, rfl, a, _, rfl, hS, fun c nc => ?_⟩
  rw [cut_to]
  refine ⟨c, _, rfl, .inl (SqL.of upd_same), fun l nl => ?_⟩
  have sc1 : Same H (upd H c (.lst ((ns.take m).map V.int))) := same_up nc
  have sl1 := sc1.trans (same_up (o := .lst ((ns.take m).map V.int)) nl)
  have nl0 : H l = none := sc1.free nl
  refine ⟨_, .inl ⟨_, SqL.of upd_same, rfl⟩, ?_⟩
  refine ite2 (fun t => ?_) (fun t => ?_)
  rotate_left
  have et : ns.take m = [] := by
    cases e : ns.take m with
    | nil => rfl
    | cons z r => rw [e] at t; exact absurd rfl t
  refine ⟨by show 1 ≤ sizeLine; decide, fun p np => ?_⟩
  have nl0 : H p = none := sl1.free np
  have sl1 := sl1.trans (same_up (o := .lst [.int 0]) np)
  have hp : (upd (upd (upd H c (.lst ((ns.take m).map V.int))) l (.lst ((ns.take m).map V.int))) p (.lst [.int 0])) p = some (.lst ((cells0 ns m).map V.int)) := by rw [upd_same, cells0, if_pos et]; rfl
  generalize upd (upd (upd H c (.lst ((ns.take m).map V.int))) l (.lst ((ns.take m).map V.int))) p (.lst [.int 0]) = H1 at hp sl1 ⊢
  rotate_left
  have et : ns.take m ≠ [] := fun e => by
    rw [e] at t
    exact absurd t (by decide)
  have hp : (upd (upd H c (.lst ((ns.take m).map V.int))) l (.lst ((ns.take m).map V.int))) l = some (.lst ((cells0 ns m).map V.int)) := by rw [upd_same, cells0, if_neg et]
  generalize upd (upd H c (.lst ((ns.take m).map V.int))) l (.lst ((ns.take m).map V.int)) = H1 at hp sl1 ⊢
  obtain ⟨p, ep⟩ : ∃ p, p = l := ⟨_, rfl⟩
  subst ep
  all_goals
    refine ⟨_, rfl, _, rfl, _, rfl, 63, rfl, a, _, rfl, sl1.seq hS, fun d nd => ?_⟩
    rw [cut_from ns m hn]
    have sd := sl1.trans (same_up (o := .lst ((ns.drop m).map V.int)) nd)
    have hd : (upd H1 d (.lst ((ns.drop m).map V.int))) d = some (.lst ((ns.drop m).map V.int)) := upd_same
    have hpd : (upd H1 d (.lst ((ns.drop m).map V.int))) p = some (.lst ((cells0 ns m).map V.int)) := by rw [upd_ne (ne_of_none hp nd)]; exact hp
    have ndp : d ≠ p := (ne_of_none hp nd).symm
    generalize upd H1 d (.lst ((ns.drop m).map V.int)) = H2 at sd hd hpd ⊢
    refine ⟨d, _, rfl, SqL.of hd, for_it walk_enum (fun i σ H3 => ∃ y3 y4, ∃ ms : List Int, σ = [some (.ref a), some (.int (m : Int)), some (.ref p), y3, y4] ∧ Same H H3 ∧ H3 d = some (.lst ((ns.drop m).map V.int)) ∧ H3 p = some (.lst (ms.map V.int)) ∧ ms.length = (cells0 ns m).length)
      ⟨none, none, _, rfl, sd, hd, hpd, rfl⟩ (fun i σ H3 _ ⟨_, _, _, _, _, e, _⟩ => SqL.of e) ?_ ?_⟩
    · rintro i x σ H3 H4 hi ⟨y3, y4, ms, rfl, s3, e3, ep, el⟩ ⟨T, v1, v2, rfl, nT, rfl, f1, f2⟩
      cases f1
      have hi' : i < (ns.drop m).length := by rw [List.length_map] at hi; exact hi
      have f2' : some (V.int (ns.drop m)[i]) = some v2 := by rw [← f2]; show _ = (List.map V.int (List.drop m ns))[i]?; rw [List.getElem?_map, List.getElem?_eq_getElem hi'] <;> rfl
      cases f2'
      rw [List.length_drop] at hi'
      have lm : ms.length = m := by rw [el]; exact cells0_full m1 (by omega)
      have hk : i % m < ms.length := by rw [lm]; exact Nat.mod_lt _ (by omega)
      have hA : atI (ms.map V.int) ((i : Int).fmod (m : Int)) = some (.int ms[i % m]) := at_of (fm_nat i m) (by rw [List.getElem?_map, List.getElem?_eq_getElem hk] <;> rfl)
      have hX : ixN (ms.map V.int).length ((i : Int).fmod (m : Int)) = some (i % m) := by
        rw [fm_nat]
        unfold ixN
        rw [if_pos (Int.natCast_nonneg _), if_pos (by rw [List.length_map]; exact Int.ofNat_lt.mpr hk), Int.toNat_natCast]
      have mz : (m : Int) ≠ 0 := by omega
      have sT : Same H3 (upd H3 T (.tup [.int (i : Int), .int (ns.drop m)[i]])) := same_up nT
      have eT := sT _ _ ep
      refine ⟨T, _, rfl, .inl (.inl upd_same), rfl, _, _, rfl, _, _, rfl, rfl, ?_⟩
      refine ⟨_, rfl, _, rfl, _, rfl, _, _, rfl, rfl, mz, p, _, _, _, rfl, rfl, SqL.of eT, hA, _, rfl, _, rfl, _, _, rfl, rfl, _, _, rfl, rfl, .inr ⟨by omega, by omega⟩, _, _, rfl, rfl, _, rfl, _, rfl, _, rfl, _, _, rfl, rfl, mz, p, _, _, _, rfl, rfl, eT, hX, ?_⟩
      refine ⟨_, _, ms.set (i % m) (ms[i % m] + (ns.drop m)[i] * ((i : Int) + 2)), rfl, fun b z e => ?_, ?_, ?_, ?_⟩
      rotate_left 2
      · rw [upd_same, List.map_set]
      · rw [List.length_set]; exact el
      · rw [upd_ne (ne_of_none e nl0)]; exact sT _ _ (s3 _ _ e)
      · rw [upd_ne ndp]; exact sT _ _ e3
    · rintro σ H3 ⟨y3, y4, ms, rfl, s3, e3, ep, el⟩
      exact ⟨_, rfl, q p ms H3 nl0 s3 ep (by rw [el]; exact cells0_pos) (by rw [el]; exact cells0_le m1)⟩
abbrev p_l_take : List Str := ["_law_box_here", "_law_below"]
/-! the layer's promises of them -/
def domT (ds : List Dt) : Prop := ∃ m : Int, ds = [.int m] ∧ 1 ≤ m ∧ m ≤ 10000000
def postT (ds : List Dt) (d : Dt) : Prop := ∃ m v : Int, ds = [.int m] ∧ d = .int v ∧ 0 ≤ v ∧ v < m
theorem take_B {f : Addr} {fd : FuncData} {n : Nat} {ps : List Str} (C : FnOk P w K mg base CX0 n f fd ps spTake) : FnOk P w K mg base CX0 n f fd ps (spB K 1 domT postT) := C.imp fun vs H Q E h => by
  obtain ⟨G, ds, b, us, y, c, F, rfl, sm, hb, c0, c1, gb, rd, ⟨m, rfl, m1, m2⟩, q⟩ := h
  obtain ⟨x, rfl, e⟩ := rd.one
  have c2 : c + ((F + 1 : Nat) : Int) ≤ 1000000000000 := c1
  refine ⟨b, m, y, c, by rw [show x = V.int m from e], hb, c0, by omega, m1, m2, fun v c' H' v0 v1 e0 e1 hb' bt => ?_⟩
  refine q (.int v) (.int v) G H' y c' ⟨Same.refl _, fun a o z => bt a o (fun w => by rw [w, gb] at z; cases z) (sm _ _ z), bt, fun a h1 h2 => h1⟩ hb' (by omega) ?_ rfl ⟨m, v, rfl, rfl, v0, v1⟩
  show c' + (F : Int) ≤ 1000000000000
  omega
theorem ae_take {ρ : List En} {Ψ : Dt → List En → Prop} {E : XK} {te : TE} {i : Nat} {b : Addr} {f0 : Nat} (e0 : ρ[i]? = some (.bx b f0))
    (h : AE K te ρ fun d ρ1 => ∃ m : Int, d = .int m ∧ 1 ≤ m ∧ m ≤ 10000000 ∧ ∃ F, ρ1[i]? = some (.bx b (F + 1)) ∧ ∀ v : Int, 0 ≤ v → v < m → Ψ (.int v) (ρ1.set i (.bx b F))) : AE K (tCall (spB K 1 domT postT) [] E (tCons (tVar i) (tCons te tNil))) ρ Ψ :=
  ae_draw e0 (aa_cons (ae_mono h fun d ρ1 ⟨m, e, m1, m2, F, e1, k⟩ => aa_nil ⟨⟨m, by rw [e], m1, m2⟩, F, e1, fun d' hp => by
    obtain ⟨m', v, z1, z2, z3, z4⟩ := hp
    rw [e] at z1
    cases z1
    rw [z2]; exact k v z3 z4⟩))
def domO (ds : List Dt) : Prop := ∃ k l, ds = [sq k l] ∧ 1 ≤ l.length ∧ l.length ≤ 1000
def postO (ds : List Dt) (d : Dt) : Prop := ∀ k l, ds = [sq k l] → d ∈ l
theorem sq_inj {k k' : Bool} {l l' : List Dt} (h : sq k l = sq k' l') : l = l' := by
  cases k <;> cases k' <;> first | (cases h; rfl) | (exact absurd h (fun z => nomatch z))
theorem ae_ofL {ρ : List En} {Ψ : Dt → List En → Prop} {E : XK} {te : TE} {i : Nat} {b : Addr} {f0 : Nat} (e0 : ρ[i]? = some (.bx b f0))
    (h : AE K te ρ fun d ρ1 => ∃ l, d = .lst l ∧ 1 ≤ l.length ∧ l.length ≤ 1000 ∧ ∃ F, ρ1[i]? = some (.bx b (F + 1)) ∧ ∀ d, d ∈ l → Ψ d (ρ1.set i (.bx b F))) : AE K (tCall (spB K 1 domO postO) [] E (tCons (tVar i) (tCons te tNil))) ρ Ψ :=
  ae_draw e0 (aa_cons (ae_mono h fun d ρ1 ⟨l, e, m1, m2, F, e1, k⟩ => aa_nil ⟨⟨false, l, by rw [e]; rfl, m1, m2⟩, F, e1, fun d' hp => k d' (hp false l (by rw [e]; rfl))⟩))
abbrev s_l_of : Stmt := topS 10
abbrev N_l_of : List Str := ["_law_box_here", "_law_some"]
abbrev p_l_of : List Str := ["_law_box_here", "_law_some"]
theorem sc_l_of : FnScope N_l_of p_l_of (defScope s_l_of) := ⟨rfl, rfl, rfl, by decide +kernel, rfl, by decide +kernel, by decide +kernel⟩
theorem ok_l_of (bl : Blts mg) {g_l_take : Addr} {d_l_take : FuncData} (c_l_take : Cal P w K mg base 2 "_law_take" p_l_take (spB K 1 domT postT) g_l_take d_l_take)  {f : Addr} {fd : FuncData} (F : Fun K "_law_of" "_law_of" s_l_of f fd) : FnOk P w K mg base CX0 3 f fd p_l_of (spB K 1 (domO) (postO)) := by
  refine okB F sc_l_of (fun ds h => ?_) (fun cdv A outer s H E hr ds h => ?_)
  · obtain ⟨k, l, rfl, l0, l1⟩ := h
    rfl
  obtain ⟨k, l, rfl, l0, l1⟩ := h
  refine ⟨_, (pss_one (ps_ret (pe_ix ix_seq (pv 1) (pe_call c_l_take.ok (hr.mono (by decide)) rfl c_l_take.mg c_l_take.kp c_l_take.bi .nil pass0 (pa_cons (pv 0) (pa_cons (pe_callB call_len_seq rfl bl.len (by decide +kernel) (pa_cons (pv 1) pa_nil)) pa_nil))) (fun _ _ => rfl)))), fun b F => ?_⟩
  change AS K _ [En.bx _ _, En.da _] _ _
  try simp only [cxOf_K, cxOf_w]
  repeat' (first
    | ((with_reducible apply ae_take); · rfl)
    | with_reducible apply ac_len
    | refine ⟨_, rfl, by omega, by omega, _, rfl, fun v v0 v1 => ?_⟩
    | with_reducible apply as_ret
    | ((with_reducible apply ae_var); · rfl)
    | with_reducible apply ae_op
    | with_reducible apply aa_nil
    | with_reducible apply aa_cons
    | with_reducible apply ae_cb
    | fail)
  have hv : v.toNat < l.length := by omega
  have ev : v = ((v.toNat : Nat) : Int) := by omega
  refine ar_ix (d := l[v.toNat]) ?_ ?_
  · have e := atI_nat (List.getElem?_eq_getElem hv)
    rw [← ev] at e; exact e
  · refine ⟨fun k' l' z => ?_, _, rfl, Nat.le_refl _⟩
    rw [← sq_inj (List.cons.inj z).1]
    exact List.getElem_mem hv
end
end Sh
set_option Elab.async false
set_option linter.all false
set_option maxRecDepth 100000
set_option maxHeartbeats 4000000
set_option Elab.async false
set_option linter.all false
set_option maxRecDepth 100000
set_option maxHeartbeats 4000000
set_option Elab.async false
set_option linter.all false
set_option maxRecDepth 100000
set_option maxHeartbeats 4000000
set_option Elab.async false
set_option linter.all false
set_option maxRecDepth 100000
set_option maxHeartbeats 4000000
set_option Elab.async false
set_option linter.all false
set_option maxRecDepth 100000
set_option maxHeartbeats 4000000
set_option Elab.async false
set_option linter.all false
set_option maxRecDepth 100000
set_option maxHeartbeats 4000000
/-! a pair backwards, extend of a list of one's own, None in a list -/
set_option Elab.async false
set_option linter.all false
set_option maxRecDepth 100000
set_option maxHeartbeats 4000000
/-! texts: join of a list backwards, f-strings, str, a loop that is not entered, a name that stands for a number, or of tuples -/
set_option Elab.async false
set_option linter.all false
set_option maxRecDepth 100000
set_option maxHeartbeats 4000000
set_option Elab.async false
set_option linter.all false
set_option maxRecDepth 100000
set_option maxHeartbeats 4000000
/-! gcd of three, is True, slices of four -/
namespace Sh
open PySem PySem.Spec PyProof.Rows L2 PySem.Calls PySem.W
def g3 (a b c : Int) : Int := (((Nat.gcd a.natAbs b.natAbs).gcd c.natAbs : Nat) : Int)
end Sh
set_option Elab.async false
set_option linter.all false
set_option maxRecDepth 100000
set_option maxHeartbeats 4000000
/-! loops by a measure, quotients by great numbers, chains of comparisons, gcd of two -/
set_option Elab.async false
set_option linter.all false
set_option maxRecDepth 100000
set_option maxHeartbeats 4000000
namespace Sh
open PySem PySem.Spec PyProof.Rows L2
/-! sorted(set(xs)), ints, as many as a set's bound lets -/
section
variable {K : PySem.W.Frag} {ρ : List En} {Ψ : Dt → List En → Prop}
theorem ar_catL {Φ : Dt → Prop} {l l' : List Dt} (hz : l.length + l'.length ≤ sizeLine) (h : Φ (.lst (l ++ l'))) : AR K rCat (.lst l) (.lst l') Φ := fun G H s x y r1 r2 Q q => by
  obtain ⟨a, xs, rfl, h1, h2⟩ := r1
  obtain ⟨b, ys, rfl, h3, h4⟩ := r2
  refine ⟨a, b, xs, ys, rfl, rfl, s _ _ h1, s _ _ h3, (by rw [h2.length, h4.length]; exact hz), fun p hp => ?_⟩
  have n := Nw.new (o := .lst (xs ++ ys)) s hp
  exact q _ (.lst (l ++ l')) _ _ n ⟨p, _, rfl, upd_same, (h2.same n.g).app (h4.same n.g)⟩ h
end
end Sh
set_option Elab.async false
set_option linter.all false
set_option maxRecDepth 100000
set_option maxHeartbeats 4000000
set_option Elab.async false
set_option linter.all false
set_option maxRecDepth 100000
set_option maxHeartbeats 4000000
/-! tuple(map(f, xs)), f a def of one's own that may lay out -/
namespace MpT
open PySem PySem.Spec PyProof.Rows L2 FbM
theorem Vals.snoc {xs : List V} {us : List Value} {x : V} {u : Value} (r : Vals xs us) (q : RelV x u) : Vals (xs ++ [x]) (us ++ [u]) := r.append (.cons q .nil)
end MpT
set_option Elab.async false
set_option linter.all false
set_option maxRecDepth 100000
set_option maxHeartbeats 4000000
set_option Elab.async false
set_option linter.all false
set_option maxRecDepth 100000
set_option maxHeartbeats 4000000
namespace Sh
open PySem PySem.Spec PyProof.Rows L2
section
variable {K : PySem.W.Frag} {ρ : List En} {Ψ : Dt → List En → Prop} {ΨT : Bool → List En → Prop} {Φ : Dt → Prop} {N : List En → Prop} {R : Dt → List En → Prop}
/-! slices with any bounds -/
def AO (K : PySem.W.Frag) (to : TO) (ρ : List En) (Φo : Option Int → List En → Prop) : Prop := ∀ B σ G H, Mt K B ρ σ G H → ∀ Q : Option Int → Hp → Prop, (∀ o ρ' G' H', Mt K B ρ' σ G' H' → Same G G' → Tr B H H' → Φo o ρ' → Q o H') → to σ H Q
def cutD (l : List Dt) (lo hi : Option Int) : List Dt := (l.drop (HT.sIx l.length 0 lo)).take (HT.sIx l.length l.length hi - HT.sIx l.length 0 lo)
theorem RDs.cut {G : Hp} {l : List Dt} {xs : List V} {lo hi : Option Int} (r : RDs K G l xs) : RDs K G (cutD l lo hi) (cutV xs lo hi) := by
  unfold cutD cutV
  rw [r.length]
  exact (r.drop _).take _
theorem ao_none {Φo : Option Int → List En → Prop} (k : Φo none ρ) : AO K (fun _ H Q => Q none H) ρ Φo := fun B σ G H m Q q => q none ρ G H m (Same.refl _) Tr.refl k
theorem ao_some {te : TE} {Φo : Option Int → List En → Prop} (h : AE K te ρ fun d ρ1 => ∃ i : Int, d = .int i ∧ Φo (some i) ρ1) : AO K (tPart te) ρ Φo := fun B σ G H m Q q =>
  h B σ G H m _ fun v d ρ1 G1 H1 m1 s1 t1 r1 ⟨i, ed, k⟩ => by
    subst ed
    exact ⟨i, r1, q _ ρ1 G1 H1 m1 s1 t1 k⟩
theorem ae_slD {te : TE} {tl th : TO} (h : AE K te ρ fun d ρ1 => ∃ l, d = .lst l ∧ AO K tl ρ1 fun lo ρ2 => AO K th ρ2 fun hi ρ3 => Ψ (.lst (cutD l lo hi)) ρ3) : AE K (tSl (rSlL K) te tl th) ρ Ψ := fun B σ G H m Q q =>
  h B σ G H m _ fun v d ρ1 G1 H1 m1 s1 t1 r1 ⟨l, ed, h1⟩ => h1 B σ G1 H1 m1 _ fun lo ρ2 G2 H2 m2 s2 t2 h2 => h2 B σ G2 H2 m2 _ fun hi ρ3 G3 H3 m3 s3 t3 k => by
    subst ed
    obtain ⟨p, xs, rfl, hp, r⟩ := r1
    have hp3 := s3 _ _ (s2 _ _ hp)
    refine ⟨p, _, rfl, SqL.of (m3.sub _ _ hp3), fun p' hp' => ?_⟩
    have nw := Nw.new (o := .lst (cutV xs lo hi)) m3.sub hp'
    exact q _ (.lst (cutD l lo hi)) ρ3 _ _ (m3.nw nw) (((s1.trans s2).trans s3).trans nw.g) (((t1.trans t2).trans t3).trans (Tr.same nw.h)) ⟨p', _, rfl, upd_same, ((r.same (s2.trans s3)).cut).same nw.g⟩ k
end
end Sh
set_option Elab.async false
set_option linter.all false
set_option maxRecDepth 100000
set_option maxHeartbeats 4000000
namespace Sh
open PySem PySem.Spec PyProof.Rows L2
theorem vs_intsP : ∀ {ns : List Int}, vs? (ns.map Dt.int) = some (ns.map V.int)
  | [] => rfl
  | n :: ns => by
    show (match (Dt.int n).v?, vs? (ns.map Dt.int) with | some a, some b => some (a :: b) | _, _ => none) = _
    rw [vs_intsP]; rfl
theorem inV_intsP {x : Int} : ∀ {ns : List Int}, inV (.int x) (ns.map V.int) = decide (x ∈ ns)
  | [] => by simp [inV]
  | n :: ns => by
    have := @inV_intsP x ns
    unfold inV at this ⊢
    rw [List.map_cons, List.any_cons, this]
    show (n == x || decide (x ∈ ns)) = decide (x ∈ n :: ns)
    by_cases h : x = n
    · subst h; simp
    · have : (n == x) = false := by simp [Ne.symm h]
      rw [this]; simp [h]
theorem flat_intsP {ns : List Int} : (ns.map V.int).all flatV = true := by
  rw [List.all_map]; simp [flatV]
end Sh
set_option Elab.async false
set_option linter.all false
set_option maxRecDepth 100000
set_option maxHeartbeats 4000000
/-! list(zip(xs, ys)), of two lists -/
namespace Sh
open PySem PySem.Spec PyProof.Rows L2
/-- new pairs, laid one after another -/
inductive NP : Hp → List V → List (V × V) → Hp → Prop where
  | nil {H : Hp} : NP H [] [] H
  | snoc {H H' : Hp} {ts : List V} {ps : List (V × V)} {T : Addr} {x y : V} : NP H ts ps H' → H' T = none → NP H (ts ++ [.ref T]) (ps ++ [(x, y)]) (upd H' T (.tup [x, y]))
theorem NP.len {H H' : Hp} {ts : List V} {ps : List (V × V)} (h : NP H ts ps H') : ts.length = ps.length := by
  induction h with
  | nil => rfl
  | snoc _ _ ih => rw [List.length_append, List.length_append, ih]; rfl
theorem NP.same {H H' : Hp} {ts : List V} {ps : List (V × V)} (h : NP H ts ps H') : Same H H' := by
  induction h with
  | nil => exact Same.refl _
  | snoc _ n ih => exact ih.trans (same_up n)
/-- where a zip stands -/
structure ZSt (z TI TO i1 i2 l1 l2 S : Addr) (i : Nat) (h : Heap) : Prop where
  ti : IsPair h TI (.ref i1) (.ref i2)
  a : h.IsListIter i1 l1 i
  b : h.IsListIter i2 l2 i
  s : (IsZip h z TI TO .none ∧ ∃ x y, IsPair h TO x y) ∨ ∃ T f oT, IsZipHeld h z TI TO T f ∧ h.get? T = some oT ∧ T ≠ z ∧ T ≠ i1 ∧ T ≠ i2 ∧ T ≠ S
theorem ZSt.keep {z TI TO i1 i2 l1 l2 S : Addr} {i : Nat} {h h' : Heap} (st : ZSt z TI TO i1 i2 l1 l2 S i h) (n : z ≠ S ∧ TI ≠ S ∧ TO ≠ S ∧ i1 ≠ S ∧ i2 ≠ S) (k : ∀ c o, c ≠ S → h.get? c = some o → h'.get? c = some o) : ZSt z TI TO i1 i2 l1 l2 S i h' where
  ti := k _ _ n.2.1 st.ti
  a := st.a.at fun o e => k _ o n.2.2.2.1 e
  b := st.b.at fun o e => k _ o n.2.2.2.2 e
  s := by
    rcases st.s with ⟨hz, x, y, h2⟩ | ⟨T, f, oT, hz, hT, r1, r2, r3, r4⟩
    · exact .inl ⟨k _ _ n.1 hz, x, y, k _ _ n.2.2.1 h2⟩
    · exact .inr ⟨T, f, oT, k _ _ n.1 hz, k _ _ r4 hT, r1, r2, r3, r4⟩
end Sh
set_option Elab.async false
set_option linter.all false
set_option maxRecDepth 100000
set_option maxHeartbeats 4000000
set_option Elab.async false
set_option linter.all false
set_option maxRecDepth 100000
set_option maxHeartbeats 4000000
/-! a range as a value, walked more than once -/
namespace Sh
open PySem PySem.Spec PyProof.Rows L2
section
variable {X : Cx} {tg : Expr}
theorem cr_range1 : CallR X (.type "range") (fun vs H Q => ∃ j, vs = [V.int j] ∧ ∀ p, H p = none → Q (.ref p) (upd H p (.rng 0 j))) := by
  intro pins s σ H vs us Q I r h
  obtain ⟨j, rfl, q⟩ := h
  obtain ⟨u1, rfl, ri⟩ := vals1 r
  obtain ⟨t, rfl⟩ := ri
  refine call_range_1 ⟨.ref s.heap.objs.size, upd H s.heap.objs.size (.rng 0 j), I.laid (t' := s.toks + 1 + 1) (fun b o e => Heap.get?_push_of_some _ e) (Nat.le_refl _) ?_, rfl, q _ (I.hok.fresh (Nat.le_refl _))⟩
  exact ⟨s.toks, t, s.toks + 1, Heap.get?_push_size _ rfl⟩
def iRngV (te : TE) : TI := fun σ H R => te σ H fun x H1 => ∃ a lo hi, x = V.ref a ∧ H1 a = some (.rng lo hi) ∧ (-(2 ^ 62) ≤ lo ∧ lo < 2 ^ 62 ∧ -(2 ^ 62) ≤ hi ∧ hi < 2 ^ 62) ∧ R (Itr lo (hi - lo).toNat) H1
theorem pi_rngV {e : Expr} {te : TE} (he : PE X e te) : PI X tg e (iRngV te) := by
  refine ⟨fun pins s σ H R I h => ?_⟩
  refine thn (he.run pins s σ H _ I h) fun u s1 ⟨x, H1, I1, r1, q1⟩ => ?_
  obtain ⟨a, lo, hi, rfl, ha, ⟨b1, b2, b3, b4⟩, q⟩ := q1
  obtain rfl : u = Value.ref a := r1
  obtain ⟨t, u, v, hr⟩ := I1.hok a _ ha
  refine wpAny_pyIter_range (show IsRange s1.heap a lo hi 1 t u v from hr) (small_one b1 b2 b3 b4) ?_
  refine ⟨s1.heap.objs.size, [s1.heap.objs.size], _, _, H1, rfl, I1.kept (t' := s1.toks) fun b o e => Heap.get?_push_of_some _ e, turn_range _ lo (hi - lo).toNat, ?_, fun b hb => ?_, q⟩
  · have e1 : lo + ((0 : Nat) : Int) * 1 = lo := by simp
    have e2 : (((hi - lo).toNat : Nat) : Int) - ((0 : Nat) : Int) = Builtin.Range.rangeSize lo hi 1 := by rw [rangeSize_one]; split <;> omega
    show IsRangeIter _ _ (lo + ((0 : Nat) : Int) * 1) ((((hi - lo).toNat : Nat) : Int) - ((0 : Nat) : Int)) 1
    rw [e1, e2]
    exact Heap.get?_push_size _ rfl
  · have e : b = s1.heap.objs.size := by simpa using hb
    subst e
    exact I1.fpOk (Nat.le_refl _) (I1.hok.fresh (Nat.le_refl _))
end
end Sh
set_option Elab.async false
set_option linter.all false
set_option maxRecDepth 100000
set_option maxHeartbeats 4000000
/-! bounds of differences made as small as they follow, in place (the program's shorten): what comes out. Mx: bounds as a function of two places; fw: stage by stage, row by row, place by place -/
namespace Fw
abbrev Mx := Nat → Nat → Option Int
def setM (M : Mx) (i j : Nat) (x : Int) : Mx := fun a b => if a = i ∧ b = j then some x else M a b
/-- one place -/
def stM (v i : Nat) (M : Mx) (j : Nat) : Mx :=
  match M i v, M v j with
  | some x, some y => match M i j with
    | none => setM M i j (x + y)
    | some z => if x + y < z then setM M i j (x + y) else M
  | _, _ => M
def rowM (n v : Nat) (M : Mx) (i : Nat) : Mx := (List.range n).foldl (stM v i) M
def viaM (n : Nat) (M : Mx) (v : Nat) : Mx := (List.range n).foldl (rowM n v) M
def fwM (n : Nat) (M : Mx) : Mx := (List.range n).foldl (viaM n) M
/-- at most: none is no bound -/
def le (a b : Option Int) : Prop := ∀ y, b = some y → ∃ x, a = some x ∧ x ≤ y
theorem le_refl (a : Option Int) : le a a := fun y h => ⟨y, h, Int.le_refl _⟩
theorem le_trans {a b c : Option Int} (h : le a b) (k : le b c) : le a c := fun z hz => by
  obtain ⟨y, e, l⟩ := k z hz
  obtain ⟨x, e2, l2⟩ := h y e
  exact ⟨x, e2, by omega⟩
def leM (M N : Mx) : Prop := ∀ a b, le (M a b) (N a b)
/-- what a place does: nothing, or the sum, which is less -/
theorem st_cases (v i j : Nat) (M : Mx) : stM v i M j = M ∨ ∃ x y, M i v = some x ∧ M v j = some y ∧ stM v i M j = setM M i j (x + y) ∧ le (some (x + y)) (M i j) := by
  unfold stM
  cases h1 : M i v with
  | none => exact .inl rfl
  | some x => cases h2 : M v j with
    | none => exact .inl rfl
    | some y => cases h3 : M i j with
      | none => exact .inr ⟨x, y, rfl, rfl, rfl, fun z h => by cases h⟩
      | some z =>
        by_cases l : x + y < z
        · exact .inr ⟨x, y, rfl, rfl, if_pos l, fun w h => by cases h; exact ⟨_, rfl, by omega⟩⟩
        · exact .inl (if_neg l)
theorem st_le (v i j : Nat) (M : Mx) : leM (stM v i M j) M := fun a b => by
  rcases st_cases v i j M with h | ⟨x, y, h1, h2, h3, h4⟩
  · rw [h]; exact le_refl _
  · rw [h3]
    unfold setM
    by_cases e : a = i ∧ b = j
    · rw [if_pos e, e.1, e.2]; exact h4
    · rw [if_neg e]; exact le_refl _
theorem fold_le {f : Mx → Nat → Mx} (h : ∀ M j, leM (f M j) M) : ∀ (l : List Nat) (M : Mx), leM (l.foldl f M) M
  | [], M => fun a b => le_refl _
  | j :: l, M => fun a b => le_trans (fold_le h l (f M j) a b) (h M j a b)
theorem row_le (n v i : Nat) (M : Mx) : leM (rowM n v M i) M := fold_le (fun M j => st_le v i j M) _ M
theorem via_le (n v : Nat) (M : Mx) : leM (viaM n M v) M := fold_le (fun M i => row_le n v i M) _ M
/-! what fulfils all bounds -/
theorem fw_le (n : Nat) (M : Mx) : leM (fwM n M) M := fold_le (fun M v => via_le n v M) _ M
/-! a stage, where the diagonal is 0 and stays so -/
def dg (n : Nat) (M : Mx) : Prop := ∀ i, i < n → ∀ b, M i i = some b → 0 ≤ b
theorem dg_le {n : Nat} {M N : Mx} (h : leM M N) (d : dg n M) (z : ∀ i, i < n → N i i = some 0) : ∀ i, i < n → M i i = some 0 := fun i hi => by
  obtain ⟨b, e, l⟩ := h i i 0 (z i hi)
  have := d i hi b e
  rw [e, show b = 0 by omega]
theorem dg_up {n : Nat} {M N : Mx} (h : leM M N) (d : dg n M) : dg n N := fun i hi b e => by
  obtain ⟨c, e2, l⟩ := h i i b e
  have := d i hi c e2
  omega
/-- the lesser of a bound and a sum -/
def mn (a : Option Int) (p q : Option Int) : Option Int := match p, q with
  | some x, some y => match a with
    | none => some (x + y)
    | some z => if x + y < z then some (x + y) else some z
  | _, _ => a
theorem st_at (v i j : Nat) (M : Mx) (a b : Nat) : stM v i M j a b = if a = i ∧ b = j then mn (M i j) (M i v) (M v j) else M a b := by
  unfold stM mn
  by_cases e : a = i ∧ b = j
  · rw [if_pos e]
    cases h1 : M i v with
    | none => rw [e.1, e.2]
    | some x => cases h2 : M v j with
      | none => rw [e.1, e.2]
      | some y => cases h3 : M i j with
        | none => show setM M i j (x + y) a b = _; unfold setM; rw [if_pos e]
        | some z =>
          show (if x + y < z then setM M i j (x + y) else M) a b = if x + y < z then some (x + y) else some z
          by_cases l : x + y < z
          · rw [if_pos l, if_pos l]; unfold setM; rw [if_pos e]
          · rw [if_neg l, if_neg l, e.1, e.2, h3]
  · rw [if_neg e]
    cases h1 : M i v with
    | none => rfl
    | some x => cases h2 : M v j with
      | none => rfl
      | some y => cases h3 : M i j with
        | none => show setM M i j (x + y) a b = _; unfold setM; rw [if_neg e]
        | some z =>
          show (if x + y < z then setM M i j (x + y) else M) a b = _
          by_cases l : x + y < z
          · rw [if_pos l]; unfold setM; rw [if_neg e]
          · rw [if_neg l]
theorem mn_0l {a p : Option Int} (h : le a p) : mn a (some 0) p = a := by
  unfold mn
  cases p with
  | none => rfl
  | some y =>
    obtain ⟨x, e, l⟩ := h y rfl
    rw [e]
    show (if 0 + y < x then some (0 + y) else some x) = some x
    rw [if_neg (by omega)]
theorem mn_0r {a p : Option Int} (h : le a p) : mn a p (some 0) = a := by
  unfold mn
  cases p with
  | none => rfl
  | some y =>
    obtain ⟨x, e, l⟩ := h y rfl
    rw [e]
    show (if y + 0 < x then some (y + 0) else some x) = some x
    rw [if_neg (by omega)]
/-- where M v v = 0 a row leaves row v and column v as they are, and makes each place of its own the lesser -/
theorem row_at {v i : Nat} {M : Mx} (hv : M v v = some 0) : ∀ (l : List Nat) (N : Mx), l.Nodup → (∀ a b, (a = i ∧ b ∈ l) ∨ N a b = if a = i then mn (M a b) (M a v) (M v b) else M a b) → (∀ a b, a = i → b ∈ l → N a b = M a b) →
    ∀ a b, (l.foldl (stM v i) N) a b = if a = i then mn (M a b) (M a v) (M v b) else M a b
  | [], N, _, h, _, a, b => by
    rcases h a b with ⟨_, h⟩ | h
    · cases h
    · exact h
  | j :: l, N, nd, h, k, a, b => by
    have nd2 := List.nodup_cons.mp nd
    -- what stands in row v and column v of N
    have hself : mn (M i v) (M i v) (M v v) = M i v := by rw [hv]; exact mn_0r (le_refl _)
    have hrow : ∀ b, mn (M v b) (M v v) (M v b) = M v b := fun b => by rw [hv]; exact mn_0l (le_refl _)
    have colv : N i v = M i v := by
      rcases h i v with ⟨_, z⟩ | z
      · exact k i v rfl z
      · rw [z, if_pos rfl, hself]
    have rowv : N v j = M v j := by
      rcases h v j with ⟨e, z⟩ | z
      · exact k v j e z
      · rw [z]
        by_cases e : v = i
        · rw [if_pos e, hrow]
        · rw [if_neg e]
    have own : N i j = M i j := k i j rfl List.mem_cons_self
    refine row_at hv l (stM v i N j) nd2.2 (fun a b => ?_) (fun a b ea hb => ?_) a b
    · rw [st_at, own, colv, rowv]
      by_cases e : a = i ∧ b = j
      · right
        rw [if_pos e, if_pos e.1, e.1, e.2]
      · rw [if_neg e]
        rcases h a b with ⟨ea, hb⟩ | z
        · rcases List.mem_cons.mp hb with hb | hb
          · exact absurd ⟨ea, hb⟩ e
          · exact .inl ⟨ea, hb⟩
        · exact .inr z
    · rw [st_at]
      have ne : ¬ (a = i ∧ b = j) := fun e => nd2.1 (by rw [← e.2]; exact hb)
      rw [if_neg ne]
      exact k a b ea (List.mem_cons_of_mem _ hb)
/-- nothing beyond n -/
def fin (n : Nat) (M : Mx) : Prop := ∀ a b, n ≤ a ∨ n ≤ b → M a b = none
theorem mn_no {a p : Option Int} : mn a p none = a := by unfold mn; cases p <;> rfl
theorem mn_no2 {a p : Option Int} : mn a none p = a := rfl
theorem row_is {n v i : Nat} {M : Mx} (f : fin n M) (hv : M v v = some 0) : rowM n v M i = fun a b => if a = i then mn (M a b) (M a v) (M v b) else M a b := by
  funext a b
  refine row_at hv (List.range n) M List.nodup_range (fun a b => ?_) (fun a b _ _ => rfl) a b
  by_cases e : a = i
  · by_cases hb : b < n
    · exact .inl ⟨e, List.mem_range.mpr hb⟩
    · right
      rw [if_pos e, f v b (.inr (by omega)), mn_no]
  · right; rw [if_neg e]
theorem fin_row {n v i : Nat} {M : Mx} (f : fin n M) (hv : M v v = some 0) : fin n (rowM n v M i) := fun a b h => by
  rw [row_is f hv]
  show (if a = i then mn (M a b) (M a v) (M v b) else M a b) = none
  rw [f a b h]
  split
  · rcases h with h | h
    · rw [f a v (.inl h), mn_no2]
    · rw [f v b (.inr h), mn_no]
  · rfl
theorem via_at {n v : Nat} {M : Mx} (f : fin n M) (hv : M v v = some 0) : ∀ (l : List Nat) (N : Mx), l.Nodup → fin n N → (∀ a b, N a b = if a ∈ l then M a b else mn (M a b) (M a v) (M v b)) → ∀ a b, (l.foldl (rowM n v) N) a b = mn (M a b) (M a v) (M v b)
  | [], N, _, _, h, a, b => by rw [List.foldl_nil, h a b, if_neg (fun z => nomatch z)]
  | i :: l, N, nd, fN, h, a, b => by
    have nd2 := List.nodup_cons.mp nd
    have hself : ∀ a, mn (M a v) (M a v) (M v v) = M a v := fun a => by rw [hv]; exact mn_0r (le_refl _)
    have hrow : ∀ b, mn (M v b) (M v v) (M v b) = M v b := fun b => by rw [hv]; exact mn_0l (le_refl _)
    have rowv : ∀ b, N v b = M v b := fun b => by
      rw [h v b]
      split
      · rfl
      · exact hrow b
    have nv : N v v = some 0 := by rw [rowv]; exact hv
    have own : ∀ b, N i b = M i b := fun b => by rw [h i b, if_pos List.mem_cons_self]
    refine via_at f hv l (rowM n v N i) nd2.2 (fin_row fN nv) (fun a b => ?_) a b
    rw [row_is fN nv]
    show (if a = i then mn (N a b) (N a v) (N v b) else N a b) = _
    by_cases e : a = i
    · rw [if_pos e, e, own, own, rowv, if_neg nd2.1]
    · rw [if_neg e, h a b]
      by_cases hl : a ∈ l
      · rw [if_pos (List.mem_cons_of_mem _ hl), if_pos hl]
      · rw [if_neg (fun z => (List.mem_cons.mp z).elim e hl), if_neg hl]
theorem via_is {n v : Nat} {M : Mx} (f : fin n M) (hv : M v v = some 0) : viaM n M v = fun a b => mn (M a b) (M a v) (M v b) := by
  funext a b
  refine via_at f hv (List.range n) M List.nodup_range f (fun a b => ?_) a b
  by_cases h : a < n
  · rw [if_pos (List.mem_range.mpr h)]
  · rw [if_neg (fun z => h (List.mem_range.mp z)), f a v (.inl (by omega)), mn_no2]
theorem fin_via {n v : Nat} {M : Mx} (f : fin n M) (hv : M v v = some 0) : fin n (viaM n M v) := fun a b h => by
  rw [via_is f hv]
  show mn (M a b) (M a v) (M v b) = none
  rw [f a b h]
  rcases h with h | h
  · rw [f a v (.inl h), mn_no2]
  · rw [f v b (.inr h), mn_no]
/-! triangles -/
def tri (k : Nat) (M : Mx) : Prop := ∀ v, v < k → ∀ i j x y, M i v = some x → M v j = some y → le (M i j) (some (x + y))
theorem mn_le1 {a p q : Option Int} : le (mn a p q) a := by
  unfold mn
  cases p with
  | none => exact le_refl _
  | some x => cases q with
    | none => exact le_refl _
    | some y => cases a with
      | none => exact fun z h => by cases h
      | some z =>
        show le (if x + y < z then some (x + y) else some z) (some z)
        by_cases l : x + y < z
        · rw [if_pos l]; exact fun w h => by cases h; exact ⟨_, rfl, by omega⟩
        · rw [if_neg l]; exact le_refl _
theorem mn_le2 {a : Option Int} {x y : Int} : le (mn a (some x) (some y)) (some (x + y)) := by
  unfold mn
  cases a with
  | none => exact le_refl _
  | some z =>
    show le (if x + y < z then some (x + y) else some z) (some (x + y))
    by_cases l : x + y < z
    · rw [if_pos l]; exact le_refl _
    · rw [if_neg l]; exact fun w h => by cases h; exact ⟨_, rfl, by omega⟩
theorem mn_cases {a p q : Option Int} {w : Int} (h : mn a p q = some w) : a = some w ∨ ∃ x y, p = some x ∧ q = some y ∧ w = x + y := by
  unfold mn at h
  cases p with
  | none => exact .inl h
  | some x => cases q with
    | none => exact .inl h
    | some y => cases a with
      | none => cases h; exact .inr ⟨x, y, rfl, rfl, rfl⟩
      | some z =>
        have h' : (if x + y < z then some (x + y) else some z) = some w := h
        by_cases l : x + y < z
        · rw [if_pos l] at h'; cases h'; exact .inr ⟨x, y, rfl, rfl, rfl⟩
        · rw [if_neg l] at h'; exact .inl h'
theorem le_lt {a : Option Int} {x y : Int} (h : le a (some x)) (l : x ≤ y) : le a (some y) := le_trans h fun w e => by cases e; exact ⟨x, rfl, l⟩
theorem tri_via {n k : Nat} {M : Mx} (f : fin n M) (hk : M k k = some 0) (t : tri k M) : tri (k + 1) (viaM n M k) := by
  rw [via_is f hk]
  intro v hv i j x y h1 h2
  dsimp only at h1 h2 ⊢
  by_cases e : v = k
  · subst e
    rw [hk] at h1 h2
    rw [mn_0r (le_refl _)] at h1
    rw [mn_0l (le_refl _)] at h2
    rw [h1, h2]
    exact mn_le2
  · have vk : v < k := by omega
    rcases mn_cases h1 with a1 | ⟨p, q, a1, a2, rfl⟩
    · rcases mn_cases h2 with b1 | ⟨r, s, b1, b2, rfl⟩
      · exact le_trans mn_le1 (t v vk i j x y a1 b1)
      · obtain ⟨w, c1, c2⟩ := t v vk i k x r a1 b1 _ rfl
        rw [c1, b2]
        exact le_lt mn_le2 (by omega)
    · rcases mn_cases h2 with b1 | ⟨r, s, b1, b2, rfl⟩
      · obtain ⟨w, c1, c2⟩ := t v vk k j q y a2 b1 _ rfl
        rw [c1, a1]
        exact le_lt mn_le2 (by omega)
      · obtain ⟨w, c1, c2⟩ := t v vk k k q r a2 b1 _ rfl
        rw [hk] at c1
        cases c1
        rw [a1, b2]
        exact le_lt mn_le2 (by omega)
def upto (n k : Nat) (M : Mx) : Mx := (List.range k).foldl (viaM n) M
theorem upto_succ (n k : Nat) (M : Mx) : upto n (k + 1) M = viaM n (upto n k M) k := by
  unfold upto
  rw [List.range_succ, List.foldl_append]; rfl
theorem upto_le (n : Nat) (M : Mx) : ∀ (m k : Nat), leM (upto n (k + m) M) (upto n k M)
  | 0, k => fun a b => le_refl _
  | m + 1, k => fun a b => by
    rw [← Nat.add_assoc, upto_succ]
    exact le_trans (via_le n (k + m) _ a b) (upto_le n M m k a b)
/-- closed, where no number below 0 stands in the diagonal -/
theorem fw_tri {n : Nat} {M : Mx} (f : fin n M) (z : ∀ i, i < n → M i i = some 0) (d : dg n (fwM n M)) : (∀ i, i < n → fwM n M i i = some 0) ∧ fin n (fwM n M) ∧ tri n (fwM n M) := by
  have st : ∀ k, k ≤ n → (∀ i, i < n → upto n k M i i = some 0) ∧ fin n (upto n k M) ∧ tri k (upto n k M) := fun k => by
    induction k with
    | zero => exact fun _ => ⟨z, f, fun v hv => absurd hv (Nat.not_lt_zero _)⟩
    | succ k ih =>
      intro hk
      obtain ⟨i1, i2, i3⟩ := ih (by omega)
      have l : leM (fwM n M) (upto n (k + 1) M) := by
        have := upto_le n M (n - (k + 1)) (k + 1)
        rw [show k + 1 + (n - (k + 1)) = n by omega] at this
        exact this
      have z1 := i1 k (by omega)
      have le1 : leM (upto n (k + 1) M) (upto n k M) := by rw [upto_succ]; exact via_le n k _
      have d1 : dg n (upto n (k + 1) M) := dg_up l d
      refine ⟨dg_le le1 d1 i1, ?_, ?_⟩
      · rw [upto_succ]; exact fin_via i2 z1
      · rw [upto_succ]; exact tri_via i2 z1 i3
  exact st n (Nat.le_refl _)
end Fw
set_option Elab.async false
set_option linter.all false
set_option maxRecDepth 100000
set_option maxHeartbeats 4000000
namespace Sh
open PySem PySem.Spec PyProof.Rows L2
abbrev s_shorten : Stmt := topS 5
abbrev N_shorten : List Str := ["ways", "many", "via", "onward", "i", "row", "j"]
abbrev p_shorten : List Str := ["ways"]
theorem sc_shorten : FnScope N_shorten p_shorten (defScope s_shorten) := ⟨rfl, rfl, rfl, by decide +kernel, rfl, by decide +kernel, by decide +kernel⟩
abbrev Mx := Fw.Mx
def ov : Option Int → V
  | none => .non
  | some x => .int x
def rowV (n : Nat) (M : Mx) (k : Nat) : List V := (List.range n).map fun j => ov (M k j)
theorem rowV_len {n : Nat} {M : Mx} {k : Nat} : (rowV n M k).length = n := by unfold rowV; rw [List.length_map, List.length_range]
theorem rowV_at {n : Nat} {M : Mx} {k j : Nat} (h : j < n) : (rowV n M k)[j]? = some (ov (M k j)) := by
  unfold rowV; rw [List.getElem?_map, List.getElem?_range h]; rfl
theorem rowV_set {n : Nat} {M : Mx} {i j : Nat} {x : Int} : (rowV n M i).set j (.int x) = rowV n (Fw.setM M i j x) i := by
  apply List.ext_getElem?
  intro b
  by_cases hb : b < n
  · rw [rowV_at hb, List.getElem?_set, rowV_len]
    unfold Fw.setM
    by_cases e : j = b
    · subst e; rw [if_pos rfl, if_pos hb, if_pos ⟨rfl, rfl⟩]; rfl
    · rw [if_neg e, rowV_at hb, if_neg (fun z => e z.2.symm)]
  · rw [List.getElem?_eq_none (by rw [List.length_set, rowV_len]; omega), List.getElem?_eq_none (by rw [rowV_len]; omega)]
theorem rowV_off {n : Nat} {M : Mx} {i j k : Nat} {x : Int} (h : k ≠ i) : rowV n (Fw.setM M i j x) k = rowV n M k := by
  unfold rowV
  refine List.map_congr_left fun b _ => ?_
  unfold Fw.setM
  rw [if_neg (fun z => h z.1)]
/-- a list of lists of one's own -/
structure Gr (H : Hp) (a : Addr) (rs : List Addr) (n : Nat) (M : Mx) : Prop where
  top : H a = some (.lst (rs.map V.ref))
  len : rs.length = n
  nd : rs.Nodup
  na : a ∉ rs
  row : ∀ k r, rs[k]? = some r → H r = some (.lst (rowV n M k))
theorem Gr.set {H : Hp} {a : Addr} {rs : List Addr} {n : Nat} {M : Mx} (g : Gr H a rs n M) {i j : Nat} {r : Addr} (hr : rs[i]? = some r) (x : Int) : Gr (upd H r (.lst ((rowV n M i).set j (.int x)))) a rs n (Fw.setM M i j x) where
  top := by
    rw [upd_ne (fun e => g.na (by rw [e]; exact List.mem_of_getElem? hr))]; exact g.top
  len := g.len
  nd := g.nd
  na := g.na
  row := fun k q hq => by
    by_cases e : k = i
    · subst e
      rw [hr] at hq
      cases hq
      rw [upd_same, rowV_set]
    · have ne : q ≠ r := fun z => by
        subst z
        have l1 := (List.getElem?_eq_some_iff.mp hr)
        have l2 := (List.getElem?_eq_some_iff.mp hq)
        obtain ⟨i1, i2⟩ := l1
        obtain ⟨k1, k2⟩ := l2
        exact e ((List.getElem_inj g.nd).mp (k2.trans i2.symm))
      rw [upd_ne ne, rowV_off e]
      exact g.row k q hq
def spShorten (K : PySem.W.Frag) : Sp := fun vs H Q _ => ∃ (a : Addr) (rs : List Addr) (n : Nat) (M : Mx), vs = [.ref a] ∧ Gr H a rs n M ∧ n ≤ 100 ∧ ∀ H', Gr H' a rs n (Fw.fwM n M) → (∀ b o, b ∉ rs → H b = some o → H' b = some o) → Q .non H'
theorem row_no {n v i : Nat} {M : Mx} (h : M i v = none) : Fw.rowM n v M i = M := by
  unfold Fw.rowM
  have : ∀ l : List Nat, l.foldl (Fw.stM v i) M = M := fun l => by
    induction l with
    | nil => rfl
    | cons j l ih =>
      have e : Fw.stM v i M j = M := by unfold Fw.stM; rw [h]
      rw [List.foldl_cons, e, ih]
  exact this _
section
variable {P : Program} {w : World} {K : PySem.W.Frag} {mg : Str → Option Value} {base : Heap}
abbrev isN : R2 := fun x y H Q => y = V.non ∧ Q (V.bl (decide (x = V.non))) H
abbrev isNot : R2 := fun x y H Q => y = V.non ∧ Q (V.bl (!decide (x = V.non))) H
def tI (K : PySem.W.Frag) : TS := tIfS (tAnd (tTest (tOp isNot (tOp (rIxL K) (tVar 3) (tVar 6)) (tC V.non))) (tOr (tTest (tOp isN (tOp (rIxL K) (tVar 5) (tVar 6)) (tC V.non)))
    (tTest (tOp (rI0 fun i j => V.bl (decide (i < j))) (tOp (rI0 fun i j => V.int (i + j)) (tOp (rIxL K) (tVar 5) (tVar 2)) (tOp (rIxL K) (tVar 3) (tVar 6))) (tOp (rIxL K) (tVar 5) (tVar 6))))))
  (tAsg (tOp (rI0 fun i j => V.int (i + j)) (tOp (rIxL K) (tVar 5) (tVar 2)) (tOp (rIxL K) (tVar 3) (tVar 6))) (gSub (tVar 5) (tVar 6) rSetL)) tNext
def tR (K : PySem.W.Frag) : TS := tSeq (tAsg (tOp (rIxL K) (tVar 0) (tVar 4)) (gName 5)) (tSeq (tIfS (tTest (tOp isN (tOp (rIxL K) (tVar 5) (tVar 2)) (tC V.non))) tCont tNext) (tFor (iRngV (tVar 1)) (gName 6) (tI K)))
def tW (K : PySem.W.Frag) : TS := tSeq (tAsg (tOp (rIxL K) (tVar 0) (tVar 2)) (gName 3)) (tFor (iRngV (tVar 1)) (gName 4) (tR K))
theorem ix_row {p q : Nat} {σ : L2.St} {H : Hp} {Q : VK} {r : Addr} {xs : List V} {k : Nat} {v : V} (h1 : σ[p]? = some (some (.ref r))) (h2 : σ[q]? = some (some (.int ((k : Nat) : Int)))) (hr : H r = some (.lst xs)) (hx : xs[k]? = some v) (h : Q v H) : tOp (rIxL K) (tVar p) (tVar q) σ H Q :=
  ⟨_, h1, _, h2, r, xs, _, _, rfl, rfl, SqL.of hr, atI_nat hx, h⟩
def Kp (rs : List Addr) (H H' : Hp) : Prop := ∀ b o, b ∉ rs → H b = some o → H' b = some o
theorem ov_some {o : Option Int} : decide (ov o = V.non) = o.isNone := by cases o <;> simp [ov]
theorem inner_step {D : Ends} {H : Hp} {a m rv ri : Addr} {rs : List Addr} {n v i j : Nat} {N : Mx} {x : Int} (g : Gr H a rs n N) (hv : v < n) (hi : i < n) (hj : j < n) (ev : rs[v]? = some rv) (ei : rs[i]? = some ri) (hx : N i v = some x)
    (h : ∀ H', Gr H' a rs n (Fw.stM v i N j) → Kp rs H H' → D.nx [some (.ref a), some (.ref m), some (.int ((v : Nat) : Int)), some (.ref rv), some (.int ((i : Nat) : Int)), some (.ref ri), some (.int ((j : Nat) : Int))] H') :
    tI K D [some (.ref a), some (.ref m), some (.int ((v : Nat) : Int)), some (.ref rv), some (.int ((i : Nat) : Int)), some (.ref ri), some (.int ((j : Nat) : Int))] H := by
  have rowv := g.row v rv ev
  have rowi := g.row i ri ei
  have avj := rowV_at (M := N) (k := v) hj
  have aij := rowV_at (M := N) (k := i) hj
  have aiv := rowV_at (M := N) (k := i) hv
  rw [hx] at aiv
  have setIt : ∀ y, N v j = some y → (N i j = none ∨ ∃ z, N i j = some z ∧ x + y < z) → Fw.stM v i N j = Fw.setM N i j (x + y) := fun y hy hz => by
    unfold Fw.stM
    rw [hx, hy]
    rcases hz with hz | ⟨z, hz, l⟩
    · rw [hz]
    · rw [hz]; exact if_pos l
  have wr : ∀ y, N v j = some y → (N i j = none ∨ ∃ z, N i j = some z ∧ x + y < z) → (tAsg (tOp (rI0 fun i j => V.int (i + j)) (tOp (rIxL K) (tVar 5) (tVar 2)) (tOp (rIxL K) (tVar 3) (tVar 6))) (gSub (tVar 5) (tVar 6) rSetL)) D [some (.ref a), some (.ref m), some (.int ((v : Nat) : Int)), some (.ref rv), some (.int ((i : Nat) : Int)), some (.ref ri), some (.int ((j : Nat) : Int))] H := fun y hy hz => by
    refine ix_row rfl rfl rowi aiv ?_
    refine ix_row rfl rfl rowv avj ?_
    rw [hy]
    refine ⟨x, y, rfl, rfl, _, rfl, _, rfl, ri, _, _, j, rfl, rfl, rowi, ?_, ?_⟩
    · rw [rowV_len]; unfold ixN; rw [if_pos (by omega), if_pos (by omega)]; congr 1
    · have g2 := g.set ei (j := j) (x + y)
      refine h _ (by rw [setIt y hy hz]; exact g2) fun b o hb e => ?_
      rw [upd_ne (fun z => hb (by rw [z]; exact List.mem_of_getElem? ei))]; exact e
  have no : Fw.stM v i N j = N → D.nx _ H := fun e => h H (by rw [e]; exact g) fun b o _ e => e
  show (tAnd _ _) _ _ _
  refine ix_row rfl rfl rowv avj ?_
  refine ⟨rfl, _, rfl, ?_⟩
  rw [ov_some]
  cases hy : N v j with
  | none =>
    rw [if_neg (by decide)]
    show (if (_ : Bool) = true then _ else _)
    rw [if_neg (by decide)]
    refine no ?_
    unfold Fw.stM
    rw [hx, hy]
  | some y =>
    rw [if_pos (show (!(some y).isNone) = true from rfl)]
    refine ix_row rfl rfl rowi aij ?_
    refine ⟨rfl, _, rfl, ?_⟩
    rw [ov_some]
    cases hz : N i j with
    | none =>
      rw [if_pos (by decide)]
      show (if (_ : Bool) = true then _ else _)
      rw [if_pos rfl]
      exact wr y hy (.inl hz)
    | some z =>
      rw [if_neg (fun h => nomatch h)]
      refine ix_row rfl rfl rowi aiv ?_
      refine ix_row rfl rfl rowv avj ?_
      rw [hy]
      refine ⟨x, y, rfl, rfl, ?_⟩
      refine ix_row rfl rfl rowi aij ?_
      rw [hz]
      refine ⟨x + y, z, rfl, rfl, _, rfl, ?_⟩
      show (if (_ : Bool) = true then _ else _)
      by_cases l : x + y < z
      · rw [if_pos (decide_eq_true l)]
        exact wr y hy (.inr ⟨z, hz, l⟩)
      · rw [if_neg (by rw [decide_eq_false l]; decide)]
        refine no ?_
        unfold Fw.stM
        rw [hx, hy, hz]
        exact if_neg l
theorem fold_succ {f : Mx → Nat → Mx} {M : Mx} (k : Nat) : (List.range (k + 1)).foldl f M = f ((List.range k).foldl f M) k := by
  rw [List.range_succ, List.foldl_append]; rfl
theorem row_step {D : Ends} {H : Hp} {a m rv : Addr} {rs : List Addr} {n v i : Nat} {N : Mx} {o5 o6 : Option V} (g : Gr H a rs n N) (n100 : n ≤ 100) (hm : H m = some (.rng 0 (n : Int))) (mr : m ∉ rs) (hv : v < n) (hi : i < n) (ev : rs[v]? = some rv)
    (h : ∀ o5 o6 H', Gr H' a rs n (Fw.rowM n v N i) → Kp rs H H' → D.nx [some (.ref a), some (.ref m), some (.int ((v : Nat) : Int)), some (.ref rv), some (.int ((i : Nat) : Int)), o5, o6] H')
    (hc : ∀ o5 o6 H', Gr H' a rs n (Fw.rowM n v N i) → Kp rs H H' → D.ct [some (.ref a), some (.ref m), some (.int ((v : Nat) : Int)), some (.ref rv), some (.int ((i : Nat) : Int)), o5, o6] H') :
    tR K D [some (.ref a), some (.ref m), some (.int ((v : Nat) : Int)), some (.ref rv), some (.int ((i : Nat) : Int)), o5, o6] H := by
  have li : i < rs.length := by rw [g.len]; exact hi
  have ei : rs[i]? = some rs[i] := List.getElem?_eq_getElem li
  have top : (rs.map V.ref)[i]? = some (V.ref rs[i]) := by rw [List.getElem?_map, ei]; rfl
  generalize rs[i] = ri at ei top
  refine ix_row rfl rfl g.top top ?_
  have rowi := g.row i ri ei
  have aiv := rowV_at (M := N) (k := i) hv
  refine ix_row rfl rfl rowi aiv ?_
  refine ⟨rfl, _, rfl, ?_⟩
  rw [ov_some]
  cases hx : N i v with
  | none =>
    rw [if_pos (by decide)]
    refine hc _ _ H ?_ fun b o _ e => e
    rw [row_no hx]; exact g
  | some x =>
    rw [if_neg (fun h => nomatch h)]
    refine ⟨_, rfl, m, 0, _, rfl, hm, ⟨by decide, by decide, by omega, by omega⟩, ?_⟩
    rw [show (((n : Int) - 0).toNat) = n by omega]
    refine for_range (lo := 0) (n := n) (fun j σ H' => ∃ o6, σ = [some (.ref a), some (.ref m), some (.int ((v : Nat) : Int)), some (.ref rv), some (.int ((i : Nat) : Int)), some (.ref ri), o6] ∧ Gr H' a rs n ((List.range j).foldl (Fw.stM v i) N) ∧ Kp rs H H')
      ⟨o6, rfl, g, fun b o _ e => e⟩ ?_ ?_
    · rintro j σ H1 hj ⟨o6, rfl, g1, k1⟩
      rw [Int.zero_add]
      have le := Fw.fold_le (f := Fw.stM v i) (fun M j => Fw.st_le v i j M) (List.range j) N i v
      obtain ⟨x', hx', _⟩ := le x hx
      refine inner_step g1 hv hi hj ev ei hx' fun H2 g2 k2 => ?_
      exact ⟨_, rfl, by rw [fold_succ]; exact g2, fun b o hb e => k2 b o hb (k1 b o hb e)⟩
    · rintro σ H1 ⟨o6, rfl, g1, k1⟩
      exact h _ _ H1 g1 k1
theorem via_step {D : Ends} {H : Hp} {a m : Addr} {rs : List Addr} {n v : Nat} {N : Mx} {o3 o4 o5 o6 : Option V} (g : Gr H a rs n N) (n100 : n ≤ 100) (hm : H m = some (.rng 0 (n : Int))) (mr : m ∉ rs) (hv : v < n)
    (h : ∀ o3 o4 o5 o6 H', Gr H' a rs n (Fw.viaM n N v) → Kp rs H H' → D.nx [some (.ref a), some (.ref m), some (.int ((v : Nat) : Int)), o3, o4, o5, o6] H') :
    tW K D [some (.ref a), some (.ref m), some (.int ((v : Nat) : Int)), o3, o4, o5, o6] H := by
  have lv : v < rs.length := by rw [g.len]; exact hv
  have ev : rs[v]? = some rs[v] := List.getElem?_eq_getElem lv
  have top : (rs.map V.ref)[v]? = some (V.ref rs[v]) := by rw [List.getElem?_map, ev]; rfl
  generalize rs[v] = rv at ev top
  refine ix_row rfl rfl g.top top ?_
  refine ⟨_, rfl, m, 0, _, rfl, hm, ⟨by decide, by decide, by omega, by omega⟩, ?_⟩
  rw [show (((n : Int) - 0).toNat) = n by omega]
  refine for_range (lo := 0) (n := n) (fun i σ H' => ∃ o4 o5 o6, σ = [some (.ref a), some (.ref m), some (.int ((v : Nat) : Int)), some (.ref rv), o4, o5, o6] ∧ Gr H' a rs n ((List.range i).foldl (Fw.rowM n v) N) ∧ Kp rs H H')
    ⟨o4, o5, o6, rfl, g, fun b o _ e => e⟩ ?_ ?_
  · rintro i σ H1 hi ⟨o4, o5, o6, rfl, g1, k1⟩
    rw [Int.zero_add]
    refine row_step g1 n100 (k1 _ _ mr hm) mr hv hi ev (fun o5 o6 H2 g2 k2 => ?_) (fun o5 o6 H2 g2 k2 => ?_)
    · exact ⟨_, o5, o6, rfl, by rw [fold_succ]; exact g2, fun b o hb e => k2 b o hb (k1 b o hb e)⟩
    · exact ⟨_, o5, o6, rfl, by rw [fold_succ]; exact g2, fun b o hb e => k2 b o hb (k1 b o hb e)⟩
  · rintro σ H1 ⟨o4, o5, o6, rfl, g1, k1⟩
    exact h _ _ _ _ H1 g1 k1
theorem ok_shorten (bl : Blts mg) {f : Addr} {fd : FuncData} (F : Fun K "shorten" "shorten" s_shorten f fd) : FnOk P w K mg base CX0 1 f fd p_shorten (spShorten K) := by
  refine F.ok sc_shorten (fun vs H Q E h => ?_) (fun cdv A outer s H vs Q E hr h => ?_)
  · obtain ⟨a, rs, n, M, rfl, _⟩ := h
    rfl
  obtain ⟨a, rs, n, M, rfl, g, n100, q⟩ := h
  refine ⟨_, (pss_cons (ps_set (i := 1) sc_shorten.nd rfl (by first | exact Or.inl rfl | exact Or.inr rfl) (pe_callTy cr_range1 rfl bl.range (by decide +kernel) (pa_cons (pe_callB call_len_seq rfl bl.len (by decide +kernel) (pa_cons (pv 0) pa_nil)) pa_nil)))
    (pss_one (ps_for PassesOwn.never rfl (pi_rngV (pv 1)) (pg_name (i := 2) sc_shorten.nd rfl (by first | exact Or.inl rfl | exact Or.inr rfl)) (pss_cons (ps_set (i := 3) sc_shorten.nd rfl (by first | exact Or.inl rfl | exact Or.inr rfl) (pe_ix ix_list (pv 0) (pv 2) (fun _ _ => rfl)))
    (pss_one (ps_for PassesOwn.never rfl (pi_rngV (pv 1)) (pg_name (i := 4) sc_shorten.nd rfl (by first | exact Or.inl rfl | exact Or.inr rfl)) (pss_cons (ps_set (i := 5) sc_shorten.nd rfl (by first | exact Or.inl rfl | exact Or.inr rfl) (pe_ix ix_list (pv 0) (pv 4) (fun _ _ => rfl)))
    (pss_cons (ps_if (pt_cmpR op_isN (pe_ix ix_list (pv 5) (pv 2) (fun _ _ => rfl)) pe_non (nomark _)) (pss_one ps_continue) pss_nil)
    (pss_one (ps_for PassesOwn.never rfl (pi_rngV (pv 1)) (pg_name (i := 6) sc_shorten.nd rfl (by first | exact Or.inl rfl | exact Or.inr rfl)) (pss_one (ps_if (PW.pt (pw_and (pt_cmpR op_notN (pe_ix ix_list (pv 3) (pv 6) (fun _ _ => rfl)) pe_non (nomark _)) (pw_and1 (PW.pt (pw_or (pt_cmpR op_isN (pe_ix ix_list (pv 5) (pv 6) (fun _ _ => rfl)) pe_non (nomark _)) (pw_or1 (pt_cmpR op_lt (pe_op op_add (pe_ix ix_list (pv 5) (pv 2) (fun _ _ => rfl)) (pe_ix ix_list (pv 3) (pv 6) (fun _ _ => rfl))) (pe_ix ix_list (pv 5) (pv 6) (fun _ _ => rfl)) (nomark _)))))))) (pss_one (ps_asg (pe_op op_add (pe_ix ix_list (pv 5) (pv 2) (fun _ _ => rfl)) (pe_ix ix_list (pv 3) (pv 6) (fun _ _ => rfl))) (pg_sub (pv 5) (pv 6) set_list))) pss_nil)))))))))))), ?_⟩
  refine ⟨_, rfl, a, _, rfl, .inl (SqL.of g.top), _, rfl, fun m hm => ?_⟩
  have sm : Same H (upd H m (.rng 0 (((rs.map V.ref).length : Nat) : Int))) := same_up hm
  have el : (rs.map V.ref).length = n := by rw [List.length_map, g.len]
  have na : m ≠ a := fun e => by rw [e, g.top] at hm; cases hm
  have nr : m ∉ rs := fun e => by
    obtain ⟨k, hk, e2⟩ := List.getElem_of_mem e
    have := g.row k m (by rw [List.getElem?_eq_getElem hk, e2])
    rw [this] at hm; cases hm
  have g1 : Gr (upd H m (.rng 0 (((rs.map V.ref).length : Nat) : Int))) a rs n M := ⟨sm _ _ g.top, g.len, g.nd, g.na, fun k r hk => sm _ _ (g.row k r hk)⟩
  have um : (upd H m (.rng 0 (((rs.map V.ref).length : Nat) : Int))) m = some (.rng 0 (((rs.map V.ref).length : Nat) : Int)) := upd_same
  generalize upd H m (.rng 0 (((rs.map V.ref).length : Nat) : Int)) = H1 at sm g1 um ⊢
  rw [el] at um
  refine ⟨_, rfl, m, 0, _, rfl, um, ⟨by decide, by decide, by omega, by omega⟩, ?_⟩
  rw [show (((n : Int) - 0).toNat) = n by omega]
  refine for_range (lo := 0) (n := n) (fun v σ H2 => ∃ o2 o3 o4 o5 o6, σ = [some (.ref a), some (.ref m), o2, o3, o4, o5, o6] ∧ Gr H2 a rs n ((List.range v).foldl (Fw.viaM n) M) ∧ Kp rs H1 H2)
    ⟨none, none, none, none, none, rfl, g1, fun b o _ e => e⟩ ?_ ?_
  · rintro v σ H2 hv ⟨o2, o3, o4, o5, o6, rfl, g2, k2⟩
    rw [Int.zero_add]
    refine via_step (K := K) g2 n100 (k2 _ _ nr um) nr hv fun o3 o4 o5 o6 H3 g3 k3 => ?_
    exact ⟨_, o3, o4, o5, o6, rfl, by rw [fold_succ]; exact g3, fun b o hb e => k3 b o hb (k2 b o hb e)⟩
  · rintro σ H2 ⟨o2, o3, o4, o5, o6, rfl, g2, k2⟩
    exact q H2 g2 fun b o hb e => k2 b o hb (sm _ _ e)
end
end Sh
set_option Elab.async false
set_option linter.all false
set_option maxRecDepth 100000
set_option maxHeartbeats 4000000
/-! for x, y in zip(a, b), a and b lists or tuples in any mix -/
namespace Sh
open PySem PySem.Spec PyProof.Rows L2
def SqK (K : PySem.W.Frag) (k : Bool) (H : Hp) (a : Addr) (xs : List V) : Prop := match k with
  | true => SqT K H a xs
  | false => SqL K H a xs
def IsIt (k : Bool) (h : Heap) (i l : Addr) (n : Nat) : Prop := match k with
  | true => h.IsTupleIter i l n
  | false => h.IsListIter i l n
def IsSq (k : Bool) (h : Heap) (l : Addr) (its : Array Value) : Prop := match k with
  | true => h.IsTuple l its
  | false => h.IsList l its
theorem IsIt.at {k : Bool} {h h' : Heap} {i l : Addr} {n : Nat} (x : IsIt k h i l n) (e : ∀ o, h.get? i = some o → h'.get? i = some o) : IsIt k h' i l n := by
  cases k
  · exact Heap.IsListIter.at x e
  · exact Heap.IsTupleIter.at x e
theorem IsIt.obj {k : Bool} {h : Heap} {i l : Addr} {n : Nat} (x : IsIt k h i l n) : ∃ o, h.get? i = some o ∧ ∀ v, o.data ≠ .cell v := by
  cases k
  · obtain ⟨o, e, _, d⟩ := x
    exact ⟨o, e, fun v q => by rw [d] at q; cases q⟩
  · obtain ⟨o, e, _, d⟩ := x
    exact ⟨o, e, fun v q => by rw [d] at q; cases q⟩
theorem draws_k {prog : Program} {w : World} {A : Around} (hh : A.handled = none) (k : Bool) (it l : Addr) (hne : l ≠ it) (items : Array Value) :
    Draws prog w A it [it, l] items.size (fun i v => items[i]? = some v) (fun i h => IsIt k h it l i ∧ IsSq k h l items) := by
  cases k
  · exact Draws.list hh it l hne items
  · exact Draws.tuple hh it l hne items
theorem inv_sq {X : Cx} {pins : List (Addr × Obj)} {σ : L2.St} {H : Hp} {s : Shared} {k : Bool} {a : Addr} {xs : List V} (I : Inv X pins σ H s) (h : SqK X.K k H a xs) : ∃ its, Vals xs its ∧ IsSq k s.heap a its.toArray ∧ a < s.heap.objs.size ∧ xs.length ≤ sizeLine := by
  cases k
  · obtain ⟨its, rv, p, z⟩ := I.list h
    exact ⟨its, rv, p.isList, p.lt, z⟩
  · obtain ⟨its, rv, p, z⟩ := I.tuple h
    obtain ⟨o, ho, _⟩ := id p
    exact ⟨its, rv, p, Heap.lt_size ho, z⟩
theorem inv_inj {X : Cx} {pins : List (Addr × Obj)} {σ : L2.St} {H : Hp} {s : Shared} {k : Bool} {a : Addr} {xs ys : List V} (I : Inv X pins σ H s) (h : SqK X.K k H a xs) (h' : SqK X.K k H a ys) : xs = ys := by
  cases k
  · exact I.list_inj h h'
  · exact I.tuple_inj h h'
def ItzK (K : PySem.W.Frag) (k1 k2 : Bool) (a b : Addr) : It :=
  ⟨fun i H => ∃ (xs ys : List V) (x y : V), SqK K k1 H a xs ∧ SqK K k2 H b ys ∧ xs[i]? = some x ∧ ys[i]? = some y,
    fun i H v H' => ∃ T x y, v = .ref T ∧ H T = none ∧ H' = upd H T (.tup [x, y]) ∧ (∀ xs, SqK K k1 H a xs → xs[i]? = some x) ∧ ∀ ys, SqK K k2 H b ys → ys[i]? = some y,
    fun i H => ∃ xs ys : List V, SqK K k1 H a xs ∧ SqK K k2 H b ys ∧ i = min xs.length ys.length⟩
theorem turn_zipK {P : Program} {w : World} {K : PySem.W.Frag} {elts : List Expr} {kk : Nat} {tpos : Pos} {k1 k2 : Bool} {a b z TI TO i1 i2 : Addr} (S : ZipSep2 z TI TO i1 i2 [i1, a] [i2, b]) (na : a ≠ i1) (nb : b ≠ i2) :
    Turn P w K (.Tuple elts kk tpos) (ItzK K k1 k2 a b) [z, TI, TO, i1, i2] z (fun i h => IsZip h z TI TO .none ∧ IsTupOf2 h TI (.ref i1) (.ref i2) ∧ (∃ x y, IsTupOf2 h TO x y) ∧ IsIt k1 h i1 a i ∧ IsIt k2 h i2 b i) where
  mem := by simp
  obj := fun i h st c hc => by
    obtain ⟨hz, hTI, ⟨x, y, hTO⟩, h1, h2⟩ := st
    have e' : c = z ∨ c = TI ∨ c = TO ∨ c = i1 ∨ c = i2 := by simpa using hc
    rcases e' with q | q | q | q | q
    · rw [q]; exact ⟨_, hz, fun v q => nomatch q⟩
    · rw [q]; exact ⟨_, hTI, fun v q => nomatch q⟩
    · rw [q]; exact ⟨_, hTO, fun v q => nomatch q⟩
    · rw [q]; exact h1.obj
    · rw [q]; exact h2.obj
  keep := fun i h h' st k => by
    obtain ⟨hz, hTI, ⟨x, y, hTO⟩, h1, h2⟩ := st
    exact ⟨k z (by simp) _ hz, k TI (by simp) _ hTI, ⟨x, y, k TO (by simp) _ hTO⟩, h1.at fun o q => k i1 (by simp) o q, h2.at fun o q => k i2 (by simp) o q⟩
  item := by
    intro X hP hw hK hc i pins s σ H E I hf st hg
    subst hP hw hK
    obtain ⟨hz, hTI, hTO, h1, h2⟩ := st
    obtain ⟨xs, ys, x, y, hqx, hqy, hx, hy⟩ := hg
    obtain ⟨its, rv, p, la, _⟩ := inv_sq I hqx
    obtain ⟨its2, rv2, p2, lb, _⟩ := inv_sq I hqy
    obtain ⟨u, hu, ru⟩ := rv.get hx
    obtain ⟨u2, hu2, ru2⟩ := rv2.get hy
    have hh : X.A.in1.handled = none := I.ok.hd hc
    have W := GoesN.zip2 (prog := X.prog) (w := X.w) (A := X.A) (elts := elts) (x1 := kk) (pos := tpos) S (draws_k (A := X.A.in1) hh k1 i1 a na its.toArray) (draws_k (A := X.A.in1) hh k2 i2 b nb its2.toArray)
    have hlt : i < min its.toArray.size its2.toArray.size := by
      have e1 := (List.getElem?_eq_some_iff.mp hu).1
      have e2 := (List.getElem?_eq_some_iff.mp hu2).1
      simp only [List.size_toArray]
      omega
    refine W.goes i s _ _ hlt ⟨hz, hTI, hTO, ⟨h1, p⟩, ⟨h2, p2⟩⟩ fun v h' tk hY st' hk htk => ?_
    obtain ⟨T, u', u2', rfl, hT, e1, e2, tp⟩ := hY
    have e1' : u' = u := by
      have : some u' = some u := e1.symm.trans (by simpa using hu)
      cases this; rfl
    have e2' : u2' = u2 := by
      have : some u2' = some u2 := e2.symm.trans (by simpa using hu2)
      cases this; rfl
    subst e1' e2'
    have new : ObjOk X.prog X.w (upd H T (.tup [x, y])) h' T (.tup [x, y]) := ⟨by show 2 ≤ sizeLine; decide, [u', u2'], .cons ru (.cons ru2 .nil), tp⟩
    have I1 : Inv X pins σ (upd H T (.tup [x, y])) { s with heap := h', toks := tk } :=
      I.turnedNew (t' := tk) (ch := [z, TI, TO, i1, i2]) (fun c o hb q => hk c o (fun q' => hb (by
        have e' : c = z ∨ c = TO ∨ c = i1 ∨ c = i2 := by simpa using q'
        rcases e' with q | q | q | q <;> simp [q])) q) hf hT new
    obtain ⟨z', ti', to', ⟨a', _⟩, ⟨b', _⟩⟩ := st'
    refine ⟨.ref T, _, I1, rfl, ⟨_, x, y, rfl, I.hok.fresh hT, rfl, fun l hl => by rw [inv_inj I hl hqx]; exact hx, fun l hl => by rw [inv_inj I hl hqy]; exact hy⟩, ⟨z', ti', to', a', b'⟩, fun c hcm => ?_⟩
    obtain ⟨o, ho, _⟩ : ∃ o, s.heap.get? c = some o ∧ True := by
      obtain ⟨x0, y0, hTO⟩ := hTO
      have e' : c = z ∨ c = TI ∨ c = TO ∨ c = i1 ∨ c = i2 := by simpa using hcm
      rcases e' with q | q | q | q | q
      · rw [q]; exact ⟨_, hz, trivial⟩
      · rw [q]; exact ⟨_, hTI, trivial⟩
      · rw [q]; exact ⟨_, hTO, trivial⟩
      · rw [q]; obtain ⟨o, e, _⟩ := h1.obj; exact ⟨o, e, trivial⟩
      · rw [q]; obtain ⟨o, e, _⟩ := h2.obj; exact ⟨o, e, trivial⟩
    rw [upd_ne (Nat.ne_of_lt (Nat.lt_of_lt_of_le (Heap.lt_size ho) hT))]
    exact (hf c hcm).1
  done := by
    intro X hP hw hK hc i pins s σ H E I hf st hg
    subst hP hw hK
    obtain ⟨hz, hTI, hTO, h1, h2⟩ := st
    obtain ⟨xs, ys, hqx, hqy, hend⟩ := hg
    obtain ⟨its, rv, p, la, _⟩ := inv_sq I hqx
    obtain ⟨its2, rv2, p2, lb, _⟩ := inv_sq I hqy
    have hh : X.A.in1.handled = none := I.ok.hd hc
    have W := GoesN.zip2 (prog := X.prog) (w := X.w) (A := X.A) (elts := elts) (x1 := kk) (pos := tpos) S (draws_k (A := X.A.in1) hh k1 i1 a na its.toArray) (draws_k (A := X.A.in1) hh k2 i2 b nb its2.toArray)
    have e1 := rv.length
    have e2 := rv2.length
    have hi : i = min its.toArray.size its2.toArray.size := by
      simp only [List.size_toArray]
      rw [hend, e1, e2]
    subst hi
    exact W.stops s (fun s1 => Inv X pins σ H s1) _ ⟨hz, hTI, hTO, ⟨h1, p⟩, ⟨h2, p2⟩⟩ fun h' tk hk htk => I.turnedL (t' := tk) (ch := [z, TI, TO, i1, i2]) (fun c o hb q => hk c o (fun q' => hb (by
      have e' : c = z ∨ c = TO ∨ c = i1 ∨ c = i2 := by simpa using q'
      rcases e' with q | q | q | q <;> simp [q])) q) hf
  self := fun A i s Q E st h => wpAny_pyIter_zip st.1 h
def iZipK (K : PySem.W.Frag) (ta : TA) : TI := fun σ H R => ta σ H fun vs H1 => ∃ a b xs ys k1 k2, vs = [V.ref a, V.ref b] ∧ SqK K k1 H1 a xs ∧ SqK K k2 H1 b ys ∧ R (ItzK K k1 k2 a b) H1
theorem begins_k (k : Bool) (l : Addr) (items : Array Value) : ∃ o, Begins (.ref l) o (fun h => IsSq k h l items) ∧ ∀ (h : Heap) (i : Addr), h.get? i = some o → IsIt k h i l 0 := by
  cases k
  · exact ⟨_, begins_list l items, fun h i e => ⟨_, e, rfl, rfl⟩⟩
  · exact ⟨_, begins_tuple l items, fun h i e => ⟨_, e, rfl, rfl⟩⟩
theorem pi_zipK {X : Cx} {e e2 : Expr} {ta : TA} {p pos tpos : Pos} {elts : List Expr} {kk : Nat} (hg : Gl X "zip") (hm : X.mg "zip" = none) (ha : PA X [e, e2] ta)
    (hs : starEach [e, e2] X.env = (false, eval e X.env) :: starEach [e2] X.env := by rfl) (hpl : (backTo pos (starEach [e2] X.env)).any (·.1) = false := by rfl) :
    PI X (.Tuple elts kk tpos) (.Call (.Name "zip" p) [e, e2] [] pos) (iZipK X.K ta) := by
  refine ⟨fun pins s σ H R I h => ?_⟩
  refine Call_ (ld_blt I hg hm PyProof.Rows.boot_zip (PyProof.Rows.callWith_type1 (thn (ha.run pos pins s σ H _ I h) fun us s1 ⟨vs, H1, I1, r1, q1⟩ => ?_) hs hpl))
  obtain ⟨a, b, xs, ys, k1, k2, ex, hqx, hqy, q⟩ := q1
  subst ex
  cases r1 with
  | cons r rr =>
    cases rr with
    | cons r' rr =>
      cases rr
      cases r
      cases r'
      obtain ⟨its, rv, p1, la, _⟩ := inv_sq I1 hqx
      obtain ⟨its2, rv2, p2, lb, _⟩ := inv_sq I1 hqy
      obtain ⟨o1, B1, it1⟩ := begins_k k1 a its.toArray
      obtain ⟨o2, B2, it2⟩ := begins_k k2 b its2.toArray
      refine zip_begins2 B1 B2 p1 p2 fun h' hz hTI hTO h1 h2 hsz hk => wpAny_pyIter_zip hz ?_
      have I2 : Inv X pins σ H1 { s1 with heap := h' } := I1.kept (t' := s1.toks) hk
      have fresh5 : ∀ c, c ∈ [s1.heap.objs.size + 4, s1.heap.objs.size + 2, s1.heap.objs.size + 3, s1.heap.objs.size, s1.heap.objs.size + 1] → FpOk X pins H1 c := fun c hcm => by
        have e' : c = s1.heap.objs.size + 4 ∨ c = s1.heap.objs.size + 2 ∨ c = s1.heap.objs.size + 3 ∨ c = s1.heap.objs.size ∨ c = s1.heap.objs.size + 1 := by simpa using hcm
        have hle : s1.heap.objs.size ≤ c := by
          rcases e' with z | z | z | z | z
          · rw [z]; exact Nat.le_add_right _ _
          · rw [z]; exact Nat.le_add_right _ _
          · rw [z]; exact Nat.le_add_right _ _
          · rw [z]; exact Nat.le_refl _
          · rw [z]; exact Nat.le_add_right _ _
        exact I1.fpOk hle (I1.hok.fresh hle)
      have S := zip_sep2 (N := s1.heap.objs.size) (fp1 := [a]) (fp2 := [b]) (fun c hc => by rw [List.mem_singleton.mp hc]; exact la) (fun c hc => by rw [List.mem_singleton.mp hc]; exact lb)
      exact ⟨s1.heap.objs.size + 4, [s1.heap.objs.size + 4, s1.heap.objs.size + 2, s1.heap.objs.size + 3, s1.heap.objs.size, s1.heap.objs.size + 1], _, _, H1, rfl, I2, turn_zipK S (Nat.ne_of_lt la) (Nat.ne_of_lt (Nat.lt_succ_of_lt lb)), ⟨hz, hTI, ⟨_, _, hTO⟩, it1 _ _ h1, it2 _ _ h2⟩, fresh5, q⟩
section
variable {K : PySem.W.Frag} {ρ : List En}
theorem sqK_of {G H : Hp} (s : Same G H) {k : Bool} {l : List Dt} {x : V} (r : RD K G (sq k l) x) : ∃ a xs, x = .ref a ∧ SqK K k G a xs ∧ RDs K G l xs := by
  cases k
  · obtain ⟨a, xs, e, h1, h2⟩ := r
    exact ⟨a, xs, e, SqL.of h1, h2⟩
  · obtain ⟨a, xs, e, h1, h2⟩ := r
    exact ⟨a, xs, e, h1, h2⟩
theorem same_sqK {H H' : Hp} {k : Bool} {a : Addr} {xs : List V} (e : Same H H') (h : SqK K k H a xs) : SqK K k H' a xs := by
  cases k
  · exact same_sqL e h
  · exact same_sqT e h
theorem wj_zipK {k1 k2 : Bool} {a b : Addr} {xs ys : List V} {l m : List Dt} {G : Hp} (h : SqK K k1 G a xs) (h' : SqK K k2 G b ys) (r : RDs K G l xs) (r' : RDs K G m ys) : Wj K (ItzK K k1 k2 a b) (zpD l m) G := by
  have e := r.length
  have e' := r'.length
  have el : (zpD l m).length = min xs.length ys.length := by rw [zpD_len, e, e']
  refine ⟨fun i H hi s => ?_, fun H s => ⟨xs, ys, same_sqK s h, same_sqK s h', el⟩, fun i G1 H x H' hi s1 s2 y => ?_⟩
  · rw [el] at hi
    have h1 : i < xs.length := by omega
    have h2 : i < ys.length := by omega
    exact ⟨xs, ys, xs[i], ys[i], same_sqK s h, same_sqK s h', List.getElem?_eq_getElem h1, List.getElem?_eq_getElem h2⟩
  · obtain ⟨T, u, v, rfl, nT, rfl, f1, f2⟩ := y
    obtain ⟨d1, g1, q1⟩ := r.back (f1 xs (same_sqK s2 (same_sqK s1 h)))
    obtain ⟨d2, g2, q2⟩ := r'.back (f2 ys (same_sqK s2 (same_sqK s1 h')))
    obtain ⟨G', n, rd⟩ := nw_pair s2 nT (q1.same s1) (q2.same s1)
    exact ⟨G', _, n, zpD_get g1 g2, rd⟩
theorem ai_zipK {ta : TA} {Θ : List Dt → List En → Prop} (h : AA K ta ρ fun ds ρ1 => ∃ k1 k2 l m, ds = [sq k1 l, sq k2 m] ∧ Θ (zpD l m) ρ1) : AI K (iZipK K ta) ρ Θ := fun B σ G H mm Rr q =>
  h B σ G H mm _ fun vs ds ρ1 G1 H1 m1 s1 t1 r1 ⟨k1, k2, l, m, e, p⟩ => by
    subst e
    obtain ⟨x, y, rfl, r2, r3⟩ := r1.two
    obtain ⟨a, xs, rfl, h1, h2⟩ := sqK_of m1.sub r2
    obtain ⟨b, ys, rfl, h3, h4⟩ := sqK_of m1.sub r3
    exact ⟨a, b, xs, ys, k1, k2, rfl, same_sqK m1.sub h1, same_sqK m1.sub h3, q _ _ ρ1 G1 H1 m1 s1 t1 (wj_zipK h1 h3 h2 h4) p⟩
end
end Sh
set_option Elab.async false
set_option linter.all false
set_option maxRecDepth 100000
set_option maxHeartbeats 4000000
namespace Sh
open PySem PySem.Spec PyProof.Rows L2
abbrev s_opposite : Stmt := topS 1
abbrev N_opposite : List Str := ["bound"]
abbrev p_opposite : List Str := ["bound"]
theorem sc_opposite : FnScope N_opposite p_opposite (defScope s_opposite) := ⟨rfl, rfl, rfl, by decide +kernel, rfl, by decide +kernel, by decide +kernel⟩
abbrev s_with_zero : Stmt := topS 4
abbrev N_with_zero : List Str := ["gaps", "spans", "ways", "row", "span"]
abbrev p_with_zero : List Str := ["gaps", "spans"]
theorem sc_with_zero : FnScope N_with_zero p_with_zero (defScope s_with_zero) := ⟨rfl, rfl, rfl, by decide +kernel, rfl, by decide +kernel, by decide +kernel⟩
def ngO (o : Option Int) : Option Int := o.map fun x => -x
def spOpp (_ : PySem.W.Frag) : Sp := fun vs H Q _ => ∃ o, vs = [ov o] ∧ Q (ov (ngO o)) H
def wzM (n : Nat) (g : Mx) (lo hi : Nat → Option Int) : Mx := fun i j => if i < n then (if j < n then g i j else if j = n then hi i else none) else if i = n then (if j < n then ngO (lo j) else if j = n then some 0 else none) else none
theorem wz_row {n i : Nat} {g : Mx} {lo hi : Nat → Option Int} (h : i < n) : rowV (n + 1) (wzM n g lo hi) i = rowV n g i ++ [ov (hi i)] := by
  unfold rowV
  rw [List.range_succ, List.map_append]
  congr 1
  · refine List.map_congr_left fun j hj => ?_
    unfold wzM; rw [if_pos h, if_pos (List.mem_range.mp hj)]
  · show [ov _] = _
    unfold wzM; rw [if_pos h, if_neg (by omega), if_pos rfl]
theorem wz_last {n : Nat} {g : Mx} {lo hi : Nat → Option Int} : rowV (n + 1) (wzM n g lo hi) n = (List.range n).map (fun j => ov (ngO (lo j))) ++ [.int 0] := by
  unfold rowV
  rw [List.range_succ, List.map_append]
  congr 1
  · refine List.map_congr_left fun j hj => ?_
    unfold wzM; rw [if_neg (by omega), if_pos rfl, if_pos (List.mem_range.mp hj)]
  · show [ov _] = _
    unfold wzM; rw [if_neg (by omega), if_pos rfl, if_neg (by omega), if_pos rfl]; rfl
theorem wz_fin {n : Nat} {g : Mx} {lo hi : Nat → Option Int} : Fw.fin (n + 1) (wzM n g lo hi) := fun a b h => by
  unfold wzM
  by_cases h1 : a < n
  · rw [if_pos h1, if_neg (by omega), if_neg (by omega)]
  · by_cases h2 : a = n
    · rw [if_neg h1, if_pos h2, if_neg (by omega), if_neg (by omega)]
    · rw [if_neg h1, if_neg h2]
/-- what with_zero is given -/
def WzIn (K : PySem.W.Frag) (H : Hp) (a b : Addr) (n : Nat) (g : Mx) (lo hi : Nat → Option Int) : Prop := ∃ k1 k2 xs ys, SqK K k1 H a xs ∧ SqK K k2 H b ys ∧ xs.length = n ∧ ys.length = n ∧
  (∀ i x, xs[i]? = some x → ∃ k p, x = .ref p ∧ SqK K k H p (rowV n g i)) ∧ ∀ i y, ys[i]? = some y → ∃ k q, y = .ref q ∧ SqK K k H q [ov (lo i), ov (hi i)]
structure Pg (H0 H : Hp) (D : Addr) (rs : List Addr) (i m : Nat) (M : Mx) : Prop where
  top : H D = some (.lst (rs.map V.ref))
  len : rs.length = i
  nd : rs.Nodup
  na : D ∉ rs
  row : ∀ k r, rs[k]? = some r → H r = some (.lst (rowV m M k))
  fr : ∀ r ∈ rs, H0 r = none
  sm : Same H0 H
theorem Pg.same {H0 H H' : Hp} {D : Addr} {rs : List Addr} {i m : Nat} {M : Mx} (p : Pg H0 H D rs i m M) (s : Same H H') : Pg H0 H' D rs i m M :=
  ⟨s _ _ p.top, p.len, p.nd, p.na, fun k r h => s _ _ (p.row k r h), p.fr, p.sm.trans s⟩
theorem Pg.app {H0 H : Hp} {D q : Addr} {rs : List Addr} {i m : Nat} {M : Mx} (p : Pg H0 H D rs i m M) (nD : H0 D = none) (nq : H q = none) :
    Pg H0 (upd (upd H q (.lst (rowV m M i))) D (.lst (rs.map V.ref ++ [V.ref q]))) D (rs ++ [q]) (i + 1) m M := by
  have qD : q ≠ D := fun e => by rw [e, p.top] at nq; cases nq
  have nr : q ∉ rs := fun e => by
    obtain ⟨k, hk, e2⟩ := List.getElem_of_mem e
    have := p.row k q (by rw [List.getElem?_eq_getElem hk, e2])
    rw [this] at nq; cases nq
  refine ⟨by rw [upd_same, List.map_append]; rfl, by rw [List.length_append, p.len]; rfl, ?_, ?_, ?_, ?_, ?_⟩
  · rw [List.nodup_append]
    refine ⟨p.nd, by simp, fun x hx y hy e => ?_⟩
    rw [List.mem_singleton.mp hy] at e
    exact nr (e ▸ hx)
  · intro h
    rcases List.mem_append.mp h with h | h
    · exact p.na h
    · exact qD (List.mem_singleton.mp h).symm
  · intro k r h
    by_cases hk : k < rs.length
    · rw [List.getElem?_append_left hk] at h
      have hm : r ∈ rs := List.mem_of_getElem? h
      rw [upd_ne (fun e => p.na (by rw [← e]; exact hm)), upd_ne (fun e => nr (by rw [← e]; exact hm))]
      exact p.row k r h
    · rw [List.getElem?_append_right (by omega)] at h
      have e0 : k - rs.length = 0 := by
        rcases Nat.eq_zero_or_pos (k - rs.length) with z | z
        · exact z
        · rw [List.getElem?_eq_none (by simp; omega)] at h; cases h
      rw [e0] at h
      cases h
      rw [upd_ne qD, upd_same, show k = i by have := p.len; omega]
  · intro r h
    rcases List.mem_append.mp h with h | h
    · exact p.fr r h
    · rw [List.mem_singleton.mp h]
      cases e : H0 q with
      | none => rfl
      | some o => rw [p.sm _ _ e] at nq; cases nq
  · intro c o e
    have h1 := p.sm c o e
    rw [upd_ne (fun z => by rw [z, nD] at e; cases e), upd_ne (fun z => by rw [z, nq] at h1; cases h1)]
    exact h1
def spWz (K : PySem.W.Frag) : Sp := fun vs H Q _ => ∃ a b n g lo hi, vs = [.ref a, .ref b] ∧ WzIn K H a b n g lo hi ∧ n ≤ 99 ∧
  ∀ a' rs H', Gr H' a' rs (n + 1) (wzM n g lo hi) → H a' = none → (∀ r ∈ rs, H r = none) → Same H H' → Q (.ref a') H'
theorem walk_zipK {K : PySem.W.Frag} {k1 k2 : Bool} {a b : Addr} {xs ys : List V} {G : Hp} (h : SqK K k1 G a xs) (h' : SqK K k2 G b ys) : Walk (ItzK K k1 k2 a b) (min xs.length ys.length) (fun H => Same G H)
    (fun i H v H' => ∃ T x y, v = .ref T ∧ H T = none ∧ H' = upd H T (.tup [x, y]) ∧ xs[i]? = some x ∧ ys[i]? = some y) :=
  ⟨fun i H hi s => ⟨xs, ys, xs[i]'(by omega), ys[i]'(by omega), same_sqK s h, same_sqK s h', List.getElem?_eq_getElem _, List.getElem?_eq_getElem _⟩,
    fun H s => ⟨xs, ys, same_sqK s h, same_sqK s h', rfl⟩,
    fun i H v H' hi s y => by
      obtain ⟨T, x, z, e, n, e2, f1, f2⟩ := y
      exact ⟨T, x, z, e, n, e2, f1 xs (same_sqK s h), f2 ys (same_sqK s h')⟩⟩
section
variable {P : Program} {w : World} {K : PySem.W.Frag} {mg : Str → Option Value} {base : Heap}
theorem tConsI {t : TE} {u : TA} {σ : L2.St} {H : Hp} {Q : List V → Hp → Prop} (h : t σ H fun v H1 => u σ H1 fun vs H2 => Q (v :: vs) H2) : tCons t u σ H Q := h
theorem tOpI {r : R2} {t u : TE} {σ : L2.St} {H : Hp} {Q : VK} (h : t σ H fun x H1 => u σ H1 fun y H2 => r x y H2 Q) : tOp r t u σ H Q := h
theorem ix_pair {k : Bool} {H : Hp} {p : Addr} {x y v : V} {i : Int} {Q : VK} (h : SqK K k H p [x, y]) (hv : (i = 0 ∧ v = x) ∨ (i = 1 ∧ v = y)) (q : Q v H) : rIx K (.ref p) (.int i) H Q := by
  have at' : atI [x, y] i = some v := by
    rcases hv with ⟨rfl, rfl⟩ | ⟨rfl, rfl⟩ <;> rfl
  cases k
  · exact .inl ⟨p, _, _, _, rfl, rfl, h, at', q⟩
  · exact .inr (.inl ⟨p, _, _, _, rfl, rfl, h, at', q⟩)
theorem ok_oppV {f : Addr} {fd : FuncData} (F : Fun K "opposite" "opposite" s_opposite f fd) : FnOk P w K mg base CX0 1 f fd p_opposite (spOpp K) := by
  refine F.ok sc_opposite (fun vs H Q E h => ?_) (fun cdv A outer s H vs Q E hr h => ?_)
  · obtain ⟨o, rfl, _⟩ := h
    rfl
  obtain ⟨o, rfl, q⟩ := h
  refine ⟨_, (pss_cons (ps_if (pt_cmpR op_isN (pv 0) pe_non (nomark _)) (pss_one (ps_ret pe_non)) pss_nil)
    (pss_one (ps_ret (pe_un un_neg (pv 0))))), ?_⟩
  refine ⟨_, rfl, rfl, _, rfl, ?_⟩
  rw [ov_some]
  cases o with
  | none => rw [if_pos (show (none : Option Int).isNone = true from rfl)]; exact q
  | some x => rw [if_neg (fun h => nomatch h)]; exact ⟨_, rfl, x, rfl, q⟩
theorem lc_spans {k2 : Bool} {H : Hp} {b : Addr} {ys : List V} {n : Nat} {lo : Nat → Option Int} {o0 o2 o3 o4 : Option V} {Q : VK} (hy : SqK K k2 H b ys) (ly : ys.length = n)
    (fy : ∀ i y, ys[i]? = some y → ∃ k q h, y = .ref q ∧ SqK K k H q [ov (lo i), h]) (q : ∀ E H', Same H H' → H' E = some (.lst ((List.range n).map fun j => ov (ngO (lo j)))) → Q (.ref E) H') (z9 : n ≤ 99 := by assumption) :
    tLc (fun σ H R => iList K (tVar 1) σ H R ∨ iTup K (tVar 1) σ H R) (gName 4) tYes (tCall (spOpp K) [] E0 (tCons (tOp (rIx K) (tVar 4) (tC (.int 0))) tNil)) [4] [o0, some (.ref b), o2, o3, o4] H Q := by
  have z10 : 1000 ≤ sizeLine := by decide
  have step : ∀ (E : Addr) (i : Nat) (x : V) (H3 : Hp), H E = none → i < n → ys[i]? = some x → H3 E = some (.lst ((List.range i).map fun j => ov (ngO (lo j)))) → Same H H3 →
      tCall (spOpp K) [] E0 (tCons (tOp (rIx K) (tVar 4) (tC (.int 0))) tNil) [o0, some (.ref b), o2, o3, some x] H3 fun y H4 => ∃ acc, H4 E = some (.lst acc) ∧ acc.length < sizeLine ∧ ((upd H4 E (.lst (acc ++ [y]))) E = some (.lst ((List.range (i + 1)).map fun j => ov (ngO (lo j)))) ∧ Same H (upd H4 E (.lst (acc ++ [y])))) := by
    intro E i x H3 nE hi ex e s
    obtain ⟨k, p, h, rfl, hp⟩ := fy i x ex
    refine ⟨_, rfl, ix_pair (same_sqK s hp) (.inl ⟨rfl, rfl⟩) ⟨lo i, rfl, _, e, by rw [List.length_map, List.length_range]; omega, ?_, fun c o ho => ?_⟩⟩
    · rw [upd_same, List.range_succ, List.map_append]; rfl
    · rw [upd_ne (fun z => by rw [z, nE] at ho; cases ho)]; exact s c o ho
  cases k2
  · refine .inl ⟨_, rfl, b, rfl, ⟨ys, hy⟩, fun E nE => ?_⟩
    refine lc_it (walk_list (xs := ys)) (fun i H3 => H3 E = some (.lst ((List.range i).map fun j => ov (ngO (lo j)))) ∧ Same H H3) ⟨upd_same, same_up nE⟩ (fun i H3 _ h => same_sqL h.2 hy) ?_ (fun H3 h => q E H3 h.2 (by rw [← ly]; exact h.1))
    rintro i x H3 H4 hi ⟨e, s⟩ ⟨rfl, ex⟩
    refine ⟨rfl, ?_⟩
    unfold tYes
    show (if (true : Bool) = true then _ else _)
    rw [if_pos rfl]
    exact step E i x _ nE (by omega) ex e s
  · refine .inr ⟨_, rfl, b, rfl, ⟨ys, hy⟩, fun E nE => ?_⟩
    refine lc_it (walk_tup (xs := ys)) (fun i H3 => H3 E = some (.lst ((List.range i).map fun j => ov (ngO (lo j)))) ∧ Same H H3) ⟨upd_same, same_up nE⟩ (fun i H3 _ h => same_sqT h.2 hy) ?_ (fun H3 h => q E H3 h.2 (by rw [← ly]; exact h.1))
    rintro i x H3 H4 hi ⟨e, s⟩ ⟨rfl, ex⟩
    refine ⟨rfl, ?_⟩
    unfold tYes
    show (if (true : Bool) = true then _ else _)
    rw [if_pos rfl]
    exact step E i x _ nE (by omega) ex e s
theorem ok_wz (bl : Blts mg) {g_opposite : Addr} {d_opposite : FuncData} (c_opposite : Cal P w K mg base 1 "opposite" p_opposite (spOpp K) g_opposite d_opposite) {f : Addr} {fd : FuncData} (F : Fun K "with_zero" "with_zero" s_with_zero f fd) : FnOk P w K mg base CX0 2 f fd p_with_zero (spWz K) := by
  refine F.ok sc_with_zero (fun vs H Q E h => ?_) (fun cdv A outer s H vs Q E hr h => ?_)
  · obtain ⟨a, b, n, g, lo, hi, rfl, _⟩ := h
    rfl
  obtain ⟨a, b, n, g, lo, hi, rfl, ⟨k1, k2, xs, ys, hx, hy, lx, ly, fx, fy⟩, n99, q⟩ := h
  refine ⟨_, (pss_cons (ps_setLc (i := 2) (own := [("row", 3), ("span", 4)]) (g := (gTup K 2 (gCons (gName 3) (gCons (gName 4) gNil)))) (te := (tOp rCat (tCB (fun xs H Q => ∃ p ys, xs = [.ref p] ∧ (SqL K H p ys ∨ SqT K H p ys) ∧ ∀ l, H l = none → Q (.ref l) (upd H l (.lst ys))) (tCons (tVar 3) tNil)) (tLst (tCons (tOp (rIx K) (tVar 4) (tC (.int 1))) tNil)))) (tt := tYes) rfl sc_with_zero.nd rfl rfl (sw_true rfl rfl rfl (by decide +kernel)) (pi_zipK rfl bl.zip (pa_cons (pv 0) (pa_cons (pv 1) pa_nil))) (blkOk_by (N := N_with_zero) (sc := defScope s_with_zero) (by decide +kernel)) (fun _ _ _ _ _ => (pg_tup rfl (pgs_cons (pg_name (i := 3) sc_with_zero.nd rfl (by first | exact Or.inl rfl | exact Or.inr rfl)) (pgs_cons (pg_name (i := 4) sc_with_zero.nd rfl (by first | exact Or.inl rfl | exact Or.inr rfl)) pgs_nil)))) (fun _ _ _ _ _ => pts_nil) (fun _ _ _ _ _ => (pe_op op_cat (pe_callTy call_list_of rfl bl.list (by decide +kernel) (pa_cons (pv 3) pa_nil)) (pe_lst (pa_cons (pe_ix ix_seq (pv 4) pe_int (fun _ _ => rfl)) pa_nil)))))
    (pss_cons (ps_expr (pe_bm PySem.F.plainAttrs_list PySem.F.slot_list_append PySem.F.type_list_append mt_append (pv 2) (pa_cons (pe_op op_cat (pe_lc (own := [("span", 4)]) (g := (gName 4)) (te := (tCall (spOpp K) [] E0 (tCons (tOp (rIx K) (tVar 4) (tC (.int 0))) tNil))) (tt := tYes) rfl sc_with_zero.nd (pi_or (pi_list (pv 1)) (pi_tup (pv 1))) (blkOk_by (N := N_with_zero) (sc := defScope s_with_zero) (by decide +kernel)) (fun _ _ _ _ _ => (pg_name (i := 4) sc_with_zero.nd rfl (by first | exact Or.inl rfl | exact Or.inr rfl))) (fun _ _ _ _ _ => pts_nil) (fun _ _ _ _ _ => (pe_call c_opposite.ok (hr.mono (by decide)) rfl c_opposite.mg c_opposite.kp c_opposite.bi .nil pass0 (pa_cons (pe_ix ix_seq (pv 4) pe_int (fun _ _ => rfl)) pa_nil)))) (pe_lst (pa_cons pe_int pa_nil))) pa_nil)))
    (pss_one (ps_ret (pv 2))))), ?_⟩
  refine ⟨_, rfl, _, rfl, a, b, xs, ys, k1, k2, rfl, hx, hy, fun D nD => ?_⟩
  have z9 : 1000 ≤ sizeLine := by decide
  refine lc_it (walk_zipK (K := K) hx hy) (fun i H2 => ∃ rs, Pg H H2 D rs i (n + 1) (wzM n g lo hi)) ⟨[], upd_same, rfl, List.nodup_nil, List.not_mem_nil, fun k r h => (by cases h), fun r h => (by cases h), same_up nD⟩ (fun i H2 _ ⟨rs, p⟩ => p.sm) ?_ ?_
  · rintro i x H2 H3 hi' ⟨rs, p⟩ ⟨T, u, v, rfl, nT, rfl, e1, e2⟩
    have hin : i < n := by omega
    have p1 := p.same (same_up (o := .tup [u, v]) nT)
    have tT : (upd H2 T (.tup [u, v])) T = some (.tup [u, v]) := upd_same
    generalize upd H2 T (.tup [u, v]) = H3 at p1 tT ⊢
    obtain ⟨kr, pr, rfl, hr'⟩ := fx i u e1
    obtain ⟨ks, ps, rfl, hs'⟩ := fy i v e2
    refine ⟨T, _, rfl, SqT.of tT, rfl, _, _, rfl, _, _, rfl, ⟨rfl, ?_⟩⟩
    refine ⟨rfl, ?_⟩
    unfold tYes
    show (if (true : Bool) = true then _ else _)
    rw [if_pos rfl]
    refine ⟨_, rfl, pr, rowV n g i, rfl, ?_, fun l nl => ?_⟩
    · cases kr
      · exact .inl (same_sqK p1.sm hr')
      · exact .inr (same_sqK p1.sm hr')
    have p2 := p1.same (same_up (o := .lst (rowV n g i)) nl)
    have tl : (upd H3 l (.lst (rowV n g i))) l = some (.lst (rowV n g i)) := upd_same
    generalize upd H3 l (.lst (rowV n g i)) = H4 at p2 tl ⊢
    refine ⟨_, rfl, ix_pair (same_sqK p2.sm hs') (.inr ⟨rfl, rfl⟩) ⟨by show 1 ≤ sizeLine; omega, fun m nm => ?_⟩⟩
    have sm := same_up (o := .lst [ov (hi i)]) nm
    have p3 := p2.same sm
    have tl2 := sm _ _ tl
    have tm : (upd H4 m (.lst [ov (hi i)])) m = some (.lst [ov (hi i)]) := upd_same
    generalize upd H4 m (.lst [ov (hi i)]) = H5 at p3 tl2 tm ⊢
    refine ⟨l, m, _, _, rfl, rfl, tl2, tm, by rw [rowV_len]; show n + 1 ≤ sizeLine; omega, fun c nc => ?_⟩
    rw [← wz_row hin]
    have cD : D ≠ c := fun e => by rw [← e, p3.top] at nc; cases nc
    exact ⟨_, by rw [upd_ne cD]; exact p3.top, by rw [List.length_map, p3.len]; omega, _, p3.app nD nc⟩
  rintro H2 ⟨rs, p⟩
  rw [show min xs.length ys.length = n by omega] at p
  refine ⟨_, rfl, .inl ⟨rfl, _, SqL.of p.top⟩, ?_⟩
  refine tConsI (tOpI ?_)
  show tLc (fun σ H R => iList K (tVar 1) σ H R ∨ iTup K (tVar 1) σ H R) (gName 4) tYes (tCall (spOpp K) [] E0 (tCons (tOp (rIx K) (tVar 4) (tC (.int 0))) tNil)) [4] [some (.ref a), some (.ref b), some (.ref D), none, none] H2 _
  refine lc_spans (K := K) (same_sqK p.sm hy) ly (fun i y e => by
    obtain ⟨k, q, e1, h1⟩ := fy i y e
    exact ⟨k, q, _, e1, same_sqK p.sm h1⟩) fun E' H3 s3 tE => ⟨by show 1 ≤ sizeLine; omega, fun m nm => ?_⟩
  have p3 := p.same s3
  have sm := same_up (o := .lst [.int 0]) nm
  have p4 := p3.same sm
  have tE4 := sm _ _ tE
  have tm : (upd H3 m (.lst [.int 0])) m = some (.lst [.int 0]) := upd_same
  generalize upd H3 m (.lst [.int 0]) = H4 at p4 tE4 tm ⊢
  refine ⟨E', m, _, _, rfl, rfl, tE4, tm, by rw [List.length_map, List.length_range]; show n + 1 ≤ sizeLine; omega, fun c nc => ?_⟩
  rw [← wz_last (g := g) (hi := hi)]
  have cD : D ≠ c := fun e => by rw [← e, p4.top] at nc; cases nc
  have p5 := p4.app nD nc
  exact ⟨D, _, _, rfl, rfl, by rw [upd_ne cD]; exact p4.top, by rw [List.length_map, p4.len]; omega, _, rfl, q D _ _ ⟨p5.top, p5.len, p5.nd, p5.na, p5.row⟩ nD p5.fr p5.sm⟩
end
end Sh
set_option Elab.async false
set_option linter.all false
set_option maxRecDepth 100000
set_option maxHeartbeats 4000000
/-! the grid of gaps_closed, once it is small, as data -/
namespace Sh
open PySem PySem.Spec PyProof.Rows L2
section
variable {K : PySem.W.Frag} {ρ : List En} {N : List En → Prop} {R : Dt → List En → Prop}
theorem rd_ov {G : Hp} {o : Option Int} : RD K G (oD o) (ov o) := by
  cases o
  · exact rfl
  · exact rfl
theorem rd_ov' {G : Hp} {o : Option Int} {x : V} (r : RD K G (oD o) x) : x = ov o := by
  cases o
  · exact r
  · exact r
theorem rds_ov {G : Hp} : ∀ {l : List (Option Int)}, RDs K G (l.map oD) (l.map ov)
  | [] => rfl
  | o :: l => ⟨ov o, l.map ov, rfl, rd_ov, rds_ov (l := l)⟩
theorem rds_ov' {G : Hp} : ∀ {l : List (Option Int)} {xs : List V}, RDs K G (l.map oD) xs → xs = l.map ov
  | [], _, h => h
  | o :: l, _, ⟨x, r, e, h1, h2⟩ => by rw [e, rd_ov' h1, rds_ov' (l := l) h2]; rfl
theorem rds_of {G : Hp} : ∀ {ds : List Dt} {vs : List V}, ds.length = vs.length → (∀ (i : Nat) (d : Dt) (v : V), ds[i]? = some d → vs[i]? = some v → RD K G d v) → RDs K G ds vs
  | [], [], _, _ => rfl
  | [], _ :: _, h, _ => by cases h
  | _ :: _, [], h, _ => by cases h
  | d :: ds, v :: vs, h, f => ⟨v, vs, rfl, f 0 d v rfl rfl, rds_of (by simpa using h) fun i d' v' h1 h2 => f (i + 1) d' v' (by simpa using h1) (by simpa using h2)⟩
/-- a row, a grid as data -/
def rwD (m : Nat) (M : Mx) (k : Nat) : List Dt := ((List.range m).map fun j => M k j).map oD
def grD (m : Nat) (M : Mx) : List Dt := (List.range m).map fun k => .lst (rwD m M k)
theorem row_map {m : Nat} {M : Mx} {k : Nat} : rowV m M k = ((List.range m).map fun j => M k j).map ov := by
  unfold rowV; rw [List.map_map]; rfl
theorem grD_at {m : Nat} {M : Mx} {k : Nat} (h : k < m) : (grD m M)[k]? = some (.lst (rwD m M k)) := by
  unfold grD; rw [List.getElem?_map, List.getElem?_range h]; rfl
theorem rwD_at {m : Nat} {M : Mx} {k j : Nat} (h : j < m) : (rwD m M k)[j]? = some (oD (M k j)) := by
  unfold rwD; rw [List.map_map, List.getElem?_map, List.getElem?_range h]; rfl
theorem gr_nw {G H H' : Hp} {a : Addr} {rs : List Addr} {m : Nat} {M : Mx} (s : Same G H) (sm : Same H H') (g : Gr H' a rs m M) (na : H a = none) (nr : ∀ r ∈ rs, H r = none) : ∃ G', Nw G H G' H' ∧ RD K G' (.lst (grD m M)) (.ref a) := by
  classical
  have gN : ∀ c, (c = a ∨ c ∈ rs) → G c = none := fun c hc => by
    cases e : G c with
    | none => rfl
    | some o =>
      have h := s _ _ e
      rcases hc with rfl | hc
      · rw [na] at h; cases h
      · rw [nr _ hc] at h; cases h
  have sg : Same G (fun c => if c = a ∨ c ∈ rs then H' c else G c) := fun c o e => by
    show (if _ then _ else _) = _
    rw [if_neg (fun hc => by rw [gN c hc] at e; cases e)]; exact e
  refine ⟨fun c => if c = a ∨ c ∈ rs then H' c else G c, ⟨sg, fun c o e => ?_, sm, fun c e1 e2 => ?_⟩, ?_⟩
  · have e' : (if c = a ∨ c ∈ rs then H' c else G c) = some o := e
    by_cases hc : c = a ∨ c ∈ rs
    · rw [if_pos hc] at e'; exact e'
    · rw [if_neg hc] at e'; exact sm _ _ (s _ _ e')
  · show (if _ then _ else _) = _
    rw [if_neg (fun hc => by
      rcases hc with rfl | hc
      · exact e2 na
      · exact e2 (nr _ hc))]
    exact e1
  · refine ⟨a, rs.map V.ref, rfl, ?_, rds_of (by unfold grD; rw [List.length_map, List.length_map, List.length_range, g.len]) fun k d v h1 h2 => ?_⟩
    · show (if _ then _ else _) = _
      rw [if_pos (.inl rfl)]; exact g.top
    · have hk : k < m := by
        have := (List.getElem?_eq_some_iff.mp h1).1
        unfold grD at this; rw [List.length_map, List.length_range] at this; exact this
      rw [grD_at hk] at h1
      cases h1
      rw [List.getElem?_map] at h2
      cases er : rs[k]? with
      | none => rw [er] at h2; cases h2
      | some r =>
        rw [er] at h2
        cases h2
        refine ⟨r, rowV m M k, rfl, ?_, by rw [row_map]; exact rds_ov⟩
        show (if _ then _ else _) = _
        rw [if_pos (.inr (List.mem_of_getElem? er))]
        exact g.row k r er
/-- what with_zero is given, as data -/
def WzD (d1 d2 : Dt) (n : Nat) (g : Mx) (lo hi : Nat → Option Int) : Prop := ∃ k1 k2 l m, d1 = sq k1 l ∧ d2 = sq k2 m ∧ l.length = n ∧ m.length = n ∧
  (∀ (i : Nat) (d : Dt), l[i]? = some d → ∃ k, d = sq k (rwD n g i)) ∧ ∀ (i : Nat) (d : Dt), m[i]? = some d → ∃ k, d = sq k [oD (lo i), oD (hi i)]
theorem wz_in {G H : Hp} {d1 d2 : Dt} {x y : V} {n : Nat} {g : Mx} {lo hi : Nat → Option Int} (s : Same G H) (w : WzD d1 d2 n g lo hi) (r1 : RD K G d1 x) (r2 : RD K G d2 y) : ∃ a b, x = .ref a ∧ y = .ref b ∧ WzIn K H a b n g lo hi := by
  obtain ⟨k1, k2, l, m, rfl, rfl, ll, lm, f1, f2⟩ := w
  obtain ⟨a, xs, rfl, h1, q1⟩ := sqK_of s r1
  obtain ⟨b, ys, rfl, h2, q2⟩ := sqK_of s r2
  refine ⟨a, b, rfl, rfl, k1, k2, xs, ys, same_sqK s h1, same_sqK s h2, by rw [q1.length, ll], by rw [q2.length, lm], fun i x e => ?_, fun i y e => ?_⟩
  · obtain ⟨d, e1, rd⟩ := q1.back e
    obtain ⟨k, rfl⟩ := f1 i d e1
    obtain ⟨p, zs, rfl, h3, q3⟩ := sqK_of s rd
    refine ⟨k, p, rfl, ?_⟩
    rw [row_map, ← rds_ov' q3]
    exact same_sqK s h3
  · obtain ⟨d, e1, rd⟩ := q2.back e
    obtain ⟨k, rfl⟩ := f2 i d e1
    obtain ⟨p, zs, rfl, h3, q3⟩ := sqK_of s rd
    refine ⟨k, p, rfl, ?_⟩
    obtain ⟨u, v, rfl, r3, r4⟩ := q3.two
    rw [← rd_ov' r3, ← rd_ov' r4]
    exact same_sqK s h3
end
end Sh
set_option Elab.async false
set_option linter.all false
set_option maxRecDepth 100000
set_option maxHeartbeats 4000000
namespace Sh
open PySem PySem.Spec PyProof.Rows L2
abbrev s_gaps_closed : Stmt := topS 3
abbrev N_gaps_closed : List Str := ["gaps", "spans", "many", "ways", "closed", "i"]
abbrev p_gaps_closed : List Str := ["gaps", "spans"]
theorem sc_gaps_closed : FnScope N_gaps_closed p_gaps_closed (defScope s_gaps_closed) := ⟨rfl, rfl, rfl, by decide +kernel, rfl, by decide +kernel, by decide +kernel⟩
/-- what gaps_closed answers -/
def ngB (M : Mx) (i : Nat) : Bool := match M i i with
  | some x => decide (x < 0)
  | none => false
def clD (n : Nat) (M : Mx) : Dt := .tup ((List.range n).map fun i => .tup ((rwD (n + 1) M i).take n))
def prD (n : Nat) (M : Mx) : Dt := .lst ((List.range n).map fun i => .tup [oD (ngO (M n i)), oD (M i n)])
def gcD (n : Nat) (M : Mx) : Dt := if (List.range (n + 1)).any (ngB M) = true then .non else .tup [clD n M, prD n M]
def toF (f : Nat → Dt) : Dt → Dt
  | .int i => f i.toNat
  | _ => .non
theorem toF_k {f : Nat → Dt} {k : Nat} : toF f (.int (k : Int)) = f k := by show f (Int.toNat _) = _; rw [Int.toNat_natCast]
theorem toF_map {f : Nat → Dt} {k : Nat} : ((List.range k).map fun i => Dt.int ((i : Nat) : Int)).map (toF f) = (List.range k).map f := by
  rw [List.map_map]; exact List.map_congr_left fun i _ => toF_k
theorem ngB_of {M : Mx} {k : Nat} {x : Int} (h : M k k = some x) : ngB M k = decide (x < 0) := by unfold ngB; rw [h]
theorem cutD_to {l : List Dt} {n : Nat} : cutD l none (some (n : Int)) = l.take n := by
  unfold cutD
  rw [HT.sIx_none, HT.sIx_nat, List.drop_zero, Nat.sub_zero]
  by_cases h : n ≤ l.length
  · rw [Nat.min_eq_left h]
  · rw [Nat.min_eq_right (by omega), List.take_of_length_le (Nat.le_refl _), List.take_of_length_le (by omega)]
def S_ng : List Dt → Dt → Prop := fun ds r => ∃ a, ds = [oD a] ∧ r = oD (ngO a)
def S_gc : List Dt → Dt → Prop := fun ds r => ∃ d1 d2 n g lo hi, ds = [d1, d2] ∧ WzD d1 d2 n g lo hi ∧ n ≤ 98 ∧ (∀ i, i < n → ∃ x, g i i = some x) ∧ r = gcD n (Fw.fwM (n + 1) (wzM n g lo hi))
theorem wz_dg {n : Nat} {g : Mx} {lo hi : Nat → Option Int} (hg : ∀ i, i < n → ∃ x, g i i = some x) {i : Nat} (h : i < n + 1) : ∃ x, Fw.fwM (n + 1) (wzM n g lo hi) i i = some x := by
  have h2 : ∃ y, wzM n g lo hi i i = some y := by
    unfold wzM
    by_cases h1 : i < n
    · rw [if_pos h1, if_pos h1]; exact hg i h1
    · rw [if_neg h1, if_pos (by omega), if_neg h1, if_pos (by omega)]; exact ⟨0, rfl⟩
  obtain ⟨y, hy⟩ := h2
  obtain ⟨x, hx, _⟩ := Fw.fw_le (n + 1) (wzM n g lo hi) i i y hy
  exact ⟨x, hx⟩
section
variable {P : Program} {w : World} {K : PySem.W.Frag} {mg : Str → Option Value} {base : Heap}
theorem negP {f : Addr} {fd : FuncData} {k : Nat} {ps : List Str} (C : FnOk P w K mg base CX0 k f fd ps (spOpp K)) : FnOk P w K mg base CX0 k f fd ps (spP K S_ng) := C.imp fun vs H Q E h => by
  obtain ⟨G, ds, r, sm, rd, ⟨a, rfl, rfl⟩, q⟩ := h
  obtain ⟨x, rfl, e⟩ := rd.one
  exact ⟨a, by rw [rd_ov' e], q _ G H (Nw.refl sm) rd_ov⟩
end
end Sh
set_option Elab.async false
set_option linter.all false
set_option maxRecDepth 100000
set_option maxHeartbeats 4000000
/-! closed bounds of rings, of points, of nothing: what fwM is there -/
namespace Fw
def TriD (D : Mx) : Prop := ∀ v i j x y, D i v = some x → D v j = some y → le (D i j) (some (x + y))
theorem le_anti {a b : Option Int} (h : le a b) (k : le b a) : a = b := by
  cases a with
  | none =>
    cases b with
    | none => rfl
    | some y => obtain ⟨x, e, _⟩ := h y rfl; cases e
  | some x =>
    cases b with
    | none => obtain ⟨y, e, _⟩ := k x rfl; cases e
    | some y =>
      obtain ⟨x', e, l⟩ := h y rfl
      obtain ⟨y', e', l'⟩ := k x rfl
      cases e; cases e'
      congr 1; omega
theorem st_low {D M : Mx} (t : TriD D) (h : leM D M) (v i j : Nat) : leM D (stM v i M j) := by
  rcases st_cases v i j M with e | ⟨x, y, h1, h2, e, _⟩
  · rw [e]; exact h
  · rw [e]
    intro a b
    unfold setM
    by_cases c : a = i ∧ b = j
    · rw [if_pos c, c.1, c.2]
      obtain ⟨x', e1, l1⟩ := h i v x h1
      obtain ⟨y', e2, l2⟩ := h v j y h2
      exact le_lt (t v i j x' y' e1 e2) (by omega)
    · rw [if_neg c]; exact h a b
theorem fold_low {D : Mx} {f : Mx → Nat → Mx} (h : ∀ M j, leM D M → leM D (f M j)) : ∀ (l : List Nat) (M : Mx), leM D M → leM D (l.foldl f M)
  | [], _, k => k
  | j :: l, M, k => fold_low h l (f M j) (h M j k)
/-- what is closed and lies below stays below -/
theorem fw_low {n : Nat} {D M : Mx} (t : TriD D) (h : leM D M) : leM D (fwM n M) :=
  fold_low (fun M v k => fold_low (fun M i k => fold_low (fun M j k => st_low t k v i j) _ M k) _ M k) _ M h
theorem fw_dg {n : Nat} {D M : Mx} (t : TriD D) (h : leM D M) (z : ∀ i, i < n → D i i = some 0) : dg n (fwM n M) := fun i hi b e => by
  obtain ⟨x, e1, l⟩ := fw_low (n := n) t h i i b e
  rw [z i hi] at e1
  cases e1; exact l
/-! points -/
/-! rings: the places 0 to m, from each a bound to the next, from the last to the first -/
end Fw
set_option Elab.async false
set_option linter.all false
set_option maxRecDepth 100000
set_option maxHeartbeats 4000000
/-! closed bounds under other names, moved, joined, with a bound more -/
namespace Fw
theorem tri_D {n : Nat} {F : Mx} (f : fin n F) (t : tri n F) : TriD F := fun v i j x y h1 h2 => by
  rcases Nat.lt_or_ge v n with h | h
  · exact t v h i j x y h1 h2
  · rw [f i v (.inr h)] at h1; cases h1
/-- no bound below 0 in the diagonal: what comes out is closed -/
structure Good (n : Nat) (W F : Mx) : Prop where
  z : ∀ i, i < n → F i i = some 0
  f : fin n F
  t : TriD F
  le : leM F W
theorem good {n : Nat} {W : Mx} (f : fin n W) (z : ∀ i, i < n → W i i = some 0) (d : dg n (fwM n W)) : Good n W (fwM n W) := by
  obtain ⟨z1, f1, t1⟩ := fw_tri f z d
  exact ⟨z1, f1, tri_D f1 t1, fw_le n W⟩
/-- the greatest closed bounds below -/
theorem fw_is {n : Nat} {W D : Mx} (f : fin n W) (z : ∀ i, i < n → W i i = some 0) (t : TriD D) (zD : ∀ i, i < n → D i i = some 0) (h : leM D W) (up : ∀ E, TriD E → leM E W → leM E D) : fwM n W = D := by
  have g := good f z (fw_dg t h zD)
  funext i j
  exact le_anti (up _ g.t g.le i j) (fw_low t h i j)
end Fw
set_option Elab.async false
set_option linter.all false
set_option maxRecDepth 100000
set_option maxHeartbeats 4000000
/-! ways through bounds: the least sum along a way that passes nobody twice is what the closed bounds hold -/
namespace Fw
/-- the least of numbers, if there are any -/
def loI : List Int → Option Int
  | [] => none
  | x :: l => match loI l with
    | none => some x
    | some y => some (if x < y then x else y)
theorem lo_nil {l : List Int} (h : loI l = none) : l = [] := by
  cases l with
  | nil => rfl
  | cons x l => unfold loI at h; cases e : loI l <;> rw [e] at h <;> cases h
theorem lo_mem : ∀ {l : List Int} {m : Int}, loI l = some m → m ∈ l
  | [], m, h => by cases h
  | x :: l, m, h => by
    unfold loI at h
    cases e : loI l with
    | none => rw [e] at h; cases h; exact List.mem_cons_self
    | some y =>
      rw [e] at h
      have k := lo_mem e
      by_cases c : x < y
      · simp only [if_pos c] at h; cases h; exact List.mem_cons_self
      · simp only [if_neg c] at h; cases h; exact List.mem_cons_of_mem _ k
theorem lo_le : ∀ {l : List Int} {x : Int}, x ∈ l → ∃ m, loI l = some m ∧ m ≤ x
  | [], x, h => by cases h
  | z :: l, x, h => by
    unfold loI
    cases e : loI l with
    | none =>
      rw [lo_nil e] at h
      rcases List.mem_cons.mp h with h | h
      · exact ⟨z, rfl, by omega⟩
      · cases h
    | some y =>
      refine ⟨_, rfl, ?_⟩
      rcases List.mem_cons.mp h with h | h
      · by_cases c : z < y
        · simp only [if_pos c]; omega
        · simp only [if_neg c]; omega
      · obtain ⟨m, e2, l2⟩ := lo_le h
        rw [e] at e2; cases e2
        by_cases c : z < y
        · simp only [if_pos c]; omega
        · simp only [if_neg c]; omega
theorem lo_is {l : List Int} {m : Int} (h1 : m ∈ l) (h2 : ∀ y ∈ l, m ≤ y) : loI l = some m := by
  obtain ⟨k, e, le⟩ := lo_le h1
  have := h2 k (lo_mem e)
  rw [e, show k = m by omega]
/-- the sum along the places of a list; each step goes to another place -/
def sumL (M : Mx) : Nat → List Nat → Option Int
  | _, [] => some 0
  | i, j :: l => if i = j then none else match M i j, sumL M j l with
    | some x, some y => some (x + y)
    | _, _ => none
theorem sum_cons {M : Mx} {i j : Nat} {l : List Nat} {w : Int} : sumL M i (j :: l) = some w ↔ i ≠ j ∧ ∃ x y, M i j = some x ∧ sumL M j l = some y ∧ w = x + y := by
  show (if i = j then none else _) = some w ↔ _
  by_cases c : i = j
  · rw [if_pos c]; exact ⟨fun h => (by cases h), fun h => absurd c h.1⟩
  · rw [if_neg c]
    cases h1 : M i j with
    | none => exact ⟨fun h => (by cases h), fun ⟨_, x, y, h, _⟩ => (by cases h)⟩
    | some x => cases h2 : sumL M j l with
      | none => exact ⟨fun h => (by cases h), fun ⟨_, x, y, _, h, _⟩ => (by cases h)⟩
      | some y => exact ⟨fun h => (by cases h; exact ⟨c, x, y, rfl, rfl, rfl⟩), fun ⟨_, p, q, e1, e2, e3⟩ => (by cases e1; cases e2; rw [e3])⟩
theorem sum_cut {M : Mx} {v : Nat} {q : List Nat} : ∀ {p : List Nat} {i : Nat} {w : Int}, sumL M i (p ++ v :: q) = some w → ∃ x y, sumL M i (p ++ [v]) = some x ∧ sumL M v q = some y ∧ w = x + y
  | [], i, w, h => by
    obtain ⟨c, x, y, e1, e2, e3⟩ := sum_cons.mp h
    exact ⟨x, y, sum_cons.mpr ⟨c, x, 0, e1, rfl, by omega⟩, e2, e3⟩
  | j :: p, i, w, h => by
    obtain ⟨c, x, y, e1, e2, e3⟩ := sum_cons.mp h
    obtain ⟨a, b, f1, f2, f3⟩ := sum_cut e2
    exact ⟨x + a, b, sum_cons.mpr ⟨c, x, a, e1, f1, rfl⟩, f2, by omega⟩
theorem sum_join {M : Mx} {v : Nat} {q : List Nat} : ∀ {p : List Nat} {i : Nat} {x y : Int}, sumL M i (p ++ [v]) = some x → sumL M v q = some y → sumL M i (p ++ v :: q) = some (x + y)
  | [], i, x, y, h, k => by
    obtain ⟨c, a, b, e1, e2, e3⟩ := sum_cons.mp h
    cases e2
    exact sum_cons.mpr ⟨c, a, y, e1, k, by omega⟩
  | j :: p, i, x, y, h, k => by
    obtain ⟨c, a, b, e1, e2, e3⟩ := sum_cons.mp h
    exact sum_cons.mpr ⟨c, a, b + y, e1, sum_join e2 k, by omega⟩
theorem sum_in {N : Nat} {M : Mx} (f : fin N M) : ∀ {l : List Nat} {i : Nat} {w : Int}, sumL M i l = some w → ∀ t, t ∈ l → i < N ∧ t < N
  | [], _, _, _, t, ht => by cases ht
  | j :: l, i, w, h, t, ht => by
    obtain ⟨c, x, y, e1, e2, e3⟩ := sum_cons.mp h
    have hi : i < N := by
      rcases Nat.lt_or_ge i N with k | k
      · exact k
      · rw [f i j (.inl k)] at e1; cases e1
    have hj : j < N := by
      rcases Nat.lt_or_ge j N with k | k
      · exact k
      · rw [f i j (.inr k)] at e1; cases e1
    rcases List.mem_cons.mp ht with k | k
    · rw [k]; exact ⟨hi, hj⟩
    · exact ⟨hi, (sum_in f e2 t k).2⟩
theorem sum_up {E M : Mx} (t : TriD E) (h : leM E M) : ∀ {l : List Nat} {i j : Nat} {w : Int}, sumL M i (l ++ [j]) = some w → le (E i j) (some w)
  | [], i, j, w, k => by
    obtain ⟨c, x, y, e1, e2, e3⟩ := sum_cons.mp k
    cases e2
    obtain ⟨z, f1, f2⟩ := h i j x e1
    intro y hy; cases hy
    exact ⟨z, f1, by omega⟩
  | v :: l, i, j, w, k => by
    obtain ⟨c, x, y, e1, e2, e3⟩ := sum_cons.mp k
    obtain ⟨z, f1, f2⟩ := h i v x e1
    obtain ⟨u, g1, g2⟩ := sum_up t h e2 y rfl
    obtain ⟨s, k1, k2⟩ := t v i j z u f1 g1 (z + u) rfl
    intro q hq; cases hq
    exact ⟨s, k1, by omega⟩
/-! the least way, as it is looked for: place by place, nobody twice -/
def stepW (M : Mx) (g : Nat) (rest : Nat → Option Int) (h : Nat) (s : List Nat) (t : Nat) : Option Int :=
  if t = h then none else match M h t with
    | none => none
    | some x => if t = g then some (x + 0) else if t ∈ s then none else (rest t).map fun r => x + r
def wayM (N : Nat) (M : Mx) (g : Nat) : Nat → Nat → List Nat → Option Int
  | 0, _, _ => none
  | k + 1, h, s => loI ((List.range N).filterMap (stepW M g (fun t => wayM N M g k t (s ++ [t])) h s))
theorem way_sum {N : Nat} {M : Mx} {g : Nat} : ∀ {k h : Nat} {s : List Nat} {w : Int}, wayM N M g k h s = some w → ∃ l, sumL M h (l ++ [g]) = some w
  | 0, _, _, _, e => by cases e
  | k + 1, h, s, w, e => by
    obtain ⟨t, ht, e2⟩ := List.mem_filterMap.mp (lo_mem e)
    unfold stepW at e2
    by_cases c : t = h
    · rw [if_pos c] at e2; cases e2
    · rw [if_neg c] at e2
      cases e1 : M h t with
      | none => rw [e1] at e2; cases e2
      | some x =>
        simp only [e1] at e2
        by_cases c2 : t = g
        · rw [if_pos c2] at e2; cases e2
          exact ⟨[], sum_cons.mpr ⟨fun z => c (by rw [z, c2]), x, 0, by rw [← c2]; exact e1, rfl, rfl⟩⟩
        · rw [if_neg c2] at e2
          by_cases c3 : t ∈ s
          · rw [if_pos c3] at e2; cases e2
          · rw [if_neg c3] at e2
            obtain ⟨r, f1, f2⟩ := Option.map_eq_some_iff.mp e2
            obtain ⟨l, f3⟩ := way_sum f1
            exact ⟨t :: l, sum_cons.mpr ⟨fun z => c z.symm, x, r, e1, f3, f2.symm⟩⟩
theorem way_at {N : Nat} {M : Mx} {g k h : Nat} {s : List Nat} {t : Nat} {w : Int} (ht : t < N) (e : stepW M g (fun t => wayM N M g k t (s ++ [t])) h s t = some w) : ∃ x, wayM N M g (k + 1) h s = some x ∧ x ≤ w :=
  lo_le (List.mem_filterMap.mpr ⟨t, List.mem_range.mpr ht, e⟩)
theorem sum_way {N : Nat} {M : Mx} {g : Nat} (hg : g < N) : ∀ {k : Nat} {l : List Nat} {h : Nat} {s : List Nat} {w : Int}, sumL M h (l ++ [g]) = some w → l.Nodup → (∀ t, t ∈ l → t ∉ s ∧ t ≠ g ∧ t < N) → l.length < k → ∃ x, wayM N M g k h s = some x ∧ x ≤ w
  | 0, _, _, _, _, _, _, _, hl => by omega
  | k + 1, [], h, s, w, e, _, _, _ => by
    obtain ⟨c, x, y, e1, e2, e3⟩ := sum_cons.mp e
    cases e2
    obtain ⟨z, f1, f2⟩ := way_at (N := N) (M := M) (g := g) (h := h) (k := k) (s := s) (w := x + 0) hg (by unfold stepW; rw [if_neg (fun z => c z.symm)]; simp only [e1]; first | exact if_pos rfl | exact if_pos trivial)
    exact ⟨z, f1, by omega⟩
  | k + 1, t :: l, h, s, w, e, d, m, hl => by
    obtain ⟨c, x, y, e1, e2, e3⟩ := sum_cons.mp e
    obtain ⟨m1, m2, m3⟩ := m t List.mem_cons_self
    obtain ⟨d1, d2⟩ := List.nodup_cons.mp d
    obtain ⟨r, f1, f2⟩ := sum_way hg (k := k) (s := s ++ [t]) e2 d2 (fun u hu => ⟨fun z => by
      rcases List.mem_append.mp z with z | z
      · exact (m u (List.mem_cons_of_mem _ hu)).1 z
      · rw [List.mem_singleton.mp z] at hu; exact d1 hu, (m u (List.mem_cons_of_mem _ hu)).2⟩) (by simp only [List.length_cons] at hl; omega)
    obtain ⟨z, g1, g2⟩ := way_at (N := N) (M := M) (g := g) (h := h) (k := k) (s := s) (w := x + r) m3 (by
      unfold stepW
      rw [if_neg (fun z => c z.symm)]
      simp only [e1]
      rw [if_neg m2, if_neg m1, f1]; rfl)
    exact ⟨z, g1, by omega⟩
/-! a walk that passes somebody twice falls into a ring and a shorter walk -/
theorem dup_cut : ∀ {l : List Nat}, ¬ l.Nodup → ∃ a v b c, l = a ++ v :: (b ++ v :: c)
  | [], h => absurd List.nodup_nil h
  | x :: l, h => by
    by_cases c : x ∈ l
    · obtain ⟨b, d, e⟩ := List.append_of_mem c
      exact ⟨[], x, b, d, by rw [e]; rfl⟩
    · by_cases k : l.Nodup
      · exact absurd (List.nodup_cons.mpr ⟨c, k⟩) h
      · obtain ⟨a, v, b, d, e⟩ := dup_cut k
        exact ⟨x :: a, v, b, d, by rw [e]; rfl⟩
theorem pig : ∀ {N : Nat} {l : List Nat}, l.Nodup → (∀ t, t ∈ l → t < N) → l.length ≤ N
  | 0, [], _, _ => Nat.le_refl _
  | 0, t :: l, _, h => absurd (h t List.mem_cons_self) (Nat.not_lt_zero _)
  | N + 1, l, d, h => by
    have k : (l.erase N).length ≤ N := pig (d.erase N) fun t ht => by
      obtain ⟨n1, n2⟩ := (List.Nodup.mem_erase_iff d).mp ht
      have := h t n2
      omega
    have := @List.length_erase _ _ _ N l
    split at this <;> omega
theorem walk_le {N : Nat} {M : Mx} (f : fin N M) (rg : ∀ v x, wayM N M v N v [v] = some x → 0 ≤ x) : ∀ (n : Nat) {i j : Nat} {l : List Nat} {w : Int}, l.length ≤ n → sumL M i (l ++ [j]) = some w → (i = j → 0 ≤ w) ∧ (i ≠ j → ∃ x, wayM N M j N i [i] = some x ∧ x ≤ w) := fun n => by
  induction n using Nat.strongRecOn with
  | _ n ih => ?_
  intro i j l w hl e
  -- two shorter ones
  have key : ∀ {b : List Nat} {v : Nat} {x : Int} {c : List Nat} {y : Int}, b.length < l.length → sumL M v (b ++ [v]) = some x → c.length < l.length → sumL M i (c ++ [j]) = some y → w = x + y → (i = j → 0 ≤ w) ∧ (i ≠ j → ∃ x, wayM N M j N i [i] = some x ∧ x ≤ w) := fun {b v x c y} h1 e1 h2 e2 e3 => by
    have a := (ih b.length (by omega) (Nat.le_refl _) e1).1 rfl
    have q := ih c.length (by omega) (Nat.le_refl _) e2
    refine ⟨fun z => by have := q.1 z; omega, fun z => ?_⟩
    obtain ⟨u, u1, u2⟩ := q.2 z
    exact ⟨u, u1, by omega⟩
  by_cases d : (i :: l).Nodup
  · obtain ⟨d1, d2⟩ := List.nodup_cons.mp d
    have hin := sum_in f e
    have hj : j < N := (hin j (List.mem_append_right _ List.mem_cons_self)).2
    have hi : i < N := (hin j (List.mem_append_right _ List.mem_cons_self)).1
    have hlen : l.length < N := by
      have := pig d fun t ht => by
        rcases List.mem_cons.mp ht with k | k
        · rw [k]; exact hi
        · exact (hin t (List.mem_append_left _ k)).2
      simp only [List.length_cons] at this; omega
    by_cases c : j ∈ l
    · obtain ⟨b, c', el⟩ := List.append_of_mem c
      subst el
      rw [show (b ++ j :: c') ++ [j] = b ++ j :: (c' ++ [j]) by simp] at e
      obtain ⟨x, y, e1, e2, e3⟩ := sum_cut e
      exact key (b := c') (c := b) (by simp only [List.length_append, List.length_cons]; omega) e2 (by simp only [List.length_append, List.length_cons]; omega) e1 (by omega)
    · obtain ⟨x, x1, x2⟩ := sum_way (N := N) (k := N) (s := [i]) hj e d2 (fun t ht => ⟨fun z => by rw [List.mem_singleton.mp z] at ht; exact d1 ht, fun z => by rw [z] at ht; exact c ht, (hin t (List.mem_append_left _ ht)).2⟩) hlen
      refine ⟨fun z => ?_, fun _ => ⟨x, x1, x2⟩⟩
      subst z
      have := rg i x x1
      omega
  · obtain ⟨a, v, b, c, el⟩ := dup_cut d
    cases a with
    | nil =>
      obtain ⟨h1, h2⟩ := List.cons.inj el
      subst h1; subst h2
      rw [show (b ++ i :: c) ++ [j] = b ++ i :: (c ++ [j]) by simp] at e
      obtain ⟨x, y, e1, e2, e3⟩ := sum_cut e
      exact key (by simp only [List.length_append, List.length_cons]; omega) e1 (by simp only [List.length_append, List.length_cons]; omega) e2 e3
    | cons a0 a =>
      have el' : i :: l = a0 :: (a ++ v :: (b ++ v :: c)) := el
      obtain ⟨h1, h2⟩ := List.cons.inj el'
      subst h2
      rw [show (a ++ v :: (b ++ v :: c)) ++ [j] = a ++ v :: (b ++ v :: (c ++ [j])) by simp] at e
      obtain ⟨x, y, e1, e2, e3⟩ := sum_cut e
      obtain ⟨p, q, e4, e5, e6⟩ := sum_cut e2
      have := sum_join e1 e5
      rw [show a ++ v :: (c ++ [j]) = (a ++ v :: c) ++ [j] by simp] at this
      exact key (c := a ++ v :: c) (by simp only [List.length_append, List.length_cons]; omega) e4 (by simp only [List.length_append, List.length_cons]; omega) this (by omega)
/-- the least sums, and 0 for oneself -/
def wyM (N : Nat) (M : Mx) : Mx := fun i j => if i = j then (if i < N then some 0 else none) else wayM N M j N i [i]
theorem ring_ok {N : Nat} {M : Mx} (f : fin N M) (z : ∀ i, i < N → M i i = some 0) (d : dg N (fwM N M)) : ∀ v x, wayM N M v N v [v] = some x → 0 ≤ x := fun v x e => by
  have g := good f z d
  obtain ⟨l, h⟩ := way_sum e
  have hv := (sum_in f h v (List.mem_append_right _ List.mem_cons_self)).1
  obtain ⟨y, e1, e2⟩ := sum_up g.t g.le h x rfl
  rw [g.z v hv] at e1; cases e1; exact e2
theorem wy_none {N : Nat} {M : Mx} (f : fin N M) {i j x : Nat} {w : Int} (h : wyM N M i j = some w) : i < N ∧ j < N := by
  unfold wyM at h
  by_cases c : i = j
  · rw [if_pos c] at h
    by_cases k : i < N
    · exact ⟨k, c ▸ k⟩
    · rw [if_neg k] at h; cases h
  · rw [if_neg c] at h
    obtain ⟨l, e⟩ := way_sum h
    exact sum_in f e j (List.mem_append_right _ List.mem_cons_self)
theorem way_is {N : Nat} {M : Mx} (f : fin N M) (z : ∀ i, i < N → M i i = some 0) (rg : ∀ v x, wayM N M v N v [v] = some x → 0 ≤ x) : dg N (fwM N M) ∧ fwM N M = wyM N M := by
  have t : TriD (wyM N M) := fun v i j x y h1 h2 => by
    have b1 := wy_none (x := 0) f h1
    have b2 := wy_none (x := 0) f h2
    by_cases c1 : i = v
    · subst c1
      unfold wyM at h1
      rw [if_pos rfl, if_pos b1.1] at h1
      cases h1
      rw [h2]
      intro q hq; cases hq; exact ⟨y, rfl, by omega⟩
    · by_cases c2 : v = j
      · subst c2
        unfold wyM at h2
        rw [if_pos rfl, if_pos b2.1] at h2
        cases h2
        rw [h1]
        intro q hq; cases hq; exact ⟨x, rfl, by omega⟩
      · unfold wyM at h1 h2
        rw [if_neg c1] at h1
        rw [if_neg c2] at h2
        obtain ⟨l1, e1⟩ := way_sum h1
        obtain ⟨l2, e2⟩ := way_sum h2
        have e := sum_join e1 e2
        rw [show l1 ++ v :: (l2 ++ [j]) = (l1 ++ v :: l2) ++ [j] by simp] at e
        obtain ⟨k1, k2⟩ := walk_le f rg _ (Nat.le_refl _) e
        intro q hq; cases hq
        unfold wyM
        by_cases c : i = j
        · rw [if_pos c, if_pos b1.1]
          exact ⟨0, rfl, k1 c⟩
        · rw [if_neg c]
          exact k2 c
  have l : leM (wyM N M) M := fun i j b e => by
    have hi : i < N := by
      rcases Nat.lt_or_ge i N with k | k
      · exact k
      · rw [f i j (.inl k)] at e; cases e
    have hj : j < N := by
      rcases Nat.lt_or_ge j N with k | k
      · exact k
      · rw [f i j (.inr k)] at e; cases e
    unfold wyM
    by_cases c : i = j
    · rw [if_pos c, if_pos hi]
      subst c
      rw [z i hi] at e; cases e
      exact ⟨0, rfl, Int.le_refl _⟩
    · rw [if_neg c]
      obtain ⟨x, x1, x2⟩ := sum_way (N := N) (k := N) (l := []) (s := [i]) hj (sum_cons.mpr ⟨c, b, 0, e, rfl, rfl⟩) List.nodup_nil (fun t ht => by cases ht) (by show 0 < N; omega)
      exact ⟨x, x1, by omega⟩
  have zD : ∀ i, i < N → wyM N M i i = some 0 := fun i hi => by unfold wyM; rw [if_pos rfl, if_pos hi]
  refine ⟨fw_dg t l zD, fw_is f z t zD l fun E tE lE i j b e => ?_⟩
  have b1 := wy_none (x := 0) f e
  unfold wyM at e
  by_cases c : i = j
  · rw [if_pos c, if_pos b1.1] at e
    cases e; subst c
    exact lE i i 0 (z i b1.1)
  · rw [if_neg c] at e
    obtain ⟨p, h⟩ := way_sum e
    exact sum_up tE lE h b rfl
end Fw
set_option Elab.async false
set_option linter.all false
set_option maxRecDepth 100000
set_option maxHeartbeats 4000000
/-! for t in zip(a, b), and for x, y in zip(*t); a and b lists or tuples in any mix -/
set_option Elab.async false
set_option linter.all false
set_option maxRecDepth 100000
set_option maxHeartbeats 4000000
/-! sum of ints, slices of tuples, a list times an int that will change, an item set at any place, tuple + tuple -/
set_option Elab.async false
set_option linter.all false
set_option maxRecDepth 100000
set_option maxHeartbeats 4000000
/-! tuple + tuple -/
set_option Elab.async false
set_option linter.all false
set_option maxRecDepth 100000
set_option maxHeartbeats 4000000
/-! enumerate of a tuple; xs.pop(i), list(e) as a list of one's own, its length -/
set_option Elab.async false
set_option linter.all false
set_option maxRecDepth 100000
set_option maxHeartbeats 4000000
/-! what the law of ways expects: bounds as data -/
namespace Sh
open PySem PySem.Spec PyProof.Rows L2
theorem zp_rg {f g : Nat → Dt} {n : Nat} : zpD ((List.range n).map f) ((List.range n).map g) = (List.range n).map fun i => .tup [f i, g i] := by
  unfold zpD
  rw [List.zip_map', List.map_map]; rfl
theorem rw_rg {n : Nat} {M : Mx} {i : Nat} : rwD n M i = (List.range n).map fun j => oD (M i j) := by
  unfold rwD; rw [List.map_map]; rfl
theorem rg_at {n i : Nat} {f : Nat → Dt} {d : Dt} (h : ((List.range n).map f)[i]? = some d) : i < n ∧ d = f i := by
  have l := (List.getElem?_eq_some_iff.mp h).1
  rw [List.length_map, List.length_range] at l
  rw [List.getElem?_map, List.getElem?_range l] at h
  exact ⟨l, by cases h; rfl⟩
/-- bounds as data: a tuple or a list of tuples or lists -/
def gD (k k' : Bool) (n : Nat) (M : Mx) : Dt := sq k ((List.range n).map fun i => sq k' (rwD n M i))
def unO : Dt → Option Int
  | .int i => some i
  | _ => none
theorem unO_is {o : Option Int} : unO (oD o) = o := by cases o <;> rfl
def its : Dt → List Dt
  | .tup l => l
  | .lst l => l
  | _ => []
theorem take_rw {n : Nat} {M : Mx} {i : Nat} : (rwD (n + 1) M i).take n = rwD n M i := by
  rw [rw_rg, rw_rg, List.range_succ, List.map_append, List.take_left' (by simp)]
theorem cl_gD {n : Nat} {M : Mx} : clD n M = gD true true n M := by
  unfold clD gD
  show Dt.tup _ = Dt.tup _
  congr 1
  exact List.map_congr_left fun i _ => by rw [take_rw]; rfl
theorem gc_non {n : Nat} {F : Mx} (h : ∃ i b, i < n + 1 ∧ F i i = some b ∧ b < 0) : gcD n F = .non := by
  obtain ⟨i, b, hi, e, l⟩ := h
  unfold gcD
  rw [if_pos (List.any_eq_true.mpr ⟨i, List.mem_range.mpr hi, by unfold ngB; rw [e]; exact decide_eq_true l⟩)]
theorem gc_tup {n : Nat} {F : Mx} (h : ∀ i, i < n + 1 → F i i = some 0) : gcD n F = .tup [clD n F, prD n F] := by
  unfold gcD
  rw [if_neg]
  intro a
  obtain ⟨i, hi, e⟩ := List.any_eq_true.mp a
  unfold ngB at e
  rw [h i (List.mem_range.mp hi)] at e
  cases e
theorem wz_in' {n i j : Nat} {g : Mx} {lo hi : Nat → Option Int} (h1 : i < n) (h2 : j < n) : wzM n g lo hi i j = g i j := by unfold wzM; rw [if_pos h1, if_pos h2]
theorem wz_hi {n i : Nat} {g : Mx} {lo hi : Nat → Option Int} (h1 : i < n) : wzM n g lo hi i n = hi i := by unfold wzM; rw [if_pos h1, if_neg (by omega), if_pos rfl]
theorem wz_lo {n j : Nat} {g : Mx} {lo hi : Nat → Option Int} (h1 : j < n) : wzM n g lo hi n j = ngO (lo j) := by unfold wzM; rw [if_neg (by omega), if_pos rfl, if_pos h1]
theorem wz_00 {n : Nat} {g : Mx} {lo hi : Nat → Option Int} : wzM n g lo hi n n = some 0 := by unfold wzM; rw [if_neg (by omega), if_pos rfl, if_neg (by omega), if_pos rfl]
theorem wz_dg0 {n : Nat} {g : Mx} {lo hi : Nat → Option Int} (hg : ∀ i, i < n → g i i = some 0) : ∀ i, i < n + 1 → wzM n g lo hi i i = some 0 := fun i hi => by
  by_cases h : i < n
  · rw [wz_in' h h]; exact hg i h
  · rw [show i = n by omega]; exact wz_00
def prsD (n : Nat) (lo hi : Nat → Option Int) : Dt := .lst ((List.range n).map fun i => .tup [oD (lo i), oD (hi i)])
theorem pr_prs {n : Nat} {M : Mx} : prD n M = prsD n (fun i => ngO (M n i)) (fun i => M i n) := rfl
theorem wz_std {k' : Bool} {n : Nat} {M : Mx} {lo hi : Nat → Option Int} : WzD (gD true k' n M) (prsD n lo hi) n M lo hi := by
  refine ⟨true, false, _, _, rfl, rfl, by simp, by simp, fun i d hd => ?_, fun i d hd => ?_⟩
  · obtain ⟨_, rfl⟩ := rg_at hd
    exact ⟨k', rfl⟩
  · obtain ⟨_, rfl⟩ := rg_at hd
    exact ⟨true, rfl⟩
def clsD (n : Nat) (F : Mx) : Dt := .tup [gD true true n F, prD n F]
theorem gc_cls {n : Nat} {F : Mx} (h : ∀ i, i < n + 1 → F i i = some 0) : gcD n F = clsD n F := by
  rw [gc_tup h, cl_gD]; rfl
theorem dg_or {n : Nat} {F : Mx} : Fw.dg n F ∨ ∃ i b, i < n ∧ F i i = some b ∧ b < 0 := by
  apply Classical.byContradiction
  intro no
  have h1 := fun h => no (.inl h)
  exact h1 fun i hi b e => by
    rcases (by omega : b < 0 ∨ 0 ≤ b) with q | q
    · exact absurd (.inr ⟨i, b, hi, e, q⟩) no
    · exact q
/-- pairs as lists or tuples -/
def prsK (k k' : Bool) (n : Nat) (lo hi : Nat → Option Int) : Dt := sq k ((List.range n).map fun i => sq k' [oD (lo i), oD (hi i)])
theorem wz_stdK {k k' q q' : Bool} {n : Nat} {M : Mx} {lo hi : Nat → Option Int} : WzD (gD k k' n M) (prsK q q' n lo hi) n M lo hi := by
  refine ⟨k, q, _, _, rfl, rfl, by simp, by simp, fun i d hd => ?_, fun i d hd => ?_⟩
  · obtain ⟨_, rfl⟩ := rg_at hd
    exact ⟨k', rfl⟩
  · obtain ⟨_, rfl⟩ := rg_at hd
    exact ⟨q', rfl⟩
/-- what the law finds way by way -/
def tbD (N : Nat) (M : Mx) : Dt := .lst ((List.range N).map fun i => .lst (rwD N M i))
def wyR (N : Nat) (M : Mx) (v : Nat) : Option Int := Fw.wayM N M v N v [v]
def ngW (N : Nat) (M : Mx) : Bool := (List.range N).any fun v => match wyR N M v with | none => false | some x => decide (x < 0)
def wyD (n : Nat) (M : Mx) : Dt := if ngW (n + 1) M = true then .non else clsD n (Fw.wyM (n + 1) M)
theorem way_due {n : Nat} {M : Mx} (f : Fw.fin (n + 1) M) (z : ∀ i, i < n + 1 → M i i = some 0) : wyD n M = gcD n (Fw.fwM (n + 1) M) := by
  unfold wyD
  by_cases h : ngW (n + 1) M = true
  · rw [if_pos h]
    unfold ngW at h
    obtain ⟨v, hv, e⟩ := List.any_eq_true.mp h
    unfold wyR at e
    cases q : Fw.wayM (n + 1) M v (n + 1) v [v] with
    | none => rw [q] at e; cases e
    | some x =>
      rw [q] at e
      have l : x < 0 := of_decide_eq_true e
      rcases dg_or (n := n + 1) (F := Fw.fwM (n + 1) M) with d | d
      · have := Fw.ring_ok f z d v x q
        omega
      · exact (gc_non d).symm
  · rw [if_neg h]
    have rg : ∀ v x, Fw.wayM (n + 1) M v (n + 1) v [v] = some x → 0 ≤ x := fun v x e => by
      rcases Nat.lt_or_ge v (n + 1) with hv | hv
      · rcases (by omega : x < 0 ∨ 0 ≤ x) with q | q
        · refine absurd (List.any_eq_true.mpr ⟨v, List.mem_range.mpr hv, ?_⟩) h
          unfold wyR
          rw [e]; exact decide_eq_true q
        · exact q
      · obtain ⟨l, e2⟩ := Fw.way_sum e
        have := (Fw.sum_in f e2 v (List.mem_append_right _ List.mem_cons_self)).1
        omega
    obtain ⟨d, e⟩ := Fw.way_is f z rg
    have g := Fw.good f z d
    rw [gc_cls g.z, e]
end Sh
set_option Elab.async false
set_option linter.all false
set_option maxRecDepth 100000
set_option maxHeartbeats 4000000
namespace Sh
open PySem PySem.Spec PyProof.Rows L2
section
variable {P : Program} {w : World} {K : PySem.W.Frag} {mg : Str → Option Value} {base : Heap}
mutual
def Dt.dep : Dt → Nat
  | .tup l => deps l + 1 | .lst l => deps l + 1 | _ => 1
def deps : List Dt → Nat
  | [] => 0
  | d :: l => max d.dep (deps l)
end
mutual
/-- no classes, short -/
def Dt.fit : Dt → Bool
  | .ty _ => false
  | .tup l => decide (l.length ≤ 9000) && fits l
  | .lst l => decide (l.length ≤ 9000) && fits l
  | _ => true
def fits : List Dt → Bool
  | [] => true
  | d :: l => d.fit && fits l
end
theorem deps_mem : ∀ {l : List Dt} {d : Dt}, d ∈ l → d.dep ≤ deps l
  | e :: l, d, h => by
    unfold deps
    rcases List.mem_cons.mp h with rfl | h
    · omega
    · have := deps_mem h; omega
theorem fits_mem : ∀ {l : List Dt} {d : Dt}, fits l = true → d ∈ l → d.fit = true
  | e :: l, d, f, h => by
    unfold fits at f
    rw [Bool.and_eq_true] at f
    rcases List.mem_cons.mp h with rfl | h
    · exact f.1
    · exact fits_mem f.2 h
def S_same (n : Nat) (ds : List Dt) (r : Dt) : Prop := ∃ d, ds = [d, d] ∧ d.dep ≤ n ∧ d.fit = true ∧ r = .bl true
theorem zp_self : ∀ {l : List Dt} {d : Dt}, d ∈ zpD l l → ∃ e, e ∈ l ∧ d = .tup [e, e]
  | [], d, h => by simp [zpD] at h
  | a :: l, d, h => by
    rcases List.mem_cons.mp (show d ∈ Dt.tup [a, a] :: zpD l l from h) with rfl | h
    · exact ⟨a, List.mem_cons_self, rfl⟩
    · obtain ⟨e, h1, h2⟩ := zp_self h
      exact ⟨e, List.mem_cons_of_mem _ h1, h2⟩
theorem none0 {ps : List Str} {f : Addr} {fd : FuncData} {sp : Sp} (no : ∀ vs H Q E, ¬ sp vs H Q E) : FnOk P w K mg base CX0 0 f fd ps sp :=
  ⟨fun vs H Q E h => absurd h (no vs H Q E), fun A outer s H args us vs Q E _ _ _ _ h => absurd h (no vs H Q E)⟩
theorem dep_pos (d : Dt) : 1 ≤ d.dep := by cases d <;> simp [Dt.dep]
theorem map_true {l : List Dt} : (l.map fun _ => Dt.bl true) = (List.replicate l.length true).map Dt.bl := by rw [List.map_const', List.map_replicate]
theorem all_true (n : Nat) : (List.replicate n true).all id = true := by simp
abbrev s_l_same : Stmt := topS 11
abbrev N_l_same : List Str := ["_law_found", "_law_due", "_law_mine", "_law_its"]
abbrev p_l_same : List Str := ["_law_found", "_law_due"]
theorem sc_l_same : FnScope N_l_same p_l_same (defScope s_l_same) := ⟨rfl, rfl, rfl, by decide +kernel, rfl, by decide +kernel, by decide +kernel⟩
theorem ok_l_same (bl : Blts mg) {n : Nat} {g_l_same : Addr} {d_l_same : FuncData} (c_l_same : Cal P w K mg base n "_law_same" p_l_same (spP K (S_same n)) g_l_same d_l_same) {f : Addr} {fd : FuncData} (F : Fun K "_law_same" "_law_same" s_l_same f fd) : FnOk P w K mg base CX0 (n + 1) f fd p_l_same (spP K (S_same (n + 1))) := by
  refine okP F sc_l_same (fun ds r h => ?_) (fun cdv A outer s H E hr ds r h => ?_)
  · obtain ⟨d, rfl, n1, f1, rfl⟩ := h
    rfl
  obtain ⟨d, rfl, n1, f1, rfl⟩ := h
  refine ⟨_, (pss_cons (ps_if (pt_val (pe_callB call_isiT rfl bl.isinstance (by decide +kernel) (pa_cons (pv 1) (pa_cons (pe_tup (pa_cons (pe_bltn (v := .ty "list") rfl bl.list (by decide +kernel) rfl) (pa_cons (pe_bltn (v := .ty "tuple") rfl bl.tuple (by decide +kernel) rfl) pa_nil))) pa_nil)))) (pss_cons (ps_if (PW.pt (pw_or (pt_cmpR op_ne (pe_callB call_isi rfl bl.isinstance (by decide +kernel) (pa_cons (pv 0) (pa_cons (pe_bltn (v := .ty "list") rfl bl.list (by decide +kernel) rfl) pa_nil))) (pe_callB call_isi rfl bl.isinstance (by decide +kernel) (pa_cons (pv 1) (pa_cons (pe_bltn (v := .ty "list") rfl bl.list (by decide +kernel) rfl) pa_nil))) (nomark _)) (pw_or1 (pt_cmpR op_ne (pe_callB call_isi rfl bl.isinstance (by decide +kernel) (pa_cons (pv 0) (pa_cons (pe_bltn (v := .ty "tuple") rfl bl.tuple (by decide +kernel) rfl) pa_nil))) (pe_callB call_isi rfl bl.isinstance (by decide +kernel) (pa_cons (pv 1) (pa_cons (pe_bltn (v := .ty "tuple") rfl bl.tuple (by decide +kernel) rfl) pa_nil))) (nomark _))))) (pss_one (ps_ret pe_bl)) pss_nil)
    (pss_one (ps_ret (pe_and (pe_cmpR op_eq (pe_callB call_len_seq rfl bl.len (by decide +kernel) (pa_cons (pv 0) pa_nil)) (pe_callB call_len_seq rfl bl.len (by decide +kernel) (pa_cons (pv 1) pa_nil)) (nomark _)) (pe_one (pe_callB (cr_all rfl) rfl bl.all (by decide +kernel) (pa_cons (pe_lc (own := [("_law_mine", 2), ("_law_its", 3)]) (g := (gTup K 2 (gCons (gName 2) (gCons (gName 3) gNil)))) (tt := tYes) rfl sc_l_same.nd (RZ.pi_zipA rfl bl.zip (pa_cons (pv 0) (pa_cons (pv 1) pa_nil))) (blkOk_by (N := N_l_same) (sc := defScope s_l_same) (by decide +kernel)) (fun _ _ _ _ _ => (pg_tup rfl (pgs_cons (pg_name (i := 2) sc_l_same.nd rfl (by first | exact Or.inl rfl | exact Or.inr rfl)) (pgs_cons (pg_name (i := 3) sc_l_same.nd rfl (by first | exact Or.inl rfl | exact Or.inr rfl)) pgs_nil)))) (fun _ _ _ _ _ => pts_nil) (fun _ _ _ _ _ => (pe_call c_l_same.ok hr rfl c_l_same.mg c_l_same.kp c_l_same.bi .nil pass0 (pa_cons (pv 2) (pa_cons (pv 3) pa_nil))))) pa_nil))))))) pss_nil)
    (pss_cons (ps_if (PW.pt (pw_or (pt_cmpR op_isN (pv 1) pe_non (nomark _)) (pw_or1 (pt_val (pe_callB call_isiT rfl bl.isinstance (by decide +kernel) (pa_cons (pv 1) (pa_cons (pe_tup (pa_cons (pe_bltn (v := .ty "bool") rfl bl.bool (by decide +kernel) rfl) (pa_cons (pe_bltn (v := .ty "str") rfl bl.str (by decide +kernel) rfl) pa_nil))) pa_nil))))))) (pss_one (ps_ret (pe_and (pe_cmpR op_eq (pv 0) (pv 1) (nomark _)) (pe_and (pe_cmpR op_eq (pe_callB call_isi rfl bl.isinstance (by decide +kernel) (pa_cons (pv 0) (pa_cons (pe_bltn (v := .ty "bool") rfl bl.bool (by decide +kernel) rfl) pa_nil))) (pe_callB call_isi rfl bl.isinstance (by decide +kernel) (pa_cons (pv 1) (pa_cons (pe_bltn (v := .ty "bool") rfl bl.bool (by decide +kernel) rfl) pa_nil))) (nomark _)) (pe_one (pe_cmpR op_eq (pe_cmpR op_isN (pv 0) pe_non (nomark _)) (pe_cmpR op_isN (pv 1) pe_non (nomark _)) (nomark _))))))) pss_nil)
    (pss_one (ps_ret (pe_and (pe_callB call_isi rfl bl.isinstance (by decide +kernel) (pa_cons (pv 0) (pa_cons (pe_bltn (v := .ty "int") rfl bl.int (by decide +kernel) rfl) pa_nil))) (pe_and (pe_not (pe_callB call_isi rfl bl.isinstance (by decide +kernel) (pa_cons (pv 0) (pa_cons (pe_bltn (v := .ty "bool") rfl bl.bool (by decide +kernel) rfl) pa_nil)))) (pe_one (pe_cmpR op_eq (pv 0) (pv 1) (nomark _))))))))), ?_⟩
  change AS K _ [En.da _, En.da _, En.no, En.no] _ _
  try simp only [cxOf_K]
  cases d with
  | non =>
    repeat' (first
      | ((with_reducible apply ac_isi1); · first | exact ⟨rfl, kb_NoneType_list⟩ | exact ⟨rfl, kb_NoneType_tuple⟩ | exact ⟨rfl, kb_NoneType_bool⟩ | exact ⟨rfl, kb_NoneType_int⟩ | exact ⟨rfl, kb_NoneType_str⟩)
      | (first | refine ⟨rfl, false, .inr ⟨kb_NoneType_list, kb_NoneType_tuple⟩, ?_⟩ | refine ⟨rfl, false, .inr ⟨kb_NoneType_bool, kb_NoneType_str⟩, ?_⟩)
      | with_reducible apply as_seq
      | with_reducible apply as_ret
      | with_reducible apply as_next
      | with_reducible apply as_if
      | ((with_reducible apply ae_var); · rfl)
      | with_reducible apply ae_non
      | with_reducible apply ae_ty
      | with_reducible apply ae_isi2
      | with_reducible apply ae_op
      | with_reducible apply aa_nil
      | with_reducible apply aa_cons
      | with_reducible apply ae_cb
      | with_reducible apply at_test
      | with_reducible apply at_b
      | with_reducible apply at_or
      | with_reducible apply ae_andV
      | with_reducible apply ar_isN
      | ((with_reducible apply ar_eq3); · exact ⟨rfl, rfl, rfl⟩)
      | refine ⟨_, rfl, ?_⟩
      | (refine ⟨fun hc => ?_, fun hc => ?_⟩ <;> (first | (exfalso; exact absurd (show false = true from hc) (by decide)) | (exfalso; exact absurd (show true = false from hc) (by decide)) | (exfalso; simp at hc; done) | skip))
      | rfl
      | fail)
  | bl b =>
    repeat' (first
      | ((with_reducible apply ac_isi1); · first | exact ⟨rfl, kb_bool_list⟩ | exact ⟨rfl, kb_bool_tuple⟩ | exact ⟨rfl, kb_bool_bool⟩ | exact ⟨rfl, kb_bool_int⟩ | exact ⟨rfl, kb_bool_str⟩)
      | (first | refine ⟨rfl, false, .inr ⟨kb_bool_list, kb_bool_tuple⟩, ?_⟩ | refine ⟨rfl, true, .inl ⟨kb_bool_bool, rfl⟩, ?_⟩)
      | with_reducible apply as_seq
      | with_reducible apply as_ret
      | with_reducible apply as_next
      | with_reducible apply as_if
      | ((with_reducible apply ae_var); · rfl)
      | with_reducible apply ae_non
      | with_reducible apply ae_ty
      | with_reducible apply ae_isi2
      | with_reducible apply ae_op
      | with_reducible apply aa_nil
      | with_reducible apply aa_cons
      | with_reducible apply ae_cb
      | with_reducible apply at_test
      | with_reducible apply at_b
      | with_reducible apply at_or
      | with_reducible apply ae_andV
      | with_reducible apply ar_isN
      | ((with_reducible apply ar_eq3); · exact ⟨rfl, rfl, rfl⟩)
      | refine ⟨_, rfl, ?_⟩
      | (refine ⟨fun hc => ?_, fun hc => ?_⟩ <;> (first | (exfalso; exact absurd (show false = true from hc) (by decide)) | (exfalso; exact absurd (show true = false from hc) (by decide)) | (exfalso; simp at hc; done) | skip))
      | rfl
      | fail)
  | int i =>
    repeat' (first
      | ((with_reducible apply ac_isi1); · first | exact ⟨rfl, kb_int_list⟩ | exact ⟨rfl, kb_int_tuple⟩ | exact ⟨rfl, kb_int_bool⟩ | exact ⟨rfl, kb_int_int⟩ | exact ⟨rfl, kb_int_str⟩)
      | (first | refine ⟨rfl, false, .inr ⟨kb_int_list, kb_int_tuple⟩, ?_⟩ | refine ⟨rfl, false, .inr ⟨kb_int_bool, kb_int_str⟩, ?_⟩)
      | with_reducible apply as_seq
      | with_reducible apply as_ret
      | with_reducible apply as_next
      | with_reducible apply as_if
      | ((with_reducible apply ae_var); · rfl)
      | with_reducible apply ae_non
      | with_reducible apply ae_ty
      | with_reducible apply ae_isi2
      | with_reducible apply ae_op
      | with_reducible apply aa_nil
      | with_reducible apply aa_cons
      | with_reducible apply ae_cb
      | with_reducible apply at_test
      | with_reducible apply at_b
      | with_reducible apply at_or
      | with_reducible apply ae_andV
      | with_reducible apply ae_notV
      | with_reducible apply ar_isN
      | ((with_reducible apply ar_eq3); · exact ⟨rfl, rfl, rfl⟩)
      | refine ⟨_, rfl, ?_⟩
      | (refine ⟨fun hc => ?_, fun hc => ?_⟩ <;> (first | (exfalso; exact absurd (show false = true from hc) (by decide)) | (exfalso; exact absurd (show true = false from hc) (by decide)) | (exfalso; simp at hc; done) | skip))
      | rfl
      | simp only [oD_some, oD_none]
      | fail)
  | str z =>
    repeat' (first
      | ((with_reducible apply ac_isi1); · first | exact ⟨rfl, kb_str_list⟩ | exact ⟨rfl, kb_str_tuple⟩ | exact ⟨rfl, kb_str_bool⟩ | exact ⟨rfl, kb_str_int⟩ | exact ⟨rfl, kb_str_str⟩)
      | (first | refine ⟨rfl, false, .inr ⟨kb_str_list, kb_str_tuple⟩, ?_⟩ | refine ⟨rfl, true, .inr ⟨kb_str_bool, kb_str_str⟩, ?_⟩)
      | with_reducible apply as_seq
      | with_reducible apply as_ret
      | with_reducible apply as_next
      | with_reducible apply as_if
      | ((with_reducible apply ae_var); · rfl)
      | with_reducible apply ae_non
      | with_reducible apply ae_ty
      | with_reducible apply ae_isi2
      | with_reducible apply ae_op
      | with_reducible apply aa_nil
      | with_reducible apply aa_cons
      | with_reducible apply ae_cb
      | with_reducible apply at_test
      | with_reducible apply at_b
      | with_reducible apply at_or
      | with_reducible apply ae_andV
      | with_reducible apply ar_isN
      | ((with_reducible apply ar_eq3); · exact ⟨rfl, rfl, rfl⟩)
      | refine ⟨_, rfl, ?_⟩
      | (refine ⟨fun hc => ?_, fun hc => ?_⟩ <;> (first | (exfalso; exact absurd (show false = true from hc) (by decide)) | (exfalso; exact absurd (show true = false from hc) (by decide)) | (exfalso; simp at hc; done) | skip))
      | rfl
      | fail)
  | ty T => exact absurd f1 (fun z => nomatch z)
  | tup l =>
    have hl : l.length ≤ 9000 := by
      have f2 : (decide (l.length ≤ 9000) && fits l) = true := f1
      rw [Bool.and_eq_true] at f2; exact of_decide_eq_true f2.1
    have hf : fits l = true := by
      have f2 : (decide (l.length ≤ 9000) && fits l) = true := f1
      rw [Bool.and_eq_true] at f2; exact f2.2
    have hd : deps l ≤ n := Nat.le_of_succ_le_succ (show deps l + 1 ≤ n + 1 from n1)
    repeat' (first
      | ((with_reducible apply ac_isi1); · first | exact ⟨rfl, kb_tuple_list⟩ | exact ⟨rfl, kb_tuple_tuple⟩ | exact ⟨rfl, kb_tuple_bool⟩ | exact ⟨rfl, kb_tuple_int⟩ | exact ⟨rfl, kb_tuple_str⟩)
      | (first | refine ⟨rfl, true, .inr ⟨kb_tuple_list, kb_tuple_tuple⟩, ?_⟩ | refine ⟨rfl, false, .inr ⟨kb_tuple_bool, kb_tuple_str⟩, ?_⟩)
      | with_reducible apply as_seq
      | with_reducible apply as_ret
      | with_reducible apply as_next
      | with_reducible apply as_if
      | ((with_reducible apply ae_var); · rfl)
      | with_reducible apply ae_ty
      | with_reducible apply ae_isi2
      | with_reducible apply ae_op
      | with_reducible apply aa_nil
      | with_reducible apply aa_cons
      | with_reducible apply ae_cb
      | with_reducible apply at_test
      | with_reducible apply at_b
      | with_reducible apply at_or
      | with_reducible apply ae_andV
      | with_reducible apply ac_lenT
      | ((with_reducible apply ar_eq3); · exact ⟨rfl, rfl, rfl⟩)
      | ((with_reducible apply ar_ne3); · exact ⟨rfl, rfl, rfl⟩)
      | refine ⟨_, rfl, ?_⟩
      | (refine ⟨fun hc => ?_, fun hc => ?_⟩ <;> (first | (exfalso; exact absurd (show false = true from hc) (by decide)) | (exfalso; exact absurd (show true = false from hc) (by decide)) | (exfalso; simp at hc; done) | skip))
      | fail)
    refine ae_lcMap (fun _ => .bl true) ?_
    refine ai_zipT ?_
    repeat' (first | (with_reducible apply aa_cons) | ((with_reducible apply ae_var); · rfl) | (with_reducible apply aa_nil))
    refine ⟨l, l, rfl, ?_, fun d hm => ?_, ?_⟩
    · rw [zpD_len, Nat.min_self]; exact Nat.lt_of_le_of_lt hl (by decide)
    · obtain ⟨e, he, rfl⟩ := zp_self hm
      refine agv_tup rfl (agvs_cons (agv_name (by decide) (agvs_cons (agv_name (by decide) (agvs_nil ?_)))))
      refine ae_call ?_
      repeat' (first | (with_reducible apply aa_cons) | ((with_reducible apply ae_var); · rfl) | (with_reducible apply aa_nil))
      exact ⟨.bl true, ⟨e, rfl, Nat.le_trans (deps_mem he) hd, fits_mem hf he, rfl⟩, rfl, rfl⟩
    · refine aa_nil ?_
      rw [map_true]
      refine ac_all ?_
      rw [all_true]
  | lst l =>
    have hl : l.length ≤ 9000 := by
      have f2 : (decide (l.length ≤ 9000) && fits l) = true := f1
      rw [Bool.and_eq_true] at f2; exact of_decide_eq_true f2.1
    have hf : fits l = true := by
      have f2 : (decide (l.length ≤ 9000) && fits l) = true := f1
      rw [Bool.and_eq_true] at f2; exact f2.2
    have hd : deps l ≤ n := Nat.le_of_succ_le_succ (show deps l + 1 ≤ n + 1 from n1)
    repeat' (first
      | ((with_reducible apply ac_isi1); · first | exact ⟨rfl, kb_list_list⟩ | exact ⟨rfl, kb_list_tuple⟩ | exact ⟨rfl, kb_list_bool⟩ | exact ⟨rfl, kb_list_int⟩ | exact ⟨rfl, kb_list_str⟩)
      | (first | refine ⟨rfl, true, .inl ⟨kb_list_list, rfl⟩, ?_⟩ | refine ⟨rfl, false, .inr ⟨kb_list_bool, kb_list_str⟩, ?_⟩)
      | with_reducible apply as_seq
      | with_reducible apply as_ret
      | with_reducible apply as_next
      | with_reducible apply as_if
      | ((with_reducible apply ae_var); · rfl)
      | with_reducible apply ae_ty
      | with_reducible apply ae_isi2
      | with_reducible apply ae_op
      | with_reducible apply aa_nil
      | with_reducible apply aa_cons
      | with_reducible apply ae_cb
      | with_reducible apply at_test
      | with_reducible apply at_b
      | with_reducible apply at_or
      | with_reducible apply ae_andV
      | with_reducible apply ac_lenL
      | ((with_reducible apply ar_eq3); · exact ⟨rfl, rfl, rfl⟩)
      | ((with_reducible apply ar_ne3); · exact ⟨rfl, rfl, rfl⟩)
      | refine ⟨_, rfl, ?_⟩
      | (refine ⟨fun hc => ?_, fun hc => ?_⟩ <;> (first | (exfalso; exact absurd (show false = true from hc) (by decide)) | (exfalso; exact absurd (show true = false from hc) (by decide)) | (exfalso; simp at hc; done) | skip))
      | fail)
    refine ae_lcMap (fun _ => .bl true) ?_
    refine ai_zipL ?_
    repeat' (first | (with_reducible apply aa_cons) | ((with_reducible apply ae_var); · rfl) | (with_reducible apply aa_nil))
    refine ⟨l, l, rfl, ?_, fun d hm => ?_, ?_⟩
    · rw [zpD_len, Nat.min_self]; exact Nat.lt_of_le_of_lt hl (by decide)
    · obtain ⟨e, he, rfl⟩ := zp_self hm
      refine agv_tup rfl (agvs_cons (agv_name (by decide) (agvs_cons (agv_name (by decide) (agvs_nil ?_)))))
      refine ae_call ?_
      repeat' (first | (with_reducible apply aa_cons) | ((with_reducible apply ae_var); · rfl) | (with_reducible apply aa_nil))
      exact ⟨.bl true, ⟨e, rfl, Nat.le_trans (deps_mem he) hd, fits_mem hf he, rfl⟩, rfl, rfl⟩
    · refine aa_nil ?_
      rw [map_true]
      refine ac_all ?_
      rw [all_true]
theorem all_same (bl : Blts mg) {f : Addr} {fd : FuncData} (F : Fun K "_law_same" "_law_same" s_l_same f fd) (bG : Binds K fd p_l_same []) (mG : mg "_law_same" = some (.ref f)) : ∀ n : Nat, FnOk P w K mg base CX0 n f fd p_l_same (spP K (S_same n))
  | 0 => none0 fun vs H Q E h => by
    obtain ⟨G, ds, r, _, _, ⟨d, _, h1, _⟩, _⟩ := h
    have := dep_pos d
    omega
  | n + 1 => ok_l_same bl ⟨all_same bl F bG mG n, bG, F.kp, mG⟩ F
end
end Sh
set_option Elab.async false
set_option linter.all false
set_option maxRecDepth 100000
set_option maxHeartbeats 4000000
/-! draws below greater numbers -/
namespace Sh
open PySem PySem.Spec PyProof.Rows L2
section
variable {P : Program} {w : World} {K : PySem.W.Frag} {mg : Str → Option Value} {base : Heap}
theorem fdW_ok {x m : Int} (m0 : 1 ≤ m) (m1 : m ≤ 100000000000000) : CDivW x m := ⟨by omega, (Nat.log2_lt (by omega)).mpr (Nat.lt_of_le_of_lt (show m.natAbs ≤ 100000000000000 by omega) (by decide +kernel))⟩
theorem scTakeL : FnScope ["_law_box_here", "_law_below", "_law_found", "_law_once", "_law_twice", "_law_little"] ["_law_box_here", "_law_below"] (defScope sTake) := ⟨rfl, rfl, rfl, by decide +kernel, rfl, by decide +kernel, by decide +kernel⟩
def spTake2 : Sp := fun vs H Q _ => ∃ (b : Addr) (m y c : Int), vs = [.ref b, .int m] ∧ Bx H b y c ∧ 0 ≤ c ∧ c + 1 < 1000000000000 ∧ 1 ≤ m ∧ m ≤ 10 ^ 14 ∧
  ∀ v c' H', 0 ≤ v → v < m → c ≤ c' → c' ≤ c + 2 → Bx H' b y c' → But b H H' → Q (.int v) H'
theorem ok_take2 {f g : Addr} {fd gd : FuncData} {n : Nat} (F : Fun K "_law_take" "_law_take" sTake f fd) (G : FnOk P w K mg base CX0 n g gd ["_law_box_here", "_law_below"] spTake) (bG : Binds K gd ["_law_box_here", "_law_below"] []) (kG : PySem.W.keepIn K (.ref g) = true)
    (mG : mg "_law_take" = some (.ref g)) : FnOk P w K mg base CX0 (n + 1) f fd ["_law_box_here", "_law_below"] spTake2 := by
  refine F.ok scTakeL (fun vs H Q E h => ?_) (fun cdv A outer s H vs Q E hr h => ?_)
  · obtain ⟨b, m, y, c, rfl, _⟩ := h
    rfl
  obtain ⟨b, m, y, c, rfl, ⟨x, hB, x0, y0, y1⟩, c0, c1, m0, m1, q⟩ := h
  refine ⟨_, pss_cons (ps_if (pt_cmpR op_gt (pe_ix ix_list (pv 0) pe_int (fun _ _ => rfl)) pe_int (nomark _))
      (pss_cons (ps_set (i := 2) scTakeL.nd rfl (Or.inl rfl) (pe_op op_modN (pe_ix ix_list (pv 0) pe_int (fun _ _ => rfl)) (pv 1)))
      (pss_cons (ps_asg (pe_op op_fdivW (pe_ix ix_list (pv 0) pe_int (fun _ _ => rfl)) (pv 1)) (pg_sub (pv 0) pe_int set_list))
      (pss_one (ps_ret (pv 2))))) pss_nil)
    (pss_cons (ps_if (pt_cmpR op_gt (pv 1) (pe_op op_pow pe_int pe_int) (nomark _))
      (pss_cons (ps_set (i := 5) scTakeL.nd rfl (Or.inl rfl) (pe_call G hr rfl mG kG bG .nil pass0 (pa_cons (pv 0) (pa_cons (pe_op op_pow pe_int pe_int) pa_nil))))
      (pss_one (ps_ret (pe_op op_modN (pe_op op_add (pv 5) (pe_op op_mul (pe_op op_pow pe_int pe_int) (pe_call G hr rfl mG kG bG .nil pass0 (pa_cons (pv 0) (pa_cons (pe_op op_add (pe_op op_fdivN (pe_op op_sub (pv 1) pe_int) (pe_op op_pow pe_int pe_int)) pe_int) pa_nil))))) (pv 1))))) pss_nil)
    (pss_cons (ps_asg (pe_op op_add (pe_ix ix_list (pv 0) pe_int (fun _ _ => rfl)) pe_int) (pg_sub (pv 0) pe_int set_list))
    (pss_cons (ps_set (i := 3) scTakeL.nd rfl (Or.inl rfl) (pe_op op_modN (pe_op op_mul (pe_op op_add (pe_ix ix_list (pv 0) pe_int (fun _ _ => rfl)) (pe_op op_mul pe_int (pe_ix ix_list (pv 0) pe_int (fun _ _ => rfl)))) (pe_op op_add pe_int (pe_ix ix_list (pv 0) pe_int (fun _ _ => rfl)))) pe_int))
    (pss_cons (ps_set (i := 4) scTakeL.nd rfl (Or.inl rfl) (pe_op op_modN (pe_op op_mul (pe_op op_add (pe_op op_add (pv 3) (pe_ix ix_list (pv 0) pe_int (fun _ _ => rfl))) (pe_op op_fdivN (pe_ix ix_list (pv 0) pe_int (fun _ _ => rfl)) pe_int)) (pe_op op_add (pe_op op_modN (pv 3) pe_int) pe_int)) pe_int))
    (pss_one (ps_ret (pe_op op_modN (pe_op op_fdivN (pe_op op_modN (pe_op op_add (pe_op op_mul (pv 4) pe_int) (pv 3)) pe_int) pe_int) (pv 1)))))))), ?_⟩
  have e14 : (10 : Int) ^ 14 = 100000000000000 := by decide
  have e7 : (10 : Int) ^ (7 : Int).toNat = 10000000 := by decide
  refine ⟨_, rfl, b, _, _, _, rfl, rfl, SqL.of hB, at_of (j := 0) rfl rfl, _, _, rfl, rfl, _, rfl, ?_⟩
  refine ite2 (fun t => ?_) (fun t => ?_)
  · have t' : x > 0 := of_decide_eq_true t
    refine ⟨_, rfl, b, _, _, _, rfl, rfl, SqL.of hB, at_of (j := 0) rfl rfl, _, rfl, _, _, rfl, rfl, (by omega), ?_⟩
    refine ⟨_, rfl, b, _, _, _, rfl, rfl, SqL.of hB, at_of (j := 0) rfl rfl, _, rfl, _, _, rfl, rfl, ?_, ?_⟩
    · exact fdW_ok (by omega) (by omega)
    refine ⟨_, rfl, b, _, _, 0, rfl, rfl, hB, rfl, _, rfl, ?_⟩
    exact q _ c _ (fm0 (by omega)) (fm1 (by omega)) (by omega) (by omega) (bx_up rfl (Int.ediv_nonneg x0 (by omega)) y0 y1) but_upd
  · refine ⟨_, rfl, _, _, rfl, rfl, ⟨by decide, by decide, by decide⟩, _, _, rfl, rfl, _, rfl, ?_⟩
    refine ite2 (fun t2 => ?_) (fun t2 => ?_)
    · refine ⟨_, rfl, _, _, rfl, rfl, ⟨by decide, by decide, by decide⟩, ?_⟩
      refine ⟨b, _, y, c, rfl, ⟨x, hB, x0, y0, y1⟩, c0, by omega, by decide, by decide, fun v c' H' v0 v1 d0 d1 hB' bt => ?_⟩
      refine ⟨_, rfl, _, _, rfl, rfl, ⟨by decide, by decide, by decide⟩, ?_⟩
      refine ⟨_, rfl, _, rfl, _, _, rfl, rfl, _, _, rfl, rfl, ⟨by decide, by decide, by decide⟩, _, _, rfl, rfl, ⟨by decide, by decide⟩, _, _, rfl, rfl, ?_⟩
      have hq0 : 0 ≤ (m - 1).fdiv (10 ^ (7 : Int).toNat) := fd0 (by omega) (by decide)
      have hq1 : (m - 1).fdiv (10 ^ (7 : Int).toNat) < 10000000 := by
        rw [e7, Int.fdiv_eq_ediv_of_nonneg _ (by decide)]; omega
      refine ⟨b, _, y, c', rfl, hB', by omega, by omega, by omega, by omega, fun v' c'' H'' v0' v1' d0' d1' hB'' bt' => ?_⟩
      refine ⟨_, _, rfl, rfl, .inl ⟨by decide, by decide⟩, _, _, rfl, rfl, _, rfl, _, _, rfl, rfl, (by omega), ?_⟩
      exact q _ c'' _ (fm0 (by omega)) (fm1 (by omega)) (by omega) (by omega) hB'' (bt.trans bt')
    · have t3 : ¬ m > 10 ^ (7 : Int).toNat := fun z => t2 (decide_eq_true z)
      rw [e7] at t3
      have hB1 : (upd H b (.lst [.int x, .int y, .int (c + 1)])) b = some (.lst [.int x, .int y, .int (c + 1)]) := upd_same
      refine ⟨_, rfl, b, _, _, _, rfl, rfl, SqL.of hB, at_of (j := 2) rfl rfl, _, _, rfl, rfl, _, rfl, b, _, _, 2, rfl, rfl, hB, rfl, ?_⟩
      refine ⟨_, rfl, b, _, _, _, rfl, rfl, SqL.of hB1, at_of (j := 1) rfl rfl, _, rfl, b, _, _, _, rfl, rfl, SqL.of hB1, at_of (j := 2) rfl rfl, _, _, rfl, rfl, .inl ⟨by decide, by decide⟩, _, _, rfl, rfl,
        _, rfl, b, _, _, _, rfl, rfl, SqL.of hB1, at_of (j := 2) rfl rfl, _, _, rfl, rfl, _, _, rfl, rfl, .inl ⟨by omega, by omega⟩, _, _, rfl, rfl, (nz _), ?_⟩
      refine ⟨_, rfl, _, rfl, b, _, _, _, rfl, rfl, SqL.of hB1, at_of (j := 2) rfl rfl, _, _, rfl, rfl, _, rfl, b, _, _, _, rfl, rfl, SqL.of hB1, at_of (j := 1) rfl rfl, _, _, rfl, rfl, ⟨by decide, by decide⟩, _, _, rfl, rfl,
        _, rfl, _, _, rfl, rfl, (nz _), _, _, rfl, rfl, _, _, rfl, rfl, .inl (tw_ok c0 (by omega) y0 y1), _, _, rfl, rfl, (nz _), ?_⟩
      refine ⟨_, rfl, _, _, rfl, rfl, .inl tw_ok2, _, rfl, _, _, rfl, rfl, _, _, rfl, rfl, (nz _), _, _, rfl, rfl, ⟨by decide, by decide⟩, _, rfl, _, _, rfl, rfl, (by omega), ?_⟩
      exact q _ (c + 1) _ (fm0 (by omega)) (fm1 (by omega)) (by omega) (by omega) (bx_up rfl x0 y0 y1) but_upd
def domT2 (ds : List Dt) : Prop := ∃ m : Int, ds = [.int m] ∧ 1 ≤ m ∧ m ≤ 100000000000000
theorem take_B2 {f : Addr} {fd : FuncData} {n : Nat} {ps : List Str} (C : FnOk P w K mg base CX0 n f fd ps spTake2) : FnOk P w K mg base CX0 n f fd ps (spB K 2 domT2 postT) := C.imp fun vs H Q E h => by
  obtain ⟨G, ds, b, us, y, c, F, rfl, sm, hb, c0, c1, gb, rd, ⟨m, rfl, m1, m2⟩, q⟩ := h
  obtain ⟨x, rfl, e⟩ := rd.one
  have c2 : c + ((F + 2 : Nat) : Int) ≤ 1000000000000 := c1
  refine ⟨b, m, y, c, by rw [show x = V.int m from e], hb, c0, by omega, m1, m2, fun v c' H' v0 v1 e0 e1 hb' bt => ?_⟩
  refine q (.int v) (.int v) G H' y c' ⟨Same.refl _, fun a o z => bt a o (fun w => by rw [w, gb] at z; cases z) (sm _ _ z), bt, fun a h1 h2 => h1⟩ hb' (by omega) ?_ rfl ⟨m, v, rfl, rfl, v0, v1⟩
  show c' + (F : Int) ≤ 1000000000000
  omega
theorem ae_take2 {ρ : List En} {Ψ : Dt → List En → Prop} {E : XK} {te : TE} {i : Nat} {b : Addr} {f0 : Nat} (e0 : ρ[i]? = some (.bx b f0))
    (h : AE K te ρ fun d ρ1 => ∃ m : Int, d = .int m ∧ 1 ≤ m ∧ m ≤ 100000000000000 ∧ ∃ F, ρ1[i]? = some (.bx b (F + 2)) ∧ ∀ v : Int, 0 ≤ v → v < m → Ψ (.int v) (ρ1.set i (.bx b F))) : AE K (tCall (spB K 2 domT2 postT) [] E (tCons (tVar i) (tCons te tNil))) ρ Ψ :=
  ae_draw e0 (aa_cons (ae_mono h fun d ρ1 ⟨m, e, m1, m2, F, e1, k⟩ => aa_nil ⟨⟨m, by rw [e], m1, m2⟩, F, e1, fun d' hp => by
    obtain ⟨m', v, z1, z2, z3, z4⟩ := hp
    rw [e] at z1
    cases z1
    rw [z2]; exact k v z3 z4⟩))
end
end Sh
set_option Elab.async false
set_option linter.all false
set_option maxRecDepth 100000
set_option maxHeartbeats 4000000
namespace Sh
open PySem PySem.Spec PyProof.Rows L2
/-! a list backwards: xs[::-1] -/
section
variable {K : PySem.W.Frag} {ρ : List En} {Ψ : Dt → List En → Prop} {Φ : Dt → Prop}
theorem RDs.reverse {G : Hp} : ∀ {l : List Dt} {xs : List V}, RDs K G l xs → RDs K G l.reverse xs.reverse
  | [], _, h => by rw [show _ = [] from h]; rfl
  | d :: l, _, ⟨x, r, e, h1, h2⟩ => by
    subst e
    rw [List.reverse_cons, List.reverse_cons]
    exact (RDs.reverse h2).snoc h1
end
end Sh
set_option Elab.async false
set_option linter.all false
set_option maxRecDepth 100000
set_option maxHeartbeats 4000000
namespace Sh
open PySem PySem.Spec PyProof.Rows L2
abbrev s_l_limit : Stmt := topS 12
abbrev N_l_limit : List Str := ["_law_box_here", "_law_some"]
abbrev p_l_limit : List Str := ["_law_box_here"]
theorem sc_l_limit : FnScope N_l_limit p_l_limit (defScope s_l_limit) := ⟨rfl, rfl, rfl, by decide +kernel, rfl, by decide +kernel, by decide +kernel⟩
abbrev s_l_rows : Stmt := topS 13
abbrev N_l_rows : List Str := ["_law_box_here", "_law_size", "_law_found", "_law_at", "_law_to"]
abbrev p_l_rows : List Str := ["_law_box_here", "_law_size"]
theorem sc_l_rows : FnScope N_l_rows p_l_rows (defScope s_l_rows) := ⟨rfl, rfl, rfl, by decide +kernel, rfl, by decide +kernel, by decide +kernel⟩
abbrev s_l_loose : Stmt := topS 15
abbrev N_l_loose : List Str := ["_law_matter", "_law_part"]
abbrev p_l_loose : List Str := ["_law_matter"]
theorem sc_l_loose : FnScope N_l_loose p_l_loose (defScope s_l_loose) := ⟨rfl, rfl, rfl, by decide +kernel, rfl, by decide +kernel, by decide +kernel⟩
abbrev s_l_ends : Stmt := topS 14
abbrev N_l_ends : List Str := ["_law_box_here", "_law_size", "_law_found", "_law_turn", "_law_least", "_law_wide", "_law_base"]
abbrev p_l_ends : List Str := ["_law_box_here", "_law_size"]
theorem sc_l_ends : FnScope N_l_ends p_l_ends (defScope s_l_ends) := ⟨rfl, rfl, rfl, by decide +kernel, rfl, by decide +kernel, by decide +kernel⟩
def bnO (k : Int) (o : Option Int) : Prop := ∀ x, o = some x → -(1000000000000 + k) ≤ x ∧ x ≤ 1000000000000 + k
def bnM (k : Int) (M : Mx) : Prop := ∀ i j, bnO k (M i j)
theorem bn_non {k : Int} : bnO k none := fun x h => (by cases h)
theorem bn_some {k x : Int} (h : -(1000000000000 + k) ≤ x ∧ x ≤ 1000000000000 + k) : bnO k (some x) := fun y e => by cases e; exact h
theorem bn_up {k l : Int} {o : Option Int} (h : bnO k o) (kl : k ≤ l) : bnO l o := fun x e => by have := h x e; omega
def postEn (ds : List Dt) (d : Dt) : Prop := ∀ n : Nat, ds = [.int (n : Int)] → ∃ lo hi, d = prsD n lo hi ∧ ∀ i, bnO 20000000000000 (lo i) ∧ bnO 20000000000000 (hi i)
def domL (ds : List Dt) : Prop := ds = []
def postL (_ : List Dt) (d : Dt) : Prop := ∃ o, d = oD o ∧ bnO 0 o
def domN (ds : List Dt) : Prop := ∃ n : Nat, ds = [.int (n : Int)] ∧ n ≤ 5
def postRw (ds : List Dt) (d : Dt) : Prop := ∀ n : Nat, ds = [.int (n : Int)] → ∃ M, d = gD true true n M ∧ (∀ i, i < n → M i i = some 0) ∧ bnM 0 M
theorem i_inj {m n : Nat} (h : [Dt.int (m : Int)] = [Dt.int (n : Int)]) : n = m := by
  injection h with h
  injection h with h
  omega
/-! rows that are drawn -/
def rwT (r : List (Option Int)) : Dt := .tup (r.map oD)
structure Rw (q : Int) (n i : Nat) (R : List (List (Option Int))) : Prop where
  r : R.length = i
  ok : ∀ (k : Nat) (l : List (Option Int)), R[k]? = some l → l.length = n ∧ l[k]? = some (some 0)
  bn : ∀ (l : List (Option Int)), l ∈ R → ∀ o, o ∈ l → bnO q o
theorem Rw.nil {q : Int} {n : Nat} : Rw q n 0 [] := ⟨rfl, fun k l h => (by cases h), fun l h => (by cases h)⟩
theorem Rw.app {q : Int} {n i : Nat} {R : List (List (Option Int))} (h : Rw q n i R) {l : List (Option Int)} (h1 : l.length = n) (h2 : l[i]? = some (some 0)) (h3 : ∀ o, o ∈ l → bnO q o) : Rw q n (i + 1) (R ++ [l]) := by
  refine ⟨by rw [List.length_append, h.r]; rfl, fun k m hm => ?_, fun m hm => by
    rcases List.mem_append.mp hm with hm | hm
    · exact h.bn m hm
    · rw [List.mem_singleton.mp hm]; exact h3⟩
  rcases Nat.lt_or_ge k R.length with hk | hk
  · rw [List.getElem?_append_left hk] at hm; exact h.ok k m hm
  · have hl := (List.getElem?_eq_some_iff.mp hm).1
    rw [List.length_append] at hl
    have e : k = R.length := by have : [l].length = 1 := rfl; omega
    subst e
    rw [List.getElem?_append_right (Nat.le_refl _), Nat.sub_self] at hm
    cases hm
    rw [h.r]; exact ⟨h1, h2⟩
def gO (R : List (List (Option Int))) (i j : Nat) : Option Int := ((R[i]?.getD [])[j]?).getD none
theorem gO_bn {q : Int} {n : Nat} {R : List (List (Option Int))} (h : Rw q n n R) : bnM q (gO R) := fun i j => by
  unfold gO
  cases e : R[i]? with
  | none => exact bn_non
  | some l =>
    show bnO q ((l[j]?).getD none)
    cases e2 : l[j]? with
    | none => exact bn_non
    | some o => exact h.bn l (List.mem_of_getElem? e) o (List.mem_of_getElem? e2)
theorem gO_row {q : Int} {n : Nat} {R : List (List (Option Int))} (h : Rw q n n R) : Dt.tup (R.map rwT) = gD true true n (gO R) := by
  show _ = Dt.tup _
  congr 1
  refine List.ext_getElem? fun i => ?_
  rw [List.getElem?_map, List.getElem?_map]
  by_cases hi : i < n
  · rw [List.getElem?_range hi]
    have hr : i < R.length := by rw [h.r]; exact hi
    have er := List.getElem?_eq_getElem hr
    rw [er]
    have hl := (h.ok i _ er).1
    show some (rwT _) = some (Dt.tup _)
    unfold rwT
    rw [rw_rg]
    congr 2
    refine List.ext_getElem? fun j => ?_
    rw [List.getElem?_map, List.getElem?_map]
    by_cases hj : j < n
    · rw [List.getElem?_range hj, List.getElem?_eq_getElem (by omega)]
      show some (oD _) = some (oD (gO R i j))
      unfold gO
      rw [er]
      show _ = some (oD ((R[i][j]?).getD none))
      rw [List.getElem?_eq_getElem (by omega)]; rfl
    · rw [List.getElem?_eq_none (by omega), List.getElem?_eq_none (by simp; omega)]; rfl
  · rw [List.getElem?_eq_none (by rw [h.r]; omega), List.getElem?_eq_none (by simp; omega)]; rfl
theorem gO_dg {q : Int} {n : Nat} {R : List (List (Option Int))} (h : Rw q n n R) {i : Nat} (hi : i < n) : gO R i i = some 0 := by
  have hr : i < R.length := by rw [h.r]; exact hi
  have er := List.getElem?_eq_getElem hr
  unfold gO
  rw [er]
  show (R[i][i]?).getD none = some 0
  rw [(h.ok i _ er).2]; rfl
def pOD (p : Option Int × Option Int) : Dt := .tup [oD p.1, oD p.2]
theorem pO_std {n : Nat} {P : List (Option Int × Option Int)} (h : P.length = n) : Dt.lst (P.map pOD) = prsD n (fun i => (P.getD i (none, none)).1) (fun i => (P.getD i (none, none)).2) := by
  unfold prsD
  congr 1
  refine List.ext_getElem? fun i => ?_
  rw [List.getElem?_map, List.getElem?_map]
  by_cases hi : i < n
  · rw [List.getElem?_range hi, List.getElem?_eq_getElem (by omega)]
    show some (pOD P[i]) = some (Dt.tup [oD (P.getD i (none, none)).1, oD (P.getD i (none, none)).2])
    rw [List.getD_eq_getElem?_getD, List.getElem?_eq_getElem (by omega)]; rfl
  · rw [List.getElem?_eq_none (by omega), List.getElem?_eq_none (by simp; omega)]; rfl
theorem ae_ifN {K : PySem.W.Frag} {ρ : List En} {Ψ : Dt → List En → Prop} {i : Nat} {o : Option Int} {ta tb : TE} (e : ρ[i]? = some (.da (oD o))) (h1 : o = none → AE K ta ρ Ψ) (h2 : ∀ x, o = some x → AE K tb ρ Ψ) : AE K (tIf (tTest (tOp (fun x y H Q => y = .non ∧ Q (.bl (decide (x = .non))) H) (tVar i) (tC .non))) ta tb) ρ Ψ := by
  refine ae_if (at_test (ae_op (ae_var e (ae_non (ar_isN ?_)))))
  cases o with
  | none => exact ⟨true, rfl, fun _ => h1 rfl, fun h => absurd (show true = false from h) (by decide)⟩
  | some x => exact ⟨false, rfl, fun h => absurd (show false = true from h) (by decide), fun _ => h2 x rfl⟩
mutual
def looD : Dt → Dt
  | .tup l => .lst (looL l)
  | .lst l => .lst (looL l)
  | d => d
def looL : List Dt → List Dt
  | [] => []
  | d :: l => looD d :: looL l
end
theorem loo_map : ∀ {l : List Dt}, looL l = l.map looD
  | [] => by unfold looL; rfl
  | d :: l => by unfold looL; rw [loo_map (l := l)]; rfl
def S_loo (n : Nat) (ds : List Dt) (r : Dt) : Prop := ∃ d, ds = [d] ∧ d.dep ≤ n ∧ d.fit = true ∧ r = looD d
section
variable {P : Program} {w : World} {K : PySem.W.Frag} {mg : Str → Option Value} {base : Heap}
theorem ok_l_limit (bl : Blts mg) {g4_l_take : Addr} {d4_l_take : FuncData} (c4_l_take : Cal P w K mg base 3 "_law_take" p_l_take (spB K 2 domT2 postT) g4_l_take d4_l_take) {g_l_of : Addr} {d_l_of : FuncData} (c_l_of : Cal P w K mg base 3 "_law_of" p_l_of (spB K 1 domO postO) g_l_of d_l_of)  {f : Addr} {fd : FuncData} (F : Fun K "_law_limit" "_law_limit" s_l_limit f fd) : FnOk P w K mg base CX0 4 f fd p_l_limit (spB K 7 (domL) (postL)) := by
  refine okB F sc_l_limit (fun ds h => ?_) (fun cdv A outer s H E hr ds h => ?_)
  · obtain ⟨rfl⟩ := h
    rfl
  obtain ⟨rfl⟩ := h
  refine ⟨_, (pss_cons (ps_set (i := 1) sc_l_limit.nd rfl (by first | exact Or.inl rfl | exact Or.inr rfl) (pe_lst (pa_cons pe_non (pa_cons pe_non (pa_cons (pe_op op_sub (pe_call c4_l_take.ok (hr.mono (by decide)) rfl c4_l_take.mg c4_l_take.kp c4_l_take.bi .nil pass0 (pa_cons (pv 0) (pa_cons pe_int pa_nil))) pe_int) (pa_cons (pe_op op_sub (pe_call c4_l_take.ok (hr.mono (by decide)) rfl c4_l_take.mg c4_l_take.kp c4_l_take.bi .nil pass0 (pa_cons (pv 0) (pa_cons pe_int pa_nil))) pe_int) (pa_cons pe_int (pa_cons (pe_op op_sub (pe_call c4_l_take.ok (hr.mono (by decide)) rfl c4_l_take.mg c4_l_take.kp c4_l_take.bi .nil pass0 (pa_cons (pv 0) (pa_cons (pe_op op_pow pe_int pe_int) pa_nil))) (pe_op op_pow pe_int pe_int)) pa_nil))))))))
    (pss_one (ps_ret (pe_call c_l_of.ok (hr.mono (by decide)) rfl c_l_of.mg c_l_of.kp c_l_of.bi .nil pass0 (pa_cons (pv 0) (pa_cons (pv 1) pa_nil)))))), fun b F => ?_⟩
  change AS K _ [En.bx _ _, En.no] _ _
  try simp only [cxOf_K, cxOf_w]
  refine as_seq (as_set (ae_lst (aa_cons (ae_non (aa_cons (ae_non (aa_cons (ae_op (ae_take2 rfl (ae_int ⟨_, rfl, (by decide), (by decide), F + 5, rfl, fun v1 a0 a1 => ?_⟩))))))))))
  refine ae_int (ar_I0i (aa_cons (ae_op (ae_take2 rfl (ae_int ⟨_, rfl, (by decide), (by decide), F + 3, rfl, fun v2 b0 b1 => ?_⟩)))))
  refine ae_int (ar_I0i (aa_cons (ae_int (aa_cons (ae_op (ae_take2 rfl (ae_op (ae_int (ae_int (ar_Ii (C := CPow) ⟨(by decide), (by decide), (by decide)⟩ ⟨_, rfl, (by decide), (by decide), F + 1, rfl, fun v3 c0 c1 => ?_⟩))))))))))
  refine ae_op (ae_int (ae_int (ar_Ii (C := CPow) ⟨(by decide), (by decide), (by decide)⟩ (ar_I0i (aa_nil ⟨(by show 6 ≤ sizeLine; decide), ?_⟩)))))
  refine as_ret (ae_ofL rfl (ae_var rfl ⟨_, rfl, (by show 1 ≤ 6; decide), (by show 6 ≤ 1000; decide), F, rfl, fun d hd => ⟨?_, _, rfl, Nat.le_refl _⟩⟩))
  have e12 : (10 : Int) ^ (12 : Int).toNat = 1000000000000 := by decide
  have e11 : (10 : Int) ^ (11 : Int).toNat = 100000000000 := by decide
  rw [e12] at c1
  rw [e11] at hd
  have hd : d ∈ [Dt.non, Dt.non, Dt.int (v1 - 3), Dt.int (v2 - 3), Dt.int 0, Dt.int (v3 - 100000000000)] := hd
  simp only [List.mem_cons, List.not_mem_nil, or_false] at hd
  rcases hd with rfl | rfl | rfl | rfl | rfl | rfl
  · exact ⟨none, rfl, bn_non⟩
  · exact ⟨none, rfl, bn_non⟩
  · exact ⟨some (v1 - 3), rfl, bn_some (by omega)⟩
  · exact ⟨some (v2 - 3), rfl, bn_some (by omega)⟩
  · exact ⟨some 0, rfl, bn_some (by omega)⟩
  · exact ⟨some (v3 - 100000000000), rfl, bn_some (by omega)⟩
theorem ok_l_rows (bl : Blts mg) {g_l_limit : Addr} {d_l_limit : FuncData} (c_l_limit : Cal P w K mg base 4 "_law_limit" p_l_limit (spB K 7 domL postL) g_l_limit d_l_limit)  {f : Addr} {fd : FuncData} (F : Fun K "_law_rows" "_law_rows" s_l_rows f fd) : FnOk P w K mg base CX0 5 f fd p_l_rows (spB K 175 (domN) (postRw)) := by
  refine okB F sc_l_rows (fun ds h => ?_) (fun cdv A outer s H E hr ds h => ?_)
  · obtain ⟨n, rfl, n5⟩ := h
    rfl
  obtain ⟨n, rfl, n5⟩ := h
  refine ⟨_, (pss_cons (ps_set (i := 2) sc_l_rows.nd rfl (by first | exact Or.inl rfl | exact Or.inr rfl) (pe_lst pa_nil))
    (pss_cons (ps_for PassesOwn.never rfl (pi_range1 rfl bl.range (pa_cons (pv 1) pa_nil)) (pg_name (i := 3) sc_l_rows.nd rfl (by first | exact Or.inl rfl | exact Or.inr rfl)) (pss_one (ps_expr (pe_bm PySem.F.plainAttrs_list PySem.F.slot_list_append PySem.F.type_list_append mt_append (pv 2) (pa_cons (pe_callTy call_tuple_of rfl bl.tuple (by decide +kernel) (pa_cons (pe_lc (own := [("_law_to", 4)]) (g := (gName 4)) (te := (tIf (tTest (tOp rEq (tVar 3) (tVar 4))) (tC (.int 0)) (tCall (spB K 7 domL postL) [] E0 (tCons (tVar 0) tNil)))) (tt := tYes) rfl sc_l_rows.nd (pi_range1 rfl bl.range (pa_cons (pv 1) pa_nil)) (blkOk_by (N := N_l_rows) (sc := defScope s_l_rows) (by decide +kernel)) (fun _ _ _ _ _ => (pg_name (i := 4) sc_l_rows.nd rfl (by first | exact Or.inl rfl | exact Or.inr rfl))) (fun _ _ _ _ _ => pts_nil) (fun _ _ _ _ _ => (pe_ifExp (pt_cmpR op_eq (pv 3) (pv 4) (nomark _)) pe_int (pe_call c_l_limit.ok (hr.mono (by decide)) rfl c_l_limit.mg c_l_limit.kp c_l_limit.bi .nil pass0 (pa_cons (pv 0) pa_nil))))) pa_nil)) pa_nil)))))
    (pss_one (ps_ret (pe_callTy call_tuple_of rfl bl.tuple (by decide +kernel) (pa_cons (pv 2) pa_nil)))))), fun b F => ?_⟩
  change AS K _ [En.bx _ _, En.da _, En.no, En.no, En.no] _ _
  try simp only [cxOf_K, cxOf_w]
  have z9 : 9000 ≤ sizeLine := by decide
  have rg : ∀ k : Nat, (rgD 0 ((k : Nat) : Int).toNat) = (List.range k).map fun i => Dt.int ((i : Nat) : Int) := fun k => by
    unfold rgD
    rw [Int.toNat_natCast]
    exact List.map_congr_left fun i _ => by rw [Int.zero_add]
  have rl : ∀ k : Nat, ((List.range k).map fun i => Dt.int ((i : Nat) : Int)).length = k := fun k => by rw [List.length_map, List.length_range]
  have hnn : n * n ≤ 25 := Nat.mul_le_mul n5 n5
  refine as_seq (as_own (aa_nil ⟨Nat.zero_le _, ?_⟩))
  refine as_seq (as_for (ai_rng1 (aa_cons (ae_var rfl (aa_nil ⟨_, rfl, (by omega), (by omega), ?_⟩)))))
  rw [rg]
  refine ⟨fun i ρ => ∃ f R e3, ρ = [.bx b f, .da (.int (n : Int)), .own (R.map rwT), e3, .no] ∧ F + 35 * (n - i) ≤ f ∧ Rw 0 n i R, ⟨F + 175, [], .no, rfl, by omega, Rw.nil⟩, ?_, ?_⟩
  · rintro i d ρ2 hd ⟨f, R, e3, rfl, hf, rw1⟩
    obtain ⟨hi, rfl⟩ := rg_at hd
    obtain ⟨f1, rfl⟩ : ∃ f1, f = f1 + 35 := ⟨f - 35, by omega⟩
    have hf1 : F + 35 * (n - (i + 1)) ≤ f1 := by omega
    clear hf hd
    refine ag_name (as_append ?_ ⟨_, rfl⟩)
    refine ae_cb (aa_cons (ae_lc (ai_rng1 (aa_cons (ae_var rfl (aa_nil ⟨_, rfl, (by omega), (by omega), ?_⟩))))))
    rw [rg]
    refine ⟨fun j acc ρ => ∃ f2 L, acc = List.map oD L ∧ L.length = j ∧ (i < j → L[i]? = some (some 0)) ∧ (∀ o, o ∈ L → bnO 0 o) ∧ ρ = [.bx b f2, .da (.int (n : Int)), .own (R.map rwT), .da (.int ((i : Nat) : Int)), .no] ∧ f1 + 7 * (n - j) ≤ f2, ⟨f1 + 35, [], rfl, rfl, fun h => absurd h (Nat.not_lt_zero _), fun o h => (by cases h), rfl, by omega⟩, ?_, ?_⟩
    · rintro j d acc ρ3 hd ⟨f2, L, rfl, hL, h0, hB, rfl, hf2⟩
      obtain ⟨hj, rfl⟩ := rg_at hd
      obtain ⟨f3, rfl⟩ : ∃ f3, f2 = f3 + 7 := ⟨f2 - 7, by omega⟩
      have go : ∀ (o : Option Int) (f4 : Nat), f1 + 7 * (n - (j + 1)) ≤ f4 → (i = j → o = some 0) → bnO 0 o → ∃ f2 L', List.map oD L ++ [oD o] = List.map oD L' ∧ L'.length = j + 1 ∧ (i < j + 1 → L'[i]? = some (some 0)) ∧ (∀ o, o ∈ L' → bnO 0 o) ∧ ([En.bx b f4, .da (.int (n : Int)), .own (R.map rwT), .da (.int ((i : Nat) : Int)), .no] : List En) = [.bx b f2, .da (.int (n : Int)), .own (R.map rwT), .da (.int ((i : Nat) : Int)), .no] ∧ f1 + 7 * (n - (j + 1)) ≤ f2 := fun o f4 h1 h2 h3 => by
        refine ⟨f4, L ++ [o], by rw [List.map_append]; rfl, by rw [List.length_append, hL]; rfl, fun h => ?_, fun p hp => ?_, rfl, h1⟩
        rcases Nat.lt_or_ge i j with c | c
        · rw [List.getElem?_append_left (by omega)]; exact h0 c
        · have e : i = j := by omega
          rw [h2 e, List.getElem?_append_right (by omega), show i - L.length = 0 by omega]; rfl
        · rcases List.mem_append.mp hp with hp | hp
          · exact hB p hp
          · rw [List.mem_singleton.mp hp]; exact h3
      refine agv_name (by decide) (at_yes ⟨fun _ => ?_, fun z => nomatch z⟩)
      refine ae_if (at_test (ae_op (ae_var rfl (ae_var rfl (ar_eq3 ⟨rfl, rfl, rfl⟩ ⟨_, rfl, fun h => ae_int ⟨?_, go (some 0) _ (by omega) (fun _ => rfl) (bn_some (by omega))⟩, fun h => ae_draw rfl (aa_nil ⟨rfl, f3, rfl, fun d hd => ?_⟩)⟩)))))
      · rw [List.length_map]; omega
      · obtain ⟨o, rfl, hbo⟩ := hd
        refine ⟨?_, go o _ (by omega) (fun e => ?_) hbo⟩
        · rw [List.length_map]; omega
        · exact absurd (show (V.int ((i : Nat) : Int)) = V.int ((j : Nat) : Int) by rw [e]) (of_decide_eq_false h)
    · rintro acc ρ3 ⟨f2, L, rfl, hL, h0, hB, rfl, hf2⟩
      rw [rl] at hL h0 hf2
      refine ⟨fun k hk _ => by rw [List.mem_singleton.mp hk]; rfl, ?_⟩
      refine aa_nil (ac_tupL ⟨_, rfl, (by rw [List.length_map, rw1.r]; omega), ⟨f2, R ++ [L], .da (.int ((i : Nat) : Int)), (by rw [List.map_append]; rfl), by omega, rw1.app hL (h0 hi) hB⟩⟩)
  · rintro ρ ⟨f, R, e3, rfl, hf, rw1⟩
    rw [rl] at hf rw1
    refine as_ret (ae_cb (aa_cons (ae_frz (i := 2) rfl (ae_var rfl (aa_nil (ac_tupL ⟨fun m hm => ?_, _, rfl, by omega⟩))))))
    cases i_inj hm
    exact ⟨gO R, gO_row rw1, fun i hi => gO_dg rw1 hi, gO_bn rw1⟩
theorem ok_l_ends (bl : Blts mg) {g4_l_take : Addr} {d4_l_take : FuncData} (c4_l_take : Cal P w K mg base 3 "_law_take" p_l_take (spB K 2 domT2 postT) g4_l_take d4_l_take) {g_l_of : Addr} {d_l_of : FuncData} (c_l_of : Cal P w K mg base 3 "_law_of" p_l_of (spB K 1 domO postO) g_l_of d_l_of)  {f : Addr} {fd : FuncData} (F : Fun K "_law_ends" "_law_ends" s_l_ends f fd) : FnOk P w K mg base CX0 4 f fd p_l_ends (spB K 40 (domN) (postEn)) := by
  refine okB F sc_l_ends (fun ds h => ?_) (fun cdv A outer s H E hr ds h => ?_)
  · obtain ⟨n, rfl, n5⟩ := h
    rfl
  obtain ⟨n, rfl, n5⟩ := h
  refine ⟨_, (pss_cons (ps_set (i := 2) sc_l_ends.nd rfl (by first | exact Or.inl rfl | exact Or.inr rfl) (pe_lst pa_nil))
    (pss_cons (ps_for PassesOwn.never rfl (pi_range1 rfl bl.range (pa_cons (pv 1) pa_nil)) (pg_name (i := 3) sc_l_ends.nd rfl (by first | exact Or.inl rfl | exact Or.inr rfl)) (pss_cons (ps_set (i := 4) sc_l_ends.nd rfl (by first | exact Or.inl rfl | exact Or.inr rfl) (pe_call c_l_of.ok (hr.mono (by decide)) rfl c_l_of.mg c_l_of.kp c_l_of.bi .nil pass0 (pa_cons (pv 0) (pa_cons (pe_lst (pa_cons pe_non (pa_cons (pe_op op_sub (pe_call c4_l_take.ok (hr.mono (by decide)) rfl c4_l_take.mg c4_l_take.kp c4_l_take.bi .nil pass0 (pa_cons (pv 0) (pa_cons pe_int pa_nil))) pe_int) (pa_cons (pe_op op_sub (pe_call c4_l_take.ok (hr.mono (by decide)) rfl c4_l_take.mg c4_l_take.kp c4_l_take.bi .nil pass0 (pa_cons (pv 0) (pa_cons pe_int pa_nil))) pe_int) (pa_cons (pe_op op_pow pe_int pe_int) pa_nil))))) pa_nil))))
    (pss_cons (ps_set (i := 5) sc_l_ends.nd rfl (by first | exact Or.inl rfl | exact Or.inr rfl) (pe_call c_l_of.ok (hr.mono (by decide)) rfl c_l_of.mg c_l_of.kp c_l_of.bi .nil pass0 (pa_cons (pv 0) (pa_cons (pe_lst (pa_cons pe_non (pa_cons pe_int (pa_cons (pe_call c4_l_take.ok (hr.mono (by decide)) rfl c4_l_take.mg c4_l_take.kp c4_l_take.bi .nil pass0 (pa_cons (pv 0) (pa_cons pe_int pa_nil))) (pa_cons (pe_op op_pow pe_int pe_int) pa_nil))))) pa_nil))))
    (pss_cons (ps_set (i := 6) sc_l_ends.nd rfl (by first | exact Or.inl rfl | exact Or.inr rfl) (pe_ifExp (pt_cmpR op_isN (pv 4) pe_non (nomark _)) pe_int (pv 4)))
    (pss_one (ps_expr (pe_bm PySem.F.plainAttrs_list PySem.F.slot_list_append PySem.F.type_list_append mt_append (pv 2) (pa_cons (pe_tup (pa_cons (pv 4) (pa_cons (pe_ifExp (pt_cmpR op_isN (pv 5) pe_non (nomark _)) pe_non (pe_op op_add (pv 6) (pv 5))) pa_nil))) pa_nil))))))))
    (pss_one (ps_ret (pv 2))))), fun b F => ?_⟩
  change AS K _ [En.bx _ _, En.da _, En.no, En.no, En.no, En.no, En.no] _ _
  try simp only [cxOf_K, cxOf_w]
  have z9 : 9000 ≤ sizeLine := by decide
  have rg : ∀ k : Nat, (rgD 0 ((k : Nat) : Int).toNat) = (List.range k).map fun i => Dt.int ((i : Nat) : Int) := fun k => by
    unfold rgD
    rw [Int.toNat_natCast]
    exact List.map_congr_left fun i _ => by rw [Int.zero_add]
  have rl : ∀ k : Nat, ((List.range k).map fun i => Dt.int ((i : Nat) : Int)).length = k := fun k => by rw [List.length_map, List.length_range]
  refine as_seq (as_own (aa_nil ⟨Nat.zero_le _, ?_⟩))
  refine as_seq (as_for (ai_rng1 (aa_cons (ae_var rfl (aa_nil ⟨_, rfl, (by omega), (by omega), ?_⟩)))))
  rw [rg]
  refine ⟨fun i ρ => ∃ f Q e3 e4 e5 e6, ρ = [.bx b f, .da (.int (n : Int)), .own (Q.map pOD), e3, e4, e5, e6] ∧ F + 8 * (n - i) ≤ f ∧ Q.length = i ∧ (∀ p, p ∈ Q → bnO 20000000000000 p.1 ∧ bnO 20000000000000 p.2), ⟨F + 40, [], .no, .no, .no, .no, rfl, by omega, rfl, fun p h => (by cases h)⟩, ?_, ?_⟩
  · rintro i d ρ2 hd ⟨f, Q, e3, e4, e5, e6, rfl, hf, hQ, hB⟩
    obtain ⟨hi, rfl⟩ := rg_at hd
    obtain ⟨f1, rfl⟩ : ∃ f1, f = f1 + 8 := ⟨f - 8, by omega⟩
    have hf1 : F + 8 * (n - (i + 1)) ≤ f1 := by omega
    clear hf hd
    refine ag_name (as_seq (as_set (ae_ofL rfl (ae_lst (aa_cons (ae_non (aa_cons (ae_op (ae_take2 rfl (ae_int ⟨_, rfl, (by decide), (by decide), f1 + 6, rfl, fun v1 a0 a1 => ?_⟩))))))))))
    refine ae_int (ar_I0i (aa_cons (ae_op (ae_take2 rfl (ae_int ⟨_, rfl, (by decide), (by decide), f1 + 4, rfl, fun v2 b0 b1 => ?_⟩)))))
    refine ae_int (ar_I0i (aa_cons (ae_op (ae_int (ae_int (ar_Ii (C := CPow) ⟨(by decide), (by decide), (by decide)⟩ (aa_nil ⟨(by show 4 ≤ sizeLine; omega), _, rfl, (by show 1 ≤ 4; decide), (by show 4 ≤ 1000; decide), f1 + 3, rfl, fun d hd => ?_⟩)))))))
    have e12 : (10 : Int) ^ (12 : Int).toNat = 1000000000000 := by decide
    have e13 : (10 : Int) ^ (13 : Int).toNat = 10000000000000 := by decide
    obtain ⟨lo, rfl, lo1⟩ : ∃ lo, d = oD lo ∧ bnO 0 lo := by
      rw [e12] at hd
      have hd : d ∈ [Dt.non, Dt.int (v1 - 4), Dt.int (v2 - 4), Dt.int 1000000000000] := hd
      simp only [List.mem_cons, List.not_mem_nil, or_false] at hd
      rcases hd with rfl | rfl | rfl | rfl
      · exact ⟨none, rfl, bn_non⟩
      · exact ⟨some (v1 - 4), rfl, bn_some (by omega)⟩
      · exact ⟨some (v2 - 4), rfl, bn_some (by omega)⟩
      · exact ⟨some 1000000000000, rfl, bn_some (by omega)⟩
    clear hd
    refine as_seq (as_set (ae_ofL rfl (ae_lst (aa_cons (ae_non (aa_cons (ae_int (aa_cons (ae_take2 rfl (ae_int ⟨_, rfl, (by decide), (by decide), f1 + 1, rfl, fun v3 c0 c1 => ?_⟩))))))))))
    refine aa_cons (ae_op (ae_int (ae_int (ar_Ii (C := CPow) ⟨(by decide), (by decide), (by decide)⟩ (aa_nil ⟨(by show 4 ≤ sizeLine; omega), _, rfl, (by show 1 ≤ 4; decide), (by show 4 ≤ 1000; decide), f1, rfl, fun d hd => ?_⟩)))))
    obtain ⟨wi, rfl, wi1⟩ : ∃ wi, d = oD wi ∧ ∀ x, wi = some x → 0 ≤ x ∧ x ≤ 10000000000000 := by
      rw [e13] at hd
      have hd : d ∈ [Dt.non, Dt.int 0, Dt.int v3, Dt.int 10000000000000] := hd
      simp only [List.mem_cons, List.not_mem_nil, or_false] at hd
      rcases hd with rfl | rfl | rfl | rfl
      · exact ⟨none, rfl, fun x h => (by cases h)⟩
      · exact ⟨some 0, rfl, fun x h => (by cases h; omega)⟩
      · exact ⟨some v3, rfl, fun x h => (by cases h; omega)⟩
      · exact ⟨some 10000000000000, rfl, fun x h => (by cases h; omega)⟩
    clear hd
    have fin : ∀ (bs : Int), -(1000000000000) ≤ bs ∧ bs ≤ 1000000000000 → AS K (tDrop (tBM K "list" rAppend (tVar 2) (tCons (tTup (tCons (tVar 4) (tCons (tIf (tTest (tOp (fun x y H Q => y = .non ∧ Q (.bl (decide (x = .non))) H) (tVar 5) (tC .non))) (tC .non) (tOp (rI0 fun i j => .int (i + j)) (tVar 6) (tVar 5))) tNil))) tNil))) [.bx b f1, .da (.int (n : Int)), .own (Q.map pOD), .da (.int ((i : Nat) : Int)), .da (oD lo), .da (oD wi), .da (.int bs)] (fun ρ => ∃ (f : Nat) (Q : List (Option Int × Option Int)) (e3 e4 e5 e6 : En), ρ = [.bx b f, .da (.int (n : Int)), .own (Q.map pOD), e3, e4, e5, e6] ∧ F + 8 * (n - (i + 1)) ≤ f ∧ Q.length = i + 1 ∧ (∀ p, p ∈ Q → bnO 20000000000000 p.1 ∧ bnO 20000000000000 p.2)) (fun d ρ => postEn [.int (n : Int)] d ∧ ∃ f, ρ[0]? = some (.bx b f) ∧ F ≤ f) := fun bs hbs => by
      have go : ∀ hi : Option Int, bnO 20000000000000 hi → ∃ l, ([En.bx b f1, .da (.int (n : Int)), .own (Q.map pOD), .da (.int ((i : Nat) : Int)), .da (oD lo), .da (oD wi), .da (.int bs)] : List En)[2]? = some (.own l) ∧ l.length < sizeLine ∧ ∃ (f : Nat) (Q' : List (Option Int × Option Int)) (e3 e4 e5 e6 : En), ([En.bx b f1, .da (.int (n : Int)), .own (Q.map pOD), .da (.int ((i : Nat) : Int)), .da (oD lo), .da (oD wi), .da (.int bs)] : List En).set 2 (.own (l ++ [.tup [oD lo, oD hi]])) = [.bx b f, .da (.int (n : Int)), .own (Q'.map pOD), e3, e4, e5, e6] ∧ F + 8 * (n - (i + 1)) ≤ f ∧ Q'.length = i + 1 ∧ (∀ p, p ∈ Q' → bnO 20000000000000 p.1 ∧ bnO 20000000000000 p.2) := fun hi hb => ⟨_, rfl, (by rw [List.length_map, hQ]; omega), f1, Q ++ [(lo, hi)], _, _, _, _, (by rw [List.map_append]; rfl), hf1, (by rw [List.length_append, hQ]; rfl), fun p hp => (by
        rcases List.mem_append.mp hp with hp | hp
        · exact hB p hp
        · rw [List.mem_singleton.mp hp]; exact ⟨bn_up lo1 (by decide), hb⟩)⟩
      refine as_append (ae_tup (aa_cons (ae_var rfl (aa_cons (ae_ifN (i := 5) (o := wi) rfl (fun _ => ae_non (aa_nil ⟨(by show 2 ≤ sizeLine; omega), go none bn_non⟩)) (fun x e => ?_)))))) ⟨_, rfl⟩
      subst e
      exact ae_op (ae_var rfl (ae_var rfl (ar_I0i (aa_nil ⟨(by show 2 ≤ sizeLine; omega), go (some (bs + x)) (bn_some (by have := wi1 x rfl; omega))⟩))))
    refine as_seq (as_set (ae_ifN (i := 4) (o := lo) rfl (fun e => ae_int ?_) (fun x e => ?_)))
    · exact fin 0 (by omega)
    · subst e
      exact ae_var rfl (fin x (by have := lo1 x rfl; omega))
  · rintro ρ ⟨f, Q, e3, e4, e5, e6, rfl, hf, hQ, hB⟩
    rw [rl] at hf hQ
    refine as_ret (ae_frz (i := 2) rfl (ae_var rfl ⟨fun m hm => ?_, _, rfl, by omega⟩))
    cases i_inj hm
    refine ⟨_, _, pO_std hQ, fun i => ?_⟩
    show bnO _ (Q.getD i (none, none)).1 ∧ bnO _ (Q.getD i (none, none)).2
    rw [List.getD_eq_getElem?_getD]
    cases e : Q[i]? with
    | none => exact ⟨bn_non, bn_non⟩
    | some p => exact hB p (List.mem_of_getElem? e)
theorem ok_l_loose (bl : Blts mg) {n : Nat} {g_l_loose : Addr} {d_l_loose : FuncData} (c_l_loose : Cal P w K mg base n "_law_loose" p_l_loose (spP K (S_loo n)) g_l_loose d_l_loose)  {f : Addr} {fd : FuncData} (F : Fun K "_law_loose" "_law_loose" s_l_loose f fd) : FnOk P w K mg base CX0 (n + 1) f fd p_l_loose (spP K (S_loo (n + 1))) := by
  refine okP F sc_l_loose (fun ds r h => ?_) (fun cdv A outer s H E hr ds r h => ?_)
  · obtain ⟨d, rfl, n1, f1, rfl⟩ := h
    rfl
  obtain ⟨d, rfl, n1, f1, rfl⟩ := h
  refine ⟨_, (pss_one (ps_ret (pe_ifExp (pt_val (pe_callB call_isiT rfl bl.isinstance (by decide +kernel) (pa_cons (pv 0) (pa_cons (pe_tup (pa_cons (pe_bltn (v := .ty "list") rfl bl.list (by decide +kernel) rfl) (pa_cons (pe_bltn (v := .ty "tuple") rfl bl.tuple (by decide +kernel) rfl) pa_nil))) pa_nil)))) (pe_lc (own := [("_law_part", 1)]) (g := (gName 1)) (te := (tCall (spP K (S_loo n)) [] E0 (tCons (tVar 1) tNil))) (tt := tYes) rfl sc_l_loose.nd (pi_or (pi_list (pv 0)) (pi_tup (pv 0))) (blkOk_by (N := N_l_loose) (sc := defScope s_l_loose) (by decide +kernel)) (fun _ _ _ _ _ => (pg_name (i := 1) sc_l_loose.nd rfl (by first | exact Or.inl rfl | exact Or.inr rfl))) (fun _ _ _ _ _ => pts_nil) (fun _ _ _ _ _ => (pe_call c_l_loose.ok hr rfl c_l_loose.mg c_l_loose.kp c_l_loose.bi .nil pass0 (pa_cons (pv 1) pa_nil)))) (pv 0)))), ?_⟩
  change AS K _ [En.da _, En.no] _ _
  try simp only [cxOf_K]
  cases d with
  | non =>
    repeat' (first
      | (first | refine ⟨rfl, false, .inr ⟨kb_NoneType_list, kb_NoneType_tuple⟩, ?_⟩ | refine ⟨rfl, false, .inr ⟨kb_NoneType_bool, kb_NoneType_str⟩, ?_⟩)
      | exact rfl
      | with_reducible apply as_ret
      | ((with_reducible apply ae_var); · rfl)
      | with_reducible apply ae_isi2
      | with_reducible apply ae_if
      | with_reducible apply at_b
      | refine ⟨_, rfl, ?_⟩
      | (refine ⟨fun hc => ?_, fun hc => ?_⟩ <;> (first | (exfalso; exact absurd (show false = true from hc) (by decide)) | (exfalso; exact absurd (show true = false from hc) (by decide)) | (exfalso; simp at hc; done) | skip))
      | fail)
  | bl b =>
    repeat' (first
      | (first | refine ⟨rfl, false, .inr ⟨kb_bool_list, kb_bool_tuple⟩, ?_⟩ | refine ⟨rfl, true, .inl ⟨kb_bool_bool, rfl⟩, ?_⟩)
      | exact rfl
      | with_reducible apply as_ret
      | ((with_reducible apply ae_var); · rfl)
      | with_reducible apply ae_isi2
      | with_reducible apply ae_if
      | with_reducible apply at_b
      | refine ⟨_, rfl, ?_⟩
      | (refine ⟨fun hc => ?_, fun hc => ?_⟩ <;> (first | (exfalso; exact absurd (show false = true from hc) (by decide)) | (exfalso; exact absurd (show true = false from hc) (by decide)) | (exfalso; simp at hc; done) | skip))
      | fail)
  | int i =>
    repeat' (first
      | (first | refine ⟨rfl, false, .inr ⟨kb_int_list, kb_int_tuple⟩, ?_⟩ | refine ⟨rfl, false, .inr ⟨kb_int_bool, kb_int_str⟩, ?_⟩)
      | exact rfl
      | with_reducible apply as_ret
      | ((with_reducible apply ae_var); · rfl)
      | with_reducible apply ae_isi2
      | with_reducible apply ae_if
      | with_reducible apply at_b
      | refine ⟨_, rfl, ?_⟩
      | (refine ⟨fun hc => ?_, fun hc => ?_⟩ <;> (first | (exfalso; exact absurd (show false = true from hc) (by decide)) | (exfalso; exact absurd (show true = false from hc) (by decide)) | (exfalso; simp at hc; done) | skip))
      | fail)
  | str z =>
    repeat' (first
      | (first | refine ⟨rfl, false, .inr ⟨kb_str_list, kb_str_tuple⟩, ?_⟩ | refine ⟨rfl, true, .inr ⟨kb_str_bool, kb_str_str⟩, ?_⟩)
      | exact rfl
      | with_reducible apply as_ret
      | ((with_reducible apply ae_var); · rfl)
      | with_reducible apply ae_isi2
      | with_reducible apply ae_if
      | with_reducible apply at_b
      | refine ⟨_, rfl, ?_⟩
      | (refine ⟨fun hc => ?_, fun hc => ?_⟩ <;> (first | (exfalso; exact absurd (show false = true from hc) (by decide)) | (exfalso; exact absurd (show true = false from hc) (by decide)) | (exfalso; simp at hc; done) | skip))
      | fail)
  | ty T => exact absurd f1 (fun z => nomatch z)
  | tup l =>
    have hl : l.length ≤ 9000 := by
      have f2 : (decide (l.length ≤ 9000) && fits l) = true := f1
      rw [Bool.and_eq_true] at f2; exact of_decide_eq_true f2.1
    have hf : fits l = true := by
      have f2 : (decide (l.length ≤ 9000) && fits l) = true := f1
      rw [Bool.and_eq_true] at f2; exact f2.2
    have hd : deps l ≤ n := Nat.le_of_succ_le_succ (show deps l + 1 ≤ n + 1 from n1)
    repeat' (first
      | (first | refine ⟨rfl, true, .inr ⟨kb_tuple_list, kb_tuple_tuple⟩, ?_⟩ | refine ⟨rfl, false, .inr ⟨kb_tuple_bool, kb_tuple_str⟩, ?_⟩)
      | with_reducible apply as_ret
      | ((with_reducible apply ae_var); · rfl)
      | with_reducible apply ae_isi2
      | with_reducible apply ae_if
      | with_reducible apply at_b
      | refine ⟨_, rfl, ?_⟩
      | (refine ⟨fun hc => ?_, fun hc => ?_⟩ <;> (first | (exfalso; exact absurd (show false = true from hc) (by decide)) | (exfalso; exact absurd (show true = false from hc) (by decide)) | (exfalso; simp at hc; done) | skip))
      | fail)
    refine ae_lcMap looD (ai_or2 (ai_tup (ae_var rfl ⟨_, rfl, Nat.lt_of_le_of_lt hl (by decide), fun e he => ?_, ?_⟩)))
    · refine agv_name (by decide) (ae_call (aa_cons (ae_var rfl (aa_nil ⟨_, ⟨e, rfl, Nat.le_trans (deps_mem he) hd, fits_mem hf he, rfl⟩, rfl, rfl⟩))))
    · show _ = looD _
      unfold looD
      rw [loo_map]
  | lst l =>
    have hl : l.length ≤ 9000 := by
      have f2 : (decide (l.length ≤ 9000) && fits l) = true := f1
      rw [Bool.and_eq_true] at f2; exact of_decide_eq_true f2.1
    have hf : fits l = true := by
      have f2 : (decide (l.length ≤ 9000) && fits l) = true := f1
      rw [Bool.and_eq_true] at f2; exact f2.2
    have hd : deps l ≤ n := Nat.le_of_succ_le_succ (show deps l + 1 ≤ n + 1 from n1)
    repeat' (first
      | (first | refine ⟨rfl, true, .inl ⟨kb_list_list, rfl⟩, ?_⟩ | refine ⟨rfl, false, .inr ⟨kb_list_bool, kb_list_str⟩, ?_⟩)
      | with_reducible apply as_ret
      | ((with_reducible apply ae_var); · rfl)
      | with_reducible apply ae_isi2
      | with_reducible apply ae_if
      | with_reducible apply at_b
      | refine ⟨_, rfl, ?_⟩
      | (refine ⟨fun hc => ?_, fun hc => ?_⟩ <;> (first | (exfalso; exact absurd (show false = true from hc) (by decide)) | (exfalso; exact absurd (show true = false from hc) (by decide)) | (exfalso; simp at hc; done) | skip))
      | fail)
    refine ae_lcMap looD (ai_or1 (ai_list (ae_var rfl ⟨_, rfl, Nat.lt_of_le_of_lt hl (by decide), fun e he => ?_, ?_⟩)))
    · refine agv_name (by decide) (ae_call (aa_cons (ae_var rfl (aa_nil ⟨_, ⟨e, rfl, Nat.le_trans (deps_mem he) hd, fits_mem hf he, rfl⟩, rfl, rfl⟩))))
    · show _ = looD _
      unfold looD
      rw [loo_map]
theorem all_loose (bl : Blts mg) {f : Addr} {fd : FuncData} (F : Fun K "_law_loose" "_law_loose" s_l_loose f fd) (bG : Binds K fd p_l_loose []) (mG : mg "_law_loose" = some (.ref f)) : ∀ n : Nat, FnOk P w K mg base CX0 n f fd p_l_loose (spP K (S_loo n))
  | 0 => none0 fun vs H Q E h => by
    obtain ⟨G, ds, r, _, _, ⟨d, _, h1, _⟩, _⟩ := h
    have := dep_pos d
    omega
  | n + 1 => ok_l_loose bl ⟨all_loose bl F bG mG n, bG, F.kp, mG⟩ F
end
end Sh
set_option Elab.async false
set_option linter.all false
set_option maxRecDepth 100000
set_option maxHeartbeats 4000000
namespace Sh
open PySem PySem.Spec PyProof.Rows L2
abbrev s_l_zeroed : Stmt := topS 16
abbrev N_l_zeroed : List Str := ["_law_rows_here", "_law_pairs_so", "_law_table", "_law_row", "_law_end"]
abbrev p_l_zeroed : List Str := ["_law_rows_here", "_law_pairs_so"]
theorem sc_l_zeroed : FnScope N_l_zeroed p_l_zeroed (defScope s_l_zeroed) := ⟨rfl, rfl, rfl, by decide +kernel, rfl, by decide +kernel, by decide +kernel⟩
abbrev s_l_way : Stmt := topS 17
abbrev N_l_way : List Str := ["_law_table", "_law_here", "_law_goal", "_law_seen_so", "_law_sums", "_law_later", "_law_step", "_law_rest"]
abbrev p_l_way : List Str := ["_law_table", "_law_here", "_law_goal", "_law_seen_so"]
theorem sc_l_way : FnScope N_l_way p_l_way (defScope s_l_way) := ⟨rfl, rfl, rfl, by decide +kernel, rfl, by decide +kernel, by decide +kernel⟩
def S_ze (ds : List Dt) (r : Dt) : Prop := ∃ n M lo hi, ds = [gD true true n M, prsD n lo hi] ∧ n ≤ 5 ∧ r = tbD (n + 1) (wzM n M lo hi)
def zeR : Dt → Dt
  | .tup [.tup l, .tup [_, b]] => .lst (l ++ [b])
  | _ => .non
theorem ze_row {n i : Nat} {M : Mx} {lo hi : Nat → Option Int} (h : i < n) : Dt.lst (rwD n M i ++ [oD (hi i)]) = .lst (rwD (n + 1) (wzM n M lo hi) i) := by
  rw [rw_rg, rw_rg, List.range_succ, List.map_append]
  show _ = Dt.lst (_ ++ [oD (wzM n M lo hi i n)])
  rw [wz_hi h]
  congr 2
  exact List.map_congr_left fun j hj => by rw [wz_in' h (List.mem_range.mp hj)]
def ngD : Dt → Dt
  | .tup [a, _] => oD (ngO (unO a))
  | _ => .non
theorem ze_last {n : Nat} {M : Mx} {lo hi : Nat → Option Int} : Dt.lst (((List.range n).map fun i => Dt.tup [oD (lo i), oD (hi i)]).map ngD ++ [.int 0]) = .lst (rwD (n + 1) (wzM n M lo hi) n) := by
  rw [rw_rg, List.range_succ, List.map_append, List.map_map]
  show _ = Dt.lst (_ ++ [oD (wzM n M lo hi n n)])
  rw [wz_00]
  congr 2
  refine List.map_congr_left fun j hj => ?_
  show oD (ngO (unO (oD (lo j)))) = _
  rw [unO_is, wz_lo (List.mem_range.mp hj)]
theorem ze_all {n : Nat} {M : Mx} {lo hi : Nat → Option Int} : Dt.lst ((((List.range n).map fun i => Dt.tup [.tup (rwD n M i), .tup [oD (lo i), oD (hi i)]]).map zeR) ++ [.lst (((List.range n).map fun i => Dt.tup [oD (lo i), oD (hi i)]).map ngD ++ [.int 0])]) = tbD (n + 1) (wzM n M lo hi) := by
  rw [ze_last (M := M)]
  unfold tbD
  rw [List.range_succ, List.map_append, List.map_map]
  congr 2
  refine List.map_congr_left fun i hi => ?_
  exact ze_row (List.mem_range.mp hi)
def natD (t : Nat) : Dt := .int (t : Int)
def S_wy (q : Nat) (ds : List Dt) (r : Dt) : Prop := ∃ N M g h s, ds = [tbD N M, .int ((h : Nat) : Int), .int ((g : Nat) : Int), .lst (s.map natD)] ∧ N ≤ 6 ∧ h < N ∧ g < N ∧ s.Nodup ∧ (∀ t, t ∈ s → t < N) ∧ N + 1 ≤ s.length + q ∧ r = oD (Fw.wayM N M g (N + 1 - s.length) h s)
theorem ar_inIN {K : PySem.W.Frag} {Φ : Dt → Prop} {i : Nat} {s : List Nat} (h : Φ (.bl (!decide (i ∈ s)))) : AR K (rIn K true) (.int (i : Int)) (.lst (s.map natD)) Φ := by
  have e : s.map natD = (s.map fun t => ((t : Nat) : Int)).map Dt.int := by rw [List.map_map]; rfl
  rw [e]
  refine ar_inL (neg := true) (d := .int (i : Int)) (x := .int (i : Int)) rfl vs_intsP rfl flat_intsP ?_
  rw [inV_intsP]
  have e2 : decide ((i : Int) ∈ s.map fun t => ((t : Nat) : Int)) = decide (i ∈ s) := by
    by_cases c : i ∈ s
    · rw [decide_eq_true c, decide_eq_true (List.mem_map.mpr ⟨i, c, rfl⟩)]
    · rw [decide_eq_false c, decide_eq_false]
      intro z
      obtain ⟨t, ht, e⟩ := List.mem_map.mp z
      have : t = i := by omega
      rw [this] at ht; exact c ht
  rw [e2]; exact h
theorem ar_neT {K : PySem.W.Frag} {Φ : Dt → Prop} {i h : Nat} (c : i ≠ h) (q : Φ (.bl true)) : AR K rNe (.int (i : Int)) (.int (h : Int)) Φ := ar_ne3 ⟨rfl, rfl, rfl⟩ (by
  rw [decide_eq_false (fun z => c (by injection z with z; omega))]; exact q)
theorem ar_neF {K : PySem.W.Frag} {Φ : Dt → Prop} {i h : Nat} (c : i = h) (q : Φ (.bl false)) : AR K rNe (.int (i : Int)) (.int (h : Int)) Φ := ar_ne3 ⟨rfl, rfl, rfl⟩ (by
  rw [decide_eq_true (by rw [c])]; exact q)
theorem ar_eqT {K : PySem.W.Frag} {Φ : Dt → Prop} {i h : Nat} (c : i = h) (q : Φ (.bl true)) : AR K rEq (.int (i : Int)) (.int (h : Int)) Φ := ar_eq3 ⟨rfl, rfl, rfl⟩ (by
  rw [decide_eq_true (by rw [c])]; exact q)
theorem ar_eqF {K : PySem.W.Frag} {Φ : Dt → Prop} {i h : Nat} (c : i ≠ h) (q : Φ (.bl false)) : AR K rEq (.int (i : Int)) (.int (h : Int)) Φ := ar_eq3 ⟨rfl, rfl, rfl⟩ (by
  rw [decide_eq_false (fun z => c (by injection z with z; omega))]; exact q)
theorem rw_at {N i h : Nat} {M : Mx} (hi : i < N) : (rwD N M h)[i]? = some (oD (M h i)) := by
  rw [rw_rg, List.getElem?_map, List.getElem?_range hi]; rfl
theorem tb_at {N h : Nat} {M : Mx} (hi : h < N) : ((List.range N).map fun i => Dt.lst (rwD N M i))[h]? = some (.lst (rwD N M h)) := by
  rw [List.getElem?_map, List.getElem?_range hi]; rfl
def nsW (f : Nat → Option Int) (i : Nat) : List Int := (List.range i).filterMap f
theorem ns_no {f : Nat → Option Int} {i : Nat} (h : f i = none) : nsW f (i + 1) = nsW f i := by
  unfold nsW
  rw [List.range_succ, List.filterMap_append, List.filterMap_cons, h]
  exact List.append_nil _
theorem ns_so {f : Nat → Option Int} {i : Nat} {v : Int} (h : f i = some v) : nsW f (i + 1) = nsW f i ++ [v] := by
  unfold nsW
  rw [List.range_succ, List.filterMap_append, List.filterMap_cons, h]; rfl
theorem ns_len {f : Nat → Option Int} {i : Nat} : (nsW f i).length ≤ i := by
  have := List.length_filterMap_le f (List.range i)
  rw [List.length_range] at this; exact this
section
variable {P : Program} {w : World} {K : PySem.W.Frag} {mg : Str → Option Value} {base : Heap}
theorem ok_l_zeroed (bl : Blts mg)   {f : Addr} {fd : FuncData} (F : Fun K "_law_zeroed" "_law_zeroed" s_l_zeroed f fd) : FnOk P w K mg base CX0 1 f fd p_l_zeroed (spP K (S_ze)) := by
  refine okP F sc_l_zeroed (fun ds r h => ?_) (fun cdv A outer s H E hr ds r h => ?_)
  · obtain ⟨n, M, lo, hi, rfl, n5, rfl⟩ := h
    rfl
  obtain ⟨n, M, lo, hi, rfl, n5, rfl⟩ := h
  refine ⟨_, (pss_cons (ps_setLc (i := 2) (own := [("_law_row", 3), ("_law_end", 4)]) (g := (gTup K 2 (gCons (gName 3) (gCons (gName 4) gNil)))) (te := (tOp rCat (tCB (fun xs H Q => ∃ p ys, xs = [.ref p] ∧ (SqL K H p ys ∨ SqT K H p ys) ∧ ∀ l, H l = none → Q (.ref l) (upd H l (.lst ys))) (tCons (tVar 3) tNil)) (tLst (tCons (tOp (rIx K) (tVar 4) (tC (.int 1))) tNil)))) (tt := tYes) rfl sc_l_zeroed.nd rfl rfl (sw_true rfl rfl rfl (by decide +kernel)) (pi_zipK rfl bl.zip (pa_cons (pv 0) (pa_cons (pv 1) pa_nil))) (blkOk_by (N := N_l_zeroed) (sc := defScope s_l_zeroed) (by decide +kernel)) (fun _ _ _ _ _ => (pg_tup rfl (pgs_cons (pg_name (i := 3) sc_l_zeroed.nd rfl (by first | exact Or.inl rfl | exact Or.inr rfl)) (pgs_cons (pg_name (i := 4) sc_l_zeroed.nd rfl (by first | exact Or.inl rfl | exact Or.inr rfl)) pgs_nil)))) (fun _ _ _ _ _ => pts_nil) (fun _ _ _ _ _ => (pe_op op_cat (pe_callTy call_list_of rfl bl.list (by decide +kernel) (pa_cons (pv 3) pa_nil)) (pe_lst (pa_cons (pe_ix ix_seq (pv 4) pe_int (fun _ _ => rfl)) pa_nil)))))
    (pss_one (ps_ret (pe_op op_cat (pv 2) (pe_lst (pa_cons (pe_op op_cat (pe_lc (own := [("_law_end", 4)]) (g := (gName 4)) (te := (tIf (tTest (tOp (fun x y H Q => y = .non ∧ Q (.bl (decide (x = .non))) H) (tOp (rIx K) (tVar 4) (tC (.int 0))) (tC .non))) (tC .non) (tOp (rI0 fun i j => .int (i - j)) (tC (.int 0)) (tOp (rIx K) (tVar 4) (tC (.int 0)))))) (tt := tYes) rfl sc_l_zeroed.nd (pi_list (pv 1)) (blkOk_by (N := N_l_zeroed) (sc := defScope s_l_zeroed) (by decide +kernel)) (fun _ _ _ _ _ => (pg_name (i := 4) sc_l_zeroed.nd rfl (by first | exact Or.inl rfl | exact Or.inr rfl))) (fun _ _ _ _ _ => pts_nil) (fun _ _ _ _ _ => (pe_ifExp (pt_cmpR op_isN (pe_ix ix_seq (pv 4) pe_int (fun _ _ => rfl)) pe_non (nomark _)) pe_non (pe_op op_sub pe_int (pe_ix ix_seq (pv 4) pe_int (fun _ _ => rfl)))))) (pe_lst (pa_cons pe_int pa_nil))) pa_nil)))))), ?_⟩
  change AS K _ [En.da _, En.da _, En.no, En.no, En.no] _ _
  try simp only [cxOf_K]
  have z9 : 9000 ≤ sizeLine := by decide
  have ez : zpD ((List.range n).map fun i => sq true (rwD n M i)) ((List.range n).map fun i => Dt.tup [oD (lo i), oD (hi i)]) = (List.range n).map fun i => .tup [.tup (rwD n M i), .tup [oD (lo i), oD (hi i)]] := zp_rg
  have ll : ∀ f : Nat → Dt, ((List.range n).map f).length = n := fun f => by rw [List.length_map, List.length_range]
  have lr : ∀ i, (rwD n M i).length = n := fun i => by rw [rw_rg, ll]
  refine as_seq (as_set (ae_lcMap zeR (ai_zipK (aa_cons (ae_var rfl (aa_cons (ae_var rfl (aa_nil ⟨true, false, _, _, rfl, ?_⟩))))))))
  rw [ez]
  refine ⟨by rw [ll]; omega, fun d hd => ?_, ?_⟩
  · obtain ⟨i, hi, rfl⟩ := List.mem_map.mp hd
    refine agv_tup rfl (agvs_cons (agv_name (by decide) (agvs_cons (agv_name (by decide) (agvs_nil (ae_op (ae_cb (aa_cons (ae_var rfl (aa_nil (ac_listT (ae_lst (aa_cons (ae_op (ae_var rfl (ae_int (ar_ixTs rfl (aa_nil ⟨(by show 1 ≤ sizeLine; omega), ar_catL (by rw [lr]; show n + 1 ≤ _; omega) ⟨rfl, rfl⟩⟩))))))))))))))))))
  · refine as_ret (ae_op (ae_var rfl (ae_lst (aa_cons (ae_op (ae_lcMap ngD (ai_list (ae_var rfl ⟨_, rfl, (by rw [ll]; omega), fun d hd => ?_, ?_⟩))))))))
    · obtain ⟨i, hi', rfl⟩ := List.mem_map.mp hd
      cases e : lo i with
      | none => refine agv_name (by decide) (ae_if (at_test (ae_op (ae_op (ae_var rfl (ae_int (ar_ixTs rfl (ae_non (ar_isN ⟨true, rfl, fun _ => ae_non ⟨rfl, rfl⟩, fun h => absurd (show true = false from h) (by decide)⟩)))))))))
      | some x =>
        refine agv_name (by decide) (ae_if (at_test (ae_op (ae_op (ae_var rfl (ae_int (ar_ixTs rfl (ae_non (ar_isN ⟨false, rfl, fun h => absurd (show false = true from h) (by decide), fun _ => ?_⟩)))))))))
        refine ae_op (ae_int (ae_op (ae_var rfl (ae_int (ar_ixTs rfl (ar_I0i ⟨?_, rfl⟩))))))
        show Dt.int (0 - x) = Dt.int (-x)
        rw [Int.zero_sub]
    · refine ae_lst (aa_cons (ae_int (aa_nil ⟨(by show 1 ≤ sizeLine; omega), ar_catL (by rw [List.length_map, ll]; show n + 1 ≤ _; omega) (aa_nil ⟨(by show 1 ≤ sizeLine; omega), ar_catL (by rw [List.length_map, ll]; show n + 1 ≤ _; omega) ?_⟩)⟩)))
      exact ze_all
theorem ok_l_way (bl : Blts mg) {n : Nat} {g_l_way : Addr} {d_l_way : FuncData} (c_l_way : Cal P w K mg base n "_law_way" p_l_way (spP K (S_wy n)) g_l_way d_l_way)  {f : Addr} {fd : FuncData} (F : Fun K "_law_way" "_law_way" s_l_way f fd) : FnOk P w K mg base CX0 (n + 1) f fd p_l_way (spP K (S_wy (n + 1))) := by
  refine okP F sc_l_way (fun ds r h => ?_) (fun cdv A outer s H E hr ds r h => ?_)
  · obtain ⟨N, M, g, h, s, rfl, n6, hN, gN, sd, sN, hq, rfl⟩ := h
    rfl
  obtain ⟨N, M, g, h, s, rfl, n6, hN, gN, sd, sN, hq, rfl⟩ := h
  refine ⟨_, (pss_cons (ps_set (i := 4) sc_l_way.nd rfl (by first | exact Or.inl rfl | exact Or.inr rfl) (pe_lst pa_nil))
    (pss_cons (ps_for PassesOwn.never rfl (pi_range1 rfl bl.range (pa_cons (pe_callB call_len_seq rfl bl.len (by decide +kernel) (pa_cons (pv 0) pa_nil)) pa_nil)) (pg_name (i := 5) sc_l_way.nd rfl (by first | exact Or.inl rfl | exact Or.inr rfl)) (pss_cons (ps_set (i := 6) sc_l_way.nd rfl (by first | exact Or.inl rfl | exact Or.inr rfl) (pe_ifExp (pt_cmpR op_ne (pv 5) (pv 1) (nomark _)) (pe_ix ix_seq (pe_ix ix_list (pv 0) (pv 1) (fun _ _ => rfl)) (pv 5) (fun _ _ => rfl)) pe_non))
    (pss_cons (ps_set (i := 7) sc_l_way.nd rfl (by first | exact Or.inl rfl | exact Or.inr rfl) pe_non)
    (pss_cons (ps_if (PW.pt (pw_and (pt_cmpR op_notN (pv 6) pe_non (nomark _)) (pw_and1 (pt_cmpR op_eq (pv 5) (pv 2) (nomark _))))) (pss_one (ps_set (i := 7) sc_l_way.nd rfl (by first | exact Or.inl rfl | exact Or.inr rfl) pe_int)) (pss_one (ps_if (PW.pt (pw_and (pt_cmpR op_notN (pv 6) pe_non (nomark _)) (pw_and1 (pt_cmpR op_notIn_seq (pv 5) (pv 3) rfl)))) (pss_one (ps_set (i := 7) sc_l_way.nd rfl (by first | exact Or.inl rfl | exact Or.inr rfl) (pe_call c_l_way.ok hr rfl c_l_way.mg c_l_way.kp c_l_way.bi .nil pass0 (pa_cons (pv 0) (pa_cons (pv 5) (pa_cons (pv 2) (pa_cons (pe_op op_cat (pv 3) (pe_lst (pa_cons (pv 5) pa_nil))) pa_nil))))))) pss_nil)))
    (pss_one (ps_if (pt_cmpR op_notN (pv 7) pe_non (nomark _)) (pss_one (ps_expr (pe_bm PySem.F.plainAttrs_list PySem.F.slot_list_append PySem.F.type_list_append mt_append (pv 4) (pa_cons (pe_op op_add (pv 6) (pv 7)) pa_nil)))) pss_nil))))))
    (pss_one (ps_ret (pe_ifExp (pt_cmpR (op_neD hr.units) (pv 4) (pe_lst pa_nil) (nomark _)) (pe_callB (cr_min rfl) rfl bl.min (by decide +kernel) (pa_cons (pv 4) pa_nil)) pe_non))))), ?_⟩
  change AS K _ [En.da _, En.da _, En.da _, En.da _, En.no, En.no, En.no, En.no] _ _
  try simp only [cxOf_K]
  have z9 : 9000 ≤ sizeLine := by decide
  have sl : s.length ≤ N := Fw.pig sd sN
  obtain ⟨k, hk⟩ : ∃ k, N + 1 - s.length = k + 1 := ⟨N - s.length, by omega⟩
  rw [hk]
  have rg : ∀ k : Nat, (rgD 0 ((k : Nat) : Int).toNat) = (List.range k).map fun i => Dt.int ((i : Nat) : Int) := fun k => by
    unfold rgD
    rw [Int.toNat_natCast]
    exact List.map_congr_left fun i _ => by rw [Int.zero_add]
  have rl : ∀ k : Nat, ((List.range k).map fun i => Dt.int ((i : Nat) : Int)).length = k := fun k => by rw [List.length_map, List.length_range]
  have tl : ((List.range N).map fun i => Dt.lst (rwD N M i)).length = N := by rw [List.length_map, List.length_range]
  obtain ⟨F0, hF⟩ : ∃ F0, F0 = Fw.stepW M g (fun t => Fw.wayM N M g k t (s ++ [t])) h s := ⟨_, rfl⟩
  have fu : ∀ t, F0 t = Fw.stepW M g (fun t => Fw.wayM N M g k t (s ++ [t])) h s t := fun t => by rw [hF]
  unfold Fw.stepW at fu
  refine as_seq (as_own (aa_nil ⟨Nat.zero_le _, ?_⟩))
  refine as_seq (as_for (ai_rng1 (aa_cons (ae_cb (aa_cons (ae_var rfl (aa_nil (ac_len (k := false) (aa_nil ⟨_, rfl, (by omega), (by rw [tl]; omega), ?_⟩)))))))))
  rw [tl, rg]
  refine ⟨fun i ρ => ∃ e5 e6 e7, ρ = [.da (tbD N M), .da (.int ((h : Nat) : Int)), .da (.int ((g : Nat) : Int)), .da (.lst (s.map natD)), .own ((nsW F0 i).map Dt.int), e5, e6, e7], ⟨.no, .no, .no, rfl⟩, ?_, ?_⟩
  · rintro i d ρ2 hd ⟨e5, e6, e7, rfl⟩
    obtain ⟨hi, rfl⟩ := rg_at hd
    clear hd
    have fui := fu i
    have len := ns_len (f := F0) (i := i)
    refine ag_name ?_
    by_cases c : i = h
    · rw [if_pos c] at fui
      refine as_seq (as_set (ae_if (at_test (ae_op (ae_var rfl (ae_var rfl (ar_neF c ⟨false, rfl, fun h => absurd (show false = true from h) (by decide), fun _ => ae_non ?_⟩)))))))
      refine as_seq (as_set (ae_non ?_))
      refine as_seq (as_if (at_and (at_test (ae_op (ae_var rfl (ae_non (ar_notN ⟨false, rfl, fun h => absurd (show false = true from h) (by decide), fun _ => ⟨fun h => absurd (show false = true from h) (by decide), fun _ => ?_⟩⟩)))))))
      refine as_if (at_and (at_test (ae_op (ae_var rfl (ae_non (ar_notN ⟨false, rfl, fun h => absurd (show false = true from h) (by decide), fun _ => ⟨fun h => absurd (show false = true from h) (by decide), fun _ => as_next ?_⟩⟩))))))
      refine as_if (at_test (ae_op (ae_var rfl (ae_non (ar_notN ⟨false, rfl, fun h => absurd (show false = true from h) (by decide), fun _ => as_next ?_⟩)))))
      exact ⟨_, _, _, by rw [ns_no fui]; rfl⟩
    · rw [if_neg c] at fui
      refine as_seq (as_set (ae_if (at_test (ae_op (ae_var rfl (ae_var rfl (ar_neT c ⟨true, rfl, fun _ => ?_, fun h => absurd (show true = false from h) (by decide)⟩)))))))
      refine ae_op (ae_op (ae_var rfl (ae_var rfl (ar_ixL (d := .lst (rwD N M h)) (atI_nat (tb_at hN)) ?_))))
      refine ae_var rfl (ar_ix (k := false) (d := oD (M h i)) (atI_nat (rw_at hi)) ?_)
      cases e : M h i with
      | none =>
        rw [e] at fui
        refine as_seq (as_set (ae_non ?_))
        refine as_seq (as_if (at_and (at_test (ae_op (ae_var rfl (ae_non (ar_notN ⟨false, rfl, fun h => absurd (show false = true from h) (by decide), fun _ => ⟨fun h => absurd (show false = true from h) (by decide), fun _ => ?_⟩⟩)))))))
        refine as_if (at_and (at_test (ae_op (ae_var rfl (ae_non (ar_notN ⟨false, rfl, fun h => absurd (show false = true from h) (by decide), fun _ => ⟨fun h => absurd (show false = true from h) (by decide), fun _ => as_next ?_⟩⟩))))))
        refine as_if (at_test (ae_op (ae_var rfl (ae_non (ar_notN ⟨false, rfl, fun h => absurd (show false = true from h) (by decide), fun _ => as_next ?_⟩)))))
        exact ⟨_, _, _, by rw [ns_no fui]; rfl⟩
      | some x =>
        rw [e] at fui
        simp only at fui
        refine as_seq (as_set (ae_non ?_))
        by_cases c2 : i = g
        · rw [if_pos c2] at fui
          refine as_seq (as_if (at_and (at_test (ae_op (ae_var rfl (ae_non (ar_notN ⟨true, rfl, fun _ => ?_, fun h => absurd (show true = false from h) (by decide)⟩)))))))
          refine at_test (ae_op (ae_var rfl (ae_var rfl (ar_eqT c2 ⟨true, rfl, fun _ => as_set (ae_int ?_), fun h => absurd (show true = false from h) (by decide)⟩))))
          refine as_if (at_test (ae_op (ae_var rfl (ae_non (ar_notN ⟨true, rfl, fun _ => ?_, fun h => absurd (show true = false from h) (by decide)⟩)))))
          refine as_append (ae_op (ae_var rfl (ae_var rfl (ar_I0i ⟨_, rfl, ?_, ?_⟩)))) ⟨_, rfl⟩
          · rw [List.length_map]; omega
          · exact ⟨_, _, _, by rw [ns_so fui, List.map_append]; rfl⟩
        · rw [if_neg c2] at fui
          refine as_seq (as_if (at_and (at_test (ae_op (ae_var rfl (ae_non (ar_notN ⟨true, rfl, fun _ => ?_, fun h => absurd (show true = false from h) (by decide)⟩)))))))
          refine at_test (ae_op (ae_var rfl (ae_var rfl (ar_eqF c2 ⟨false, rfl, fun h => absurd (show false = true from h) (by decide), fun _ => ?_⟩))))
          refine as_if (at_and (at_test (ae_op (ae_var rfl (ae_non (ar_notN ⟨true, rfl, fun _ => ?_, fun h => absurd (show true = false from h) (by decide)⟩))))))
          by_cases c3 : i ∈ s
          · rw [if_pos c3] at fui
            refine at_test (ae_op (ae_var rfl (ae_var rfl (ar_inIN ?_))))
            rw [decide_eq_true c3]
            refine ⟨false, rfl, fun h => absurd (show false = true from h) (by decide), fun _ => as_next ?_⟩
            refine as_if (at_test (ae_op (ae_var rfl (ae_non (ar_notN ⟨false, rfl, fun h => absurd (show false = true from h) (by decide), fun _ => as_next ?_⟩)))))
            exact ⟨_, _, _, by rw [ns_no fui]; rfl⟩
          · rw [if_neg c3] at fui
            refine at_test (ae_op (ae_var rfl (ae_var rfl (ar_inIN ?_))))
            rw [decide_eq_false c3]
            have sd2 : (s ++ [i]).Nodup := List.nodup_append.mpr ⟨sd, List.nodup_cons.mpr ⟨(fun z => by cases z), List.nodup_nil⟩, fun a ha b hb z => by rw [List.mem_singleton.mp hb] at z; rw [z] at ha; exact c3 ha⟩
            have sN2 : ∀ t, t ∈ s ++ [i] → t < N := fun t ht => by
              rcases List.mem_append.mp ht with ht | ht
              · exact sN t ht
              · rw [List.mem_singleton.mp ht]; exact hi
            have sl2 := Fw.pig sd2 sN2
            rw [List.length_append] at sl2
            have sl3 : s.length + 1 ≤ N := sl2
            refine ⟨true, rfl, fun _ => as_set ?_, fun h => absurd (show true = false from h) (by decide)⟩
            refine ae_call (aa_cons (ae_var rfl (aa_cons (ae_var rfl (aa_cons (ae_var rfl (aa_cons (ae_op (ae_var rfl (ae_lst (aa_cons (ae_var rfl (aa_nil ⟨(by show 1 ≤ sizeLine; omega), ar_catL (by rw [List.length_map]; show s.length + 1 ≤ _; omega) (aa_nil ⟨_, ⟨N, M, g, i, s ++ [i], (by rw [List.map_append]; rfl), n6, hi, gN, sd2, sN2, (by rw [List.length_append]; show N + 1 ≤ s.length + 1 + n; omega), rfl⟩, ?_⟩)⟩)))))))))))))
            have ek : N + 1 - (s ++ [i]).length = k := by rw [List.length_append]; show N + 1 - (s.length + 1) = k; omega
            rw [ek]
            cases q : Fw.wayM N M g k i (s ++ [i]) with
            | none =>
              rw [q] at fui
              refine as_if (at_test (ae_op (ae_var rfl (ae_non (ar_notN ⟨false, rfl, fun h => absurd (show false = true from h) (by decide), fun _ => as_next ?_⟩)))))
              exact ⟨_, _, _, by rw [ns_no fui]; rfl⟩
            | some y =>
              rw [q] at fui
              refine as_if (at_test (ae_op (ae_var rfl (ae_non (ar_notN ⟨true, rfl, fun _ => ?_, fun h => absurd (show true = false from h) (by decide)⟩)))))
              refine as_append (ae_op (ae_var rfl (ae_var rfl (ar_I0i ⟨_, rfl, ?_, ?_⟩)))) ⟨_, rfl⟩
              · rw [List.length_map]; omega
              · exact ⟨_, _, _, by rw [ns_so fui, List.map_append]; rfl⟩
  · rintro ρ ⟨e5, e6, e7, rfl⟩
    rw [rl]
    have ew : Fw.wayM N M g (k + 1) h s = Fw.loI (nsW F0 N) := by rw [hF]; rfl
    rw [ew]
    refine as_ret (ae_frz (i := 4) rfl (ae_if (at_test (ae_op (ae_var rfl (ae_lst (aa_nil ⟨Nat.zero_le _, ar_neNil ⟨_, rfl, fun c => ?_, fun c => ?_⟩⟩)))))))
    · have h0 : 0 < (nsW F0 N).length := by
        cases q : nsW F0 N with
        | nil => rw [q] at c; exact absurd (show false = true from c) (by decide)
        | cons a l => exact Nat.succ_pos _
      refine ae_cb (aa_cons (ae_var rfl (aa_nil (ac_min h0 fun m hm hle => ?_))))
      show Dt.int m = oD _
      rw [Fw.lo_is hm hle]; rfl
    · cases q : nsW F0 N with
      | nil => exact ae_non rfl
      | cons a l => rw [q] at c; exact absurd (show true = false from c) (by decide)
theorem all_way (bl : Blts mg) {f : Addr} {fd : FuncData} (F : Fun K "_law_way" "_law_way" s_l_way f fd) (bG : Binds K fd p_l_way []) (mG : mg "_law_way" = some (.ref f)) : ∀ n : Nat, FnOk P w K mg base CX0 n f fd p_l_way (spP K (S_wy n))
  | 0 => none0 fun vs H Q E h => by
    obtain ⟨G, ds, r, _, _, ⟨N, M, g, h, s, _, _, _, _, sd, sN, hq, _⟩, _⟩ := h
    have := Fw.pig sd sN
    omega
  | n + 1 => ok_l_way bl ⟨all_way bl F bG mG n, bG, F.kp, mG⟩ F
end
end Sh
set_option Elab.async false
set_option linter.all false
set_option maxRecDepth 100000
set_option maxHeartbeats 4000000
namespace Sh
open PySem PySem.Spec PyProof.Rows L2
abbrev s_l_closed : Stmt := topS 18
abbrev N_l_closed : List Str := ["_law_rows_here", "_law_pairs_so", "_law_rings", "_law_at", "_law_table", "_law_size", "_law_made", "_law_pairs", "_law_least", "_law_ring", "_law_to"]
abbrev p_l_closed : List Str := ["_law_rows_here", "_law_pairs_so"]
theorem sc_l_closed : FnScope N_l_closed p_l_closed (defScope s_l_closed) := ⟨rfl, rfl, rfl, by decide +kernel, rfl, by decide +kernel, by decide +kernel⟩
def S_cl (ds : List Dt) (r : Dt) : Prop := ∃ n M lo hi, ds = [gD true true n M, prsD n lo hi] ∧ n ≤ 5 ∧ r = wyD n (wzM n M lo hi)
theorem wy_call {N : Nat} {W : Mx} {h g : Nat} (n6 : N ≤ 6) (hN : h < N) (gN : g < N) : S_wy 6 [tbD N W, .int (h : Int), .int (g : Int), .lst [.int (h : Int)]] (oD (Fw.wayM N W g N h [h])) :=
  ⟨N, W, g, h, [h], rfl, n6, hN, gN, List.nodup_cons.mpr ⟨(fun z => by cases z), List.nodup_nil⟩, fun t ht => by rw [List.mem_singleton.mp ht]; exact hN, (by show N + 1 ≤ 1 + 6; omega), rfl⟩
def rgF : Dt → Dt
  | .int x => .bl (decide (x < 0))
  | _ => .bl false
def nbW (N : Nat) (W : Mx) (v : Nat) : Bool := match wyR N W v with | none => false | some x => decide (x < 0)
theorem rgF_is {N v : Nat} {W : Mx} : rgF (oD (wyR N W v)) = .bl (nbW N W v) := by
  unfold nbW
  cases wyR N W v <;> rfl
theorem ng_is {N : Nat} {W : Mx} : ngW N W = ((List.range N).map (nbW N W)).any id := by rw [List.any_map]; rfl
def wyP (n : Nat) (W : Mx) (i : Nat) : Dt := .tup [oD (ngO (Fw.wyM (n + 1) W n i)), oD (Fw.wyM (n + 1) W i n)]
theorem wy_end {n : Nat} {W : Mx} (h : ngW (n + 1) W = false) : Dt.tup [.tup ((List.range n).map fun i => .tup (rwD n (Fw.wyM (n + 1) W) i)), .lst ((List.range n).map (wyP n W))] = wyD n W := by
  unfold wyD
  rw [if_neg (by rw [h]; decide)]; rfl
theorem as_parOO {K : PySem.W.Frag} {ρ : List En} {N : List En → Prop} {R : Dt → List En → Prop} {i j : Nat} (n : N ((ρ.set i (.own [])).set j (.own []))) : AS K (tPar i j (tCons (tLst tNil) (tCons (tLst tNil) tNil))) ρ N R := fun B σ G H m D qn qr =>
  ⟨Nat.zero_le _, fun p hp => ⟨Nat.zero_le _, fun p2 hp2 => ⟨.ref p, .ref p2, rfl, qn _ _ G _ ((m.setOwn (l := []) (xs := []) i hp rfl).setOwn (l := []) (xs := []) j hp2 rfl) (fun a o e => e) ((Tr.same (same_up hp)).trans (Tr.same (same_up hp2))) n⟩⟩⟩
theorem rg_snoc {i : Nat} {f : Nat → Dt} : (List.range i).map f ++ [f i] = (List.range (i + 1)).map f := by rw [List.range_succ, List.map_append]; rfl
section
variable {P : Program} {w : World} {K : PySem.W.Frag} {mg : Str → Option Value} {base : Heap}
theorem ok_l_closed (bl : Blts mg) {g_l_zeroed : Addr} {d_l_zeroed : FuncData} (c_l_zeroed : Cal P w K mg base 1 "_law_zeroed" p_l_zeroed (spP K S_ze) g_l_zeroed d_l_zeroed) {g_l_way : Addr} {d_l_way : FuncData} (c_l_way : Cal P w K mg base 6 "_law_way" p_l_way (spP K (S_wy 6)) g_l_way d_l_way)  {f : Addr} {fd : FuncData} (F : Fun K "_law_closed" "_law_closed" s_l_closed f fd) : FnOk P w K mg base CX0 7 f fd p_l_closed (spP K (S_cl)) := by
  refine okP F sc_l_closed (fun ds r h => ?_) (fun cdv A outer s H E hr ds r h => ?_)
  · obtain ⟨n, M, lo, hi, rfl, n5, rfl⟩ := h
    rfl
  obtain ⟨n, M, lo, hi, rfl, n5, rfl⟩ := h
  refine ⟨_, (pss_cons (ps_asg (pe_tup (pa_cons (pe_call c_l_zeroed.ok (hr.mono (by decide)) rfl c_l_zeroed.mg c_l_zeroed.kp c_l_zeroed.bi .nil pass0 (pa_cons (pv 0) (pa_cons (pv 1) pa_nil))) (pa_cons (pe_callB call_len_seq rfl bl.len (by decide +kernel) (pa_cons (pv 1) pa_nil)) pa_nil))) (pg_tup rfl (pgs_cons (pg_name (i := 4) sc_l_closed.nd rfl (by first | exact Or.inl rfl | exact Or.inr rfl)) (pgs_cons (pg_name (i := 5) sc_l_closed.nd rfl (by first | exact Or.inl rfl | exact Or.inr rfl)) pgs_nil))))
    (pss_cons (ps_setLc (i := 2) (own := [("_law_at", 3)]) (g := (gName 3)) (te := (tCall (spP K (S_wy 6)) [] E0 (tCons (tVar 4) (tCons (tVar 3) (tCons (tVar 3) (tCons (tLst (tCons (tVar 3) tNil)) tNil)))))) (tt := tYes) rfl sc_l_closed.nd rfl rfl (sw_true rfl rfl rfl (by decide +kernel)) (pi_range1 rfl bl.range (pa_cons (pe_op op_add (pv 5) pe_int) pa_nil)) (blkOk_by (N := N_l_closed) (sc := defScope s_l_closed) (by decide +kernel)) (fun _ _ _ _ _ => (pg_name (i := 3) sc_l_closed.nd rfl (by first | exact Or.inl rfl | exact Or.inr rfl))) (fun _ _ _ _ _ => pts_nil) (fun _ _ _ _ _ => (pe_call c_l_way.ok (hr.mono (by decide)) rfl c_l_way.mg c_l_way.kp c_l_way.bi .nil pass0 (pa_cons (pv 4) (pa_cons (pv 3) (pa_cons (pv 3) (pa_cons (pe_lst (pa_cons (pv 3) pa_nil)) pa_nil)))))))
    (pss_cons (ps_if (pt_val (pe_callB (cr_any rfl) rfl bl.any (by decide +kernel) (pa_cons (pe_lc (own := [("_law_ring", 9)]) (g := (gName 9)) (te := (tAndV (tOp (fun x y H Q => y = .non ∧ Q (.bl (!decide (x = .non))) H) (tVar 9) (tC .non)) (tOp (rI0 fun i j => .bl (decide (i < j))) (tVar 9) (tC (.int 0))))) (tt := tYes) rfl sc_l_closed.nd (pi_list (pv 2)) (blkOk_by (N := N_l_closed) (sc := defScope s_l_closed) (by decide +kernel)) (fun _ _ _ _ _ => (pg_name (i := 9) sc_l_closed.nd rfl (by first | exact Or.inl rfl | exact Or.inr rfl))) (fun _ _ _ _ _ => pts_nil) (fun _ _ _ _ _ => (pe_and (pe_cmpR op_notN (pv 9) pe_non (nomark _)) (pe_one (pe_cmpR op_lt (pv 9) pe_int (nomark _)))))) pa_nil))) (pss_one (ps_ret pe_non)) pss_nil)
    (pss_cons (ps_par (i := 6) (j := 7) (by rfl) sc_l_closed.nd rfl rfl (by decide) rfl rfl (pa_cons (pe_lst pa_nil) (pa_cons (pe_lst pa_nil) pa_nil)) (by rfl))
    (pss_cons (ps_for PassesOwn.never rfl (pi_range1 rfl bl.range (pa_cons (pv 5) pa_nil)) (pg_name (i := 3) sc_l_closed.nd rfl (by first | exact Or.inl rfl | exact Or.inr rfl)) (pss_cons (ps_expr (pe_bm PySem.F.plainAttrs_list PySem.F.slot_list_append PySem.F.type_list_append mt_append (pv 6) (pa_cons (pe_callTy call_tuple_of rfl bl.tuple (by decide +kernel) (pa_cons (pe_lc (own := [("_law_to", 10)]) (g := (gName 10)) (te := (tIf (tTest (tOp rEq (tVar 3) (tVar 10))) (tC (.int 0)) (tCall (spP K (S_wy 6)) [] E0 (tCons (tVar 4) (tCons (tVar 3) (tCons (tVar 10) (tCons (tLst (tCons (tVar 3) tNil)) tNil))))))) (tt := tYes) rfl sc_l_closed.nd (pi_range1 rfl bl.range (pa_cons (pv 5) pa_nil)) (blkOk_by (N := N_l_closed) (sc := defScope s_l_closed) (by decide +kernel)) (fun _ _ _ _ _ => (pg_name (i := 10) sc_l_closed.nd rfl (by first | exact Or.inl rfl | exact Or.inr rfl))) (fun _ _ _ _ _ => pts_nil) (fun _ _ _ _ _ => (pe_ifExp (pt_cmpR op_eq (pv 3) (pv 10) (nomark _)) pe_int (pe_call c_l_way.ok (hr.mono (by decide)) rfl c_l_way.mg c_l_way.kp c_l_way.bi .nil pass0 (pa_cons (pv 4) (pa_cons (pv 3) (pa_cons (pv 10) (pa_cons (pe_lst (pa_cons (pv 3) pa_nil)) pa_nil)))))))) pa_nil)) pa_nil)))
    (pss_cons (ps_set (i := 8) sc_l_closed.nd rfl (by first | exact Or.inl rfl | exact Or.inr rfl) (pe_call c_l_way.ok (hr.mono (by decide)) rfl c_l_way.mg c_l_way.kp c_l_way.bi .nil pass0 (pa_cons (pv 4) (pa_cons (pv 5) (pa_cons (pv 3) (pa_cons (pe_lst (pa_cons (pv 5) pa_nil)) pa_nil))))))
    (pss_one (ps_expr (pe_bm PySem.F.plainAttrs_list PySem.F.slot_list_append PySem.F.type_list_append mt_append (pv 7) (pa_cons (pe_tup (pa_cons (pe_ifExp (pt_cmpR op_isN (pv 8) pe_non (nomark _)) pe_non (pe_op op_sub pe_int (pv 8))) (pa_cons (pe_call c_l_way.ok (hr.mono (by decide)) rfl c_l_way.mg c_l_way.kp c_l_way.bi .nil pass0 (pa_cons (pv 4) (pa_cons (pv 3) (pa_cons (pv 5) (pa_cons (pe_lst (pa_cons (pv 3) pa_nil)) pa_nil))))) pa_nil))) pa_nil)))))))
    (pss_one (ps_ret (pe_tup (pa_cons (pe_callTy call_tuple_of rfl bl.tuple (by decide +kernel) (pa_cons (pv 6) pa_nil)) (pa_cons (pv 7) pa_nil)))))))))), ?_⟩
  change AS K _ [En.da _, En.da _, En.no, En.no, En.no, En.no, En.no, En.no, En.no, En.no, En.no] _ _
  try simp only [cxOf_K]
  have z9 : 9000 ≤ sizeLine := by decide
  have rg : ∀ k : Nat, (rgD 0 ((k : Nat) : Int).toNat) = (List.range k).map fun i => Dt.int ((i : Nat) : Int) := fun k => by
    unfold rgD
    rw [Int.toNat_natCast]
    exact List.map_congr_left fun i _ => by rw [Int.zero_add]
  have rl : ∀ k : Nat, ((List.range k).map fun i => Dt.int ((i : Nat) : Int)).length = k := fun k => by rw [List.length_map, List.length_range]
  have n6 : n + 1 ≤ 6 := by omega
  have sN : n < n + 1 := by omega
  have pl : ((List.range n).map fun i => Dt.tup [oD (lo i), oD (hi i)]).length = n := by rw [List.length_map, List.length_range]
  refine as_seq (as_asg (ae_tup (aa_cons (ae_call (aa_cons (ae_var rfl (aa_cons (ae_var rfl (aa_nil ⟨_, ⟨n, M, lo, hi, rfl, n5, rfl⟩, ?_⟩)))))))))
  generalize hW : wzM n M lo hi = W
  refine aa_cons (ae_cb (aa_cons (ae_var rfl (aa_nil (ac_len (k := false) (aa_nil ⟨(by show 2 ≤ sizeLine; omega), ag_tup rfl (ags_cons (ag_name (ags_cons (ag_name (ags_nil ?_)))))⟩))))))
  rw [pl]
  show AS K _ [.da (gD true true n M), .da (prsD n lo hi), .no, .no, .da (tbD (n + 1) W), .da (.int ((n : Nat) : Int)), .no, .no, .no, .no, .no] _ _
  refine as_seq (as_set (ae_lcMap (toF fun v => oD (wyR (n + 1) W v)) (ai_rng1 (aa_cons (ae_op (ae_var rfl (ae_int (ar_I0i (aa_nil ⟨_, rfl, (by omega), (by omega), ?_⟩)))))))))
  rw [show (((n : Nat) : Int) + 1) = ((n + 1 : Nat) : Int) by omega, rg]
  refine ⟨by rw [rl]; omega, fun d hd => ?_, ?_⟩
  · obtain ⟨v, hv, rfl⟩ := List.mem_map.mp hd
    have hv := List.mem_range.mp hv
    refine agv_name (by decide) ?_
    refine ae_call (aa_cons (ae_var rfl (aa_cons (ae_var rfl (aa_cons (ae_var rfl (aa_cons (ae_lst (aa_cons (ae_var rfl (aa_nil ⟨(by show 1 ≤ sizeLine; omega), aa_nil ⟨_, wy_call n6 hv hv, ⟨by rw [toF_k]; rfl, rfl⟩⟩⟩)))))))))))
  rw [toF_map]
  show AS K _ [.da (gD true true n M), .da (prsD n lo hi), .da (.lst ((List.range (n + 1)).map fun v => oD (wyR (n + 1) W v))), .no, .da (tbD (n + 1) W), .da (.int ((n : Nat) : Int)), .no, .no, .no, .no, .no] _ _
  refine as_seq (as_if (at_b (ae_cb (aa_cons (ae_lcMap rgF (ai_list (ae_var rfl ⟨_, rfl, (by rw [List.length_map, List.length_range]; omega), fun d hd => ?_, ?_⟩)))))))
  · obtain ⟨v, hv, rfl⟩ := List.mem_map.mp hd
    cases e : wyR (n + 1) W v with
    | none => refine agv_name (by decide) (ae_andV (ae_op (ae_var rfl (ae_non (ar_notN ⟨false, rfl, fun h => absurd (show false = true from h) (by decide), fun _ => ⟨rfl, rfl⟩⟩)))))
    | some x => refine agv_name (by decide) (ae_andV (ae_op (ae_var rfl (ae_non (ar_notN ⟨true, rfl, fun _ => ae_op (ae_var rfl (ae_int (ar_I0b ⟨rfl, rfl⟩))), fun h => absurd (show true = false from h) (by decide)⟩)))))
  rw [show ((List.range (n + 1)).map fun v => oD (wyR (n + 1) W v)).map rgF = ((List.range (n + 1)).map (nbW (n + 1) W)).map Dt.bl by
    rw [List.map_map, List.map_map]; exact List.map_congr_left fun v _ => rgF_is]
  refine aa_nil (ac_any ?_)
  rw [← ng_is]
  refine ⟨_, rfl, fun hb => as_ret (ae_non (by unfold wyD; rw [if_pos hb])), fun hb => as_next ?_⟩
  show AS K _ [.da (gD true true n M), .da (prsD n lo hi), .da (.lst ((List.range (n + 1)).map fun v => oD (wyR (n + 1) W v))), .no, .da (tbD (n + 1) W), .da (.int ((n : Nat) : Int)), .no, .no, .no, .no, .no] _ _
  rw [← wy_end hb]
  generalize Dt.lst ((List.range (n + 1)).map fun v => oD (wyR (n + 1) W v)) = rgs
  have wyO : ∀ i j, i ≠ j → Fw.wyM (n + 1) W i j = Fw.wayM (n + 1) W j (n + 1) i [i] := fun i j c => if_neg c
  refine as_seq (as_parOO ?_)
  refine as_seq (as_for (ai_rng1 (aa_cons (ae_var rfl (aa_nil ⟨_, rfl, (by omega), (by omega), ?_⟩)))))
  rw [rg]
  refine ⟨fun i ρ => ∃ e3 e8, ρ = [.da (gD true true n M), .da (prsD n lo hi), .da rgs, e3, .da (tbD (n + 1) W), .da (.int ((n : Nat) : Int)), .own ((List.range i).map fun i => Dt.tup (rwD n (Fw.wyM (n + 1) W) i)), .own ((List.range i).map (wyP n W)), e8, .no, .no], ⟨.no, .no, rfl⟩, ?_, ?_⟩
  · rintro i d ρ2 hd ⟨e3, e8, rfl⟩
    obtain ⟨hi', rfl⟩ := rg_at hd
    clear hd
    have iN : i < n + 1 := by omega
    refine ag_name (as_seq (as_append ?_ ⟨_, rfl⟩))
    refine ae_cb (aa_cons (ae_lcMap (toF fun j => oD (Fw.wyM (n + 1) W i j)) (ai_rng1 (aa_cons (ae_var rfl (aa_nil ⟨_, rfl, (by omega), (by omega), ?_⟩))))))
    rw [rg]
    refine ⟨by rw [rl]; omega, fun d hd => ?_, ?_⟩
    · obtain ⟨j, hj, rfl⟩ := List.mem_map.mp hd
      have hj := List.mem_range.mp hj
      have jN : j < n + 1 := by omega
      refine agv_name (by decide) (ae_if (at_test (ae_op (ae_var rfl (ae_var rfl ?_)))))
      by_cases c : i = j
      · refine ar_eqT c ⟨true, rfl, fun _ => ae_int ⟨?_, rfl⟩, fun h => absurd (show true = false from h) (by decide)⟩
        rw [toF_k]
        unfold Fw.wyM
        rw [if_pos c, if_pos iN]; rfl
      · refine ar_eqF c ⟨false, rfl, fun h => absurd (show false = true from h) (by decide), fun _ => ?_⟩
        refine ae_call (aa_cons (ae_var rfl (aa_cons (ae_var rfl (aa_cons (ae_var rfl (aa_cons (ae_lst (aa_cons (ae_var rfl (aa_nil ⟨(by show 1 ≤ sizeLine; omega), aa_nil ⟨_, wy_call n6 iN jN, ⟨by rw [toF_k, wyO i j c], rfl⟩⟩⟩)))))))))))
    rw [toF_map, ← rw_rg]
    refine aa_nil (ac_tupL ⟨_, rfl, (by rw [List.length_map, List.length_range]; omega), ?_⟩)
    rw [rg_snoc (f := fun i => Dt.tup (rwD n (Fw.wyM (n + 1) W) i))]
    show AS K _ [.da (gD true true n M), .da (prsD n lo hi), .da rgs, .da (.int ((i : Nat) : Int)), .da (tbD (n + 1) W), .da (.int ((n : Nat) : Int)), .own ((List.range (i + 1)).map fun i => Dt.tup (rwD n (Fw.wyM (n + 1) W) i)), .own ((List.range i).map (wyP n W)), e8, .no, .no] _ _
    refine as_seq (as_set (ae_call (aa_cons (ae_var rfl (aa_cons (ae_var rfl (aa_cons (ae_var rfl (aa_cons (ae_lst (aa_cons (ae_var rfl (aa_nil ⟨(by show 1 ≤ sizeLine; omega), aa_nil ⟨_, wy_call n6 sN iN, ?_⟩⟩)))))))))))))
    rw [← wyO n i (by omega)]
    show AS K _ [.da (gD true true n M), .da (prsD n lo hi), .da rgs, .da (.int ((i : Nat) : Int)), .da (tbD (n + 1) W), .da (.int ((n : Nat) : Int)), .own ((List.range (i + 1)).map fun i => Dt.tup (rwD n (Fw.wyM (n + 1) W) i)), .own ((List.range i).map (wyP n W)), .da (oD (Fw.wyM (n + 1) W n i)), .no, .no] _ _
    have eP : wyP n W i = .tup [oD (ngO (Fw.wyM (n + 1) W n i)), oD (Fw.wayM (n + 1) W n (n + 1) i [i])] := by unfold wyP; rw [wyO i n (by omega)]
    have sn := rg_snoc (i := i) (f := wyP n W)
    rw [eP] at sn
    generalize Fw.wyM (n + 1) W n i = o at sn ⊢
    refine as_append (ae_tup (aa_cons (ae_ifN (i := 8) (o := o) rfl (fun e => ae_non ?_) (fun x e => ?_)))) ⟨_, rfl⟩
    · subst e
      refine aa_cons (ae_call (aa_cons (ae_var rfl (aa_cons (ae_var rfl (aa_cons (ae_var rfl (aa_cons (ae_lst (aa_cons (ae_var rfl (aa_nil ⟨(by show 1 ≤ sizeLine; omega), aa_nil ⟨_, wy_call n6 iN sN, aa_nil ⟨(by show 2 ≤ sizeLine; omega), _, rfl, (by rw [List.length_map, List.length_range]; omega), (.da (.int ((i : Nat) : Int))), (.da (oD none)), ?_⟩⟩⟩))))))))))))
      have sn' : (List.range i).map (wyP n W) ++ [.tup [.non, oD (Fw.wayM (n + 1) W n (n + 1) i [i])]] = _ := sn
      rw [sn']; rfl
    · subst e
      refine ae_op (ae_int (ae_var rfl (ar_I0i ?_)))
      refine aa_cons (ae_call (aa_cons (ae_var rfl (aa_cons (ae_var rfl (aa_cons (ae_var rfl (aa_cons (ae_lst (aa_cons (ae_var rfl (aa_nil ⟨(by show 1 ≤ sizeLine; omega), aa_nil ⟨_, wy_call n6 iN sN, aa_nil ⟨(by show 2 ≤ sizeLine; omega), _, rfl, (by rw [List.length_map, List.length_range]; omega), (.da (.int ((i : Nat) : Int))), (.da (oD (some x))), ?_⟩⟩⟩))))))))))))
      have sn' : (List.range i).map (wyP n W) ++ [.tup [.int (-x), oD (Fw.wayM (n + 1) W n (n + 1) i [i])]] = _ := sn
      rw [Int.zero_sub, sn']; rfl
  · rintro ρ ⟨e3, e8, rfl⟩
    rw [rl]
    refine as_ret (ae_tup (aa_cons (ae_cb (aa_cons (ae_frz (i := 6) rfl (ae_var rfl (aa_nil (ac_tupL (aa_cons (ae_frz (i := 7) rfl (ae_var rfl (aa_nil ⟨(by show 2 ≤ sizeLine; omega), rfl⟩))))))))))))
end
end Sh
set_option Elab.async false
set_option linter.all false
set_option maxRecDepth 100000
set_option maxHeartbeats 4000000
/-! gaps_closed answers with objects that did not stand before -/
namespace Sh
open PySem PySem.Spec PyProof.Rows L2
def spPn (K : PySem.W.Frag) (S : List Dt → Dt → Prop) : Sp := fun vs H Q _ => ∃ G ds r, Same G H ∧ RDs K G ds vs ∧ S ds r ∧ ∀ v G' H', Same H H' → Same G' H' → (∀ a, H a ≠ none → G' a = none) → RD K G' r v → Q v H'
def AN (K : PySem.W.Frag) (t : TS) (ρ : List En) (r : Dt) : Prop := ∀ B σ G H, (∀ a, H a ≠ none → G a = none → B a) → Mt K B ρ σ G H → ∀ D : Ends, (∀ v G' H', Same H H' → Same G' H' → (∀ a, H a ≠ none → G' a = none) → RD K G' r v → D.rt v H') → t D σ H
theorem sm_all {B : Addr → Prop} {G H G' H' : Hp} (hB : ∀ a, H a ≠ none → G a = none → B a) (sm : Same G H) (s : Same G G') (sub : Same G' H') (t : Tr B H H') : Same H H' := fun a o e => by
  cases z : G a with
  | none => exact t a o (hB a (some_ne e) z) e
  | some o' => rw [sm _ _ z] at e; cases e; exact sub _ _ (s _ _ z)
def unG (G G' : Hp) : Hp := fun a => match G a with | some o => some o | none => G' a
theorem un_l {G G' : Hp} : Same G (unG G G') := fun a o e => by unfold unG; rw [e]
theorem un_r {G G' H : Hp} (sm : Same G H) (fr : ∀ a, H a ≠ none → G' a = none) : Same G' (unG G G') := fun a o e => by
  unfold unG
  cases z : G a with
  | none => exact e
  | some o' => rw [fr a (some_ne (sm _ _ z))] at e; cases e
theorem un_nw {G G' H H' : Hp} (sm : Same G H) (sh : Same H H') (sg : Same G' H') (fr : ∀ a, H a ≠ none → G' a = none) : Nw G H (unG G G') H' :=
  ⟨un_l, fun a o e => by
    unfold unG at e
    cases z : G a with
    | none => rw [z] at e; exact sg _ _ e
    | some o' => rw [z] at e; cases e; exact sh _ _ (sm _ _ z), sh, fun a h1 h2 => by unfold unG; rw [h1]; exact fr a h2⟩
section
variable {P : Program} {w : World} {K : PySem.W.Frag} {mg : Str → Option Value} {base : Heap}
theorem oldP {S : List Dt → Dt → Prop} {f : Addr} {fd : FuncData} {k : Nat} {ps : List Str} (C : FnOk P w K mg base CX0 k f fd ps (spPn K S)) : FnOk P w K mg base CX0 k f fd ps (spP K S) := C.imp fun vs H Q E h => by
  obtain ⟨G, ds, r, sm, rd, hs, q⟩ := h
  exact ⟨G, ds, r, sm, rd, hs, fun v G' H' sh sg fr rv => q v _ H' (un_nw sm sh sg fr) (rv.same (un_r sm fr))⟩
theorem okN {x qual : Str} {st : Stmt} {f : Addr} {fd : FuncData} {N ps : List Str} {k : Nat} {S : List Dt → Dt → Prop} (F : Fun K x qual st f fd) (sc : FnScope N ps (defScope st)) (len : ∀ ds r, S ds r → ds.length = ps.length)
    (body : ∀ (cdv : Value) (A : Around) (outer : List Env) (s : Shared) (H : Hp) (E : XK), Room k (A.deeper (envOfC qual (defScope st) s.heap.objs.size f cdv)) → ∀ ds r, S ds r →
      ∃ t, PSs (cxOf CX0 P w K mg base N qual (defScope st) f cdv A outer s H E).nox (defBody st) t ∧ AN K t (env0 N ds) r) : FnOk P w K mg base CX0 (k + 1) f fd ps (spPn K S) := by
  refine F.ok sc (fun vs H Q E h => ?_) (fun cdv A outer s H vs Q E hr h => ?_)
  · obtain ⟨G, ds, r, s, rd, hs, _⟩ := h
    rw [rd.length]; exact len ds r hs
  · obtain ⟨G, ds, r, sm, rd, hs, q⟩ := h
    obtain ⟨t, ht, ha⟩ := body cdv A outer s H E hr ds r hs
    exact ⟨t, ht, ha _ _ G H (fun a h1 h2 => ⟨h1, h2⟩) (mt_start sm rd) _ q⟩
end
theorem an_grid {K : PySem.W.Frag} {n : Nat} {d1 d2 r : Dt} {g : Mx} {lo hi : Nat → Option Int} {s1 rest : TS} (w : WzD d1 d2 n g lo hi) (n99 : n ≤ 99)
    (hs : AS K s1 [.da d1, .da d2, .no, .no, .no, .no] (fun ρ => ρ = [.da d1, .da d2, .da (.int ((n : Nat) : Int)), .no, .no, .no]) (fun _ _ => False))
    (h : AS K rest [.no, .no, .da (.int ((n : Nat) : Int)), .da (.lst (grD (n + 1) (Fw.fwM (n + 1) (wzM n g lo hi)))), .no, .no] (fun _ => False) (fun d _ => d = r)) :
    AN K (tSeq s1 (tSeq (tAsg (tCall (spWz K) [] E0 (tCons (tVar 0) (tCons (tVar 1) tNil))) (gName 3)) (tSeq (tDrop (tCall (spShorten K) [] E0 (tCons (tVar 3) tNil))) rest))) [.da d1, .da d2, .no, .no, .no, .no] r := fun B σ G H hB m D q => by
  refine hs B σ G H m { D with nx := _ } (fun σ1 ρ1 G1 H1 m1 s1 t1 e => ?_) (fun v d σ' ρ' G' H' m' s' t' rv e => e.elim)
  subst e
  have sh1 : Same H H1 := sm_all hB m.sub s1 m1.sub t1
  obtain ⟨x, x1, rx⟩ := m1.da 0 d1 rfl
  obtain ⟨y, y1, ry⟩ := m1.da 1 d2 rfl
  obtain ⟨z, z1, rz⟩ := m1.da 2 _ rfl
  obtain ⟨a, b, rfl, rfl, wi⟩ := wz_in (K := K) m1.sub w rx ry
  refine ⟨_, x1, _, y1, a, b, n, g, lo, hi, rfl, wi, n99, fun a' rs H2 gr na nr s2 => ?_⟩
  have lw : 3 < σ1.length := by rw [m1.len]; show 3 < 6; decide
  refine ⟨_, List.getElem?_set_self lw, a', rs, n + 1, _, rfl, gr, by omega, fun H3 gr2 k2 => ?_⟩
  have s3 : Same H1 H3 := fun c o e => k2 c o (fun hc => by rw [nr _ hc] at e; cases e) (s2 _ _ e)
  obtain ⟨G3, nw, rd⟩ := gr_nw (K := K) (G := fun _ => none) (fun _ _ e => by cases e) s3 gr2 na nr
  have mm : Mt K (fun a => H3 a ≠ none ∧ G3 a = none) [.no, .no, .da (.int ((n : Nat) : Int)), .da (.lst (grD (n + 1) (Fw.fwM (n + 1) (wzM n g lo hi)))), .no, .no] (σ1.set 3 (some (.ref a'))) G3 H3 := by
    refine ⟨nw.s, fun a h => ⟨h.2, h.1⟩, by rw [List.length_set]; exact m1.len, fun i d e => ?_, fun i l e => ?_, fun i b f e => ?_, fun i j e e' a h1 h2 o1 o2 ne q1 q2 => ?_⟩
    · match i, e with
      | 2, e => cases e; exact ⟨z, by rw [List.getElem?_set_ne (by decide)]; exact z1, rz⟩
      | 3, e => cases e; exact ⟨_, List.getElem?_set_self lw, rd⟩
      | 0, e => cases e
      | 1, e => cases e
      | 4, e => cases e
      | 5, e => cases e
      | i + 6, e => cases (show (none : Option En) = _ from e)
    · match i, e with
      | 0, e => cases e
      | 1, e => cases e
      | 2, e => cases e
      | 3, e => cases e
      | 4, e => cases e
      | 5, e => cases e
      | i + 6, e => cases (show (none : Option En) = _ from e)
    · match i, e with
      | 0, e => cases e
      | 1, e => cases e
      | 2, e => cases e
      | 3, e => cases e
      | 4, e => cases e
      | 5, e => cases e
      | i + 6, e => cases (show (none : Option En) = _ from e)
    · match i, h1 with
      | 0, h1 => cases h1; exact o1.elim
      | 1, h1 => cases h1; exact o1.elim
      | 2, h1 => cases h1; exact o1.elim
      | 3, h1 => cases h1; exact o1.elim
      | 4, h1 => cases h1; exact o1.elim
      | 5, h1 => cases h1; exact o1.elim
      | i + 6, h1 => cases (show (none : Option En) = _ from h1)
  refine h _ _ G3 H3 mm D (fun σ' ρ' G' H' m' s' t' e => e.elim) (fun v d σ' ρ' G' H' m' s' t' rv e => ?_)
  subst e
  refine q v G' H' ((sh1.trans s3).trans (sm_all (fun a h1 h2 => ⟨h1, h2⟩) nw.s s' m'.sub t')) m'.sub (fun a ha => ?_) rv
  have h1 : H1 a ≠ none := ne_none sh1 ha
  exact (m'.pro a ⟨ne_none s3 h1, nw.f a rfl h1⟩).1
section
variable {P : Program} {w : World} {K : PySem.W.Frag} {mg : Str → Option Value} {base : Heap}
theorem ok_gapsN (bl : Blts mg) {g_with_zero : Addr} {d_with_zero : FuncData} (c_with_zero : Cal P w K mg base 2 "with_zero" p_with_zero (spWz K) g_with_zero d_with_zero) {g_shorten : Addr} {d_shorten : FuncData} (c_shorten : Cal P w K mg base 1 "shorten" p_shorten (spShorten K) g_shorten d_shorten) {g_opposite : Addr} {d_opposite : FuncData} (c_opposite : Cal P w K mg base 1 "opposite" p_opposite (spP K S_ng) g_opposite d_opposite)  {f : Addr} {fd : FuncData} (F : Fun K "gaps_closed" "gaps_closed" s_gaps_closed f fd) : FnOk P w K mg base CX0 3 f fd p_gaps_closed (spPn K (S_gc)) := by
  refine okN F sc_gaps_closed (fun ds r h => ?_) (fun cdv A outer s H E hr ds r h => ?_)
  · obtain ⟨d1, d2, n, g, lo, hi, rfl, hw, n98, hg, rfl⟩ := h
    rfl
  obtain ⟨d1, d2, n, g, lo, hi, rfl, hw, n98, hg, rfl⟩ := h
  refine ⟨_, (pss_cons (ps_set (i := 2) sc_gaps_closed.nd rfl (by first | exact Or.inl rfl | exact Or.inr rfl) (pe_callB call_len_seq rfl bl.len (by decide +kernel) (pa_cons (pv 1) pa_nil)))
    (pss_cons (ps_set (i := 3) sc_gaps_closed.nd rfl (by first | exact Or.inl rfl | exact Or.inr rfl) (pe_call c_with_zero.ok (hr.mono (by decide)) rfl c_with_zero.mg c_with_zero.kp c_with_zero.bi .nil pass0 (pa_cons (pv 0) (pa_cons (pv 1) pa_nil))))
    (pss_cons (ps_expr (pe_call c_shorten.ok (hr.mono (by decide)) rfl c_shorten.mg c_shorten.kp c_shorten.bi .nil pass0 (pa_cons (pv 3) pa_nil)))
    (pss_cons (ps_if (pt_val (pe_callB (cr_any rfl) rfl bl.any (by decide +kernel) (pa_cons (pe_lc (own := [("i", 5)]) (g := (gName 5)) (te := (tOp (rI0 fun i j => .bl (decide (i < j))) (tOp (rIxL K) (tOp (rIxL K) (tVar 3) (tVar 5)) (tVar 5)) (tC (.int 0)))) (tt := tYes) rfl sc_gaps_closed.nd (pi_range1 rfl bl.range (pa_cons (pe_op op_add (pv 2) pe_int) pa_nil)) (blkOk_by (N := N_gaps_closed) (sc := defScope s_gaps_closed) (by decide +kernel)) (fun _ _ _ _ _ => (pg_name (i := 5) sc_gaps_closed.nd rfl (by first | exact Or.inl rfl | exact Or.inr rfl))) (fun _ _ _ _ _ => pts_nil) (fun _ _ _ _ _ => (pe_cmpR op_lt (pe_ix ix_list (pe_ix ix_list (pv 3) (pv 5) (fun _ _ => rfl)) (pv 5) (fun _ _ => rfl)) pe_int (nomark _)))) pa_nil))) (pss_one (ps_ret pe_non)) pss_nil)
    (pss_cons (ps_set (i := 4) sc_gaps_closed.nd rfl (by first | exact Or.inl rfl | exact Or.inr rfl) (pe_callTy call_tuple_of rfl bl.tuple (by decide +kernel) (pa_cons (pe_lc (own := [("i", 5)]) (g := (gName 5)) (te := (tCB (fun xs H Q => ∃ p ys, xs = [.ref p] ∧ ((SqL K H p ys ∧ ∀ l, H l = none → Q (.ref l) (upd H l (.tup ys))) ∨ (SqT K H p ys ∧ Q (.ref p) H))) (tCons (tSl (rSlL K) (tOp (rIxL K) (tVar 3) (tVar 5)) tNoPart (tPart (tVar 2))) tNil))) (tt := tYes) rfl sc_gaps_closed.nd (pi_range1 rfl bl.range (pa_cons (pv 2) pa_nil)) (blkOk_by (N := N_gaps_closed) (sc := defScope s_gaps_closed) (by decide +kernel)) (fun _ _ _ _ _ => (pg_name (i := 5) sc_gaps_closed.nd rfl (by first | exact Or.inl rfl | exact Or.inr rfl))) (fun _ _ _ _ _ => pts_nil) (fun _ _ _ _ _ => (pe_callTy call_tuple_of rfl bl.tuple (by decide +kernel) (pa_cons (pe_slice sl_list (pe_ix ix_list (pv 3) (pv 5) (fun _ _ => rfl)) po_none (po_some (pv 2))) pa_nil)))) pa_nil)))
    (pss_one (ps_ret (pe_tup (pa_cons (pv 4) (pa_cons (pe_lc (own := [("i", 5)]) (g := (gName 5)) (te := (tTup (tCons (tCall (spP K S_ng) [] E0 (tCons (tOp (rIxL K) (tOp (rIxL K) (tVar 3) (tVar 2)) (tVar 5)) tNil)) (tCons (tOp (rIxL K) (tOp (rIxL K) (tVar 3) (tVar 5)) (tVar 2)) tNil)))) (tt := tYes) rfl sc_gaps_closed.nd (pi_range1 rfl bl.range (pa_cons (pv 2) pa_nil)) (blkOk_by (N := N_gaps_closed) (sc := defScope s_gaps_closed) (by decide +kernel)) (fun _ _ _ _ _ => (pg_name (i := 5) sc_gaps_closed.nd rfl (by first | exact Or.inl rfl | exact Or.inr rfl))) (fun _ _ _ _ _ => pts_nil) (fun _ _ _ _ _ => (pe_tup (pa_cons (pe_call c_opposite.ok (hr.mono (by decide)) rfl c_opposite.mg c_opposite.kp c_opposite.bi .nil pass0 (pa_cons (pe_ix ix_list (pe_ix ix_list (pv 3) (pv 2) (fun _ _ => rfl)) (pv 5) (fun _ _ => rfl)) pa_nil)) (pa_cons (pe_ix ix_list (pe_ix ix_list (pv 3) (pv 5) (fun _ _ => rfl)) (pv 2) (fun _ _ => rfl)) pa_nil))))) pa_nil)))))))))), ?_⟩
  change AN K _ [En.da _, En.da _, En.no, En.no, En.no, En.no] _
  try simp only [cxOf_K]
  obtain ⟨k1, k2, l, m, rfl, rfl, ll, lm, f1, f2⟩ := id hw
  refine an_grid hw (by omega) (as_set (ae_cb (aa_cons (ae_var rfl (aa_nil (ac_len (by rw [lm]; rfl))))))) ?_
  have dgs := fun {i : Nat} (h : i < n + 1) => wz_dg (lo := lo) (hi := hi) hg h
  generalize Fw.fwM (n + 1) (wzM n g lo hi) = M at dgs ⊢
  have rg : ∀ k : Nat, (rgD 0 ((k : Nat) : Int).toNat) = (List.range k).map fun i => Dt.int ((i : Nat) : Int) := fun k => by
    unfold rgD
    rw [Int.toNat_natCast]
    exact List.map_congr_left fun i _ => by rw [Int.zero_add]
  have z9 : 1000 ≤ sizeLine := by decide
  have rl : ∀ k : Nat, ((List.range k).map fun i => Dt.int ((i : Nat) : Int)).length = k := fun k => by rw [List.length_map, List.length_range]
  refine as_seq (as_if (at_b (ae_cb (aa_cons (ae_lcMap (toF fun i => .bl (ngB M i)) ?_)))))
  repeat' (first
    | (refine ai_rng1 ?_)
    | (refine ⟨_, rfl, by omega, by omega, ?_⟩)
    | (rw [show (((n : Nat) : Int) + 1) = ((n + 1 : Nat) : Int) by omega, rg]; refine ⟨by rw [rl]; omega, fun d hd => ?_, ?_⟩)
    | (obtain ⟨k, hk, rfl⟩ := List.mem_map.mp hd; clear hd; have hk := List.mem_range.mp hk; refine agv_name (by decide) ?_)
    | (refine ar_ixL (atI_nat (grD_at (by omega))) ?_)
    | (refine ar_ixL (atI_nat (rwD_at (by omega))) ?_)
    | (obtain ⟨x, hx⟩ := dgs hk; rw [hx])
    | exact ⟨by rw [toF_k, ngB_of hx], rfl⟩
    | ((with_reducible apply ae_var); · rfl)
    | with_reducible apply ae_int
    | with_reducible apply ae_op
    | with_reducible apply aa_nil
    | with_reducible apply aa_cons
    | with_reducible apply ar_I0i
    | with_reducible apply ar_I0b
    | simp only [oD_some, oD_none]
    | fail)
  rw [toF_map, show (List.range (n + 1)).map (fun i => Dt.bl (ngB M i)) = ((List.range (n + 1)).map (ngB M)).map Dt.bl by rw [List.map_map]; rfl]
  refine ac_any ?_
  rw [show ((List.range (n + 1)).map (ngB M)).any id = (List.range (n + 1)).any (ngB M) by rw [List.any_map]; rfl]
  refine ⟨_, rfl, fun hb => ?_, fun hb => ?_⟩
  · refine as_ret (ae_non ?_)
    unfold gcD; rw [if_pos hb]
  · have e : gcD n M = .tup [clD n M, prD n M] := by unfold gcD; rw [if_neg (by rw [hb]; decide)]
    rw [e]
    refine as_next ?_
    repeat' (first
      | (with_reducible refine ae_lcMap (te := tTup _) (toF fun i => .tup [oD (ngO (M n i)), oD (M i n)]) ?_)
      | (with_reducible refine ae_lcMap (toF fun i => .tup ((rwD (n + 1) M i).take n)) ?_)
      | (refine ai_rng1 ?_)
      | (refine ⟨_, rfl, by omega, by omega, ?_⟩)
      | (rw [rg]; refine ⟨by rw [rl]; omega, fun d hd => ?_, ?_⟩)
      | (obtain ⟨k, hk, rfl⟩ := List.mem_map.mp hd; clear hd; have hk := List.mem_range.mp hk; refine agv_name (by decide) ?_)
      | (refine ar_ixL (atI_nat (grD_at (by omega))) ?_)
      | (refine ar_ixL (atI_nat (rwD_at (by omega))) ?_)
      | with_reducible apply ae_call
      | (refine ⟨_, ⟨_, rfl, rfl⟩, ?_⟩)
      | with_reducible apply ae_slD
      | (refine ao_none ?_)
      | with_reducible apply ao_some
      | exact ⟨by rw [toF_k, cutD_to], rfl⟩
      | exact ⟨by rw [toF_k], rfl⟩
      | rw [toF_map]
      | with_reducible apply as_seq
      | with_reducible apply as_ret
      | with_reducible apply as_set
      | ((with_reducible apply ae_var); · rfl)
      | with_reducible apply ae_op
      | with_reducible apply aa_nil
      | with_reducible apply aa_cons
      | with_reducible apply ae_cb
      | with_reducible apply ae_tup
      | with_reducible apply ac_tupL
      | refine ⟨sz60 (Nat.le_of_ble_eq_true rfl), ?_⟩
      | refine ⟨_, rfl, ?_⟩
      | rfl
      | fail)
end
end Sh
set_option Elab.async false
set_option linter.all false
set_option maxRecDepth 100000
set_option maxHeartbeats 4000000
/-! an answer's own list is changed in place; what stood before the call stays data -/
namespace Sh
open PySem PySem.Spec PyProof.Rows L2
theorem as_more {K : PySem.W.Frag} {ρ : List En} {N : List En → Prop} {R : Dt → List En → Prop} {te2 : TE} {c2 : TT} {tr rest : TS} {d1 d2 r0 r1 : Dt}
    (e4 : ρ[4]? = some (.da d1)) (e5 : ρ[5]? = some (.da d2)) (e6 : ρ[6]? = some (.da r0)) (l3 : 3 < ρ.length) (no : ∀ (i : Nat) (l : List Dt), ρ[i]? ≠ some (.own l))
    (hS : S_gc [d1, d2] r0) (h0 : r0 = .non ∨ ∃ x l, r0 = .tup [x, .lst l] ∧ l.length < sizeLine)
    (h2 : AE K te2 ρ fun d ρ1 => d = r1 ∧ ρ1 = ρ)
    (hc : AT K c2 (ρ.set 3 (.da (.lst [r0, r1]))) fun b ρ1 => b = false ∧ ρ1 = ρ.set 3 (.da (.lst [r0, r1])))
    (h : AS K rest (ρ.set 3 .no) N R) :
    AS K (tSeq (tAsg (tLst (tCons (tCall (spPn K S_gc) [] E0 (tCons (tVar 4) (tCons (tVar 5) tNil))) (tCons te2 tNil))) (gName 3)) (tSeq (tIfS c2 tr tNext) (tSeq (tIfS (tTest (tOp (fun x y H Q => y = .non ∧ Q (.bl (!decide (x = .non))) H) (tVar 6) (tC .non))) (tDrop (tBM K "list" rAppend (tOp (rIx K) (tOp (rIxL K) (tVar 3) (tC (.int 0))) (tC (.int 1))) (tCons (tC (.str "more")) tNil))) tNext) rest))) ρ N R := fun B σ G H m D qn qr => by
  obtain ⟨x4, y4, rd4⟩ := m.da 4 d1 e4
  obtain ⟨x5, y5, rd5⟩ := m.da 5 d2 e5
  obtain ⟨x6, y6, rd6⟩ := m.da 6 r0 e6
  have l3' : 3 < σ.length := by rw [m.len]; exact l3
  refine ⟨x4, y4, x5, y5, G, [d1, d2], r0, m.sub, ⟨x4, _, rfl, rd4, x5, _, rfl, rd5, rfl⟩, hS, fun v0 G1 H1 sh1 sg1 fr rv0 => ?_⟩
  have nw1 := un_nw m.sub sh1 sg1 fr
  have rv0' : RD K (unG G G1) r0 v0 := rv0.same (un_r m.sub fr)
  refine h2 B σ _ H1 (m.nw nw1) _ fun v2 dd ρ2 G2 H2 m2 s2 t2 r2 ⟨ed, er⟩ => ?_
  rw [er] at m2
  rw [ed] at r2
  refine ⟨(by show 2 ≤ sizeLine; decide), fun p hp => ?_⟩
  have n3 := Nw.new (o := .lst [v0, v2]) m2.sub hp
  have m3 := (m2.nw n3).set 3 (d := .lst [r0, r1]) (v := .ref p) ⟨p, _, rfl, upd_same, ⟨v0, _, rfl, (rv0'.same s2).same n3.g, v2, _, rfl, r2.same n3.g, rfl⟩⟩
  refine hc B _ _ _ m3 _ fun b ρ4 G4 H4 m4 s4 t4 ⟨eb, er4⟩ => ?_
  rw [er4] at m4
  subst eb
  rw [if_neg (by decide)]
  have sU : Same (unG G G1) G4 := s2.trans (n3.g.trans s4)
  have sG : Same G G4 := un_l.trans sU
  have sH : Same G1 H4 := ((un_r m.sub fr).trans sU).trans m4.sub
  have tr4 : Tr B H H4 := (Tr.same sh1).trans (t2.trans ((Tr.same n3.h).trans t4))
  have hp4 : H4 p = some (.lst [v0, v2]) := m4.sub _ _ (s4 _ _ upd_same)
  have mno : ∀ H5 : Hp, Same G H5 → (∀ a, H4 a ≠ none → H5 a ≠ none) → (∀ b o, H b ≠ none → H4 b = some o → H5 b = some o) → Mt K B (ρ.set 3 .no) (σ.set 3 (some (.ref p))) G H5 := fun H5 g1 g2 g3 => by
    refine ⟨g1, fun a ba => ⟨(m.pro a ba).1, g2 a (m4.pro a ba).2⟩, by rw [List.length_set, List.length_set]; exact m.len, fun i d e => ?_, fun i l e => ?_, fun i b f e => ?_, fun i j e e' a q1 q2 o1 o2 ne z1 z2 => ?_⟩
    · rcases get_set e with ⟨_, z, _⟩ | ⟨ne, z⟩
      · cases z
      · obtain ⟨v, a1, a2⟩ := m.da i d z
        exact ⟨v, by rw [set_off ne]; exact a1, a2⟩
    · rcases get_set e with ⟨_, z, _⟩ | ⟨ne, z⟩
      · cases z
      · exact absurd z (no i l)
    · rcases get_set e with ⟨_, z, _⟩ | ⟨ne, z⟩
      · cases z
      · obtain ⟨y, c, a1, ⟨x, a2, a2'⟩, a3, a4, a5, a6⟩ := m4.bx i b f (by rw [set_off ne]; exact z)
        obtain ⟨_, _, _, b2, _, _, b5, _⟩ := m.bx i b f z
        exact ⟨y, c, a1, ⟨x, g3 _ _ b2.ne a2, a2'⟩, a3, a4, b5, a6⟩
    · rcases get_set q1 with ⟨_, z, _⟩ | ⟨n1, w1⟩
      · rw [z] at o1; exact o1.elim
      · rcases get_set q2 with ⟨_, z, _⟩ | ⟨n2, w2⟩
        · rw [z] at o2; exact o2.elim
        · exact m4.dis i j e e' a (by rw [set_off n1]; exact w1) (by rw [set_off n2]; exact w2) o1 o2 ne z1 z2
  refine ⟨x6, (by rw [set_off (by decide)]; exact y6), rfl, _, rfl, ?_⟩
  rcases h0 with h0 | ⟨x, l, h0, hl⟩
  · subst h0
    have : x6 = .non := rd6
    subst this
    rw [if_neg (by decide)]
    exact h B _ G H4 (mno H4 (sG.trans m4.sub) (fun _ z => z) (fun _ _ _ z => z)) D (fun σ' ρ' G' H' m' s' t' n => qn σ' ρ' G' H' m' s' (tr4.trans t') n) (fun v d σ' ρ' G' H' m' s' t' rv n => qr v d σ' ρ' G' H' m' s' (tr4.trans t') rv n)
  · subst h0
    obtain ⟨a6, xs6, rfl, _⟩ := rd6
    rw [if_pos (by simp)]
    obtain ⟨t, xs, rfl, ht, vx, r, rfl, _, vl, r', rfl, ⟨q, ys, rfl, hq, hys⟩, rfl⟩ := rv0
    have hq4 : H4 q = some (.lst ys) := sH _ _ hq
    have ht4 : SqT K H4 t [vx, .ref q] := same_sqT sH ht
    have Hq : H q = none := by
      apply Classical.byContradiction
      intro z
      rw [fr q z] at hq; cases hq
    have l3s : (σ.set 3 (some (V.ref p)))[3]? = some (some (V.ref p)) := List.getElem?_set_self l3'
    refine ⟨_, l3s, p, _, 0, _, rfl, rfl, SqL.of hp4, rfl, ?_⟩
    refine ix_pair (k := true) (i := 1) ht4 (.inr ⟨rfl, rfl⟩) ?_
    refine ⟨.inl ⟨rfl, _, SqL.of hq4⟩, ?_⟩
    refine ⟨q, ys, .str "more", rfl, rfl, hq4, by rw [hys.length]; exact hl, ?_⟩
    have tr5 : Tr B H (upd H4 q (.lst (ys ++ [.str "more"]))) := fun a o ba e => by
      rw [upd_ne (fun w => by rw [w, Hq] at e; cases e)]
      exact tr4 a o ba e
    refine h B _ G _ (mno _ (fun a o e => ?_) (fun a z => ?_) (fun b o hb e => ?_)) D (fun σ' ρ' G' H' m' s' t' n => qn σ' ρ' G' H' m' s' (tr5.trans t') n) (fun v d σ' ρ' G' H' m' s' t' rv n => qr v d σ' ρ' G' H' m' s' (tr5.trans t') rv n)
    · rw [upd_ne (fun w => by have := m.sub _ _ e; rw [w, Hq] at this; cases this)]
      exact m4.sub _ _ (sG _ _ e)
    · by_cases w : a = q
      · subst w; rw [upd_same]; exact fun z => by cases z
      · rw [upd_ne w]; exact z
    · rw [upd_ne (fun w => by rw [w] at hb; exact hb Hq)]; exact e
end Sh
set_option Elab.async false
set_option linter.all false
set_option maxRecDepth 100000
set_option maxHeartbeats 4000000
/-! repr of data: what it takes, how long it gets; a def that may ask for it -/
namespace Sh
open PySem PySem.Spec PyProof.Rows L2
mutual
def Dt.okR : Dt → Bool
  | .non => true | .bl _ => true
  | .int i => decide (i.natAbs.log2 < 1920)
  | .tup l => okRs l | .lst l => okRs l
  | _ => false
def okRs : List Dt → Bool
  | [] => true
  | d :: l => d.okR && okRs l
end
mutual
def Dt.rl : Dt → Nat
  | .int _ => 1921
  | .tup l => rls l + 3 | .lst l => rls l + 3
  | _ => 5
def rls : List Dt → Nat
  | [] => 0
  | d :: l => d.rl + 2 + rls l
end
mutual
def Dt.hgt : Dt → Nat
  | .tup l => hgts l + 1 | .lst l => hgts l + 1
  | _ => 0
def hgts : List Dt → Nat
  | [] => 0
  | d :: l => max d.hgt (hgts l)
end
theorem tuple_len (ts : List Str) : (tupleText ts).length ≤ piled ts + 3 := by
  unfold tupleText
  by_cases h : ts = []
  · subst h; decide
  · have := join_length_add ts h
    rw [Str.length_append, Str.length_append]
    have e1 : ("(" : Str).length = 1 := rfl
    have e2 : (if ts.length == 1 then ",)" else ")" : String) = ",)" ∨ (if ts.length == 1 then ",)" else ")" : String) = ")" := by split <;> simp
    rcases e2 with e2 | e2
    · rw [e2]; have : (Str.ofString ",)").length = 2 := rfl; show ("(" : Str).length + (Str.join ", " ts).length + (Str.ofString ",)").length ≤ _; omega
    · rw [e2]; have : (Str.ofString ")").length = 1 := rfl; show ("(" : Str).length + (Str.join ", " ts).length + (Str.ofString ")").length ≤ _; omega
theorem from_len : ∀ (ts : List Str) (k : Nat) (acc : Str), (textFrom k acc ts).length ≤ acc.length + piled ts
  | [], k, acc => by show acc.length ≤ _; omega
  | t :: ts, k, acc => by
    have h := from_len ts (k + 1) (acc ++ (if k > 0 then ", " else "" : String) ++ t)
    rw [piled_cons]
    rw [Str.length_append, Str.length_append] at h
    have e : (Str.ofString (if k > 0 then ", " else "" : String)).length ≤ 2 := by split <;> decide
    show (textFrom (k + 1) (acc ++ (if k > 0 then ", " else "" : String) ++ t) ts).length ≤ _
    have h' : (textFrom (k + 1) (acc ++ (if k > 0 then ", " else "" : String) ++ t) ts).length ≤ acc.length + (Str.ofString (if k > 0 then ", " else "" : String)).length + t.length + piled ts := h
    omega
theorem list_len (ts : List Str) : (listText ts).length ≤ piled ts + 2 := by
  unfold listText
  rw [Str.length_append]
  have := from_len ts 0 "["
  have e1 : ("[" : Str).length = 1 := rfl
  have e2 : ("]" : Str).length = 1 := rfl
  omega
mutual
theorem shown_len : ∀ d : Dt, d.okR = true → d.pd.shown.length ≤ d.rl
  | .non, _ => by show ("None" : Str).length ≤ 5; decide +kernel
  | .bl true, _ => by show ("True" : Str).length ≤ 5; decide +kernel
  | .bl false, _ => by show ("False" : Str).length ≤ 5; decide +kernel
  | .int i, h => int_text_len_1921 (of_decide_eq_true h)
  | .tup l, h => by
    have h1 := showns_len l h
    have h2 := tuple_len (PyData.shownAll (pds l))
    show (tupleText (PyData.shownAll (pds l))).length ≤ rls l + 3
    omega
  | .lst l, h => by
    have h1 := showns_len l h
    have h2 := list_len (PyData.shownAll (pds l))
    show (listText (PyData.shownAll (pds l))).length ≤ rls l + 3
    omega
theorem showns_len : ∀ l : List Dt, okRs l = true → piled (PyData.shownAll (pds l)) ≤ rls l
  | [], _ => Nat.le_refl _
  | d :: l, h => by
    have h' : (d.okR && okRs l) = true := h
    rw [Bool.and_eq_true] at h'
    have h1 := shown_len d h'.1
    have h2 := showns_len l h'.2
    show piled (d.pd.shown :: PyData.shownAll (pds l)) ≤ d.rl + 2 + rls l
    rw [piled_cons]
    omega
end
mutual
theorem lay_okR : ∀ d : Dt, d.okR = true → d.pd.canLay0 = true ∧ d.pd.showable = true ∧ d.pl = true ∧ d.pd.depth ≤ d.hgt
  | .non, _ => ⟨rfl, rfl, rfl, Nat.le_refl _⟩
  | .bl _, _ => ⟨rfl, rfl, rfl, Nat.le_refl _⟩
  | .int i, h => ⟨rfl, h, rfl, Nat.le_refl _⟩
  | .tup l, h => by
    obtain ⟨a, b, c, e⟩ := lays_okR l h
    exact ⟨a, b, c, Nat.succ_le_succ e⟩
  | .lst l, h => by
    obtain ⟨a, b, c, e⟩ := lays_okR l h
    exact ⟨a, b, c, Nat.succ_le_succ e⟩
theorem lays_okR : ∀ l : List Dt, okRs l = true → PyData.canLayAll0 (pds l) = true ∧ PyData.showableAll (pds l) = true ∧ pls l = true ∧ PyData.depthAll (pds l) ≤ hgts l
  | [], _ => ⟨rfl, rfl, rfl, Nat.le_refl _⟩
  | d :: l, h => by
    have h' : (d.okR && okRs l) = true := h
    rw [Bool.and_eq_true] at h'
    obtain ⟨a1, b1, c1, e1⟩ := lay_okR d h'.1
    obtain ⟨a2, b2, c2, e2⟩ := lays_okR l h'.2
    refine ⟨?_, ?_, ?_, ?_⟩
    · show (d.pd.canLay0 && PyData.canLayAll0 (pds l)) = true
      rw [a1, a2]; rfl
    · show (d.pd.showable && PyData.showableAll (pds l)) = true
      rw [b1, b2]; rfl
    · show (d.pl && pls l) = true
      rw [c1, c2]; rfl
    · show max d.pd.depth (PyData.depthAll (pds l)) ≤ max d.hgt (hgts l)
      omega
end
/-- what may be shown, and compared -/
structure ShOk (d : Dt) : Prop where
  ok : d.okR = true
  hg : d.hgt ≤ 64
  ln : d.rl ≤ 16000000
theorem ShOk.shaped {d : Dt} (h : ShOk d) : SeqAt.shaped d.pd = true := by
  show (d.pd.canLay0 && decide (d.pd.depth ≤ 64)) = true
  obtain ⟨a, _, _, e⟩ := lay_okR d h.ok
  rw [a, decide_eq_true (Nat.le_trans e h.hg)]; rfl
/-- as FnOk, where the surroundings show nothing -/
structure FnG (P : Program) (w : World) (K : PySem.W.Frag) (mg : Str → Option Value) (base : Heap) (k : Nat) (g : Addr) (gd : FuncData) (names : List Str) (sp : Sp) : Prop where
  len : ∀ us H Q E, sp us H Q E → us.length = names.length
  go : ∀ (B : Around) (out : List Env) (s : Shared) (H : Hp) (args : Args) (ws : List Value) (us : List V) (Q : VK) (E : XK), Room k B → B.guards = some [] → Env0 P w K mg base B out s H →
    BindsTo s gd args (names.zip ws) → Vals us ws → sp us H Q E → codeAny (model P w) B (.call (.ref g) args) (CR CX0 out P w H s Q E) s
theorem FnG.of {P : Program} {w : World} {K : PySem.W.Frag} {mg : Str → Option Value} {base : Heap} {k : Nat} {g : Addr} {gd : FuncData} {names : List Str} {sp : Sp} (F : FnOk P w K mg base CX0 k g gd names sp) : FnG P w K mg base k g gd names sp :=
  ⟨F.len, fun B out s H args ws us Q E r _ e b v h => F.run B out s H args ws us Q E r e b v h⟩
section
variable {P : Program} {w : World} {K : PySem.W.Frag} {mg : Str → Option Value} {base : Heap}
/-- the rule for a def of the text -/
theorem okG {x q : Str} {st : Stmt} {g : Addr} {gd : FuncData} {N names : List Str} {k : Nat} {sp : Sp} (F : Fun K x q st g gd) (sc : FnScope N names (defScope st)) (len : ∀ us H Q E, sp us H Q E → us.length = names.length)
    (hb : ∀ (cv : Value) (B : Around) (out : List Env) (s : Shared) (H : Hp) (us : List V) (Q : VK) (E : XK), Room k (B.deeper (envOfC q (defScope st) s.heap.objs.size g cv)) → (B.deeper (envOfC q (defScope st) s.heap.objs.size g cv)).guards = some [] → sp us H Q E →
      ∃ t, PSs (cxOf CX0 P w K mg base N q (defScope st) g cv B out s H E).nox (defBody st) t ∧ t { nx := fun _ H' => Q .non H', rt := Q } (start N us) H) : FnG P w K mg base (k + 1) g gd names sp := by
  obtain ⟨oc, od, kV, doc, pm, an, cv, ct, osl, rfl, look, hcode⟩ := F.ex
  refine ⟨len, fun B out s H args ws us Q E room gu e0 bnd rel hsp => ?_⟩
  have nu := len _ _ _ _ hsp
  have hK : K.In s.heap := e0.mod.kin.keeps fun b o z => (e0.bs b o z).1
  have hL : s.heap.NoLimit := e0.mod.nolimit.keeps fun b o z => (e0.bs b o z).1
  have kinds : ∀ z ∈ names.zip ws, (defScope st).names.lookup z.1 = some .local ∨ ((defScope st).names.lookup z.1 = some .cell ∧ ((cellsFrom (s.heap.objs.size + 1) (defScope st).names []).lookup z.1).isSome = true) := by
    rintro ⟨n, v⟩ hz
    exact (sc.par n (List.of_mem_zip hz).1).elim .inl fun c => .inr ⟨c, PySem.W.cellsFrom_some _ _ _ (.inl c)⟩
  refine codeAny_call_function room.depth (hK _ _ look) rfl sc.co sc.gen rfl (PySem.W.codeRec_of hK hcode) (bnd _ _ _ _ ?_)
  refine wpAny_newFunctionEnv_cells sc.kind kinds fun env hev s1 fresh => ?_
  subst hev
  refine ⟨hL.keeps fresh.toInCall.keep, codeAny_func ?_⟩
  obtain ⟨t, body, reads⟩ := hb cv B out s H us Q E (room.deeper _) gu hsp
  have J := inv_start (CX := CX0) (E := E) sc room.hd e0 nu rel fresh
  refine wpAny_mono (body.nox.run [] s1 (start N us) H _ J reads) (fun fl s' hs => ?_) fun e s' hs => hs
  cases fl with
  | ret u => exact let ⟨v, σ', H', J', rv, qv⟩ := hs; ⟨v, H', J'.os, J'.bare, J'.base, J'.hok, rv, qv⟩
  | next => exact let ⟨σ', H', J', qv⟩ := hs; ⟨V.non, H', J'.os, J'.bare, J'.base, J'.hok, rfl, qv⟩
  | brk => exact let ⟨_, _, _, qv⟩ := hs; False.elim qv
  | cont => exact let ⟨_, _, _, qv⟩ := hs; False.elim qv
end
/-! ### repr of data -/
section
variable {X : Cx}
def rRepr (K : PySem.W.Frag) : List V → Hp → VK → Prop := fun xs H Q => ∃ (a : Addr) (d : PyData), xs = [.ref a] ∧ Dp K H (.ref a) d ∧ SeqAt.shaped d = true ∧ d.showable = true ∧ d.shown.length ≤ sizeLine ∧ Q (.str d.shown) H
theorem call_repr (hg : X.A.guards = some []) (hu : X.A.units + 200 < cLine) : CallR X (.builtin "repr") (rRepr X.K) := by
  intro pins s σ H xs us Q I r h
  obtain ⟨a, d, rfl, hd, hs, hsh, hz, q⟩ := h
  obtain ⟨u, rfl, ru⟩ := vals1 r
  obtain rfl : u = .ref a := ru
  obtain ⟨as, rd⟩ := Dp.reads I d (.ref a) (.ref a) hd rfl
  have dep := SeqAt.depth_of_shaped hs
  refine repr_of_reads' rd hsh (PyData.noDict_hsm (PyData.hasDict_of_canLay d (SeqAt.canLay_of_shaped hs))) hg (by omega) (fun _ _ e => e) (fun h' v tk k => ⟨.str d.shown, H, I.kept k, ⟨_, rfl⟩, q⟩) hz
/-- a call of such a def -/
theorem pe_callG {x : Str} {k : Nat} {g : Addr} {gd : FuncData} {names : List Str} {sp : Sp} {e : Expr} {es : List Expr} {t : TA} {p pos : Pos} (F : FnG X.prog X.w X.K X.mg X.base k g gd names sp) (hr : Room k X.A) (gu : X.A.guards = some []) (hgl : Gl X x) (hm : X.mg x = some (.ref g))
    (kp : PySem.W.keepIn X.K (.ref g) = true) (hb : Binds X.K gd names []) (hx : Passes CX0 X E0) (ha : PA X (e :: es) t) (hdb : (x == ("__debug__" : Str)) = false := by decide)
    (he : starEach (e :: es) X.env = (false, eval e X.env) :: starEach es X.env := by rfl) (hpl : (backTo pos (starEach es X.env)).any (·.1) = false := by rfl) : PE X (.Call (.Name x p) (e :: es) [] pos) (tCall sp [] E0 t) := by
  refine ⟨fun pins s σ H Q I h => wpAny_Call_Name_kw (ld_glob I hgl hm ?_ hdb)⟩
  refine PySem.W.callWith_K (h₀ := X.base) I.ok.mod.kin kp (thn (ha.run pos pins s σ H _ I h) fun ws s1 ⟨us, H1, I1, rel, hq⟩ => ⟨I1.kIn, ?_⟩) he hpl
  have hq' : sp us H1 Q E0 := by simpa using hq
  have nw : (ws ++ []).length = names.length := by rw [List.append_nil, ← rel.length]; exact F.len _ _ _ _ hq'
  refine wpAny_call (codeAny_mono (F.go X.A X.stack s1 H1 ⟨ws, []⟩ (ws ++ []) us Q E0 hr gu I1.env0 (hb s1 ws I1.kIn nw) (by rw [List.append_nil]; exact rel) hq') fun r s' z => ?_)
  cases r with
  | error v => exact hx pins σ H1 s1 v s' I1 z
  | ok fl =>
    cases fl with
    | ret u => exact I1.after z
    | next => exact False.elim z
    | brk => exact False.elim z
    | cont => exact False.elim z
end
section
variable {K : PySem.W.Frag} {Φ : Dt → Prop}
theorem ac_repr {d : Dt} (h : ShOk d) (hk : ∃ k l, d = sq k l) (q : Φ (.str d.pd.shown)) : AC K (rRepr K) [d] Φ := fun G H s vs r Q qq => by
  obtain ⟨x, rfl, rd⟩ := r.one
  obtain ⟨k, l, e⟩ := hk
  obtain ⟨a, b, c, e2⟩ := lay_okR d h.ok
  have hx : ∃ p, x = V.ref p := by
    subst e
    obtain ⟨p, xs, ex, _⟩ := sqK_of s rd
    exact ⟨p, ex⟩
  obtain ⟨p, rfl⟩ := hx
  exact ⟨p, d.pd, rfl, rd.dp s c, h.shaped, b, by have := shown_len d h.ok; have := h.ln; rw [sizeLine_eq]; omega, qq _ (.str d.pd.shown) G H (Nw.refl s) rfl q⟩
theorem ar_neText {s : Str} (h : Φ (.bl false)) : AR K rNe (.str s) (.str s) Φ := ar_ne3 ⟨rfl, rfl, rfl⟩ (by rw [decide_eq_true rfl]; exact h)
end
section
variable {P : Program} {w : World} {K : PySem.W.Frag} {mg : Str → Option Value} {base : Heap}
/-- a def that draws and may ask for repr -/
theorem okBG {x qual : Str} {st : Stmt} {f : Addr} {fd : FuncData} {N ps : List Str} {k n : Nat} {dom : List Dt → Prop} {post : List Dt → Dt → Prop} (F : Fun K x qual st f fd) (sc : FnScope N ps (defScope st)) (len : ∀ ds, dom ds → ds.length + 1 = ps.length)
    (body : ∀ (cdv : Value) (A : Around) (outer : List Env) (s : Shared) (H : Hp) (E : XK), Room k (A.deeper (envOfC qual (defScope st) s.heap.objs.size f cdv)) → (A.deeper (envOfC qual (defScope st) s.heap.objs.size f cdv)).guards = some [] → ∀ ds, dom ds →
      ∃ t, PSs (cxOf CX0 P w K mg base N qual (defScope st) f cdv A outer s H E).nox (defBody st) t ∧ ∀ (b : Addr) (F : Nat), AS K t (envB N b (F + n) ds) (fun ρ => post ds .non ∧ ∃ f, ρ[0]? = some (.bx b f) ∧ F ≤ f) (fun d ρ => post ds d ∧ ∃ f, ρ[0]? = some (.bx b f) ∧ F ≤ f)) : FnG P w K mg base (k + 1) f fd ps (spB K n dom post) := by
  refine okG F sc (fun vs H Q E h => ?_) (fun cdv A outer s H vs Q E hr gu h => ?_)
  · obtain ⟨G, ds, b, us, y, c, F', rfl, sm, hb, c0, c1, gb, rd, hd, _⟩ := h
    rw [List.length_cons, rd.length]; exact len ds hd
  · obtain ⟨G, ds, b, us, y, c, F', rfl, sm, hb, c0, c1, gb, rd, hd, q⟩ := h
    obtain ⟨t, ht, ha⟩ := body cdv A outer s H E hr gu ds hd
    refine ⟨t, ht, ha b F' _ _ G H (mt_startB sm rd hb c0 c1 gb) _ (fun σ' ρ' G' H' m' s' t' e => ?_) (fun v d σ' ρ' G' H' m' s' t' rv e => ?_)⟩
    all_goals
      obtain ⟨hp, f', he, hf⟩ := e
      have nb : Nb b G H G' H' := ⟨s', m'.sub, fun a o ne e => by
          cases z : G a with
          | none => exact t' a o ⟨some_ne e, z, ne⟩ e
          | some o' => rw [sm _ _ z] at e; cases e; exact m'.sub _ _ (s' _ _ z), fun a h1 h2 => by
          by_cases w : a = b
          · subst w
            obtain ⟨_, _, _, _, _, _, z, _⟩ := m'.bx 0 a f' he
            exact z
          · exact (m'.pro a ⟨h2, h1, w⟩).1⟩
      obtain ⟨y', c', w1, w2, w3, w4, w5, w6⟩ := m'.bx 0 b f' he
    · exact q .non .non G' H' y' c' nb w2 w3 (by omega) rfl hp
    · exact q v d G' H' y' c' nb w2 w3 (by omega) rv hp
end
end Sh
set_option Elab.async false
set_option linter.all false
set_option maxRecDepth 100000
set_option maxHeartbeats 4000000
namespace Sh
open PySem PySem.Spec PyProof.Rows L2
theorem loo_gD {n : Nat} {M : Mx} {k k' : Bool} : looD (gD k k' n M) = gD false false n M := by
  have row : ∀ i, looD (sq k' (rwD n M i)) = .lst (rwD n M i) := fun i => by
    have e : looL (rwD n M i) = rwD n M i := by
      rw [loo_map, rw_rg, List.map_map]
      refine List.map_congr_left fun j _ => ?_
      show looD (oD (M i j)) = oD (M i j)
      cases M i j <;> simp [oD, looD]
    cases k'
    · show looD (.lst _) = _; rw [looD, e]
    · show looD (.tup _) = _; rw [looD, e]
  have top : looL ((List.range n).map fun i => sq k' (rwD n M i)) = (List.range n).map fun i => .lst (rwD n M i) := by
    rw [loo_map, List.map_map]
    exact List.map_congr_left fun i _ => row i
  cases k
  · show looD (.lst _) = Dt.lst _; rw [looD, top]; rfl
  · show looD (.tup _) = Dt.lst _; rw [looD, top]; rfl
/-! what is shown -/
theorem okRs_all : ∀ {l : List Dt}, (∀ d ∈ l, d.okR = true) → okRs l = true
  | [], _ => rfl
  | d :: l, h => by
    show (d.okR && okRs l) = true
    rw [h d List.mem_cons_self, okRs_all fun e he => h e (List.mem_cons_of_mem _ he)]; rfl
theorem rls_le {b : Nat} : ∀ {l : List Dt}, (∀ d ∈ l, d.rl ≤ b) → rls l ≤ l.length * (b + 2)
  | [], _ => Nat.zero_le _
  | d :: l, h => by
    have h1 := h d List.mem_cons_self
    have h2 := rls_le fun e (he : e ∈ l) => h e (List.mem_cons_of_mem _ he)
    show d.rl + 2 + rls l ≤ (l.length + 1) * (b + 2)
    rw [Nat.succ_mul]; omega
theorem hgts_le {b : Nat} : ∀ {l : List Dt}, (∀ d ∈ l, d.hgt ≤ b) → hgts l ≤ b
  | [], _ => Nat.zero_le _
  | d :: l, h => by
    have h1 := h d List.mem_cons_self
    have h2 := hgts_le fun e (he : e ∈ l) => h e (List.mem_cons_of_mem _ he)
    show max d.hgt (hgts l) ≤ b
    omega
theorem bn_sh {o : Option Int} (h : bnO 20000000000000 o) : (oD o).okR = true ∧ (oD o).rl ≤ 1921 ∧ (oD o).hgt ≤ 0 := by
  cases o with
  | none => exact ⟨rfl, (by decide), Nat.le_refl _⟩
  | some x =>
    refine ⟨decide_eq_true ?_, Nat.le_refl _, Nat.le_refl _⟩
    have hx := h x rfl
    have : x.natAbs < 2 ^ 64 := by omega
    by_cases z : x.natAbs = 0
    · rw [z]; decide
    · exact Nat.lt_trans ((Nat.log2_lt z).mpr this) (by decide)
theorem sq_sh {k : Bool} {l : List Dt} : (sq k l).okR = okRs l ∧ (sq k l).rl = rls l + 3 ∧ (sq k l).hgt = hgts l + 1 := by cases k <;> exact ⟨rfl, rfl, rfl⟩
theorem gD_sh {k k' : Bool} {n : Nat} {M : Mx} (h5 : n ≤ 5) (h : bnM 20000000000000 M) : (gD k k' n M).okR = true ∧ (gD k k' n M).rl ≤ 60000 ∧ (gD k k' n M).hgt ≤ 2 := by
  have row : ∀ d, d ∈ (List.range n).map (fun i => sq k' (rwD n M i)) → d.okR = true ∧ d.rl ≤ 10000 ∧ d.hgt ≤ 1 := fun d hd => by
    obtain ⟨i, _, rfl⟩ := List.mem_map.mp hd
    have cell : ∀ e, e ∈ rwD n M i → e.okR = true ∧ e.rl ≤ 1921 ∧ e.hgt ≤ 0 := fun e he => by
      rw [rw_rg] at he
      obtain ⟨j, _, rfl⟩ := List.mem_map.mp he
      exact bn_sh (h i j)
    obtain ⟨a, b, c⟩ := sq_sh (k := k') (l := rwD n M i)
    rw [a, b, c]
    have l1 := rls_le fun e he => (cell e he).2.1
    have l2 : (rwD n M i).length * (1921 + 2) ≤ 5 * 1923 := Nat.mul_le_mul (by rw [rw_rg]; simpa using h5) (Nat.le_refl _)
    exact ⟨okRs_all fun e he => (cell e he).1, by omega, Nat.succ_le_succ (hgts_le fun e he => (cell e he).2.2)⟩
  obtain ⟨a, b, c⟩ := sq_sh (k := k) (l := (List.range n).map fun i => sq k' (rwD n M i))
  unfold gD
  rw [a, b, c]
  have l1 := rls_le fun e he => (row e he).2.1
  have l2 : ((List.range n).map fun i => sq k' (rwD n M i)).length * (10000 + 2) ≤ 5 * 10002 := Nat.mul_le_mul (by simpa using h5) (Nat.le_refl _)
  exact ⟨okRs_all fun e he => (row e he).1, by omega, Nat.succ_le_succ (hgts_le fun e he => (row e he).2.2)⟩
theorem bnM_up {M : Mx} (h : bnM 0 M) : bnM 20000000000000 M := fun i j => bn_up (h i j) (by decide)
theorem deps_le {n : Nat} : ∀ {l : List Dt}, (∀ d ∈ l, d.dep ≤ n) → deps l ≤ n
  | [], _ => Nat.zero_le _
  | d :: l, h => by
    unfold deps
    have h1 := h d List.mem_cons_self
    have h2 := deps_le (l := l) fun e he => h e (List.mem_cons_of_mem _ he)
    omega
theorem fits_all : ∀ {l : List Dt}, (∀ d ∈ l, d.fit = true) → fits l = true
  | [], _ => rfl
  | d :: l, h => by
    unfold fits
    rw [h d List.mem_cons_self, fits_all (l := l) fun e he => h e (List.mem_cons_of_mem _ he)]; rfl
def DF (n : Nat) (d : Dt) : Prop := d.dep ≤ n ∧ d.fit = true
theorem df_tup {n : Nat} {l : List Dt} (h1 : l.length ≤ 9000) (h : ∀ d ∈ l, DF n d) : DF (n + 1) (.tup l) := ⟨Nat.succ_le_succ (deps_le fun d hd => (h d hd).1), by
  show (decide (l.length ≤ 9000) && fits l) = true
  rw [fits_all fun d hd => (h d hd).2, decide_eq_true h1]; rfl⟩
theorem df_lst {n : Nat} {l : List Dt} (h1 : l.length ≤ 9000) (h : ∀ d ∈ l, DF n d) : DF (n + 1) (.lst l) := ⟨Nat.succ_le_succ (deps_le fun d hd => (h d hd).1), by
  show (decide (l.length ≤ 9000) && fits l) = true
  rw [fits_all fun d hd => (h d hd).2, decide_eq_true h1]; rfl⟩
theorem df_sq {n : Nat} {k : Bool} {l : List Dt} (h1 : l.length ≤ 9000) (h : ∀ d ∈ l, DF n d) : DF (n + 1) (sq k l) := by
  cases k
  · exact df_lst h1 h
  · exact df_tup h1 h
theorem df_o {o : Option Int} : DF 1 (oD o) := by cases o <;> exact ⟨Nat.le_refl _, rfl⟩
theorem df_2 {n : Nat} {a b : Dt} (h1 : DF n a) (h2 : DF n b) : DF (n + 1) (.tup [a, b]) := df_tup (by show 2 ≤ 9000; decide) fun d hd => by
  simp only [List.mem_cons, List.not_mem_nil, or_false] at hd
  rcases hd with rfl | rfl
  · exact h1
  · exact h2
theorem df_gD {k k' : Bool} {n : Nat} {M : Mx} (h : n ≤ 9000) : DF 3 (gD k k' n M) := df_sq (by simpa using h) fun d hd => by
  obtain ⟨i, _, rfl⟩ := List.mem_map.mp hd
  refine df_sq (by rw [rw_rg]; simpa using h) fun e he => ?_
  rw [rw_rg] at he
  obtain ⟨j, _, rfl⟩ := List.mem_map.mp he
  exact df_o
theorem df_non : DF 1 .non := ⟨Nat.le_refl _, rfl⟩
theorem loo_o {o : Option Int} : looD (oD o) = oD o := by cases o <;> simp [oD, looD]
theorem loo_prs {n : Nat} {lo hi : Nat → Option Int} : looD (prsD n lo hi) = prsK false false n lo hi := by
  show looD (.lst _) = Dt.lst _
  rw [looD, loo_map, List.map_map]
  congr 1
  refine List.map_congr_left fun i _ => ?_
  show looD (.tup [oD (lo i), oD (hi i)]) = .lst [oD (lo i), oD (hi i)]
  rw [looD, loo_map]
  show Dt.lst [looD (oD (lo i)), looD (oD (hi i))] = _
  rw [loo_o, loo_o]
theorem loo_two {n : Nat} {M : Mx} {lo hi : Nat → Option Int} : looD (.lst [gD true true n M, prsD n lo hi]) = .lst [gD false false n M, prsK false false n lo hi] := by
  rw [looD, loo_map]
  show Dt.lst [looD (gD true true n M), looD (prsD n lo hi)] = _
  rw [loo_gD, loo_prs]
def bnE (lo hi : Nat → Option Int) : Prop := ∀ i, bnO 20000000000000 (lo i) ∧ bnO 20000000000000 (hi i)
theorem prs_sh {k k' : Bool} {n : Nat} {lo hi : Nat → Option Int} (h5 : n ≤ 5) (h : bnE lo hi) : (prsK k k' n lo hi).okR = true ∧ (prsK k k' n lo hi).rl ≤ 60000 ∧ (prsK k k' n lo hi).hgt ≤ 2 := by
  have row : ∀ d, d ∈ (List.range n).map (fun i => sq k' [oD (lo i), oD (hi i)]) → d.okR = true ∧ d.rl ≤ 10000 ∧ d.hgt ≤ 1 := fun d hd => by
    obtain ⟨i, _, rfl⟩ := List.mem_map.mp hd
    have cell : ∀ e, e ∈ [oD (lo i), oD (hi i)] → e.okR = true ∧ e.rl ≤ 1921 ∧ e.hgt ≤ 0 := fun e he => by
      simp only [List.mem_cons, List.not_mem_nil, or_false] at he
      rcases he with rfl | rfl
      · exact bn_sh (h i).1
      · exact bn_sh (h i).2
    obtain ⟨a, b, c⟩ := sq_sh (k := k') (l := [oD (lo i), oD (hi i)])
    rw [a, b, c]
    have l1 := rls_le fun e he => (cell e he).2.1
    have l2 : [oD (lo i), oD (hi i)].length * (1921 + 2) ≤ 5 * 1923 := Nat.mul_le_mul (by show 2 ≤ 5; decide) (Nat.le_refl _)
    exact ⟨okRs_all fun e he => (cell e he).1, by omega, Nat.succ_le_succ (hgts_le fun e he => (cell e he).2.2)⟩
  obtain ⟨a, b, c⟩ := sq_sh (k := k) (l := (List.range n).map fun i => sq k' [oD (lo i), oD (hi i)])
  unfold prsK
  rw [a, b, c]
  have l1 := rls_le fun e he => (row e he).2.1
  have l2 : ((List.range n).map fun i => sq k' [oD (lo i), oD (hi i)]).length * (10000 + 2) ≤ 5 * 10002 := Nat.mul_le_mul (by simpa using h5) (Nat.le_refl _)
  exact ⟨okRs_all fun e he => (row e he).1, by omega, Nat.succ_le_succ (hgts_le fun e he => (row e he).2.2)⟩
theorem two_ok {k k' q q' : Bool} {n : Nat} {M : Mx} {lo hi : Nat → Option Int} (h5 : n ≤ 5) (h : bnM 0 M) (hE : bnE lo hi) : ShOk (.lst [gD k k' n M, prsK q q' n lo hi]) := by
  obtain ⟨a1, b1, c1⟩ := gD_sh (k := k) (k' := k') h5 (bnM_up h)
  obtain ⟨a2, b2, c2⟩ := prs_sh (k := q) (k' := q') h5 hE
  obtain ⟨a, b, c⟩ := sq_sh (k := false) (l := [gD k k' n M, prsK q q' n lo hi])
  refine ⟨a.trans (okRs_all fun e he => ?_), ?_, ?_⟩
  · simp only [List.mem_cons, List.not_mem_nil, or_false] at he
    rcases he with rfl | rfl
    · exact a1
    · exact a2
  · refine Nat.le_trans (Nat.succ_le_succ (hgts_le (b := 2) fun e he => ?_)) (by decide)
    simp only [List.mem_cons, List.not_mem_nil, or_false] at he
    rcases he with rfl | rfl
    · exact c1
    · exact c2
  · have l1 := rls_le (b := 60000) (l := [gD k k' n M, prsK q q' n lo hi]) fun e he => by
      simp only [List.mem_cons, List.not_mem_nil, or_false] at he
      rcases he with rfl | rfl
      · exact b1
      · exact b2
    have l2 : [gD k k' n M, prsK q q' n lo hi].length * (60000 + 2) = 2 * 60002 := rfl
    have b' : (Dt.lst [gD k k' n M, prsK q q' n lo hi]).rl = rls [gD k k' n M, prsK q q' n lo hi] + 3 := b
    omega
theorem df_prs {k k' : Bool} {n : Nat} {lo hi : Nat → Option Int} (h : n ≤ 9000) : DF 3 (prsK k k' n lo hi) := df_sq (by simpa using h) fun d hd => by
  obtain ⟨i, _, rfl⟩ := List.mem_map.mp hd
  refine df_sq (by show 2 ≤ 9000; decide) fun e he => ?_
  simp only [List.mem_cons, List.not_mem_nil, or_false] at he
  rcases he with rfl | rfl
  · exact df_o
  · exact df_o
theorem df_up {n m : Nat} {d : Dt} (h : DF n d) (l : n ≤ m) : DF m d := ⟨Nat.le_trans h.1 l, h.2⟩
theorem df_2l {n : Nat} {a b : Dt} (h1 : DF n a) (h2 : DF n b) : DF (n + 1) (.lst [a, b]) := df_lst (by show 2 ≤ 9000; decide) fun d hd => by
  simp only [List.mem_cons, List.not_mem_nil, or_false] at hd
  rcases hd with rfl | rfl
  · exact h1
  · exact h2
theorem gc_shape {n : Nat} {F : Mx} (h5 : n ≤ 5) : DF 4 (gcD n F) ∧ (gcD n F = .non ∨ ∃ x l, gcD n F = .tup [x, .lst l] ∧ l.length < sizeLine) := by
  unfold gcD
  by_cases h : (List.range (n + 1)).any (ngB F) = true
  · rw [if_pos h]; exact ⟨df_up df_non (by decide), .inl rfl⟩
  · rw [if_neg h]
    refine ⟨?_, .inr ⟨_, _, rfl, by rw [List.length_map, List.length_range]; exact Nat.lt_of_le_of_lt h5 (by decide)⟩⟩
    rw [cl_gD]
    exact df_2 (df_gD (by omega)) (by rw [pr_prs]; exact df_prs (k := false) (k' := true) (by omega))
theorem gc_nil : gcD 0 (Fw.fwM 1 (wzM 0 (fun _ _ => none) (fun _ => none) (fun _ => none))) = .tup [.tup [], .lst []] := rfl
end Sh
set_option Elab.async false
set_option linter.all false
set_option maxRecDepth 100000
set_option maxHeartbeats 4000000
namespace Sh
open PySem PySem.Spec PyProof.Rows L2
abbrev s_l_right : Stmt := topS 19
abbrev N_l_right : List Str := ["_law_box_here", "_law_turn", "_law_size", "_law_told", "_law_rows_here", "_law_pairs_so", "_law_due", "_law_was", "_law_loose_here", "_law_pairs"]
abbrev p_l_right : List Str := ["_law_box_here"]
theorem sc_l_right : FnScope N_l_right p_l_right (defScope s_l_right) := ⟨rfl, rfl, rfl, by decide +kernel, rfl, by decide +kernel, by decide +kernel⟩
def domR (ds : List Dt) : Prop := ds = []
def postR (ds : List Dt) (d : Dt) : Prop := d = .bl true
theorem ae_callK2 {K : PySem.W.Frag} {ρ : List En} {Ψ : Dt → List En → Prop} {E : XK} {tk : TA} {S : List Dt → Dt → Prop} {m : Nat} (hm : m = 2) (h : AA K tk ρ fun ds ρ1 => ∃ a b, ds = [a, b] ∧ ∃ r, S [b, a] r ∧ Ψ r ρ1) : AE K (tCallK0 m (spP K S) List.reverse E tk) ρ Ψ :=
  ae_callK List.reverse (fun r _ => RDs.rev r) (fun B σ G H m Q q => h B σ G H m Q fun vs ds ρ' G' H' m' s t r ⟨a, b, e, k⟩ => q vs ds ρ' G' H' m' s t r ⟨by rw [e, hm]; rfl, by rw [e]; exact k⟩)
section
variable {P : Program} {w : World} {K : PySem.W.Frag} {mg : Str → Option Value} {base : Heap}
theorem ok_l_right (bl : Blts mg) {g4_l_take : Addr} {d4_l_take : FuncData} (c4_l_take : Cal P w K mg base 3 "_law_take" p_l_take (spB K 2 domT2 postT) g4_l_take d4_l_take) {g_l_rows : Addr} {d_l_rows : FuncData} (c_l_rows : Cal P w K mg base 5 "_law_rows" p_l_rows (spB K 175 domN postRw) g_l_rows d_l_rows) {g_l_ends : Addr} {d_l_ends : FuncData} (c_l_ends : Cal P w K mg base 4 "_law_ends" p_l_ends (spB K 40 domN postEn) g_l_ends d_l_ends) {g_l_loose : Addr} {d_l_loose : FuncData} (c_l_loose : Cal P w K mg base 4 "_law_loose" p_l_loose (spP K (S_loo 4)) g_l_loose d_l_loose) {g_l_closed : Addr} {d_l_closed : FuncData} (c_l_closed : Cal P w K mg base 7 "_law_closed" p_l_closed (spP K S_cl) g_l_closed d_l_closed) {g_gaps_closed : Addr} {d_gaps_closed : FuncData} (c_gaps_closed : Cal P w K mg base 3 "gaps_closed" p_gaps_closed (spP K S_gc) g_gaps_closed d_gaps_closed) {g_gapsN : Addr} {d_gapsN : FuncData} (c_gapsN : Cal P w K mg base 3 "gaps_closed" p_gaps_closed (spPn K S_gc) g_gapsN d_gapsN) {g_l_same : Addr} {d_l_same : FuncData} (c_l_same : Cal P w K mg base 5 "_law_same" p_l_same (spP K (S_same 5)) g_l_same d_l_same) (k_gaps_closed : KB0 K d_gaps_closed p_gaps_closed ["spans", "gaps"] List.reverse List.reverse)  {f : Addr} {fd : FuncData} (F : Fun K "_law_right" "_law_right" s_l_right f fd) : FnG P w K mg base 8 f fd p_l_right (spB K 651 (domR) (postR)) := by
  refine okBG F sc_l_right (fun ds h => ?_) (fun cdv A outer s H E hr gu ds h => ?_)
  · obtain ⟨rfl⟩ := h
    rfl
  obtain ⟨rfl⟩ := h
  have hu : (A.deeper (envOfC "_law_right" (defScope s_l_right) s.heap.objs.size f cdv)).units + 200 < cLine := by have := hr.un; omega
  refine ⟨_, (pss_cons (ps_for PassesOwn.never rfl (pi_range1 rfl bl.range (pa_cons pe_int pa_nil)) (pg_name (i := 1) sc_l_right.nd rfl (by first | exact Or.inl rfl | exact Or.inr rfl)) (pss_cons (ps_set (i := 2) sc_l_right.nd rfl (by first | exact Or.inl rfl | exact Or.inr rfl) (pe_call c4_l_take.ok (hr.mono (by decide)) rfl c4_l_take.mg c4_l_take.kp c4_l_take.bi .nil pass0 (pa_cons (pv 0) (pa_cons pe_int pa_nil))))
    (pss_cons (ps_par (i := 4) (j := 5) (by rfl) sc_l_right.nd rfl rfl (by decide) rfl rfl (pa_cons (pe_call c_l_rows.ok (hr.mono (by decide)) rfl c_l_rows.mg c_l_rows.kp c_l_rows.bi .nil pass0 (pa_cons (pv 0) (pa_cons (pv 2) pa_nil))) (pa_cons (pe_call c_l_ends.ok (hr.mono (by decide)) rfl c_l_ends.mg c_l_ends.kp c_l_ends.bi .nil pass0 (pa_cons (pv 0) (pa_cons (pv 2) pa_nil))) pa_nil)) (by rfl))
    (pss_cons (ps_par (i := 6) (j := 7) (by rfl) sc_l_right.nd rfl rfl (by decide) rfl rfl (pa_cons (pe_call c_l_closed.ok (hr.mono (by decide)) rfl c_l_closed.mg c_l_closed.kp c_l_closed.bi .nil pass0 (pa_cons (pv 4) (pa_cons (pv 5) pa_nil))) (pa_cons (pe_callB (call_repr gu hu) rfl bl.repr (by decide +kernel) (pa_cons (pe_lst (pa_cons (pv 4) (pa_cons (pv 5) pa_nil))) pa_nil)) pa_nil)) (by rfl))
    (pss_cons (ps_par (i := 8) (j := 9) (by rfl) sc_l_right.nd rfl rfl (by decide) rfl rfl (pa_cons (pe_call c_l_loose.ok (hr.mono (by decide)) rfl c_l_loose.mg c_l_loose.kp c_l_loose.bi .nil pass0 (pa_cons (pv 4) pa_nil)) (pa_cons (pe_call c_l_loose.ok (hr.mono (by decide)) rfl c_l_loose.mg c_l_loose.kp c_l_loose.bi .nil pass0 (pa_cons (pv 5) pa_nil)) pa_nil)) (by rfl))
    (pss_cons (ps_set (i := 3) sc_l_right.nd rfl (by first | exact Or.inl rfl | exact Or.inr rfl) (pe_lst (pa_cons (pe_call c_gapsN.ok (hr.mono (by decide)) rfl c_gapsN.mg c_gapsN.kp c_gapsN.bi .nil pass0 (pa_cons (pv 4) (pa_cons (pv 5) pa_nil))) (pa_cons (pe_callK0 c_gaps_closed.ok (hr.mono (by decide)) rfl c_gaps_closed.mg c_gaps_closed.kp k_gaps_closed pass0 (pk_cons (pe_callTy call_tuple_of rfl bl.tuple (by decide +kernel) (pa_cons (pv 9) pa_nil)) (pk_cons (pv 8) pk_nil))) pa_nil))))
    (pss_cons (ps_if (PW.pt (pw_or (pt_not (pt_val (pe_call c_l_same.ok (hr.mono (by decide)) rfl c_l_same.mg c_l_same.kp c_l_same.bi .nil pass0 (pa_cons (pv 3) (pa_cons (pe_lst (pa_cons (pv 6) (pa_cons (pv 6) pa_nil))) pa_nil))))) (pw_or1 (pt_cmpR op_ne (pe_callB (call_repr gu hu) rfl bl.repr (by decide +kernel) (pa_cons (pe_lst (pa_cons (pv 4) (pa_cons (pv 5) pa_nil))) pa_nil)) (pv 7) (nomark _))))) (pss_one (ps_ret pe_bl)) pss_nil)
    (pss_cons (ps_if (pt_cmpR op_notN (pv 6) pe_non (nomark _)) (pss_one (ps_expr (pe_bm PySem.F.plainAttrs_list PySem.F.slot_list_append PySem.F.type_list_append mt_append (pe_ix ix_seq (pe_ix ix_list (pv 3) pe_int (fun _ _ => rfl)) pe_int (fun _ _ => rfl)) (pa_cons pe_str pa_nil)))) pss_nil)
    (pss_one (ps_if (PW.pt (pw_or (pt_not (pt_val (pe_call c_l_same.ok (hr.mono (by decide)) rfl c_l_same.mg c_l_same.kp c_l_same.bi .nil pass0 (pa_cons (pe_call c_gaps_closed.ok (hr.mono (by decide)) rfl c_gaps_closed.mg c_gaps_closed.kp c_gaps_closed.bi .nil pass0 (pa_cons (pv 4) (pa_cons (pv 5) pa_nil))) (pa_cons (pv 6) pa_nil))))) (pw_or1 (pt_cmpR (op_neD hr.units) (pe_lst (pa_cons (pv 8) (pa_cons (pv 9) pa_nil))) (pe_call c_l_loose.ok (hr.mono (by decide)) rfl c_l_loose.mg c_l_loose.kp c_l_loose.bi .nil pass0 (pa_cons (pe_lst (pa_cons (pv 4) (pa_cons (pv 5) pa_nil))) pa_nil)) (nomark _))))) (pss_one (ps_ret pe_bl)) pss_nil))))))))))
    (pss_one (ps_ret (pe_call c_l_same.ok (hr.mono (by decide)) rfl c_l_same.mg c_l_same.kp c_l_same.bi .nil pass0 (pa_cons (pe_call c_gaps_closed.ok (hr.mono (by decide)) rfl c_gaps_closed.mg c_gaps_closed.kp c_gaps_closed.bi .nil pass0 (pa_cons (pe_tup pa_nil) (pa_cons (pe_lst pa_nil) pa_nil))) (pa_cons (pe_tup (pa_cons (pe_tup pa_nil) (pa_cons (pe_lst pa_nil) pa_nil))) pa_nil)))))), fun b F => ?_⟩
  change AS K _ [En.bx _ _, En.no, En.no, En.no, En.no, En.no, En.no, En.no, En.no, En.no] _ _
  try simp only [cxOf_K, cxOf_w]
  have z9 : 9000 ≤ sizeLine := by decide
  have rg : ∀ k : Nat, (rgD 0 ((k : Nat) : Int).toNat) = (List.range k).map fun i => Dt.int ((i : Nat) : Int) := fun k => by
    unfold rgD
    rw [Int.toNat_natCast]
    exact List.map_congr_left fun i _ => by rw [Int.zero_add]
  have rl : ∀ k : Nat, ((List.range k).map fun i => Dt.int ((i : Nat) : Int)).length = k := fun k => by rw [List.length_map, List.length_range]
  refine as_seq (as_for (ai_rng1 (aa_cons (ae_int (aa_nil ⟨_, rfl, (by decide), (by decide), ?_⟩)))))
  rw [show (3 : Int) = ((3 : Nat) : Int) from rfl, rg]
  refine ⟨fun t ρ => ∃ f e1 e2 e4 e5 e6 e7 e8 e9, ρ = [.bx b f, e1, e2, .no, e4, e5, e6, e7, e8, e9] ∧ F + 217 * (3 - t) ≤ f, ⟨_, .no, .no, .no, .no, .no, .no, .no, .no, rfl, Nat.le_refl _⟩, ?_, ?_⟩
  · rintro t d ρ2 hd ⟨f, e1, e2, e4, e5, e6, e7, e8, e9, rfl, hf⟩
    obtain ⟨ht, rfl⟩ := rg_at hd
    obtain ⟨f1, rfl⟩ : ∃ f1, f = f1 + 217 := ⟨f - 217, by omega⟩
    have hf1 : F + 217 * (3 - (t + 1)) ≤ f1 := by omega
    clear hf hd
    refine ag_name (as_seq (as_set (ae_take2 rfl (ae_int ⟨_, rfl, (by decide), (by decide), f1 + 215, rfl, fun v v0 v1 => ?_⟩))))
    obtain ⟨n, rfl⟩ : ∃ n : Nat, v = (n : Int) := ⟨v.toNat, by omega⟩
    have n5 : n ≤ 5 := by omega
    clear v0 v1
    refine as_seq (as_par (aa_cons (ae_draw rfl (aa_cons (ae_var rfl (aa_nil ⟨⟨n, rfl, n5⟩, f1 + 40, rfl, fun d hd => ?_⟩))))))
    obtain ⟨M, rfl, hMd, hMb⟩ := hd n rfl
    clear hd
    refine aa_cons (ae_draw rfl (aa_cons (ae_var rfl (aa_nil ⟨⟨n, rfl, n5⟩, f1, rfl, fun d hd => ?_⟩))))
    obtain ⟨lo, hi, rfl, hE⟩ := hd n rfl
    clear hd
    have hE : bnE lo hi := hE
    have sh : ShOk (.lst [gD true true n M, prsD n lo hi]) := two_ok (q := false) (q' := true) n5 hMb hE
    have shl : ShOk (.lst [gD false false n M, prsK false false n lo hi]) := two_ok n5 hMb hE
    have dg : DF 3 (gD true true n M) := df_gD (by omega)
    have dp : DF 3 (prsD n lo hi) := df_prs (k := false) (k' := true) (by omega)
    have d4 : DF 4 (.lst [gD true true n M, prsD n lo hi]) := df_2l dg dp
    have gs := gc_shape (n := n) (F := Fw.fwM (n + 1) (wzM n M lo hi)) n5
    have gcall : ∀ k k' q q', S_gc [gD k k' n M, prsK q q' n lo hi] (gcD n (Fw.fwM (n + 1) (wzM n M lo hi))) := fun k k' q q' => ⟨_, _, n, M, lo, hi, rfl, wz_stdK, by omega, fun i h => ⟨0, hMd i h⟩, rfl⟩
    have due : wyD n (wzM n M lo hi) = gcD n (Fw.fwM (n + 1) (wzM n M lo hi)) := way_due wz_fin (wz_dg0 hMd)
    refine aa_nil ⟨_, _, rfl, ?_⟩
    refine as_seq (as_par (aa_cons (ae_call (aa_cons (ae_var rfl (aa_cons (ae_var rfl (aa_nil ⟨_, ⟨n, M, lo, hi, rfl, n5, rfl⟩, ?_⟩))))))))
    rw [due]
    have gcl := gcall true true false true
    have gcl2 := gcall false false true false
    generalize gcD n (Fw.fwM (n + 1) (wzM n M lo hi)) = Y at gs gcl gcl2 ⊢
    have d5 : DF 5 (.lst [Y, Y]) := df_2l gs.1 gs.1
    refine aa_cons (ae_cb (aa_cons (ae_lst (aa_cons (ae_var rfl (aa_cons (ae_var rfl (aa_nil ⟨(by show 2 ≤ sizeLine; omega), aa_nil (ac_repr sh ⟨false, _, rfl⟩ (aa_nil ⟨_, _, rfl, ?_⟩))⟩))))))))
    refine as_seq (as_par (aa_cons (ae_call (aa_cons (ae_var rfl (aa_nil ⟨_, ⟨_, rfl, (df_up dg (by decide : 3 ≤ 4)).1, dg.2, rfl⟩, ?_⟩))))))
    rw [loo_gD]
    refine aa_cons (ae_call (aa_cons (ae_var rfl (aa_nil ⟨_, ⟨_, rfl, (df_up dp (by decide : 3 ≤ 4)).1, dp.2, rfl⟩, ?_⟩))))
    rw [loo_prs]
    refine aa_nil ⟨_, _, rfl, ?_⟩
    show AS K _ [.bx b f1, .da (.int ((t : Nat) : Int)), .da (.int ((n : Nat) : Int)), .no, .da (gD true true n M), .da (prsD n lo hi), .da Y, .da (.str (Dt.lst [gD true true n M, prsD n lo hi]).pd.shown), .da (gD false false n M), .da (prsK false false n lo hi)] _ _
    refine as_more (r1 := Y) rfl rfl rfl (by show 3 < 10; decide) (fun i l e => ?_) gcl gs.2 ?_ ?_ ?_
    · match i, e with
      | 0, e => cases e
      | 1, e => cases e
      | 2, e => cases e
      | 3, e => cases e
      | 4, e => cases e
      | 5, e => cases e
      | 6, e => cases e
      | 7, e => cases e
      | 8, e => cases e
      | 9, e => cases e
      | i + 10, e => cases (show (none : Option En) = _ from e)
    · refine ae_callK2 rfl (aa_cons (ae_cb (aa_cons (ae_var rfl (aa_nil (ac_tupL (aa_cons (ae_var rfl (aa_nil ⟨_, _, rfl, _, gcl2, rfl, rfl⟩)))))))))
    · refine at_or (at_not (at_b (ae_call (aa_cons (ae_var rfl (aa_cons (ae_lst (aa_cons (ae_var rfl (aa_cons (ae_var rfl (aa_nil ⟨(by show 2 ≤ sizeLine; omega), aa_nil ⟨_, ⟨_, rfl, d5.1, d5.2, rfl⟩, true, rfl, fun h => absurd (show false = true from h) (by decide), fun _ => ?_⟩⟩))))))))))))
      refine at_test (ae_op (ae_cb (aa_cons (ae_lst (aa_cons (ae_var rfl (aa_cons (ae_var rfl (aa_nil ⟨(by show 2 ≤ sizeLine; omega), aa_nil (ac_repr sh ⟨false, _, rfl⟩ (ae_var rfl (ar_neText ⟨false, rfl, rfl, rfl⟩)))⟩)))))))))
    · show AS K _ [.bx b f1, .da (.int ((t : Nat) : Int)), .da (.int ((n : Nat) : Int)), .no, .da (gD true true n M), .da (prsD n lo hi), .da Y, .da (.str (Dt.lst [gD true true n M, prsD n lo hi]).pd.shown), .da (gD false false n M), .da (prsK false false n lo hi)] _ _
      refine as_if (at_or (at_not (at_b (ae_call (aa_cons (ae_call (aa_cons (ae_var rfl (aa_cons (ae_var rfl (aa_nil ⟨_, gcl, aa_cons (ae_var rfl (aa_nil ⟨_, ⟨_, rfl, (df_up gs.1 (by decide : 4 ≤ 5)).1, gs.1.2, rfl⟩, true, rfl, fun h => absurd (show false = true from h) (by decide), fun _ => ?_⟩))⟩)))))))))))
      refine at_test (ae_op (ae_lst (aa_cons (ae_var rfl (aa_cons (ae_var rfl (aa_nil ⟨(by show 2 ≤ sizeLine; omega), ae_call (aa_cons (ae_lst (aa_cons (ae_var rfl (aa_cons (ae_var rfl (aa_nil ⟨(by show 2 ≤ sizeLine; omega), aa_nil ⟨_, ⟨_, rfl, d4.1, d4.2, rfl⟩, ?_⟩⟩)))))))⟩)))))))
      rw [loo_two]
      exact ar_neS ⟨(lay_okR _ shl.ok).2.2.1, shl.shaped⟩ ⟨false, rfl, fun h => absurd (show false = true from h) (by decide), fun _ => as_next ⟨f1, _, _, _, _, _, _, _, _, rfl, hf1⟩⟩
  · rintro ρ ⟨f, e1, e2, e4, e5, e6, e7, e8, e9, rfl, hf⟩
    have dz : DF 5 (.tup [.tup [], .lst []]) := df_up (df_2 (n := 1) ⟨Nat.le_refl _, rfl⟩ ⟨Nat.le_refl _, rfl⟩) (by decide)
    have gz : S_gc [.tup [], .lst []] (.tup [.tup [], .lst []]) := ⟨_, _, 0, fun _ _ => none, fun _ => none, fun _ => none, rfl, (show WzD (gD true true 0 (fun _ _ => none)) (prsD 0 (fun _ => none) (fun _ => none)) 0 _ _ _ from wz_std), by decide, fun i h => absurd h (Nat.not_lt_zero _), gc_nil.symm⟩
    refine as_ret (ae_call (aa_cons (ae_call (aa_cons (ae_tup (aa_nil ⟨Nat.zero_le _, aa_cons (ae_lst (aa_nil ⟨Nat.zero_le _, aa_nil ⟨_, gz, ?_⟩⟩))⟩))))))
    refine aa_cons (ae_tup (aa_cons (ae_tup (aa_nil ⟨Nat.zero_le _, aa_cons (ae_lst (aa_nil ⟨Nat.zero_le _, aa_nil ⟨(by show 2 ≤ sizeLine; omega), aa_nil ⟨_, ⟨_, rfl, dz.1, dz.2, rfl⟩, rfl, _, rfl, by omega⟩⟩⟩))⟩))))
end
end Sh
set_option Elab.async false
set_option linter.all false
set_option maxRecDepth 100000
set_option maxHeartbeats 4000000
/-! ### the end for such a law -/
namespace Sh
open PySem PySem.Spec PyProof.Rows L2
/-- what the caller is promised -/
def Done (s : Shared) : Result → Shared → Prop := fun r s' => r = .ok (.ret (.bool true)) ∧ OldK s.heap s'.heap ∧ s'.os = s.os ∧ AllBare s'.gens
section
variable {P : Program} {w : World} {K : PySem.W.Frag} {mg mb : Str → Option Value} {k : Nat} {fa a : Addr} {fd : FuncData} {x : Str} {sp : Sp} {s : Shared} {us : List Value} {ns : List Int}
/-- behind a heap H in which at most the script is tracked -/
theorem law_at (inK : K.In s.heap) (glob : s.heap.Ns mainGlobals mg) (bltn : s.heap.Ns builtinsNs mb) (same_b : ∀ z : Str, z ≠ "__name__" → mb z = bootBuiltins z) (nolim : s.heap.NoLimit) (nog : s.gens = #[])
    (room : Room k callerA) (F : ∀ base : Heap, K.In base → base.Ns mainGlobals mg → FnG P w K mg base k fa fd [x] sp) (bind : ∀ (s : Shared) (u : Value), BindsTo s fd ⟨[u], []⟩ [(x, u)])
    (H : Hp) (only : Only H) (hok : HOk P w H s.heap) (at_a : ∀ b, H b ≠ none → b = a) (notK : H a ≠ none → K.lookup a = none) (lst : ∃ o, s.heap.get? a = some o ∧ ∀ es ep, o.data ≠ .dict es ep)
    (hsp : sp [.ref a] H (fun v _ => v = .bl true) E0) : codeAny (model P w) callerA (.call (.ref fa) ⟨[.ref a], []⟩) (Done s) s := by
  have tracked : ∀ {b : Addr}, (H b = none → False) → b = a := fun {b} h => at_a b fun z => h z
  have kept : ∀ {b : Addr} {m : Str → Option Value}, s.heap.Ns b m → (hidT s.heap H).Ns b m := by
    rintro b m ⟨o, es, ep, eo, ed, rest⟩
    refine ⟨o, es, ep, hidT_get eo ?_, ed, rest⟩
    cases hb : H b with
    | none => rfl
    | some v =>
      have eb := tracked (b := b) (fun z => by rw [z] at hb; cases hb)
      subst eb
      obtain ⟨o', eo', nd⟩ := lst
      rw [eo] at eo'
      cases eo'
      exact absurd ed (nd es ep)
  have inB : K.In (hidT s.heap H) := by
    intro b o look
    refine hidT_get (inK b o look) ?_
    cases hb : H b with
    | none => rfl
    | some v =>
      have eb := tracked (b := b) (fun z => by rw [z] at hb; cases hb)
      subst eb
      have nk := notK (fun z => by rw [z] at hb; cases hb)
      rw [nk] at look
      cases look
  have md : Mod K mg (hidT s.heap H) := by
    obtain ⟨mc, l1, l2⟩ := nolim
    exact ⟨inB, kept glob, ⟨mb, kept bltn, same_b⟩, mc, kept l1, l2⟩
  have env : Env0 P w K mg (hidT s.heap H) callerA [] s H := by
    refine ⟨rfl, md, fun b o z => of_hidT z, ?_, trivial, fun b hb => absurd (show b ∈ ([] : List Addr) from hb) List.not_mem_nil, hok, .of_eq nog⟩
    exact Nat.le_of_eq (hidT_size _ _)
  have run := (F _ inB (kept glob)).go callerA [] s H ⟨[.ref a], []⟩ [.ref a] [.ref a] _ _ room rfl env (bind s (.ref a)) (.cons rfl .nil) hsp
  refine codeAny_mono run fun r s' hr => ?_
  rcases r with e | fl
  · exact False.elim hr
  rcases fl with _ | _ | _ | u
  · exact False.elim hr
  · exact False.elim hr
  · exact False.elim hr
  obtain ⟨v, H', eos, bare, un, hok', ru, ev⟩ := hr
  cases (show v = .bl true from ev)
  cases (show u = .bool true from ru)
  refine ⟨rfl, OldK.of_keep fun b o eb => ?_, eos, bare⟩
  cases hb : H b with
  | none => exact un.keep b o eb hb (fun z => nomatch z) (fun z => nomatch z)
  | some v =>
    rcases only b with z | ⟨o1, xs, z⟩
    · rw [hb] at z
      cases z
    · obtain ⟨g1, _⟩ := hok b _ z
      obtain ⟨g2, _⟩ := hok' b _ (un.frzs b o1 _ z)
      rw [eb] at g1
      cases g1
      exact g2
theorem law_g (inK : K.In s.heap) (glob : s.heap.Ns mainGlobals mg) (bltn : s.heap.Ns builtinsNs mb) (same_b : ∀ z : Str, z ≠ "__name__" → mb z = bootBuiltins z) (nolim : s.heap.NoLimit) (nog : s.gens = #[])
    (script : s.heap.get? a = some { cls := .type "list", data := .seq us.toArray }) (numb : IntsAre us ns) (short : ns.length ≤ sizeLine) (room : Room k callerA)
    (F : ∀ base : Heap, K.In base → base.Ns mainGlobals mg → FnG P w K mg base k fa fd [x] sp) (bind : ∀ (s : Shared) (u : Value), BindsTo s fd ⟨[u], []⟩ [(x, u)])
    (hsp : ∀ H : Hp, Only H → SqL K H a (ns.map V.int) → sp [.ref a] H (fun v _ => v = .bl true) E0) : codeAny (model P w) callerA (.call (.ref fa) ⟨[.ref a], []⟩) (Done s) s := by
  have rel := vals_ints numb
  have nl := numb.length
  have lst : ∃ o, s.heap.get? a = some o ∧ ∀ es ep, o.data ≠ .dict es ep := ⟨_, script, fun es ep z => nomatch z⟩
  cases look : K.lookup a with
  | some o =>
    have eo := inK a o look
    rw [script] at eo
    cases eo
    refine law_at inK glob bltn same_b nolim nog room F bind (fun _ => none) (fun _ => .inl rfl) (fun b v z => nomatch (show (none : Option HO) = some v from z)) (fun b z => absurd rfl z) (fun z => absurd rfl z) lst (hsp _ (fun _ => .inl rfl) (.inr ?_))
    exact ⟨_, us.toArray, _, look, rfl, rfl, rfl, by rw [List.size_toArray, nl]; exact short, by simpa using rel⟩
  | none =>
    have here : (fun b => if b = a then some (HO.frz { cls := .type "list", data := .seq us.toArray } (.lst (ns.map V.int))) else none) a = some (HO.frz { cls := .type "list", data := .seq us.toArray } (.lst (ns.map V.int))) := if_pos rfl
    have only : Only (fun b => if b = a then some (HO.frz { cls := .type "list", data := .seq us.toArray } (.lst (ns.map V.int))) else none) := by
      intro b
      by_cases e : b = a
      · exact .inr ⟨_, _, if_pos e⟩
      · exact .inl (if_neg e)
    refine law_at inK glob bltn same_b nolim nog room F bind _ only (fun b v z => ?_) (fun b z => ?_) (fun _ => look) lst (hsp _ only (.inl (.inr ⟨_, here⟩)))
    · by_cases e : b = a
      · subst e
        have z2 := here.symm.trans z
        cases z2
        exact ⟨script, by rw [List.length_map]; exact short, us, _, rel, script⟩
      · have z' : (if b = a then some (HO.frz { cls := .type "list", data := .seq us.toArray } (.lst (ns.map V.int))) else none) = some v := z
        rw [if_neg e] at z'
        cases z'
    · by_cases e : b = a
      · exact e
      · exact absurd (if_neg e) z
end
/-- the goal that the head leaves, from such a promise -/
theorem walk_g {l : PySem.W.OpenLaw} {n k : Nat} {q : Program} {loose : List Str} {XP : (Str → Option Value) → Heap → Prop} {YP : World → Heap → Prop} {d : DefRec} {K : Params → PySem.W.Frag} {sp : World → Sp} {x : Str}
    (hn : l.most = some n) (hn2 : n ≤ sizeLine) (hdf : d.params.defaults = []) (room : Room k callerA) (hY : ∀ (w : World) (h : Heap), YP w h → (K w.params).In h)
    (F : ∀ (w : World) (mg : Str → Option Value) (fa : Addr) (h : Heap), (K w.params).In h → h.Ns mainGlobals mg → mg d.name = some (.ref fa) →
      ∃ fd : FuncData, (∀ (s : Shared) (u : Value), BindsTo s fd ⟨[u], []⟩ [(x, u)]) ∧ ∀ base : Heap, (K w.params).In base → base.Ns mainGlobals mg → FnG l.prog w (K w.params) mg base k fa fd [x] (sp w))
    (hsp : ∀ (w : World) (H : Hp) (a : Addr) (ns : List Int), ns.length ≤ n → Only H → SqL (K w.params) H a (ns.map V.int) → sp w [.ref a] H (fun v _ => v = .bl true) E0) :
    PySem.W.WalkO q loose XP YP l.row.toRowW d [] (fun f vs => PySem.call f vs) := by
  refine Att.attach_call hn hdf fun w t0 t1 mg mb fa oo pm cv doc a us ns G Y ho hd hcd hmg script numb short nog => ?_
  have inK := hY w _ Y
  obtain ⟨fd, bind, H⟩ := F w mg fa _ inK G.T.g hmg
  exact law_g inK G.T.g G.T.b G.T.builtins G.T.nolimit nog script numb (Nat.le_trans short hn2) room H bind fun Hh only hS => hsp w Hh a ns short only hS
end Sh
set_option Elab.async false
set_option linter.all false
set_option maxRecDepth 100000
set_option maxHeartbeats 4000000
namespace Sh
open PySem PySem.Spec PyProof.Rows L2
theorem kb0_of {K : PySem.W.Frag} {x qual : Str} {st : Stmt} {f : Addr} {fd : FuncData} {ps ks : List Str} {g : List Value → List Value} {gV : List V → List V} (F : Fun K x qual st f fd)
    (h : ∀ (kV doc pm : Value) (an : Option Addr) (cdv ct : Value) (ws : List Value), ws.length = ks.length → bindArgs (PySem.W.fnOf x qual (defArgs st) (defBody st) (defScope st) .none kV doc pm an cdv ct) ⟨[], ks.zip ws⟩ = pure (ps.zip (g ws)))
    (rel : ∀ {zs : List V} {ws : List Value}, Vals zs ws → zs.length = ks.length → Vals (gV zs) (g ws)) : KB0 K fd ps ks g gV := by
  obtain ⟨oc, od, kV, doc, pm, an, cdv, ct, osl, rfl, lk, hcd⟩ := F.ex
  exact ⟨fun s ws hl => .of_eq (h kV doc pm an cdv ct ws hl), rel⟩
abbrev sLaw : Stmt := topS 20
abbrev NL : List Str := ["_law_script", "_law_cells_here", "_law_k"]
theorem scLaw : FnScope NL ["_law_script"] (defScope sLaw) := ⟨rfl, rfl, rfl, by decide +kernel, rfl, by decide +kernel, by decide +kernel⟩
section
variable {P : Program} {w : World} {K : PySem.W.Frag} {mg : Str → Option Value} {base : Heap}
def spLaw (K : PySem.W.Frag) : Sp := fun vs H Q _ => ∃ (a : Addr) (ns : List Int), vs = [.ref a] ∧ SqL K H a (ns.map V.int) ∧ ns.length ≤ 63 ∧ ∀ H', Q (.bl true) H'
theorem ok_law {f gC gB gR : Addr} {fd dC dB dR : FuncData} (F : Fun K "law" "law" sLaw f fd)
    (GC : FnOk P w K mg base CX0 1 gC dC ["_law_script", "_law_most"] (spCells K)) (bC : Binds K dC ["_law_script", "_law_most"] []) (kC : PySem.W.keepIn K (.ref gC) = true) (mC : mg "_law_cells" = some (.ref gC))
    (GB : FnOk P w K mg base CX0 1 gB dB ["_law_script", "_law_k"] (spBox K)) (bB : Binds K dB ["_law_script", "_law_k"] []) (kB : PySem.W.keepIn K (.ref gB) = true) (mB : mg "_law_box" = some (.ref gB))
    (GR : FnG P w K mg base 8 gR dR ["_law_box_here"] (spB K 651 domR postR)) (bR : Binds K dR ["_law_box_here"] []) (kR : PySem.W.keepIn K (.ref gR) = true) (mR : mg "_law_right" = some (.ref gR))
    (mr : mg "range" = none) (ml : mg "len" = none) (mall : mg "all" = none) : FnG P w K mg base 9 f fd ["_law_script"] (spLaw K) := by
  refine okG F scLaw (fun vs H Q E h => ?_) (fun cdv A outer s H vs Q Ex hr gu h => ?_)
  · obtain ⟨a, ns, rfl, _⟩ := h
    rfl
  obtain ⟨a, ns, rfl, hS, hlen, q⟩ := h
  refine ⟨_, pss_cons (ps_set (i := 1) scLaw.nd rfl (by first | exact Or.inl rfl | exact Or.inr rfl) (pe_call GC (hr.mono (by decide)) rfl mC kC bC .nil pass0 (pa_cons (pv 0) (pa_cons pe_int pa_nil))))
    (pss_one (ps_ret (pe_callB (cr_all rfl) rfl mall (by decide +kernel) (pa_cons (pe_lc (own := [("_law_k", 2)]) (g := gName 2) (te := (tCall (spB K 651 domR postR) [] E0 (tCons (tCall (spBox K) [] E0 (tCons (tVar 1) (tCons (tVar 2) tNil))) tNil))) (tt := tYes) rfl scLaw.nd (pi_range1 rfl mr (pa_cons (pe_callB call_len_seq rfl ml PySem.boot_len (pa_cons (pv 1) pa_nil)) pa_nil)) (blkOk_by (N := NL) (sc := defScope sLaw) (by decide +kernel))
        (fun _ _ _ _ _ => pg_name (i := 2) scLaw.nd rfl (by first | exact Or.inl rfl | exact Or.inr rfl)) (fun _ _ _ _ _ => pts_nil) (fun _ _ _ _ _ => pe_callG GR hr gu rfl mR kR bR pass0 (pa_cons (pe_call GB (hr.mono (by decide)) rfl mB kB bB .nil pass0 (pa_cons (pv 1) (pa_cons (pv 2) pa_nil))) pa_nil))) pa_nil)))), ?_⟩
  refine ⟨_, rfl, a, ns, 3, rfl, hS, hlen, by decide, by decide, fun p ms H1 np s1 ep l1 l2 => ?_⟩
  have hml : (ms.map V.int).length = ms.length := List.length_map _
  refine ⟨_, rfl, p, _, rfl, .inl (SqL.of ep), _, rfl, by omega, by omega, fun D hD => lc_range (lo := 0) (n := (ms.map V.int).length) (fun t H4 => Same H1 H4 ∧ H4 D = some (.lst ((List.replicate t true).map V.bl))) ?_ ?_ ?_⟩
  · exact ⟨same_up hD, upd_same⟩
  · rintro t H4 ht ⟨s4, e4⟩
    rw [hml] at ht
    refine ⟨rfl, ?_⟩
    refine ⟨_, rfl, _, rfl, p, ms, _, rfl, SqL.of (s4 _ _ ep), by omega, by omega, by omega, fun bx x y nbx x0 y0 y1 => ?_⟩
    have s3 := same_up (o := .lst [.int x, .int y, .int 0]) nbx
    have hb0 : Bx (upd H4 bx (.lst [.int x, .int y, .int 0])) bx y 0 := ⟨x, upd_same, x0, y0, y1⟩
    have neD : D ≠ bx := fun e => by
      rw [← e, e4] at nbx
      cases nbx
    refine ⟨fun _ => none, [], bx, [], y, 0, 0, rfl, (fun a o e => nomatch e), hb0, by omega, by unfold BxM; decide, rfl, rfl, rfl, fun v d G' H5 y' c' nb hB' c0' c1' rd hp => ?_⟩
    have e5 := nb.h _ _ neD (s3 _ _ e4)
    refine ⟨_, e5, ?_, fun b o e => ?_, ?_⟩
    · rw [List.length_map, List.length_replicate]; exact sz60' (by omega)
    · have nD : b ≠ D := fun z => by rw [z, hD] at e; cases e
      rw [upd_ne nD]
      exact nb.h _ _ (ne_of_none (s4 _ _ e) nbx) (s3 _ _ (s4 _ _ e))
    · subst hp
      cases (show v = .bl true from rd)
      rw [upd_same, List.replicate_succ', List.map_append]; rfl
  · rintro H4 ⟨s4, e4⟩
    refine ⟨D, _, rfl, SqL.of e4, ?_⟩
    rw [all_true]
    exact q _
end
theorem all_mk {l : PySem.W.OpenLaw} {w : World} {K : PySem.W.Frag} {h : Heap} {mg : Str → Option Value} {fa fD0 fD1 fD2 fD3 fD4 fD5 fD6 fD7 fD8 fD9 fD10 fD11 fD12 fD13 fD14 fD15 fD16 fD17 : Addr} (X : K.In h) (G : h.Ns mainGlobals mg) (hfa : mg "law" = some (.ref fa))
    {odD0 anD0 odD1 anD1 odD2 anD2 odD3 anD3 odD4 anD4 odD5 anD5 odD6 anD6 odD7 anD7 odD8 anD8 odD9 anD9 odD10 anD10 odD11 anD11 odD12 anD12 odD13 anD13 odD14 anD14 odD15 anD15 odD16 anD16 odD17 anD17 : Option Addr} {slD0 slD1 slD2 slD3 slD4 slD5 slD6 slD7 slD8 slD9 slD10 slD11 slD12 slD13 slD14 slD15 slD16 slD17 : Array (Option Value)} {ocD0 kVD0 dcD0 pmD0 cdD0 ctD0 ocD1 kVD1 dcD1 pmD1 cdD1 ctD1 ocD2 kVD2 dcD2 pmD2 cdD2 ctD2 ocD3 kVD3 dcD3 pmD3 cdD3 ctD3 ocD4 kVD4 dcD4 pmD4 cdD4 ctD4 ocD5 kVD5 dcD5 pmD5 cdD5 ctD5 ocD6 kVD6 dcD6 pmD6 cdD6 ctD6 ocD7 kVD7 dcD7 pmD7 cdD7 ctD7 ocD8 kVD8 dcD8 pmD8 cdD8 ctD8 ocD9 kVD9 dcD9 pmD9 cdD9 ctD9 ocD10 kVD10 dcD10 pmD10 cdD10 ctD10 ocD11 kVD11 dcD11 pmD11 cdD11 ctD11 ocD12 kVD12 dcD12 pmD12 cdD12 ctD12 ocD13 kVD13 dcD13 pmD13 cdD13 ctD13 ocD14 kVD14 dcD14 pmD14 cdD14 ctD14 ocD15 kVD15 dcD15 pmD15 cdD15 ctD15 ocD16 kVD16 dcD16 pmD16 cdD16 ctD16 ocD17 kVD17 dcD17 pmD17 cdD17 ctD17 : Value} 
    (aD0 : PySem.W.nsIn K mainGlobals "opposite" = some (some (.ref fD0)))
    (lD0 : K.lookup fD0 = some ⟨ocD0, odD0, .func (PySem.W.fnOf "opposite" "opposite" (defArgs s_opposite) (defBody s_opposite) (defScope s_opposite) .none kVD0 dcD0 pmD0 anD0 cdD0 ctD0), slD0⟩)
    (cD0 : PySem.W.codeIn K cdD0 "opposite" = true)
    (kD0 : PySem.W.keepIn K (.ref fD0) = true)
    (aD1 : PySem.W.nsIn K mainGlobals "gaps_closed" = some (some (.ref fD1)))
    (lD1 : K.lookup fD1 = some ⟨ocD1, odD1, .func (PySem.W.fnOf "gaps_closed" "gaps_closed" (defArgs s_gaps_closed) (defBody s_gaps_closed) (defScope s_gaps_closed) .none kVD1 dcD1 pmD1 anD1 cdD1 ctD1), slD1⟩)
    (cD1 : PySem.W.codeIn K cdD1 "gaps_closed" = true)
    (kD1 : PySem.W.keepIn K (.ref fD1) = true)
    (aD2 : PySem.W.nsIn K mainGlobals "with_zero" = some (some (.ref fD2)))
    (lD2 : K.lookup fD2 = some ⟨ocD2, odD2, .func (PySem.W.fnOf "with_zero" "with_zero" (defArgs s_with_zero) (defBody s_with_zero) (defScope s_with_zero) .none kVD2 dcD2 pmD2 anD2 cdD2 ctD2), slD2⟩)
    (cD2 : PySem.W.codeIn K cdD2 "with_zero" = true)
    (kD2 : PySem.W.keepIn K (.ref fD2) = true)
    (aD3 : PySem.W.nsIn K mainGlobals "shorten" = some (some (.ref fD3)))
    (lD3 : K.lookup fD3 = some ⟨ocD3, odD3, .func (PySem.W.fnOf "shorten" "shorten" (defArgs s_shorten) (defBody s_shorten) (defScope s_shorten) .none kVD3 dcD3 pmD3 anD3 cdD3 ctD3), slD3⟩)
    (cD3 : PySem.W.codeIn K cdD3 "shorten" = true)
    (kD3 : PySem.W.keepIn K (.ref fD3) = true)
    (aD4 : PySem.W.nsIn K mainGlobals "_law_box" = some (some (.ref fD4)))
    (lD4 : K.lookup fD4 = some ⟨ocD4, odD4, .func (PySem.W.fnOf "_law_box" "_law_box" (defArgs sBox) (defBody sBox) (defScope sBox) .none kVD4 dcD4 pmD4 anD4 cdD4 ctD4), slD4⟩)
    (cD4 : PySem.W.codeIn K cdD4 "_law_box" = true)
    (kD4 : PySem.W.keepIn K (.ref fD4) = true)
    (aD5 : PySem.W.nsIn K mainGlobals "_law_take" = some (some (.ref fD5)))
    (lD5 : K.lookup fD5 = some ⟨ocD5, odD5, .func (PySem.W.fnOf "_law_take" "_law_take" (defArgs sTake) (defBody sTake) (defScope sTake) .none kVD5 dcD5 pmD5 anD5 cdD5 ctD5), slD5⟩)
    (cD5 : PySem.W.codeIn K cdD5 "_law_take" = true)
    (kD5 : PySem.W.keepIn K (.ref fD5) = true)
    (aD6 : PySem.W.nsIn K mainGlobals "_law_cells" = some (some (.ref fD6)))
    (lD6 : K.lookup fD6 = some ⟨ocD6, odD6, .func (PySem.W.fnOf "_law_cells" "_law_cells" (defArgs sCells) (defBody sCells) (defScope sCells) .none kVD6 dcD6 pmD6 anD6 cdD6 ctD6), slD6⟩)
    (cD6 : PySem.W.codeIn K cdD6 "_law_cells" = true)
    (kD6 : PySem.W.keepIn K (.ref fD6) = true)
    (aD7 : PySem.W.nsIn K mainGlobals "_law_of" = some (some (.ref fD7)))
    (lD7 : K.lookup fD7 = some ⟨ocD7, odD7, .func (PySem.W.fnOf "_law_of" "_law_of" (defArgs sOf) (defBody sOf) (defScope sOf) .none kVD7 dcD7 pmD7 anD7 cdD7 ctD7), slD7⟩)
    (cD7 : PySem.W.codeIn K cdD7 "_law_of" = true)
    (kD7 : PySem.W.keepIn K (.ref fD7) = true)
    (aD8 : PySem.W.nsIn K mainGlobals "_law_same" = some (some (.ref fD8)))
    (lD8 : K.lookup fD8 = some ⟨ocD8, odD8, .func (PySem.W.fnOf "_law_same" "_law_same" (defArgs s_l_same) (defBody s_l_same) (defScope s_l_same) .none kVD8 dcD8 pmD8 anD8 cdD8 ctD8), slD8⟩)
    (cD8 : PySem.W.codeIn K cdD8 "_law_same" = true)
    (kD8 : PySem.W.keepIn K (.ref fD8) = true)
    (aD9 : PySem.W.nsIn K mainGlobals "_law_limit" = some (some (.ref fD9)))
    (lD9 : K.lookup fD9 = some ⟨ocD9, odD9, .func (PySem.W.fnOf "_law_limit" "_law_limit" (defArgs s_l_limit) (defBody s_l_limit) (defScope s_l_limit) .none kVD9 dcD9 pmD9 anD9 cdD9 ctD9), slD9⟩)
    (cD9 : PySem.W.codeIn K cdD9 "_law_limit" = true)
    (kD9 : PySem.W.keepIn K (.ref fD9) = true)
    (aD10 : PySem.W.nsIn K mainGlobals "_law_rows" = some (some (.ref fD10)))
    (lD10 : K.lookup fD10 = some ⟨ocD10, odD10, .func (PySem.W.fnOf "_law_rows" "_law_rows" (defArgs s_l_rows) (defBody s_l_rows) (defScope s_l_rows) .none kVD10 dcD10 pmD10 anD10 cdD10 ctD10), slD10⟩)
    (cD10 : PySem.W.codeIn K cdD10 "_law_rows" = true)
    (kD10 : PySem.W.keepIn K (.ref fD10) = true)
    (aD11 : PySem.W.nsIn K mainGlobals "_law_ends" = some (some (.ref fD11)))
    (lD11 : K.lookup fD11 = some ⟨ocD11, odD11, .func (PySem.W.fnOf "_law_ends" "_law_ends" (defArgs s_l_ends) (defBody s_l_ends) (defScope s_l_ends) .none kVD11 dcD11 pmD11 anD11 cdD11 ctD11), slD11⟩)
    (cD11 : PySem.W.codeIn K cdD11 "_law_ends" = true)
    (kD11 : PySem.W.keepIn K (.ref fD11) = true)
    (aD12 : PySem.W.nsIn K mainGlobals "_law_loose" = some (some (.ref fD12)))
    (lD12 : K.lookup fD12 = some ⟨ocD12, odD12, .func (PySem.W.fnOf "_law_loose" "_law_loose" (defArgs s_l_loose) (defBody s_l_loose) (defScope s_l_loose) .none kVD12 dcD12 pmD12 anD12 cdD12 ctD12), slD12⟩)
    (cD12 : PySem.W.codeIn K cdD12 "_law_loose" = true)
    (kD12 : PySem.W.keepIn K (.ref fD12) = true)
    (aD13 : PySem.W.nsIn K mainGlobals "_law_zeroed" = some (some (.ref fD13)))
    (lD13 : K.lookup fD13 = some ⟨ocD13, odD13, .func (PySem.W.fnOf "_law_zeroed" "_law_zeroed" (defArgs s_l_zeroed) (defBody s_l_zeroed) (defScope s_l_zeroed) .none kVD13 dcD13 pmD13 anD13 cdD13 ctD13), slD13⟩)
    (cD13 : PySem.W.codeIn K cdD13 "_law_zeroed" = true)
    (kD13 : PySem.W.keepIn K (.ref fD13) = true)
    (aD14 : PySem.W.nsIn K mainGlobals "_law_way" = some (some (.ref fD14)))
    (lD14 : K.lookup fD14 = some ⟨ocD14, odD14, .func (PySem.W.fnOf "_law_way" "_law_way" (defArgs s_l_way) (defBody s_l_way) (defScope s_l_way) .none kVD14 dcD14 pmD14 anD14 cdD14 ctD14), slD14⟩)
    (cD14 : PySem.W.codeIn K cdD14 "_law_way" = true)
    (kD14 : PySem.W.keepIn K (.ref fD14) = true)
    (aD15 : PySem.W.nsIn K mainGlobals "_law_closed" = some (some (.ref fD15)))
    (lD15 : K.lookup fD15 = some ⟨ocD15, odD15, .func (PySem.W.fnOf "_law_closed" "_law_closed" (defArgs s_l_closed) (defBody s_l_closed) (defScope s_l_closed) .none kVD15 dcD15 pmD15 anD15 cdD15 ctD15), slD15⟩)
    (cD15 : PySem.W.codeIn K cdD15 "_law_closed" = true)
    (kD15 : PySem.W.keepIn K (.ref fD15) = true)
    (aD16 : PySem.W.nsIn K mainGlobals "_law_right" = some (some (.ref fD16)))
    (lD16 : K.lookup fD16 = some ⟨ocD16, odD16, .func (PySem.W.fnOf "_law_right" "_law_right" (defArgs s_l_right) (defBody s_l_right) (defScope s_l_right) .none kVD16 dcD16 pmD16 anD16 cdD16 ctD16), slD16⟩)
    (cD16 : PySem.W.codeIn K cdD16 "_law_right" = true)
    (kD16 : PySem.W.keepIn K (.ref fD16) = true)
    (aD17 : PySem.W.nsIn K mainGlobals "law" = some (some (.ref fD17)))
    (lD17 : K.lookup fD17 = some ⟨ocD17, odD17, .func (PySem.W.fnOf "law" "law" (defArgs sLaw) (defBody sLaw) (defScope sLaw) .none kVD17 dcD17 pmD17 anD17 cdD17 ctD17), slD17⟩)
    (cD17 : PySem.W.codeIn K cdD17 "law" = true)
    (kD17 : PySem.W.keepIn K (.ref fD17) = true)
    (b_len : PySem.W.nsIn K mainGlobals "len" = some none)
    (b_abs : PySem.W.nsIn K mainGlobals "abs" = some none)
    (b_int : PySem.W.nsIn K mainGlobals "int" = some none)
    (b_list : PySem.W.nsIn K mainGlobals "list" = some none)
    (b_tuple : PySem.W.nsIn K mainGlobals "tuple" = some none)
    (b_bool : PySem.W.nsIn K mainGlobals "bool" = some none)
    (b_str : PySem.W.nsIn K mainGlobals "str" = some none)
    (b_enumerate : PySem.W.nsIn K mainGlobals "enumerate" = some none)
    (b_isinstance : PySem.W.nsIn K mainGlobals "isinstance" = some none)
    (b_all : PySem.W.nsIn K mainGlobals "all" = some none)
    (b_any : PySem.W.nsIn K mainGlobals "any" = some none)
    (b_zip : PySem.W.nsIn K mainGlobals "zip" = some none)
    (b_range : PySem.W.nsIn K mainGlobals "range" = some none)
    (b_min : PySem.W.nsIn K mainGlobals "min" = some none)
    (b_max : PySem.W.nsIn K mainGlobals "max" = some none)
    (b_set : PySem.W.nsIn K mainGlobals "set" = some none)
    (b_sorted : PySem.W.nsIn K mainGlobals "sorted" = some none)
    (b_repr : PySem.W.nsIn K mainGlobals "repr" = some none)
    (b_sum : PySem.W.nsIn K mainGlobals "sum" = some none) :
    ∃ fd : FuncData, (∀ (s : Shared) (v : Value), BindsTo s fd ⟨[v], []⟩ [("_law_script", v)]) ∧ ∀ base : Heap, K.In base → base.Ns mainGlobals mg → FnG l.prog w K mg base 9 fa fd ["_law_script"] (spLaw K) := by
  have e := hfa.symm.trans (PySem.W.mg_of X G aD17)
  cases e
  have F_opposite := fun_mk (st := s_opposite) lD0 cD0 kD0
  have b_opposite := F_opposite.binds (ps := ["bound"]) fun _ _ _ _ _ _ us hl => match us, hl with | [_], _ => rfl
  have F_gaps_closed := fun_mk (st := s_gaps_closed) lD1 cD1 kD1
  have b_gaps_closed := F_gaps_closed.binds (ps := ["gaps", "spans"]) fun _ _ _ _ _ _ us hl => match us, hl with | [_, _], _ => rfl
  have F_with_zero := fun_mk (st := s_with_zero) lD2 cD2 kD2
  have b_with_zero := F_with_zero.binds (ps := ["gaps", "spans"]) fun _ _ _ _ _ _ us hl => match us, hl with | [_, _], _ => rfl
  have F_shorten := fun_mk (st := s_shorten) lD3 cD3 kD3
  have b_shorten := F_shorten.binds (ps := ["ways"]) fun _ _ _ _ _ _ us hl => match us, hl with | [_], _ => rfl
  have F_l_box := fun_mk (st := sBox) lD4 cD4 kD4
  have b_l_box := F_l_box.binds (ps := ["_law_script", "_law_k"]) fun _ _ _ _ _ _ us hl => match us, hl with | [_, _], _ => rfl
  have F_l_take := fun_mk (st := sTake) lD5 cD5 kD5
  have b_l_take := F_l_take.binds (ps := ["_law_box_here", "_law_below"]) fun _ _ _ _ _ _ us hl => match us, hl with | [_, _], _ => rfl
  have F_l_cells := fun_mk (st := sCells) lD6 cD6 kD6
  have b_l_cells := F_l_cells.binds (ps := ["_law_script", "_law_most"]) fun _ _ _ _ _ _ us hl => match us, hl with | [_, _], _ => rfl
  have F_l_of := fun_mk (st := sOf) lD7 cD7 kD7
  have b_l_of := F_l_of.binds (ps := ["_law_box_here", "_law_some"]) fun _ _ _ _ _ _ us hl => match us, hl with | [_, _], _ => rfl
  have F_l_same := fun_mk (st := s_l_same) lD8 cD8 kD8
  have b_l_same := F_l_same.binds (ps := ["_law_found", "_law_due"]) fun _ _ _ _ _ _ us hl => match us, hl with | [_, _], _ => rfl
  have F_l_limit := fun_mk (st := s_l_limit) lD9 cD9 kD9
  have b_l_limit := F_l_limit.binds (ps := ["_law_box_here"]) fun _ _ _ _ _ _ us hl => match us, hl with | [_], _ => rfl
  have F_l_rows := fun_mk (st := s_l_rows) lD10 cD10 kD10
  have b_l_rows := F_l_rows.binds (ps := ["_law_box_here", "_law_size"]) fun _ _ _ _ _ _ us hl => match us, hl with | [_, _], _ => rfl
  have F_l_ends := fun_mk (st := s_l_ends) lD11 cD11 kD11
  have b_l_ends := F_l_ends.binds (ps := ["_law_box_here", "_law_size"]) fun _ _ _ _ _ _ us hl => match us, hl with | [_, _], _ => rfl
  have F_l_loose := fun_mk (st := s_l_loose) lD12 cD12 kD12
  have b_l_loose := F_l_loose.binds (ps := ["_law_matter"]) fun _ _ _ _ _ _ us hl => match us, hl with | [_], _ => rfl
  have F_l_zeroed := fun_mk (st := s_l_zeroed) lD13 cD13 kD13
  have b_l_zeroed := F_l_zeroed.binds (ps := ["_law_rows_here", "_law_pairs_so"]) fun _ _ _ _ _ _ us hl => match us, hl with | [_, _], _ => rfl
  have F_l_way := fun_mk (st := s_l_way) lD14 cD14 kD14
  have b_l_way := F_l_way.binds (ps := ["_law_table", "_law_here", "_law_goal", "_law_seen_so"]) fun _ _ _ _ _ _ us hl => match us, hl with | [_, _, _, _], _ => rfl
  have F_l_closed := fun_mk (st := s_l_closed) lD15 cD15 kD15
  have b_l_closed := F_l_closed.binds (ps := ["_law_rows_here", "_law_pairs_so"]) fun _ _ _ _ _ _ us hl => match us, hl with | [_, _], _ => rfl
  have F_l_right := fun_mk (st := s_l_right) lD16 cD16 kD16
  have b_l_right := F_l_right.binds (ps := ["_law_box_here"]) fun _ _ _ _ _ _ us hl => match us, hl with | [_], _ => rfl
  have F_law := fun_mk (st := sLaw) lD17 cD17 kD17
  have b_law := F_law.binds (ps := ["_law_script"]) fun _ _ _ _ _ _ us hl => match us, hl with | [_], _ => rfl
  have bl : Blts mg := ⟨PySem.W.mg_none_of X G b_len, PySem.W.mg_none_of X G b_abs, PySem.W.mg_none_of X G b_int, PySem.W.mg_none_of X G b_list, PySem.W.mg_none_of X G b_tuple, PySem.W.mg_none_of X G b_bool, PySem.W.mg_none_of X G b_str, PySem.W.mg_none_of X G b_enumerate, PySem.W.mg_none_of X G b_isinstance, PySem.W.mg_none_of X G b_all, PySem.W.mg_none_of X G b_any, PySem.W.mg_none_of X G b_zip, PySem.W.mg_none_of X G b_range, PySem.W.mg_none_of X G b_min, PySem.W.mg_none_of X G b_max, PySem.W.mg_none_of X G b_set, PySem.W.mg_none_of X G b_sorted, PySem.W.mg_none_of X G b_repr, PySem.W.mg_none_of X G b_sum⟩
  have n_opposite := PySem.W.mg_of X G aD0
  have n_gaps_closed := PySem.W.mg_of X G aD1
  have n_with_zero := PySem.W.mg_of X G aD2
  have n_shorten := PySem.W.mg_of X G aD3
  have n_l_box := PySem.W.mg_of X G aD4
  have n_l_take := PySem.W.mg_of X G aD5
  have n_l_cells := PySem.W.mg_of X G aD6
  have n_l_of := PySem.W.mg_of X G aD7
  have n_l_same := PySem.W.mg_of X G aD8
  have n_l_limit := PySem.W.mg_of X G aD9
  have n_l_rows := PySem.W.mg_of X G aD10
  have n_l_ends := PySem.W.mg_of X G aD11
  have n_l_loose := PySem.W.mg_of X G aD12
  have n_l_zeroed := PySem.W.mg_of X G aD13
  have n_l_way := PySem.W.mg_of X G aD14
  have n_l_closed := PySem.W.mg_of X G aD15
  have n_l_right := PySem.W.mg_of X G aD16
  refine ⟨PySem.W.fnOf "law" "law" (defArgs sLaw) (defBody sLaw) (defScope sLaw) .none kVD17 dcD17 pmD17 anD17 cdD17 ctD17, fun s v => .of_eq rfl, fun base _ _ => ?_⟩
  have OV := ok_oppV (P := l.prog) (w := w) (mg := mg) (base := base) F_opposite
  have cv_opposite : Cal l.prog w K mg base 1 "opposite" ["bound"] (spOpp K) _ _ := ⟨OV, b_opposite, F_opposite.kp, n_opposite⟩
  have c_opposite : Cal l.prog w K mg base 1 "opposite" ["bound"] (spP K S_ng) _ _ := ⟨negP OV, b_opposite, F_opposite.kp, n_opposite⟩
  have c_with_zero : Cal l.prog w K mg base 2 "with_zero" ["gaps", "spans"] (spWz K) _ _ := ⟨ok_wz bl cv_opposite F_with_zero, b_with_zero, F_with_zero.kp, n_with_zero⟩
  have c_shorten : Cal l.prog w K mg base 1 "shorten" ["ways"] (spShorten K) _ _ := ⟨ok_shorten bl F_shorten, b_shorten, F_shorten.kp, n_shorten⟩
  have GN := ok_gapsN bl c_with_zero c_shorten c_opposite F_gaps_closed
  have c_gapsN : Cal l.prog w K mg base 3 "gaps_closed" ["gaps", "spans"] (spPn K S_gc) _ _ := ⟨GN, b_gaps_closed, F_gaps_closed.kp, n_gaps_closed⟩
  have c_gaps_closed : Cal l.prog w K mg base 3 "gaps_closed" ["gaps", "spans"] (spP K S_gc) _ _ := ⟨oldP GN, b_gaps_closed, F_gaps_closed.kp, n_gaps_closed⟩
  have k_gaps_closed : KB0 K _ p_gaps_closed ["spans", "gaps"] List.reverse List.reverse := kb0_of F_gaps_closed (fun _ _ _ _ _ _ us hl => match us, hl with | [_, _], _ => rfl) (fun r _ => vals_rev r)
  have T1 := ok_take (n := 1) (P := l.prog) (w := w) (mg := mg) (base := base) F_l_take
  have T2 := ok_take2 F_l_take T1 b_l_take F_l_take.kp n_l_take
  have c4_l_take : Cal l.prog w K mg base 3 "_law_take" ["_law_box_here", "_law_below"] (spB K 2 domT2 postT) _ _ := ⟨take_B2 T2, b_l_take, F_l_take.kp, n_l_take⟩
  have c_l_take : Cal l.prog w K mg base 2 "_law_take" ["_law_box_here", "_law_below"] (spB K 1 domT postT) _ _ := ⟨take_B T1, b_l_take, F_l_take.kp, n_l_take⟩
  have c_l_of : Cal l.prog w K mg base 3 "_law_of" ["_law_box_here", "_law_some"] (spB K 1 domO postO) _ _ := ⟨ok_l_of bl c_l_take F_l_of, b_l_of, F_l_of.kp, n_l_of⟩
  have c_l_same : Cal l.prog w K mg base 5 "_law_same" ["_law_found", "_law_due"] (spP K (S_same 5)) _ _ := ⟨all_same bl F_l_same b_l_same n_l_same 5, b_l_same, F_l_same.kp, n_l_same⟩
  have c_l_limit : Cal l.prog w K mg base 4 "_law_limit" ["_law_box_here"] (spB K 7 domL postL) _ _ := ⟨ok_l_limit bl c4_l_take c_l_of F_l_limit, b_l_limit, F_l_limit.kp, n_l_limit⟩
  have c_l_rows : Cal l.prog w K mg base 5 "_law_rows" ["_law_box_here", "_law_size"] (spB K 175 domN postRw) _ _ := ⟨ok_l_rows bl c_l_limit F_l_rows, b_l_rows, F_l_rows.kp, n_l_rows⟩
  have c_l_ends : Cal l.prog w K mg base 4 "_law_ends" ["_law_box_here", "_law_size"] (spB K 40 domN postEn) _ _ := ⟨ok_l_ends bl c4_l_take c_l_of F_l_ends, b_l_ends, F_l_ends.kp, n_l_ends⟩
  have c_l_loose : Cal l.prog w K mg base 4 "_law_loose" ["_law_matter"] (spP K (S_loo 4)) _ _ := ⟨all_loose bl F_l_loose b_l_loose n_l_loose 4, b_l_loose, F_l_loose.kp, n_l_loose⟩
  have c_l_zeroed : Cal l.prog w K mg base 1 "_law_zeroed" ["_law_rows_here", "_law_pairs_so"] (spP K S_ze) _ _ := ⟨ok_l_zeroed bl F_l_zeroed, b_l_zeroed, F_l_zeroed.kp, n_l_zeroed⟩
  have c_l_way : Cal l.prog w K mg base 6 "_law_way" ["_law_table", "_law_here", "_law_goal", "_law_seen_so"] (spP K (S_wy 6)) _ _ := ⟨all_way bl F_l_way b_l_way n_l_way 6, b_l_way, F_l_way.kp, n_l_way⟩
  have c_l_closed : Cal l.prog w K mg base 7 "_law_closed" ["_law_rows_here", "_law_pairs_so"] (spP K S_cl) _ _ := ⟨ok_l_closed bl c_l_zeroed c_l_way F_l_closed, b_l_closed, F_l_closed.kp, n_l_closed⟩
  have GR := ok_l_right bl c4_l_take c_l_rows c_l_ends c_l_loose c_l_closed c_gaps_closed c_gapsN c_l_same k_gaps_closed F_l_right
  have GC := ok_cells (P := l.prog) (w := w) (mg := mg) (base := base) (n := 0) F_l_cells bl.list bl.enumerate
  have GB := ok_box (P := l.prog) (w := w) (mg := mg) (base := base) (n := 0) F_l_box bl.len bl.abs bl.int
  exact ok_law F_law GC b_l_cells F_l_cells.kp n_l_cells GB b_l_box F_l_box.kp n_l_box GR b_l_right F_l_right.kp n_l_right bl.range bl.len bl.all
end Sh
set_option Elab.async false
open PySem PySem.W PyProof.Rows
set_option maxRecDepth 100000 in
set_option maxHeartbeats 0 in
theorem PySem.Challenge.cw_shadowruns_k40_gaps_closed_by_ways_holds : PySem.Challenge.rw_shadowruns_k40_gaps_closed_by_ways.Holds := by
  w_on; o_law; k_head; (case hw => w_witness2)
  k_fill
  refine Sh.walk_g (l := PySem.Challenge.rw_shadowruns_k40_gaps_closed_by_ways) (n := 63) (k := 9) (x := "_law_script") (sp := fun w => Sh.spLaw _) rfl (by decide) rfl ⟨rfl, by decide, by decide⟩ (fun w h Y => PySem.W.kIn_of Y) ?F (fun _ _ a ns hl _ hS => ⟨a, ns, rfl, hS, hl, fun _ => rfl⟩)
  case F =>
    intro w mg fa h KX G hmg
    refine' Sh.all_mk KX G hmg ?aD0 ?lD0 ?cD0 ?kD0 ?aD1 ?lD1 ?cD1 ?kD1 ?aD2 ?lD2 ?cD2 ?kD2 ?aD3 ?lD3 ?cD3 ?kD3 ?aD4 ?lD4 ?cD4 ?kD4 ?aD5 ?lD5 ?cD5 ?kD5 ?aD6 ?lD6 ?cD6 ?kD6 ?aD7 ?lD7 ?cD7 ?kD7 ?aD8 ?lD8 ?cD8 ?kD8 ?aD9 ?lD9 ?cD9 ?kD9 ?aD10 ?lD10 ?cD10 ?kD10 ?aD11 ?lD11 ?cD11 ?kD11 ?aD12 ?lD12 ?cD12 ?kD12 ?aD13 ?lD13 ?cD13 ?kD13 ?aD14 ?lD14 ?cD14 ?kD14 ?aD15 ?lD15 ?cD15 ?kD15 ?aD16 ?lD16 ?cD16 ?kD16 ?aD17 ?lD17 ?cD17 ?kD17 ?b_len ?b_abs ?b_int ?b_list ?b_tuple ?b_bool ?b_str ?b_enumerate ?b_isinstance ?b_all ?b_any ?b_zip ?b_range ?b_min ?b_max ?b_set ?b_sorted ?b_repr ?b_sum
    (case aD0 => k_is)
    (case lD0 => k_is)
    (case cD0 => k_is)
    (case kD0 => k_is)
    (case aD1 => k_is)
    (case lD1 => k_is)
    (case cD1 => k_is)
    (case kD1 => k_is)
    (case aD2 => k_is)
    (case lD2 => k_is)
    (case cD2 => k_is)
    (case kD2 => k_is)
    (case aD3 => k_is)
    (case lD3 => k_is)
    (case cD3 => k_is)
    (case kD3 => k_is)
    (case aD4 => k_is)
    (case lD4 => k_is)
    (case cD4 => k_is)
    (case kD4 => k_is)
    (case aD5 => k_is)
    (case lD5 => k_is)
    (case cD5 => k_is)
    (case kD5 => k_is)
    (case aD6 => k_is)
    (case lD6 => k_is)
    (case cD6 => k_is)
    (case kD6 => k_is)
    (case aD7 => k_is)
    (case lD7 => k_is)
    (case cD7 => k_is)
    (case kD7 => k_is)
    (case aD8 => k_is)
    (case lD8 => k_is)
    (case cD8 => k_is)
    (case kD8 => k_is)
    (case aD9 => k_is)
    (case lD9 => k_is)
    (case cD9 => k_is)
    (case kD9 => k_is)
    (case aD10 => k_is)
    (case lD10 => k_is)
    (case cD10 => k_is)
    (case kD10 => k_is)
    (case aD11 => k_is)
    (case lD11 => k_is)
    (case cD11 => k_is)
    (case kD11 => k_is)
    (case aD12 => k_is)
    (case lD12 => k_is)
    (case cD12 => k_is)
    (case kD12 => k_is)
    (case aD13 => k_is)
    (case lD13 => k_is)
    (case cD13 => k_is)
    (case kD13 => k_is)
    (case aD14 => k_is)
    (case lD14 => k_is)
    (case cD14 => k_is)
    (case kD14 => k_is)
    (case aD15 => k_is)
    (case lD15 => k_is)
    (case cD15 => k_is)
    (case kD15 => k_is)
    (case aD16 => k_is)
    (case lD16 => k_is)
    (case cD16 => k_is)
    (case kD16 => k_is)
    (case aD17 => k_is)
    (case lD17 => k_is)
    (case cD17 => k_is)
    (case kD17 => k_is)
    (case b_len => k_is)
    (case b_abs => k_is)
    (case b_int => k_is)
    (case b_list => k_is)
    (case b_tuple => k_is)
    (case b_bool => k_is)
    (case b_str => k_is)
    (case b_enumerate => k_is)
    (case b_isinstance => k_is)
    (case b_all => k_is)
    (case b_any => k_is)
    (case b_zip => k_is)
    (case b_range => k_is)
    (case b_min => k_is)
    (case b_max => k_is)
    (case b_set => k_is)
    (case b_sorted => k_is)
    (case b_repr => k_is)
    (case b_sum => k_is)
