import PyProof.Rows.All
import Wide.All
import OpenK.AllK
import Wide.FinOn
import HandS.ForMost
import HandS.Flow
import HandS.IsInst
import HandS.FStr
import HandS.Zip
import HandS.Walk
import HandS.Wide
import HandS.TupAny
import HandS.Defaults
import HandS.Style
import HandS.SetFor
import HandS.Strs
import HandS.SortKw
import KE.DatumOrd
import HandS.NoneIn
import HandS.Conv
import HandS.Rev
import HandS.RevTup
import HandS.MapObj
import HandS.MapJoin
import HandS.Gcd
import PyProof.Rows.SortShellAny
import HandS.FromBytesMap
import KE.GoesMore
import PyProof.TupleOfGen
import HandS.Iter
import KE.KDictZip
import PyProof.ListNew
import HandS.Deep
import KE.GoesNew
import KE.KStar
import HandS.Star
import PyProof.Draws
import KE.GoesEnum
import PyProof.ReprRoads
import PyProof.StrLawsRepr
import PyProof.Rows.StrDigits
import PyProof.Rows.RegStrFacts
import HandS.Dict
import KE.KRevSl
import KE.RegKIsAll
import PySem.Challenge.RW_shadowruns_k37_namings_or_not
set_option Elab.async false
set_option linter.all false
set_option maxRecDepth 100000
set_option maxHeartbeats 4000000
/-! A layer of its own over the hand layer: values as data, the heap out of sight. -/
namespace Sh
open PySem PySem.Spec PyProof.Rows L2
inductive Dt where
  | non | bl (b : Bool) | int (i : Int) | str (s : Str) | ty (n : String) | tup (l : List Dt) | lst (l : List Dt)
section
variable (K : PySem.W.Frag)
mutual
def RD (G : Hp) : Dt → V → Prop
  | .non, v => v = .non
  | .bl b, v => v = .bl b
  | .int i, v => v = .int i
  | .str s, v => v = .str s
  | .ty n, v => v = .ty n
  | .tup l, v => ∃ a xs, v = .ref a ∧ SqT K G a xs ∧ RDs G l xs
  | .lst l, v => ∃ a xs, v = .ref a ∧ G a = some (.lst xs) ∧ RDs G l xs
def RDs (G : Hp) : List Dt → List V → Prop
  | [], xs => xs = []
  | d :: l, xs => ∃ x r, xs = x :: r ∧ RD G d x ∧ RDs G l r
end
end
section
variable {K : PySem.W.Frag}
theorem same_rd {H H' : Hp} {a : Addr} {u : HO} (e : Same H H') (h : Rd H a u) : Rd H' a u := by
  rcases h with h | ⟨o, h⟩
  · exact .inl (e _ _ h)
  · exact .inr ⟨o, e _ _ h⟩
theorem same_sqT {H H' : Hp} {a : Addr} {xs : List V} (e : Same H H') (h : SqT K H a xs) : SqT K H' a xs := by
  rcases h with h | h
  · exact .inl (same_rd e h)
  · exact .inr h
theorem same_sqL {H H' : Hp} {a : Addr} {xs : List V} (e : Same H H') (h : SqL K H a xs) : SqL K H' a xs := by
  rcases h with h | h
  · exact .inl (same_rd e h)
  · exact .inr h
mutual
theorem RD.same {G G' : Hp} (k : Same G G') : ∀ {d : Dt} {v : V}, RD K G d v → RD K G' d v
  | .non, _, h => h
  | .bl _, _, h => h
  | .int _, _, h => h
  | .str _, _, h => h
  | .ty _, _, h => h
  | .tup _, _, ⟨a, xs, e, q, r⟩ => ⟨a, xs, e, same_sqT k q, RDs.same k r⟩
  | .lst _, _, ⟨a, xs, e, q, r⟩ => ⟨a, xs, e, k _ _ q, RDs.same k r⟩
theorem RDs.same {G G' : Hp} (k : Same G G') : ∀ {l : List Dt} {xs : List V}, RDs K G l xs → RDs K G' l xs
  | [], _, h => h
  | _ :: _, _, ⟨x, r, e, h1, h2⟩ => ⟨x, r, e, RD.same k h1, RDs.same k h2⟩
end
theorem RDs.length {G : Hp} : ∀ {l : List Dt} {xs : List V}, RDs K G l xs → xs.length = l.length
  | [], _, h => by rw [show _ = [] from h]; rfl
  | _ :: _, _, ⟨x, r, e, h1, h2⟩ => by rw [e, List.length_cons, List.length_cons, RDs.length h2]
theorem RDs.get {G : Hp} : ∀ {l : List Dt} {xs : List V} {i : Nat} {d : Dt}, RDs K G l xs → l[i]? = some d → ∃ x, xs[i]? = some x ∧ RD K G d x
  | [], _, i, _, h, e => by simp at e
  | d :: l, _, 0, _, ⟨y, r, e1, h1, h2⟩, e => by
    cases e; subst e1; exact ⟨y, rfl, h1⟩
  | d :: l, _, i + 1, _, ⟨y, r, e1, h1, h2⟩, e => by
    subst e1
    obtain ⟨x, q1, q2⟩ := RDs.get (i := i) h2 (by simpa using e)
    exact ⟨x, by simpa using q1, q2⟩
theorem RDs.back {G : Hp} : ∀ {l : List Dt} {xs : List V} {i : Nat} {x : V}, RDs K G l xs → xs[i]? = some x → ∃ d, l[i]? = some d ∧ RD K G d x
  | [], _, i, x, h, e => by rw [show _ = [] from h] at e; simp at e
  | d :: l, _, 0, x, ⟨y, r, e1, h1, h2⟩, e => by
    rw [e1] at e; cases e; exact ⟨d, rfl, h1⟩
  | d :: l, _, i + 1, x, ⟨y, r, e1, h1, h2⟩, e => by
    rw [e1] at e
    obtain ⟨d', q1, q2⟩ := RDs.back (i := i) h2 (by simpa using e)
    exact ⟨d', by simpa using q1, q2⟩
theorem RDs.snoc {G : Hp} : ∀ {l : List Dt} {xs : List V} {d : Dt} {x : V}, RDs K G l xs → RD K G d x → RDs K G (l ++ [d]) (xs ++ [x])
  | [], _, d, x, h, r => by rw [show _ = [] from h]; exact ⟨x, [], rfl, r, rfl⟩
  | d :: l, _, _, x, ⟨y, r, e1, h1, h2⟩, q => ⟨y, r ++ [x], by rw [e1]; rfl, h1, RDs.snoc h2 q⟩
theorem RDs.app {G : Hp} : ∀ {l m : List Dt} {xs ys : List V}, RDs K G l xs → RDs K G m ys → RDs K G (l ++ m) (xs ++ ys)
  | [], _, _, _, h, r => by rw [show _ = [] from h]; exact r
  | d :: l, _, _, ys, ⟨y, r, e1, h1, h2⟩, q => ⟨y, r ++ ys, by rw [e1]; rfl, h1, RDs.app h2 q⟩
theorem RDs.take {G : Hp} : ∀ {l : List Dt} {xs : List V} (n : Nat), RDs K G l xs → RDs K G (l.take n) (xs.take n)
  | _, _, 0, h => by rw [List.take_zero, List.take_zero]; rfl
  | [], _, n + 1, h => by rw [show _ = [] from h]; rfl
  | d :: l, _, n + 1, ⟨y, r, e1, h1, h2⟩ => ⟨y, r.take n, by rw [e1]; rfl, h1, RDs.take n h2⟩
theorem RDs.drop {G : Hp} : ∀ {l : List Dt} {xs : List V} (n : Nat), RDs K G l xs → RDs K G (l.drop n) (xs.drop n)
  | _, _, 0, h => h
  | [], _, n + 1, h => by rw [show _ = [] from h]; rfl
  | d :: l, _, n + 1, ⟨y, r, e1, h1, h2⟩ => by rw [e1]; exact RDs.drop n h2
theorem RDs.ints {G : Hp} : ∀ {ns : List Int} {xs : List V}, RDs K G (ns.map Dt.int) xs → xs = ns.map V.int
  | [], _, h => h
  | n :: ns, _, ⟨y, r, e1, h1, h2⟩ => by rw [e1, show y = V.int n from h1, RDs.ints h2]; rfl
theorem RDs.bls {G : Hp} : ∀ {ns : List Bool} {xs : List V}, RDs K G (ns.map Dt.bl) xs → xs = ns.map V.bl
  | [], _, h => h
  | n :: ns, _, ⟨y, r, e1, h1, h2⟩ => by rw [e1, show y = V.bl n from h1, RDs.bls h2]; rfl
theorem RDs.one {G : Hp} {d : Dt} {xs : List V} (h : RDs K G [d] xs) : ∃ x, xs = [x] ∧ RD K G d x := by
  obtain ⟨x, r, rfl, h1, rfl⟩ := h
  exact ⟨x, rfl, h1⟩
theorem RDs.two {G : Hp} {d e : Dt} {xs : List V} (h : RDs K G [d, e] xs) : ∃ x y, xs = [x, y] ∧ RD K G d x ∧ RD K G e y := by
  obtain ⟨x, r, rfl, h1, y, r2, rfl, h2, rfl⟩ := h
  exact ⟨x, y, rfl, h1, h2⟩
theorem same_up {H : Hp} {p : Addr} {o : HO} (h : H p = none) : Same H (upd H p o) := fun b x e => by
  rw [upd_ne (ne_of_none e h)]; exact e
theorem same_upd {G H : Hp} {p : Addr} {o : HO} (h : Same G H) : Same (upd G p o) (upd H p o) := fun b x e => by
  by_cases z : b = p
  · subst z; rw [upd_same] at e ⊢; exact e
  · rw [upd_ne z] at e ⊢; exact h _ _ e
/-! ### what stands in the slots -/
def BxM : Int := 1000000000000
def Bx (H : Hp) (b : Addr) (y c : Int) : Prop := ∃ x : Int, H b = some (.lst [.int x, .int y, .int c]) ∧ 0 ≤ x ∧ 0 ≤ y ∧ y < 4611686018427387904
inductive En where
  | no | da (d : Dt) | own (l : List Dt) | bx (b : Addr) (f : Nat)
def En.isOwn : En → Prop
  | .own _ => True
  | .bx _ _ => True
  | _ => False
end
/-- G: what is data; H: all; B: what others hold and is no data -/
structure Mt (K : PySem.W.Frag) (B : Addr → Prop) (ρ : List En) (σ : L2.St) (G H : Hp) : Prop where
  sub : Same G H
  pro : ∀ a, B a → G a = none ∧ H a ≠ none
  len : σ.length = ρ.length
  da : ∀ (i : Nat) (d : Dt), ρ[i]? = some (.da d) → ∃ v, σ[i]? = some (some v) ∧ RD K G d v
  own : ∀ (i : Nat) (l : List Dt), ρ[i]? = some (.own l) → ∃ (q : Addr) (xs : List V), σ[i]? = some (some (V.ref q)) ∧ H q = some (.lst xs) ∧ RDs K G l xs ∧ G q = none ∧ ¬ B q
  bx : ∀ (i : Nat) (b : Addr) (f : Nat), ρ[i]? = some (.bx b f) → ∃ (y c : Int), σ[i]? = some (some (V.ref b)) ∧ Bx H b y c ∧ 0 ≤ c ∧ c + f ≤ BxM ∧ G b = none ∧ ¬ B b
  dis : ∀ (i j : Nat) (e e' : En) (a : Addr), ρ[i]? = some e → ρ[j]? = some e' → e.isOwn → e'.isOwn → i ≠ j → σ[i]? = some (some (V.ref a)) → σ[j]? = some (some (V.ref a)) → False
/-- what others hold stays -/
def Tr (B : Addr → Prop) (H H' : Hp) : Prop := ∀ a o, B a → H a = some o → H' a = some o
theorem Tr.refl {B : Addr → Prop} {H : Hp} : Tr B H H := fun _ _ _ e => e
theorem Tr.trans {B : Addr → Prop} {H H1 H2 : Hp} (x : Tr B H H1) (y : Tr B H1 H2) : Tr B H H2 := fun a o b e => y a o b (x a o b e)
theorem Tr.same {B : Addr → Prop} {H H' : Hp} (x : Same H H') : Tr B H H' := fun a o _ e => x a o e
/-- a step that only lays new data -/
structure Nw (G H G' H' : Hp) : Prop where
  g : Same G G'
  s : Same G' H'
  h : Same H H'
  f : ∀ a, G a = none → H a ≠ none → G' a = none
theorem Nw.refl {G H : Hp} (s : Same G H) : Nw G H G H := ⟨Same.refl _, s, Same.refl _, fun _ h _ => h⟩
theorem Nw.trans {G H G1 H1 G2 H2 : Hp} (x : Nw G H G1 H1) (y : Nw G1 H1 G2 H2) : Nw G H G2 H2 :=
  ⟨x.g.trans y.g, y.s, x.h.trans y.h, fun a h1 h2 => y.f a (x.f a h1 h2) (fun z => by
    cases e : H a with
    | none => exact h2 e
    | some o => rw [x.h _ _ e] at z; cases z)⟩
theorem Nw.new {G H : Hp} {p : Addr} {o : HO} (s : Same G H) (n : H p = none) : Nw G H (upd G p o) (upd H p o) :=
  ⟨same_up (s.free n), same_upd s, same_up n, fun a h1 h2 => by
    rw [upd_ne (fun z => h2 (by rw [z]; exact n))]; exact h1⟩
section
variable {K : PySem.W.Frag} {B : Addr → Prop} {ρ : List En} {σ : L2.St} {G H G' H' : Hp}
theorem ne_none {H H' : Hp} {a : Addr} (s : Same H H') (h : H a ≠ none) : H' a ≠ none := fun z => h (s.free z)
theorem some_ne {H : Hp} {a : Addr} {o : HO} (e : H a = some o) : H a ≠ none := fun z => by rw [z] at e; cases e
theorem Bx.ne {b : Addr} {y c : Int} (h : Bx H b y c) : H b ≠ none := by
  obtain ⟨x, e, _⟩ := h
  exact some_ne e
theorem Bx.same {b : Addr} {y c : Int} (s : Same H H') (h : Bx H b y c) : Bx H' b y c := by
  obtain ⟨x, e, r⟩ := h
  exact ⟨x, s _ _ e, r⟩
theorem Mt.nw (m : Mt K B ρ σ G H) (n : Nw G H G' H') : Mt K B ρ σ G' H' where
  sub := n.s
  pro := fun a b => ⟨n.f a (m.pro a b).1 (m.pro a b).2, ne_none n.h (m.pro a b).2⟩
  len := m.len
  da := fun i d e => by
    obtain ⟨v, h1, h2⟩ := m.da i d e
    exact ⟨v, h1, h2.same n.g⟩
  own := fun i l e => by
    obtain ⟨q, xs, h1, h2, h3, h4, h5⟩ := m.own i l e
    exact ⟨q, xs, h1, n.h _ _ h2, h3.same n.g, n.f q h4 (some_ne h2), h5⟩
  bx := fun i b f e => by
    obtain ⟨y, c, h1, h2, h3, h4, h5, h6⟩ := m.bx i b f e
    exact ⟨y, c, h1, h2.same n.h, h3, h4, n.f b h5 h2.ne, h6⟩
  dis := m.dis
theorem get_set {α : Type} {l : List α} {i j : Nat} {x y : α} (h : (l.set i x)[j]? = some y) : (i = j ∧ y = x ∧ i < l.length) ∨ (i ≠ j ∧ l[j]? = some y) := by
  rw [List.getElem?_set] at h
  by_cases e : i = j
  · rw [if_pos e] at h
    split at h
    · cases h; exact .inl ⟨e, rfl, by assumption⟩
    · cases h
  · rw [if_neg e] at h; exact .inr ⟨e, h⟩
theorem set_at {α : Type} {l : List α} {i : Nat} {x : α} (h : i < l.length) : (l.set i x)[i]? = some x := by
  rw [List.getElem?_set, if_pos rfl, if_pos h]
theorem set_off {α : Type} {l : List α} {i j : Nat} {x : α} (h : i ≠ j) : (l.set i x)[j]? = l[j]? := by
  rw [List.getElem?_set, if_neg h]
/-- a slot gets data -/
theorem Mt.set (m : Mt K B ρ σ G H) (i : Nat) {d : Dt} {v : V} (r : RD K G d v) : Mt K B (ρ.set i (.da d)) (σ.set i (some v)) G H where
  sub := m.sub
  pro := m.pro
  len := by rw [List.length_set, List.length_set]; exact m.len
  da := fun j e h => by
    rcases get_set h with ⟨rfl, z, lt⟩ | ⟨ne, z⟩
    · cases z; exact ⟨v, set_at (by rw [m.len]; exact lt), r⟩
    · rw [set_off ne]; exact m.da j e z
  own := fun j l h => by
    rcases get_set h with ⟨rfl, z, lt⟩ | ⟨ne, z⟩
    · cases z
    · rw [set_off ne]; exact m.own j l z
  bx := fun j b f h => by
    rcases get_set h with ⟨rfl, z, lt⟩ | ⟨ne, z⟩
    · cases z
    · rw [set_off ne]; exact m.bx j b f z
  dis := fun j k e e' a h1 h2 o1 o2 ne s1 s2 => by
    rcases get_set h1 with ⟨rfl, z, lt⟩ | ⟨n1, z1⟩
    · subst z; exact o1
    · rcases get_set h2 with ⟨rfl, z, lt⟩ | ⟨n2, z2⟩
      · subst z; exact o2
      · rw [set_off n1] at s1; rw [set_off n2] at s2; exact m.dis j k e e' a z1 z2 o1 o2 ne s1 s2
/-- a slot is forgotten -/
theorem Mt.drop (m : Mt K B ρ σ G H) (i : Nat) (o : Option V) : Mt K B (ρ.set i .no) (σ.set i o) G H where
  sub := m.sub
  pro := m.pro
  len := by rw [List.length_set, List.length_set]; exact m.len
  da := fun j e h => by
    rcases get_set h with ⟨rfl, z, lt⟩ | ⟨ne, z⟩
    · cases z
    · rw [set_off ne]; exact m.da j e z
  own := fun j l h => by
    rcases get_set h with ⟨rfl, z, lt⟩ | ⟨ne, z⟩
    · cases z
    · rw [set_off ne]; exact m.own j l z
  bx := fun j b f h => by
    rcases get_set h with ⟨rfl, z, lt⟩ | ⟨ne, z⟩
    · cases z
    · rw [set_off ne]; exact m.bx j b f z
  dis := fun j k e e' a h1 h2 o1 o2 ne s1 s2 => by
    rcases get_set h1 with ⟨rfl, z, lt⟩ | ⟨n1, z1⟩
    · subst z; exact o1
    · rcases get_set h2 with ⟨rfl, z, lt⟩ | ⟨n2, z2⟩
      · subst z; exact o2
      · rw [set_off n1] at s1; rw [set_off n2] at s2; exact m.dis j k e e' a z1 z2 o1 o2 ne s1 s2
/-- less is protected -/
theorem Mt.less (m : Mt K B ρ σ G H) {B' : Addr → Prop} (h : ∀ a, B' a → B a) : Mt K B' ρ σ G H where
  sub := m.sub
  pro := fun a b => m.pro a (h a b)
  len := m.len
  da := m.da
  own := fun i l e => by
    obtain ⟨q, xs, h1, h2, h3, h4, h5⟩ := m.own i l e
    exact ⟨q, xs, h1, h2, h3, h4, fun z => h5 (h _ z)⟩
  bx := fun i b f e => by
    obtain ⟨y, c, h1, h2, h3, h4, h5, h6⟩ := m.bx i b f e
    exact ⟨y, c, h1, h2, h3, h4, h5, fun z => h6 (h _ z)⟩
  dis := m.dis
/-- a new object that is no data is protected, too -/
theorem Mt.guard (m : Mt K B ρ σ G H) {p : Addr} {o : HO} (n : H p = none) : Mt K (fun a => B a ∨ a = p) ρ σ G (upd H p o) where
  sub := m.sub.trans (same_up n)
  pro := fun a b => by
    rcases b with b | rfl
    · exact ⟨(m.pro a b).1, ne_none (same_up n) (m.pro a b).2⟩
    · exact ⟨m.sub.free n, some_ne upd_same⟩
  len := m.len
  da := m.da
  own := fun i l e => by
    obtain ⟨q, xs, h1, h2, h3, h4, h5⟩ := m.own i l e
    exact ⟨q, xs, h1, same_up n _ _ h2, h3, h4, fun z => z.elim h5 (ne_of_none h2 n)⟩
  bx := fun i b f e => by
    obtain ⟨y, c, h1, h2, h3, h4, h5, h6⟩ := m.bx i b f e
    exact ⟨y, c, h1, h2.same (same_up n), h3, h4, h5, fun z => z.elim h6 (fun w => h2.ne (by rw [w]; exact n))⟩
  dis := m.dis
/-- a protected object changes -/
theorem Mt.turn (m : Mt K B ρ σ G H) {p : Addr} {o : HO} (bp : B p) : Mt K B ρ σ G (upd H p o) where
  sub := fun a u e => by
    rw [upd_ne (fun z => by rw [z, (m.pro p bp).1] at e; cases e)]; exact m.sub _ _ e
  pro := fun a ba => ⟨(m.pro a ba).1, by
    by_cases z : a = p
    · subst z; exact some_ne upd_same
    · rw [upd_ne z]; exact (m.pro a ba).2⟩
  len := m.len
  da := m.da
  own := fun i l e => by
    obtain ⟨q, xs, h1, h2, h3, h4, h5⟩ := m.own i l e
    exact ⟨q, xs, h1, by rw [upd_ne (fun z => h5 (by rw [z]; exact bp))]; exact h2, h3, h4, h5⟩
  bx := fun i b f e => by
    obtain ⟨y, k, h1, ⟨x, h2, h2'⟩, h3, h4, h5, h6⟩ := m.bx i b f e
    exact ⟨y, k, h1, ⟨x, by rw [upd_ne (fun z => h6 (by rw [z]; exact bp))]; exact h2, h2'⟩, h3, h4, h5, h6⟩
  dis := m.dis
/-- an own list becomes data -/
theorem Mt.frz (m : Mt K B ρ σ G H) {i : Nat} {l : List Dt} (e : ρ[i]? = some (.own l)) : ∃ G', Mt K B (ρ.set i (.da (.lst l))) σ G' H ∧ Same G G' := by
  obtain ⟨q, xs, h1, h2, h3, h4, h5⟩ := m.own i l e
  have sg : Same G (upd G q (.lst xs)) := same_up h4
  have li : i < ρ.length := (List.getElem?_eq_some_iff.mp e).1
  refine ⟨upd G q (.lst xs), ⟨?_, ?_, ?_, ?_, ?_, ?_, ?_⟩, sg⟩
  · intro a o z
    by_cases w : a = q
    · subst w; rw [upd_same] at z; cases z; exact h2
    · rw [upd_ne w] at z; exact m.sub _ _ z
  · exact fun a b => ⟨by rw [upd_ne (fun z => h5 (by rw [← z]; exact b))]; exact (m.pro a b).1, (m.pro a b).2⟩
  · rw [List.length_set]; exact m.len
  · intro j d h
    rcases get_set h with ⟨rfl, z, lt⟩ | ⟨ne, z⟩
    · cases z; exact ⟨_, h1, q, xs, rfl, upd_same, h3.same sg⟩
    · obtain ⟨v, z1, z2⟩ := m.da j d z
      exact ⟨v, z1, z2.same sg⟩
  · intro j k h
    rcases get_set h with ⟨rfl, z, lt⟩ | ⟨ne, z⟩
    · cases z
    · obtain ⟨q', ys, z1, z2, z3, z4, z5⟩ := m.own j k z
      exact ⟨q', ys, z1, z2, z3.same sg, by rw [upd_ne (fun w => m.dis i j _ _ q e z trivial trivial ne h1 (by rw [← w]; exact z1))]; exact z4, z5⟩
  · intro j b f h
    rcases get_set h with ⟨rfl, z, lt⟩ | ⟨ne, z⟩
    · cases z
    · obtain ⟨y, c, z1, z2, z3, z4, z5, z6⟩ := m.bx j b f z
      exact ⟨y, c, z1, z2, z3, z4, by rw [upd_ne (fun w => m.dis i j _ _ q e z trivial trivial ne h1 (by rw [← w]; exact z1))]; exact z5, z6⟩
  · intro j k e1 e2 a g1 g2 o1 o2 ne s1 s2
    rcases get_set g1 with ⟨rfl, z, lt⟩ | ⟨n1, z1⟩
    · subst z; exact o1
    · rcases get_set g2 with ⟨rfl, z, lt⟩ | ⟨n2, z2⟩
      · subst z; exact o2
      · exact m.dis j k e1 e2 a z1 z2 o1 o2 ne s1 s2
end
end Sh
set_option Elab.async false
set_option linter.all false
set_option maxRecDepth 100000
set_option maxHeartbeats 4000000
namespace Sh
open PySem PySem.Spec PyProof.Rows L2
section
variable (K : PySem.W.Frag)
/-- what must hold so that an expression gives d, leaving ρ', of which Ψ d ρ' holds: of data alone -/
def AE (te : TE) (ρ : List En) (Ψ : Dt → List En → Prop) : Prop := ∀ B σ G H, Mt K B ρ σ G H → ∀ Q : VK, (∀ v d ρ' G' H', Mt K B ρ' σ G' H' → Same G G' → Tr B H H' → RD K G' d v → Ψ d ρ' → Q v H') → te σ H Q
def AT (tt : TT) (ρ : List En) (Ψ : Bool → List En → Prop) : Prop := ∀ B σ G H, Mt K B ρ σ G H → ∀ Q : Bool → Hp → Prop, (∀ b ρ' G' H', Mt K B ρ' σ G' H' → Same G G' → Tr B H H' → Ψ b ρ' → Q b H') → tt σ H Q
def AA (ta : TA) (ρ : List En) (Ψ : List Dt → List En → Prop) : Prop := ∀ B σ G H, Mt K B ρ σ G H → ∀ Q : List V → Hp → Prop, (∀ vs ds ρ' G' H', Mt K B ρ' σ G' H' → Same G G' → Tr B H H' → RDs K G' ds vs → Ψ ds ρ' → Q vs H') → ta σ H Q
/-- a block: N of what it goes on with, R of what it returns -/
def AS (ts : TS) (ρ : List En) (N : List En → Prop) (R : Dt → List En → Prop) : Prop := ∀ B σ G H, Mt K B ρ σ G H → ∀ D : Ends,
  (∀ σ' ρ' G' H', Mt K B ρ' σ' G' H' → Same G G' → Tr B H H' → N ρ' → D.nx σ' H') →
  (∀ v d σ' ρ' G' H', Mt K B ρ' σ' G' H' → Same G G' → Tr B H H' → RD K G' d v → R d ρ' → D.rt v H') → ts D σ H
/-- by values: of data to data, only new data laid -/
def AR (r : R2) (d1 d2 : Dt) (Φ : Dt → Prop) : Prop := ∀ G H, Same G H → ∀ x y, RD K G d1 x → RD K G d2 y → ∀ Q : VK, (∀ v d G' H', Nw G H G' H' → RD K G' d v → Φ d → Q v H') → r x y H Q
def AU (r : V → Hp → VK → Prop) (d1 : Dt) (Φ : Dt → Prop) : Prop := ∀ G H, Same G H → ∀ x, RD K G d1 x → ∀ Q : VK, (∀ v d G' H', Nw G H G' H' → RD K G' d v → Φ d → Q v H') → r x H Q
def AC (r : List V → Hp → VK → Prop) (ds : List Dt) (Φ : Dt → Prop) : Prop := ∀ G H, Same G H → ∀ vs, RDs K G ds vs → ∀ Q : VK, (∀ v d G' H', Nw G H G' H' → RD K G' d v → Φ d → Q v H') → r vs H Q
end
section
variable {K : PySem.W.Frag} {ρ : List En} {Ψ : Dt → List En → Prop} {ΨT : Bool → List En → Prop} {ΨA : List Dt → List En → Prop} {N : List En → Prop} {R : Dt → List En → Prop} {Φ : Dt → Prop}
theorem ae_var {i : Nat} {d : Dt} (e : ρ[i]? = some (.da d)) (h : Ψ d ρ) : AE K (tVar i) ρ Ψ := fun B σ G H m Q q => by
  obtain ⟨v, h1, h2⟩ := m.da i d e
  exact ⟨v, h1, q v d ρ G H m (Same.refl _) Tr.refl h2 h⟩
theorem ae_c {v : V} (d : Dt) (e : ∀ G, RD K G d v) (h : Ψ d ρ) : AE K (tC v) ρ Ψ := fun B σ G H m Q q => q v d ρ G H m (Same.refl _) Tr.refl (e G) h
theorem ae_int {i : Int} (h : Ψ (.int i) ρ) : AE K (tC (.int i)) ρ Ψ := ae_c (.int i) (fun _ => rfl) h
theorem ae_non (h : Ψ .non ρ) : AE K (tC .non) ρ Ψ := ae_c .non (fun _ => rfl) h
theorem ae_bl {b : Bool} (h : Ψ (.bl b) ρ) : AE K (tC (.bl b)) ρ Ψ := ae_c (.bl b) (fun _ => rfl) h
theorem ae_str {s : Str} (h : Ψ (.str s) ρ) : AE K (tC (.str s)) ρ Ψ := ae_c (.str s) (fun _ => rfl) h
theorem ae_mono {te : TE} {Ψ' : Dt → List En → Prop} (h : AE K te ρ Ψ') (k : ∀ d ρ', Ψ' d ρ' → Ψ d ρ') : AE K te ρ Ψ := fun B σ G H m Q q =>
  h B σ G H m Q fun v d ρ' G' H' m' s t r p => q v d ρ' G' H' m' s t r (k d ρ' p)
theorem at_mono {te : TT} {Ψ' : Bool → List En → Prop} (h : AT K te ρ Ψ') (k : ∀ d ρ', Ψ' d ρ' → ΨT d ρ') : AT K te ρ ΨT := fun B σ G H m Q q =>
  h B σ G H m Q fun d ρ' G' H' m' s t p => q d ρ' G' H' m' s t (k d ρ' p)
theorem ae_op {r : R2} {ta tb : TE} (h : AE K ta ρ fun d1 ρ1 => AE K tb ρ1 fun d2 ρ2 => AR K r d1 d2 fun d => Ψ d ρ2) : AE K (tOp r ta tb) ρ Ψ := fun B σ G H m Q q =>
  h B σ G H m _ fun x d1 ρ1 G1 H1 m1 s1 t1 r1 h1 => h1 B σ G1 H1 m1 _ fun y d2 ρ2 G2 H2 m2 s2 t2 r2 h2 =>
    h2 G2 H2 m2.sub x y (r1.same s2) r2 Q fun v d G3 H3 n3 r3 p3 => q v d ρ2 G3 H3 (m2.nw n3) ((s1.trans s2).trans n3.g) ((t1.trans t2).trans (Tr.same n3.h)) r3 p3
theorem ae_un {r : V → Hp → VK → Prop} {ta : TE} (h : AE K ta ρ fun d1 ρ1 => AU K r d1 fun d => Ψ d ρ1) : AE K (tUn r ta) ρ Ψ := fun B σ G H m Q q =>
  h B σ G H m _ fun x d1 ρ1 G1 H1 m1 s1 t1 r1 h1 => h1 G1 H1 m1.sub x r1 Q fun v d G3 H3 n3 r3 p3 => q v d ρ1 G3 H3 (m1.nw n3) (s1.trans n3.g) (t1.trans (Tr.same n3.h)) r3 p3
theorem aa_nil (h : ΨA [] ρ) : AA K tNil ρ ΨA := fun B σ G H m Q q => q [] [] ρ G H m (Same.refl _) Tr.refl rfl h
theorem aa_cons {ta : TE} {tr : TA} (h : AE K ta ρ fun d ρ1 => AA K tr ρ1 fun ds ρ2 => ΨA (d :: ds) ρ2) : AA K (tCons ta tr) ρ ΨA := fun B σ G H m Q q =>
  h B σ G H m _ fun x d ρ1 G1 H1 m1 s1 t1 r1 h1 => h1 B σ G1 H1 m1 _ fun xs ds ρ2 G2 H2 m2 s2 t2 r2 h2 =>
    q (x :: xs) (d :: ds) ρ2 G2 H2 m2 (s1.trans s2) (t1.trans t2) ⟨x, xs, rfl, r1.same s2, r2⟩ h2
theorem ae_cb {r : List V → Hp → VK → Prop} {ta : TA} (h : AA K ta ρ fun ds ρ1 => AC K r ds fun d => Ψ d ρ1) : AE K (tCB r ta) ρ Ψ := fun B σ G H m Q q =>
  h B σ G H m _ fun x d1 ρ1 G1 H1 m1 s1 t1 r1 h1 => h1 G1 H1 m1.sub x r1 Q fun v d G3 H3 n3 r3 p3 => q v d ρ1 G3 H3 (m1.nw n3) (s1.trans n3.g) (t1.trans (Tr.same n3.h)) r3 p3
theorem ae_tup {ta : TA} (h : AA K ta ρ fun ds ρ1 => ds.length ≤ sizeLine ∧ Ψ (.tup ds) ρ1) : AE K (tTup ta) ρ Ψ := fun B σ G H m Q q =>
  h B σ G H m _ fun xs ds ρ1 G1 H1 m1 s1 t1 r1 h1 => ⟨by rw [r1.length]; exact h1.1, fun p hp => by
    have n := Nw.new (o := .tup xs) m1.sub hp
    exact q _ (.tup ds) ρ1 _ _ (m1.nw n) (s1.trans n.g) (t1.trans (Tr.same n.h)) ⟨p, xs, rfl, SqT.of upd_same, r1.same n.g⟩ h1.2⟩
theorem ae_lst {ta : TA} (h : AA K ta ρ fun ds ρ1 => ds.length ≤ sizeLine ∧ Ψ (.lst ds) ρ1) : AE K (tLst ta) ρ Ψ := fun B σ G H m Q q =>
  h B σ G H m _ fun xs ds ρ1 G1 H1 m1 s1 t1 r1 h1 => ⟨by rw [r1.length]; exact h1.1, fun p hp => by
    have n := Nw.new (o := .lst xs) m1.sub hp
    exact q _ (.lst ds) ρ1 _ _ (m1.nw n) (s1.trans n.g) (t1.trans (Tr.same n.h)) ⟨p, xs, rfl, upd_same, r1.same n.g⟩ h1.2⟩
theorem ae_if {tt : TT} {ta tb : TE} (h : AT K tt ρ fun b ρ1 => (b = true → AE K ta ρ1 Ψ) ∧ (b = false → AE K tb ρ1 Ψ)) : AE K (tIf tt ta tb) ρ Ψ := fun B σ G H m Q q =>
  h B σ G H m _ fun b ρ1 G1 H1 m1 s1 t1 h1 => by
    cases b
    · rw [if_neg (by decide)]; exact h1.2 rfl B σ G1 H1 m1 Q fun v d ρ' G' H' m' s t r p => q v d ρ' G' H' m' (s1.trans s) (t1.trans t) r p
    · rw [if_pos rfl]; exact h1.1 rfl B σ G1 H1 m1 Q fun v d ρ' G' H' m' s t r p => q v d ρ' G' H' m' (s1.trans s) (t1.trans t) r p
theorem at_test {te : TE} (h : AE K te ρ fun d ρ1 => ∃ b, d = .bl b ∧ ΨT b ρ1) : AT K (tTest te) ρ ΨT := fun B σ G H m Q q =>
  h B σ G H m _ fun v d ρ1 G1 H1 m1 s1 t1 r1 ⟨b, e, p⟩ => by
    subst e; exact ⟨b, r1, q b ρ1 G1 H1 m1 s1 t1 p⟩
theorem at_b {te : TE} (h : AE K te ρ fun d ρ1 => ∃ b, d = .bl b ∧ ΨT b ρ1) : AT K (tB te) ρ ΨT := at_test h
theorem at_and {t u : TT} (h : AT K t ρ fun b ρ1 => (b = true → AT K u ρ1 ΨT) ∧ (b = false → ΨT false ρ1)) : AT K (tAnd t u) ρ ΨT := fun B σ G H m Q q =>
  h B σ G H m _ fun b ρ1 G1 H1 m1 s1 t1 h1 => by
    cases b
    · rw [if_neg (by decide)]; exact q false ρ1 G1 H1 m1 s1 t1 (h1.2 rfl)
    · rw [if_pos rfl]; exact h1.1 rfl B σ G1 H1 m1 Q fun d ρ' G' H' m' s t p => q d ρ' G' H' m' (s1.trans s) (t1.trans t) p
theorem at_or {t u : TT} (h : AT K t ρ fun b ρ1 => (b = true → ΨT true ρ1) ∧ (b = false → AT K u ρ1 ΨT)) : AT K (tOr t u) ρ ΨT := fun B σ G H m Q q =>
  h B σ G H m _ fun b ρ1 G1 H1 m1 s1 t1 h1 => by
    cases b
    · rw [if_neg (by decide)]; exact h1.2 rfl B σ G1 H1 m1 Q fun d ρ' G' H' m' s t p => q d ρ' G' H' m' (s1.trans s) (t1.trans t) p
    · rw [if_pos rfl]; exact q true ρ1 G1 H1 m1 s1 t1 (h1.1 rfl)
theorem at_not {t : TT} (h : AT K t ρ fun b ρ1 => ΨT (!b) ρ1) : AT K (tNot t) ρ ΨT := fun B σ G H m Q q =>
  h B σ G H m _ fun b ρ1 G1 H1 m1 s1 t1 h1 => q (!b) ρ1 G1 H1 m1 s1 t1 h1
theorem ae_andV {ta tb : TE} (h : AE K ta ρ fun d ρ1 => ∃ b, d = .bl b ∧ (b = true → AE K tb ρ1 Ψ) ∧ (b = false → Ψ (.bl false) ρ1)) : AE K (tAndV ta tb) ρ Ψ := fun B σ G H m Q q =>
  h B σ G H m _ fun v d ρ1 G1 H1 m1 s1 t1 r1 ⟨b, e, h1, h2⟩ => by
    subst e
    refine ⟨b, r1, ?_⟩
    cases b
    · rw [if_neg (by decide)]; exact q _ (.bl false) ρ1 G1 H1 m1 s1 t1 rfl (h2 rfl)
    · rw [if_pos rfl]; exact h1 rfl B σ G1 H1 m1 Q fun v d ρ' G' H' m' s t r p => q v d ρ' G' H' m' (s1.trans s) (t1.trans t) r p
theorem ae_orV {ta tb : TE} (h : AE K ta ρ fun d ρ1 => ∃ b, d = .bl b ∧ (b = true → Ψ (.bl true) ρ1) ∧ (b = false → AE K tb ρ1 Ψ)) : AE K (tOrV ta tb) ρ Ψ := fun B σ G H m Q q =>
  h B σ G H m _ fun v d ρ1 G1 H1 m1 s1 t1 r1 ⟨b, e, h1, h2⟩ => by
    subst e
    refine ⟨b, r1, ?_⟩
    cases b
    · rw [if_neg (by decide)]; exact h2 rfl B σ G1 H1 m1 Q fun v d ρ' G' H' m' s t r p => q v d ρ' G' H' m' (s1.trans s) (t1.trans t) r p
    · rw [if_pos rfl]; exact q _ (.bl true) ρ1 G1 H1 m1 s1 t1 rfl (h1 rfl)
theorem ae_notV {ta : TE} (h : AE K ta ρ fun d ρ1 => ∃ b, d = .bl b ∧ Ψ (.bl (!b)) ρ1) : AE K (tNotV ta) ρ Ψ := fun B σ G H m Q q =>
  h B σ G H m _ fun v d ρ1 G1 H1 m1 s1 t1 r1 ⟨b, e, h1⟩ => by
    subst e
    exact ⟨b, r1, q _ (.bl (!b)) ρ1 G1 H1 m1 s1 t1 rfl h1⟩
/-! statements -/
theorem as_seq {t u : TS} (h : AS K t ρ (fun ρ1 => AS K u ρ1 N R) R) : AS K (tSeq t u) ρ N R := fun B σ G H m D qn qr =>
  h B σ G H m { D with nx := u D } (fun σ1 ρ1 G1 H1 m1 s1 t1 h1 => h1 B σ1 G1 H1 m1 D (fun σ' ρ' G' H' m' s t p => qn σ' ρ' G' H' m' (s1.trans s) (t1.trans t) p) fun v d σ' ρ' G' H' m' s t r p => qr v d σ' ρ' G' H' m' (s1.trans s) (t1.trans t) r p) qr
theorem as_next (h : N ρ) : AS K tNext ρ N R := fun B σ G H m D qn qr => qn σ ρ G H m (Same.refl _) Tr.refl h
theorem as_ret {te : TE} (h : AE K te ρ R) : AS K (tRet te) ρ N R := fun B σ G H m D qn qr => h B σ G H m _ fun v d ρ1 G1 H1 m1 s1 t1 r1 h1 => qr v d σ ρ1 G1 H1 m1 s1 t1 r1 h1
theorem as_if {c : TT} {t u : TS} (h : AT K c ρ fun b ρ1 => (b = true → AS K t ρ1 N R) ∧ (b = false → AS K u ρ1 N R)) : AS K (tIfS c t u) ρ N R := fun B σ G H m D qn qr =>
  h B σ G H m _ fun b ρ1 G1 H1 m1 s1 t1 h1 => by
    cases b
    · rw [if_neg (by decide)]
      exact h1.2 rfl B σ G1 H1 m1 D (fun σ' ρ' G' H' m' s t p => qn σ' ρ' G' H' m' (s1.trans s) (t1.trans t) p) fun v d σ' ρ' G' H' m' s t r p => qr v d σ' ρ' G' H' m' (s1.trans s) (t1.trans t) r p
    · rw [if_pos rfl]
      exact h1.1 rfl B σ G1 H1 m1 D (fun σ' ρ' G' H' m' s t p => qn σ' ρ' G' H' m' (s1.trans s) (t1.trans t) p) fun v d σ' ρ' G' H' m' s t r p => qr v d σ' ρ' G' H' m' (s1.trans s) (t1.trans t) r p
theorem as_set {te : TE} {i : Nat} (h : AE K te ρ fun d ρ1 => N (ρ1.set i (.da d))) : AS K (tAsg te (gName i)) ρ N R := fun B σ G H m D qn qr =>
  h B σ G H m _ fun v d ρ1 G1 H1 m1 s1 t1 r1 h1 => qn _ _ G1 H1 (m1.set i r1) s1 t1 h1
theorem as_par {ta : TA} {i j : Nat} (h : AA K ta ρ fun ds ρ1 => ∃ d e, ds = [d, e] ∧ N ((ρ1.set i (.da d)).set j (.da e))) : AS K (tPar i j ta) ρ N R := fun B σ G H m D qn qr =>
  h B σ G H m _ fun vs ds ρ1 G1 H1 m1 s1 t1 r1 ⟨d, e, z, h1⟩ => by
    subst z
    obtain ⟨x, y, rfl, r2, r3⟩ := r1.two
    exact ⟨x, y, rfl, qn _ _ G1 H1 ((m1.set i r2).set j r3) s1 t1 h1⟩
/-- targets -/
def AG (K : PySem.W.Frag) (g : TG) (d : Dt) (ρ : List En) (N : List En → Prop) : Prop := ∀ B σ G H, Mt K B ρ σ G H → ∀ v, RD K G d v → ∀ Q : L2.St → Hp → Prop, (∀ σ' ρ' G' H', Mt K B ρ' σ' G' H' → Same G G' → Tr B H H' → N ρ' → Q σ' H') → g v σ H Q
def AGs (K : PySem.W.Frag) (g : TGs) (ds : List Dt) (ρ : List En) (N : List En → Prop) : Prop := ∀ B σ G H, Mt K B ρ σ G H → ∀ vs, RDs K G ds vs → ∀ Q : L2.St → Hp → Prop, (∀ σ' ρ' G' H', Mt K B ρ' σ' G' H' → Same G G' → Tr B H H' → N ρ' → Q σ' H') → g vs σ H Q
theorem ag_name {i : Nat} {d : Dt} (h : N (ρ.set i (.da d))) : AG K (gName i) d ρ N := fun B σ G H m v r Q q => q _ _ G H (m.set i r) (Same.refl _) Tr.refl h
theorem ags_nil (h : N ρ) : AGs K gNil [] ρ N := fun B σ G H m vs r Q q => ⟨r, q σ ρ G H m (Same.refl _) Tr.refl h⟩
theorem ags_cons {t : TG} {u : TGs} {d : Dt} {ds : List Dt} (h : AG K t d ρ fun ρ1 => AGs K u ds ρ1 N) : AGs K (gCons t u) (d :: ds) ρ N := fun B σ G H m vs r Q q => by
  obtain ⟨x, xs, rfl, r1, r2⟩ := r
  exact ⟨x, xs, rfl, h B σ G H m x r1 _ fun σ1 ρ1 G1 H1 m1 s1 t1 h1 => h1 B σ1 G1 H1 m1 xs (r2.same s1) Q fun σ' ρ' G' H' m' s t p => q σ' ρ' G' H' m' (s1.trans s) (t1.trans t) p⟩
theorem ag_tup {t : TGs} {n : Nat} {ds : List Dt} (hn : ds.length = n) (h : AGs K t ds ρ N) : AG K (gTup K n t) (.tup ds) ρ N := fun B σ G H m v r Q q => by
  obtain ⟨a, xs, rfl, r1, r2⟩ := r
  exact ⟨a, xs, rfl, same_sqT m.sub r1, by rw [r2.length]; exact hn, h B σ G H m xs r2 Q q⟩
theorem as_asg {te : TE} {g : TG} (h : AE K te ρ fun d ρ1 => AG K g d ρ1 N) : AS K (tAsg te g) ρ N R := fun B σ G H m D qn qr =>
  h B σ G H m _ fun v d ρ1 G1 H1 m1 s1 t1 r1 h1 => h1 B σ G1 H1 m1 v r1 _ fun σ' ρ' G' H' m' s t p => qn σ' ρ' G' H' m' (s1.trans s) (t1.trans t) p
/-! own lists -/
theorem Mt.setOwn {B : Addr → Prop} {σ : L2.St} {G H : Hp} (m : Mt K B ρ σ G H) (i : Nat) {p : Addr} {xs : List V} {l : List Dt} (n : H p = none) (r : RDs K G l xs) : Mt K B (ρ.set i (.own l)) (σ.set i (some (.ref p))) G (upd H p (.lst xs)) where
  sub := m.sub.trans (same_up n)
  pro := fun a b => ⟨(m.pro a b).1, ne_none (same_up n) (m.pro a b).2⟩
  len := by rw [List.length_set, List.length_set]; exact m.len
  da := fun j e h => by
    rcases get_set h with ⟨rfl, z, lt⟩ | ⟨ne, z⟩
    · cases z
    · rw [set_off ne]; exact m.da j e z
  own := fun j k h => by
    rcases get_set h with ⟨rfl, z, lt⟩ | ⟨ne, z⟩
    · cases z
      exact ⟨p, xs, set_at (by rw [m.len]; exact lt), upd_same, r, m.sub.free n, fun b => (m.pro p b).2 n⟩
    · rw [set_off ne]
      obtain ⟨q, ys, z1, z2, z3, z4, z5⟩ := m.own j k z
      exact ⟨q, ys, z1, same_up n _ _ z2, z3, z4, z5⟩
  bx := fun j b f h => by
    rcases get_set h with ⟨rfl, z, lt⟩ | ⟨ne, z⟩
    · cases z
    · rw [set_off ne]
      obtain ⟨y, c, z1, z2, z3⟩ := m.bx j b f z
      exact ⟨y, c, z1, z2.same (same_up n), z3⟩
  dis := fun j k e e' a h1 h2 o1 o2 ne s1 s2 => by
    have there : ∀ (j : Nat) (e : En), ρ[j]? = some e → e.isOwn → σ[j]? = some (some (V.ref a)) → H a ≠ none := fun j e h o s => by
      cases e with
      | no => exact o.elim
      | da d => exact o.elim
      | own l => obtain ⟨q, ys, z1, z2, _⟩ := m.own j l h; rw [z1] at s; cases s; exact some_ne z2
      | bx b f => obtain ⟨y, c, z1, z2, _⟩ := m.bx j b f h; rw [z1] at s; cases s; exact z2.ne
    rcases get_set h1 with ⟨rfl, z, lt⟩ | ⟨n1, z1⟩
    · rcases get_set h2 with ⟨w, z', lt'⟩ | ⟨n2, z2⟩
      · exact ne w
      · rw [set_at (by rw [m.len]; exact lt)] at s1
        cases s1
        rw [set_off n2] at s2
        exact there k e' z2 o2 s2 n
    · rcases get_set h2 with ⟨rfl, z, lt⟩ | ⟨n2, z2⟩
      · rw [set_at (by rw [m.len]; exact lt)] at s2
        cases s2
        rw [set_off n1] at s1
        exact there j e z1 o1 s1 n
      · rw [set_off n1] at s1; rw [set_off n2] at s2; exact m.dis j k e e' a z1 z2 o1 o2 ne s1 s2
/-- xs = [e, ..], a list that will grow -/
theorem as_own {ta : TA} {i : Nat} (h : AA K ta ρ fun ds ρ1 => ds.length ≤ sizeLine ∧ N (ρ1.set i (.own ds))) : AS K (tAsg (tLst ta) (gName i)) ρ N R := fun B σ G H m D qn qr =>
  h B σ G H m _ fun vs ds ρ1 G1 H1 m1 s1 t1 r1 h1 => ⟨by rw [r1.length]; exact h1.1, fun p hp => qn _ _ G1 _ (m1.setOwn i hp r1) s1 (t1.trans (Tr.same (same_up hp))) h1.2⟩
/-- an own list's content changes -/
theorem Mt.chOwn {B : Addr → Prop} {σ : L2.St} {G H : Hp} (m : Mt K B ρ σ G H) {i : Nat} {p : Addr} {xs : List V} {l l' : List Dt} (e : ρ[i]? = some (.own l)) (s : σ[i]? = some (some (.ref p))) (r : RDs K G l' xs) : Mt K B (ρ.set i (.own l')) σ G (upd H p (.lst xs)) := by
  obtain ⟨q, ys, h1, h2, h3, h4, h5⟩ := m.own i l e
  rw [h1] at s
  cases s
  have keep : ∀ {a : Addr} {o : HO}, a ≠ p → H a = some o → (upd H p (.lst xs)) a = some o := fun n z => by rw [upd_ne n]; exact z
  refine ⟨?_, ?_, ?_, ?_, ?_, ?_, ?_⟩
  · intro a o z
    exact keep (fun w => by rw [w, h4] at z; cases z) (m.sub _ _ z)
  · exact fun a b => ⟨(m.pro a b).1, by rw [upd_ne (fun w => h5 (by rw [← w]; exact b))]; exact (m.pro a b).2⟩
  · rw [List.length_set]; exact m.len
  · intro j d h
    rcases get_set h with ⟨rfl, z, lt⟩ | ⟨ne, z⟩
    · cases z
    · exact m.da j d z
  · intro j k h
    rcases get_set h with ⟨rfl, z, lt⟩ | ⟨ne, z⟩
    · cases z; exact ⟨p, xs, h1, upd_same, r, h4, h5⟩
    · obtain ⟨q', zs, z1, z2, z3⟩ := m.own j k z
      exact ⟨q', zs, z1, keep (fun w => m.dis i j _ _ p e z trivial trivial ne h1 (by rw [← w]; exact z1)) z2, z3⟩
  · intro j b f h
    rcases get_set h with ⟨rfl, z, lt⟩ | ⟨ne, z⟩
    · cases z
    · obtain ⟨y, c, z1, ⟨x, z2, z2'⟩, z3⟩ := m.bx j b f z
      exact ⟨y, c, z1, ⟨x, keep (fun w => m.dis i j _ _ p e z trivial trivial ne h1 (by rw [← w]; exact z1)) z2, z2'⟩, z3⟩
  · intro j k e1 e2 a g1 g2 o1 o2 ne s1 s2
    rcases get_set g1 with ⟨rfl, z, lt⟩ | ⟨n1, z1⟩
    · rcases get_set g2 with ⟨w, z', lt'⟩ | ⟨n2, z2⟩
      · exact ne w
      · exact m.dis i k _ e2 a e z2 trivial o2 ne s1 s2
    · rcases get_set g2 with ⟨rfl, z, lt⟩ | ⟨n2, z2⟩
      · exact m.dis j i e1 _ a z1 e o1 trivial ne s1 s2
      · exact m.dis j k e1 e2 a z1 z2 o1 o2 ne s1 s2
/-- xs.append(e) -/
theorem as_append {te : TE} {i : Nat} (h : AE K te ρ fun d ρ1 => ∃ l, ρ1[i]? = some (.own l) ∧ l.length < sizeLine ∧ N (ρ1.set i (.own (l ++ [d])))) (o : ∃ l, ρ[i]? = some (.own l)) : AS K (tDrop (tBM K "list" rAppend (tVar i) (tCons te tNil))) ρ N R := fun B σ G H m D qn qr => by
  obtain ⟨l0, e0⟩ := o
  obtain ⟨p0, xs0, a1, a2, _⟩ := m.own i l0 e0
  refine ⟨_, a1, .inl ⟨rfl, _, SqL.of a2⟩, ?_⟩
  refine h B σ G H m _ fun v d ρ1 G1 H1 m1 s1 t1 r1 ⟨l, e, hl, n⟩ => ?_
  obtain ⟨p, xs, b1, b2, b3, b4, b5⟩ := m1.own i l e
  rw [a1] at b1
  cases b1
  refine ⟨p0, xs, v, rfl, rfl, b2, by rw [b3.length]; exact hl, ?_⟩
  exact qn _ _ G1 _ (m1.chOwn e a1 (b3.snoc r1)) s1 (t1.trans fun a o b z => by rw [upd_ne (fun w => b5 (by rw [← w]; exact b))]; exact z) n
/-- from here on the list is data -/
theorem ae_frz {te : TE} {i : Nat} {l : List Dt} (e : ρ[i]? = some (.own l)) (h : AE K te (ρ.set i (.da (.lst l))) Ψ) : AE K te ρ Ψ := fun B σ G H m Q q => by
  obtain ⟨G1, m1, s1⟩ := m.frz e
  exact h B σ G1 H m1 Q fun v d ρ' G' H' m' s t r p => q v d ρ' G' H' m' (s1.trans s) t r p
end
end Sh
set_option Elab.async false
set_option linter.all false
set_option maxRecDepth 100000
set_option maxHeartbeats 4000000
namespace Sh
open PySem PySem.Spec PyProof.Rows L2
section
variable {K : PySem.W.Frag} {ρ : List En} {Ψ : Dt → List En → Prop} {ΨT : Bool → List En → Prop} {ΨA : List Dt → List En → Prop} {N : List En → Prop} {R : Dt → List En → Prop} {Φ : Dt → Prop}
/-! ### operators -/
theorem ar_I0i {g : Int → Int → Int} {i j : Int} (h : Φ (.int (g i j))) : AR K (rI0 fun i j => .int (g i j)) (.int i) (.int j) Φ := fun G H s x y r1 r2 Q q =>
  ⟨i, j, r1, r2, q _ (.int (g i j)) G H (Nw.refl s) rfl h⟩
theorem ar_I0b {g : Int → Int → Bool} {i j : Int} (h : Φ (.bl (g i j))) : AR K (rI0 fun i j => .bl (g i j)) (.int i) (.int j) Φ := fun G H s x y r1 r2 Q q =>
  ⟨i, j, r1, r2, q _ (.bl (g i j)) G H (Nw.refl s) rfl h⟩
theorem ar_Ii {C : Int → Int → Prop} {g : Int → Int → Int} {i j : Int} (c : C i j) (h : Φ (.int (g i j))) : AR K (rI C fun i j => .int (g i j)) (.int i) (.int j) Φ := fun G H s x y r1 r2 Q q =>
  ⟨i, j, r1, r2, c, q _ (.int (g i j)) G H (Nw.refl s) rfl h⟩
theorem au_Ui {g : Int → Int} {i : Int} (h : Φ (.int (g i))) : AU K (rU fun i => .int (g i)) (.int i) Φ := fun G H s x r1 Q q => ⟨i, r1, q _ (.int (g i)) G H (Nw.refl s) rfl h⟩
def Dt.isNon : Dt → Bool
  | .non => true
  | _ => false
theorem RD.isNon {G : Hp} : ∀ {d : Dt} {x : V}, RD K G d x → decide (x = V.non) = d.isNon
  | .non, _, r => by rw [show _ = V.non from r]; rfl
  | .bl _, _, r => by rw [show _ = V.bl _ from r]; rfl
  | .int _, _, r => by rw [show _ = V.int _ from r]; rfl
  | .str _, _, r => by rw [show _ = V.str _ from r]; rfl
  | .ty _, _, r => by rw [show _ = V.ty _ from r]; rfl
  | .tup _, _, ⟨a, _, e, _⟩ => by rw [e]; rfl
  | .lst _, _, ⟨a, _, e, _⟩ => by rw [e]; rfl
theorem ar_isN {d : Dt} (h : Φ (.bl d.isNon)) : AR K (fun x y H Q => y = .non ∧ Q (.bl (decide (x = .non))) H) d .non Φ := fun G H s x y r1 r2 Q q =>
  ⟨r2, q _ (.bl d.isNon) G H (Nw.refl s) (by rw [r1.isNon]; rfl) h⟩
theorem ar_notN {d : Dt} (h : Φ (.bl (!d.isNon))) : AR K (fun x y H Q => y = .non ∧ Q (.bl (!decide (x = .non))) H) d .non Φ := fun G H s x y r1 r2 Q q =>
  ⟨r2, q _ (.bl (!d.isNon)) G H (Nw.refl s) (by rw [r1.isNon]; rfl) h⟩
/-- flat data as a value -/
def Dt.v? : Dt → Option V
  | .non => some .non
  | .bl b => some (.bl b)
  | .int i => some (.int i)
  | .str s => some (.str s)
  | _ => none
theorem RD.v {G : Hp} : ∀ {d : Dt} {x y : V}, d.v? = some y → RD K G d x → x = y
  | .non, _, _, e, r => by cases e; exact r
  | .bl _, _, _, e, r => by cases e; exact r
  | .int _, _, _, e, r => by cases e; exact r
  | .str _, _, _, e, r => by cases e; exact r
theorem ar_eq {d e : Dt} {x y : V} (h1 : d.v? = some x) (h2 : e.v? = some y) (hs : scal x y = true) (h : Φ (.bl (decide (x = y)))) : AR K rEq d e Φ := fun G H s x' y' r1 r2 Q q => by
  cases RD.v h1 r1; cases RD.v h2 r2
  exact ⟨hs, q _ (.bl (decide (x = y))) G H (Nw.refl s) rfl h⟩
theorem ar_ne {d e : Dt} {x y : V} (h1 : d.v? = some x) (h2 : e.v? = some y) (hs : scal x y = true) (h : Φ (.bl (!decide (x = y)))) : AR K rNe d e Φ := fun G H s x' y' r1 r2 Q q => by
  cases RD.v h1 r1; cases RD.v h2 r2
  exact ⟨hs, q _ (.bl (!decide (x = y))) G H (Nw.refl s) rfl h⟩
/-! places -/
theorem atI_get {l : List Dt} {xs : List V} {G : Hp} {i : Int} {d : Dt} (r : RDs K G l xs) (e : atI l i = some d) : ∃ x, atI xs i = some x ∧ RD K G d x := by
  unfold atI at e ⊢
  rw [r.length]
  cases q : ixN l.length i with
  | none => rw [q] at e; cases e
  | some j =>
    rw [q] at e
    obtain ⟨x, h1, h2⟩ := r.get (i := j) e
    exact ⟨x, h1, h2⟩
theorem ar_ixT {l : List Dt} {i : Int} {d : Dt} (e : atI l i = some d) (h : Φ d) : AR K (rIxT K) (.tup l) (.int i) Φ := fun G H s x y ⟨a, xs, e1, q1, q2⟩ r2 Q q => by
  obtain ⟨z, h1, h2⟩ := atI_get q2 e
  exact ⟨a, xs, i, z, e1, r2, same_sqT s q1, h1, q _ d G H (Nw.refl s) h2 h⟩
theorem ar_ixL {l : List Dt} {i : Int} {d : Dt} (e : atI l i = some d) (h : Φ d) : AR K (rIxL K) (.lst l) (.int i) Φ := fun G H s x y ⟨a, xs, e1, q1, q2⟩ r2 Q q => by
  obtain ⟨z, h1, h2⟩ := atI_get q2 e
  exact ⟨a, xs, i, z, e1, r2, SqL.of (s _ _ q1), h1, q _ d G H (Nw.refl s) h2 h⟩
def sq (k : Bool) (l : List Dt) : Dt := if k then .tup l else .lst l
theorem ar_ix {k : Bool} {l : List Dt} {i : Int} {d : Dt} (e : atI l i = some d) (h : Φ d) : AR K (rIx K) (sq k l) (.int i) Φ := fun G H s x y r1 r2 Q q => by
  cases k
  · exact .inl (ar_ixL e h G H s x y r1 r2 Q q)
  · exact .inr (.inl (ar_ixT e h G H s x y r1 r2 Q q))
theorem ar_ixTs {l : List Dt} {i : Int} {d : Dt} (e : atI l i = some d) (h : Φ d) : AR K (rIx K) (.tup l) (.int i) Φ := ar_ix (k := true) e h
theorem ar_ixLs {l : List Dt} {i : Int} {d : Dt} (e : atI l i = some d) (h : Φ d) : AR K (rIx K) (.lst l) (.int i) Φ := ar_ix (k := false) e h
/-! ### built-ins -/
theorem ac_abs {i : Int} (h : Φ (.int (if i < 0 then -i else i))) : AC K (fun xs H Q => ∃ i, xs = [.int i] ∧ Q (.int (if i < 0 then -i else i)) H) [.int i] Φ := fun G H s vs r Q q => by
  obtain ⟨x, rfl, h1⟩ := r.one
  exact ⟨i, by rw [show x = V.int i from h1], q _ (.int (if i < 0 then -i else i)) G H (Nw.refl s) rfl h⟩
theorem ac_max2 {i j : Int} (h : Φ (.int (if j > i then j else i))) : AC K (fun xs H Q => ∃ i j, xs = [.int i, .int j] ∧ Q (.int (if j > i then j else i)) H) [.int i, .int j] Φ := fun G H s vs r Q q => by
  obtain ⟨x, y, rfl, h1, h2⟩ := r.two
  exact ⟨i, j, by rw [show x = V.int i from h1, show y = V.int j from h2], q _ (.int (if j > i then j else i)) G H (Nw.refl s) rfl h⟩
theorem ac_min2 {i j : Int} (h : Φ (.int (if j < i then j else i))) : AC K (fun xs H Q => ∃ i j, xs = [.int i, .int j] ∧ Q (.int (if j < i then j else i)) H) [.int i, .int j] Φ := fun G H s vs r Q q => by
  obtain ⟨x, y, rfl, h1, h2⟩ := r.two
  exact ⟨i, j, by rw [show x = V.int i from h1, show y = V.int j from h2], q _ (.int (if j < i then j else i)) G H (Nw.refl s) rfl h⟩
theorem ac_lenT {l : List Dt} (h : Φ (.int (l.length : Nat))) : AC K (fun xs H Q => ∃ p ys, xs = [.ref p] ∧ (SqL K H p ys ∨ SqT K H p ys) ∧ Q (.int ys.length) H) [.tup l] Φ := fun G H s vs r Q q => by
  obtain ⟨x, rfl, a, xs, rfl, h1, h2⟩ := r.one
  exact ⟨a, xs, rfl, .inr (same_sqT s h1), q _ (.int (l.length : Nat)) G H (Nw.refl s) (by rw [h2.length]; rfl) h⟩
theorem ac_lenL {l : List Dt} (h : Φ (.int (l.length : Nat))) : AC K (fun xs H Q => ∃ p ys, xs = [.ref p] ∧ (SqL K H p ys ∨ SqT K H p ys) ∧ Q (.int ys.length) H) [.lst l] Φ := fun G H s vs r Q q => by
  obtain ⟨x, rfl, a, xs, rfl, h1, h2⟩ := r.one
  exact ⟨a, xs, rfl, .inl (SqL.of (s _ _ h1)), q _ (.int (l.length : Nat)) G H (Nw.refl s) (by rw [h2.length]; rfl) h⟩
theorem ac_listT {l : List Dt} (h : Φ (.lst l)) : AC K (fun xs H Q => ∃ p ys, xs = [.ref p] ∧ (SqL K H p ys ∨ SqT K H p ys) ∧ ∀ l, H l = none → Q (.ref l) (upd H l (.lst ys))) [.tup l] Φ := fun G H s vs r Q q => by
  obtain ⟨x, rfl, a, xs, rfl, h1, h2⟩ := r.one
  refine ⟨a, xs, rfl, .inr (same_sqT s h1), fun p hp => ?_⟩
  have n := Nw.new (o := .lst xs) s hp
  exact q _ (.lst l) _ _ n ⟨p, xs, rfl, upd_same, h2.same n.g⟩ h
theorem ac_listL {l : List Dt} (h : Φ (.lst l)) : AC K (fun xs H Q => ∃ p ys, xs = [.ref p] ∧ (SqL K H p ys ∨ SqT K H p ys) ∧ ∀ l, H l = none → Q (.ref l) (upd H l (.lst ys))) [.lst l] Φ := fun G H s vs r Q q => by
  obtain ⟨x, rfl, a, xs, rfl, h1, h2⟩ := r.one
  refine ⟨a, xs, rfl, .inl (SqL.of (s _ _ h1)), fun p hp => ?_⟩
  have n := Nw.new (o := .lst xs) s hp
  exact q _ (.lst l) _ _ n ⟨p, xs, rfl, upd_same, h2.same n.g⟩ h
theorem ac_tupL {l : List Dt} (h : Φ (.tup l)) : AC K (fun xs H Q => ∃ p ys, xs = [.ref p] ∧ ((SqL K H p ys ∧ ∀ l, H l = none → Q (.ref l) (upd H l (.tup ys))) ∨ (SqT K H p ys ∧ Q (.ref p) H))) [.lst l] Φ := fun G H s vs r Q q => by
  obtain ⟨x, rfl, a, xs, rfl, h1, h2⟩ := r.one
  refine ⟨a, xs, rfl, .inl ⟨SqL.of (s _ _ h1), fun p hp => ?_⟩⟩
  have n := Nw.new (o := .tup xs) s hp
  exact q _ (.tup l) _ _ n ⟨p, xs, rfl, SqT.of upd_same, h2.same n.g⟩ h
theorem ac_tupT {l : List Dt} (h : Φ (.tup l)) : AC K (fun xs H Q => ∃ p ys, xs = [.ref p] ∧ ((SqL K H p ys ∧ ∀ l, H l = none → Q (.ref l) (upd H l (.tup ys))) ∨ (SqT K H p ys ∧ Q (.ref p) H))) [.tup l] Φ := fun G H s vs r Q q => by
  obtain ⟨x, rfl, a, xs, rfl, h1, h2⟩ := r.one
  exact ⟨a, xs, rfl, .inr ⟨same_sqT s h1, q _ (.tup l) G H (Nw.refl s) ⟨a, xs, rfl, h1, h2⟩ h⟩⟩
theorem ac_all {bs : List Bool} (h : Φ (.bl (bs.all id))) : AC K (rAll K) [.lst (bs.map Dt.bl)] Φ := fun G H s vs r Q q => by
  obtain ⟨x, rfl, a, xs, rfl, h1, h2⟩ := r.one
  cases h2.bls
  exact ⟨a, bs, rfl, SqL.of (s _ _ h1), q _ (.bl (bs.all id)) G H (Nw.refl s) rfl h⟩
theorem ac_int {i : Int} (h : Φ (.int i)) : AC K (fun xs H Q => (∃ i, xs = [.int i] ∧ Q (.int i) H) ∨ ∃ k, xs = [.bl k] ∧ Q (.int (if k then 1 else 0)) H) [.int i] Φ := fun G H s vs r Q q => by
  obtain ⟨x, rfl, h1⟩ := r.one
  exact .inl ⟨i, by rw [show x = V.int i from h1], q _ (.int i) G H (Nw.refl s) rfl h⟩
theorem ac_intB {b : Bool} (h : Φ (.int (if b then 1 else 0))) : AC K (fun xs H Q => (∃ i, xs = [.int i] ∧ Q (.int i) H) ∨ ∃ k, xs = [.bl k] ∧ Q (.int (if k then 1 else 0)) H) [.bl b] Φ := fun G H s vs r Q q => by
  obtain ⟨x, rfl, h1⟩ := r.one
  exact .inr ⟨b, by rw [show x = V.bl b from h1], q _ (.int (if b then 1 else 0)) G H (Nw.refl s) rfl h⟩
/-! kinds -/
def Dt.kind : Dt → String
  | .non => "NoneType" | .bl _ => "bool" | .int _ => "int" | .str _ => "str" | .ty _ => "type" | .tup _ => "tuple" | .lst _ => "list"
def Dt.noTy : Dt → Bool
  | .ty _ => false
  | _ => true
theorem RD.kind {G H : Hp} (s : Same G H) : ∀ {d : Dt} {x : V}, d.noTy = true → RD K G d x → TyX K H x (.type d.kind)
  | .non, _, _, r => by cases (show _ = V.non from r); exact .base .non
  | .bl _, _, _, r => by cases (show _ = V.bl _ from r); exact .base (.bl _)
  | .int _, _, _, r => by cases (show _ = V.int _ from r); exact .base (.int _)
  | .str _, _, _, r => by cases (show _ = V.str _ from r); exact .base (.str _)
  | .tup _, _, _, ⟨a, xs, e, q, _⟩ => by
    subst e
    rcases q with (q | ⟨o, q⟩) | ⟨o, its, n, q1, q2, _⟩
    · exact .base (.tup (s _ _ q))
    · exact .fTuple (s _ _ q)
    · exact .kTuple q1 q2
  | .lst _, _, _, ⟨a, xs, e, q, _⟩ => by subst e; exact .base (.lst (s _ _ q))
theorem ac_isi {d : Dt} {T : String} {b : Bool} (n : d.noTy = true) (hb : kitB d.kind T = some b) (h : Φ (.bl b)) : AC K (rIsi K) [d, .ty T] Φ := fun G H s vs r Q q => by
  obtain ⟨x, y, rfl, h1, h2⟩ := r.two
  cases (show y = V.ty T from h2)
  exact ⟨x, .ty T, _, _, b, rfl, .ty T, h1.kind s n, kit_ty hb, q _ (.bl b) G H (Nw.refl s) rfl h⟩
theorem kit_2 {a S T : String} {r : Bool} (h1 : kitB a S = some false) (h2 : kitB a T = some r) : PySem.W.kitAny K (.type a) [.type S, .type T] = some r :=
  kitAny_cons (kit_ty h1) (fun _ => kitAny_cons (kit_ty h2) (fun e => by rw [e]; exact kitAny_nil) (fun e => e)) (fun e => nomatch e)
theorem kit_1 {a S T : String} (h1 : kitB a S = some true) : PySem.W.kitAny K (.type a) [.type S, .type T] = some true :=
  kitAny_cons (kit_ty h1) (fun e => nomatch e) (fun _ => rfl)
/-- isinstance(e, (S, T)) -/
theorem ae_isi2 {te : TE} {S T : String} (h : AE K te ρ fun d ρ1 => d.noTy = true ∧ ∃ b, ((kitB d.kind S = some true ∧ b = true) ∨ (kitB d.kind S = some false ∧ kitB d.kind T = some b)) ∧ Ψ (.bl b) ρ1) :
    AE K (tCB (rIsiT K) (tCons te (tCons (tTup (tCons (tC (.ty S)) (tCons (tC (.ty T)) tNil))) tNil))) ρ Ψ := fun B σ G H m Q q =>
  h B σ G H m _ fun v d ρ1 G1 H1 m1 s1 t1 r1 ⟨n, b, hb, p⟩ => by
    refine ⟨by show 2 ≤ sizeLine; decide, fun a ha => ?_⟩
    have k : PySem.W.kitAny K (.type d.kind) [.type S, .type T] = some b := by
      rcases hb with ⟨h1, rfl⟩ | ⟨h1, h2⟩
      · exact kit_1 h1
      · exact kit_2 h1 h2
    have nw := Nw.new (o := .tup [V.ty S, V.ty T]) m1.sub ha
    exact ⟨v, a, _, _, _, b, rfl, upd_same, .cons (.ty _) (.cons (.ty _) .nil), (r1.same nw.g).kind nw.s n, k, q _ (.bl b) ρ1 _ _ (m1.nw nw) (s1.trans nw.g) (t1.trans (Tr.same nw.h)) rfl p⟩
theorem ae_ty {T : String} (h : Ψ (.ty T) ρ) : AE K (tC (.ty T)) ρ Ψ := ae_c (.ty T) (fun _ => rfl) h
/-! ### deep equality -/
mutual
def Dt.pd : Dt → PyData
  | .non => .none | .bl b => .bool b | .int i => .int i | .str s => .str s | .ty _ => .none
  | .tup l => .tuple (pds l)
  | .lst l => .list (pds l)
def pds : List Dt → List PyData
  | [] => []
  | d :: l => d.pd :: pds l
def Dt.pl : Dt → Bool
  | .ty _ => false
  | .tup l => pls l
  | .lst l => pls l
  | _ => true
def pls : List Dt → Bool
  | [] => true
  | d :: l => d.pl && pls l
end
mutual
theorem RD.dp {G H : Hp} (s : Same G H) : ∀ {d : Dt} {v : V}, d.pl = true → RD K G d v → Dp K H v d.pd
  | .non, v, _, h => by cases (show v = .non from h); exact .non
  | .bl b, v, _, h => by cases (show v = .bl b from h); exact .bl b
  | .int i, v, _, h => by cases (show v = .int i from h); exact .int i
  | .str z, v, _, h => by cases (show v = .str z from h); exact .str z
  | .tup l, _, p, ⟨a, xs, e, ha, r⟩ => by subst e; exact .tup (same_sqT s ha) (RDs.dp s p r)
  | .lst l, _, p, ⟨a, xs, e, ha, r⟩ => by subst e; exact .lst (SqL.of (s _ _ ha)) (RDs.dp s p r)
theorem RDs.dp {G H : Hp} (s : Same G H) : ∀ {l : List Dt} {xs : List V}, pls l = true → RDs K G l xs → DpAll K H xs (pds l)
  | [], xs, _, h => by cases (show xs = [] from h); exact .nil
  | d :: l, _, p, ⟨x, r, e, h1, h2⟩ => by
    subst e
    have p' : (d.pl && pls l) = true := p
    rw [Bool.and_eq_true] at p'
    exact .cons (RD.dp s p'.1 h1) (RDs.dp s p'.2 h2)
end
theorem ar_eqD {d e : Dt} (p1 : d.pl = true) (p2 : e.pl = true) (s1 : SeqAt.shaped d.pd = true) (s2 : SeqAt.shaped e.pd = true) (h : Φ (.bl (PyData.eqv d.pd e.pd))) : AR K (rEqD K) d e Φ := fun G H s x y r1 r2 Q q =>
  ⟨d.pd, e.pd, r1.dp s p1, r2.dp s p2, s1, s2, q _ (.bl (PyData.eqv d.pd e.pd)) G H (Nw.refl s) rfl h⟩
theorem ar_neD {d e : Dt} (p1 : d.pl = true) (p2 : e.pl = true) (s1 : SeqAt.shaped d.pd = true) (s2 : SeqAt.shaped e.pd = true) (h : Φ (.bl (!PyData.eqv d.pd e.pd))) : AR K (rNeD K) d e Φ := fun G H s x y r1 r2 Q q =>
  ⟨d.pd, e.pd, r1.dp s p1, r2.dp s p2, s1, s2, q _ (.bl (!PyData.eqv d.pd e.pd)) G H (Nw.refl s) rfl h⟩
end
end Sh
set_option Elab.async false
set_option linter.all false
set_option maxRecDepth 100000
set_option maxHeartbeats 4000000
namespace Sh
open PySem PySem.Spec PyProof.Rows L2
section
variable {K : PySem.W.Frag} {ρ : List En} {Ψ : Dt → List En → Prop} {ΨT : Bool → List En → Prop} {ΨA : List Dt → List En → Prop} {N : List En → Prop} {R : Dt → List En → Prop} {Φ : Dt → Prop}
/-! ### walks -/
def Wj (K : PySem.W.Frag) (J : It) (l : List Dt) (G0 : Hp) : Prop :=
  (∀ i H, i < l.length → Same G0 H → J.go i H) ∧ (∀ H, Same G0 H → J.stop l.length H) ∧ ∀ i G H x H', i < l.length → Same G0 G → Same G H → J.yld i H x H' → ∃ G' d, Nw G H G' H' ∧ l[i]? = some d ∧ RD K G' d x
theorem Wj.walk {J : It} {l : List Dt} {G0 : Hp} (w : Wj K J l G0) : Walk J l.length (fun H => Same G0 H) fun i H x H' => ∀ G, Same G0 G → Same G H → ∃ G' d, Nw G H G' H' ∧ l[i]? = some d ∧ RD K G' d x :=
  ⟨fun i H hi s => w.1 i H hi s, fun H s => w.2.1 H s, fun i H x H' hi s y G s1 s2 => w.2.2 i G H x H' hi s1 s2 y⟩
def AI (K : PySem.W.Frag) (wi : TI) (ρ : List En) (Θ : List Dt → List En → Prop) : Prop := ∀ B σ G H, Mt K B ρ σ G H → ∀ R : It → Hp → Prop, (∀ J l ρ' G' H', Mt K B ρ' σ G' H' → Same G G' → Tr B H H' → Wj K J l G' → Θ l ρ' → R J H') → wi σ H R
theorem wj_list {a : Addr} {xs : List V} {l : List Dt} {G : Hp} (h : G a = some (.lst xs)) (r : RDs K G l xs) : Wj K (Itl K a) l G := by
  have e := r.length
  refine ⟨fun i H hi s => ⟨xs, xs[i]'(by omega), SqL.of (s _ _ h), by simp [show i < xs.length by omega]⟩, fun H s => ⟨xs, SqL.of (s _ _ h), by omega⟩, fun i G1 H x H' hi s1 s2 y => ?_⟩
  obtain ⟨d, h1, h2⟩ := r.back (i := i) (y.2 xs (SqL.of (s2 _ _ (s1 _ _ h))))
  refine ⟨G1, d, ?_, h1, h2.same s1⟩
  rw [y.1]; exact Nw.refl s2
theorem wj_tup {a : Addr} {xs : List V} {l : List Dt} {G : Hp} (h : SqT K G a xs) (r : RDs K G l xs) : Wj K (Itt K a) l G := by
  have e := r.length
  refine ⟨fun i H hi s => ⟨xs, xs[i]'(by omega), same_sqT s h, by simp [show i < xs.length by omega]⟩, fun H s => ⟨xs, same_sqT s h, by omega⟩, fun i G1 H x H' hi s1 s2 y => ?_⟩
  obtain ⟨d, h1, h2⟩ := r.back (i := i) (y.2 xs (same_sqT s2 (same_sqT s1 h)))
  refine ⟨G1, d, ?_, h1, h2.same s1⟩
  rw [y.1]; exact Nw.refl s2
def rgD (lo : Int) (n : Nat) : List Dt := (List.range n).map fun i => .int (lo + (i : Nat))
theorem wj_range {lo : Int} {n : Nat} {G : Hp} : Wj K (Itr lo n) (rgD lo n) G := by
  have e : (rgD lo n).length = n := by unfold rgD; rw [List.length_map, List.length_range]
  refine ⟨fun i H hi s => by rw [e] at hi; exact hi, fun H s => by rw [e]; exact Nat.le_refl _, fun i G1 H x H' hi s1 s2 y => ⟨G1, .int (lo + (i : Nat)), ?_, ?_, y.2⟩⟩
  · rw [y.1]; exact Nw.refl s2
  · rw [e] at hi; unfold rgD; rw [List.getElem?_map, List.getElem?_range hi]; rfl
theorem ai_list {te : TE} {Θ : List Dt → List En → Prop} (h : AE K te ρ fun d ρ1 => ∃ l, d = .lst l ∧ Θ l ρ1) : AI K (iList K te) ρ Θ := fun B σ G H m Rr q =>
  h B σ G H m _ fun v d ρ1 G1 H1 m1 s1 t1 r1 ⟨l, e, p⟩ => by
    subst e
    obtain ⟨a, xs, e, h1, h2⟩ := r1
    exact ⟨a, e, ⟨xs, SqL.of (m1.sub _ _ h1)⟩, q _ l ρ1 G1 H1 m1 s1 t1 (wj_list h1 h2) p⟩
theorem ai_tup {te : TE} {Θ : List Dt → List En → Prop} (h : AE K te ρ fun d ρ1 => ∃ l, d = .tup l ∧ Θ l ρ1) : AI K (iTup K te) ρ Θ := fun B σ G H m Rr q =>
  h B σ G H m _ fun v d ρ1 G1 H1 m1 s1 t1 r1 ⟨l, e, p⟩ => by
    subst e
    obtain ⟨a, xs, e, h1, h2⟩ := r1
    exact ⟨a, e, ⟨xs, same_sqT m1.sub h1⟩, q _ l ρ1 G1 H1 m1 s1 t1 (wj_tup h1 h2) p⟩
theorem ai_rng1 {ta : TA} {Θ : List Dt → List En → Prop} (h : AA K ta ρ fun ds ρ1 => ∃ j : Int, ds = [.int j] ∧ -(2 ^ 62) ≤ j ∧ j < 2 ^ 62 ∧ Θ (rgD 0 j.toNat) ρ1) : AI K (iRng1 ta) ρ Θ := fun B σ G H m Rr q =>
  h B σ G H m _ fun vs ds ρ1 G1 H1 m1 s1 t1 r1 ⟨j, e, p1, p2, p⟩ => by
    subst e
    obtain ⟨x, rfl, h1⟩ := r1.one
    cases (show x = .int j from h1)
    exact ⟨j, rfl, p1, p2, q _ _ ρ1 G1 H1 m1 s1 t1 wj_range p⟩
/-! new pairs -/
theorem nw_pair {G H : Hp} {T : Addr} {x y : V} {d e : Dt} (s : Same G H) (n : H T = none) (r1 : RD K G d x) (r2 : RD K G e y) : ∃ G', Nw G H G' (upd H T (.tup [x, y])) ∧ RD K G' (.tup [d, e]) (.ref T) := by
  have nw := Nw.new (o := .tup [x, y]) s n
  exact ⟨_, nw, T, _, rfl, SqT.of upd_same, x, [y], rfl, r1.same nw.g, y, [], rfl, r2.same nw.g, rfl⟩
theorem zip_get {α β : Type} : ∀ {xs : List α} {ys : List β} {i : Nat} {x : α} {y : β}, xs[i]? = some x → ys[i]? = some y → (xs.zip ys)[i]? = some (x, y)
  | a :: xs, b :: ys, 0, _, _, h1, h2 => by cases h1; cases h2; rfl
  | a :: xs, b :: ys, i + 1, x, y, h1, h2 => by
    have := zip_get (i := i) (by simpa using h1) (by simpa using h2)
    simpa using this
  | [], _, _, _, _, h1, _ => by simp at h1
  | _ :: _, [], _, _, _, _, h2 => by simp at h2
def zpD (l m : List Dt) : List Dt := (l.zip m).map fun p => .tup [p.1, p.2]
theorem zpD_len {l m : List Dt} : (zpD l m).length = min l.length m.length := by unfold zpD; rw [List.length_map, List.length_zip]
theorem zpD_get {l m : List Dt} {i : Nat} {d e : Dt} (h1 : l[i]? = some d) (h2 : m[i]? = some e) : (zpD l m)[i]? = some (.tup [d, e]) := by
  unfold zpD; rw [List.getElem?_map, zip_get h1 h2]; rfl
theorem wj_zipL {a b : Addr} {xs ys : List V} {l m : List Dt} {G : Hp} (h : G a = some (.lst xs)) (h' : G b = some (.lst ys)) (r : RDs K G l xs) (r' : RDs K G m ys) : Wj K (Itz K a b) (zpD l m) G := by
  have e := r.length
  have e' := r'.length
  have w := walk_zip (K := K) (a := a) (b := b) (xs := xs) (ys := ys) rfl
  have el : (zpD l m).length = min xs.length ys.length := by rw [zpD_len, e, e']
  refine ⟨fun i H hi s => w.goes i H (by rw [el] at hi; exact hi) ⟨SqL.of (s _ _ h), SqL.of (s _ _ h')⟩, fun H s => by rw [el]; exact w.stops H ⟨SqL.of (s _ _ h), SqL.of (s _ _ h')⟩, fun i G1 H x H' hi s1 s2 y => ?_⟩
  obtain ⟨T, u, v, rfl, nT, rfl, f1, f2⟩ := w.yields i H x H' (by rw [el] at hi; exact hi) ⟨SqL.of (s2 _ _ (s1 _ _ h)), SqL.of (s2 _ _ (s1 _ _ h'))⟩ y
  obtain ⟨d1, g1, q1⟩ := r.back f1
  obtain ⟨d2, g2, q2⟩ := r'.back f2
  obtain ⟨G', n, rd⟩ := nw_pair s2 nT (q1.same s1) (q2.same s1)
  exact ⟨G', _, n, zpD_get g1 g2, rd⟩
theorem walk_zipT {a b : Addr} {xs ys : List V} : Walk (RZ.ItzT K a b) (min xs.length ys.length) (fun H => SqT K H a xs ∧ SqT K H b ys) (YPair (fun i => xs[i]?) (fun i => ys[i]?)) := by
  refine ⟨fun i H hi q => ?_, fun _ q => ⟨xs, ys, q.1, q.2, by omega⟩, fun _ _ _ _ _ q ⟨T, x, y, e1, e2, e3, f, g⟩ => ⟨T, x, y, e1, e2, e3, f xs q.1, g ys q.2⟩⟩
  have h1 : i < xs.length := by omega
  have h2 : i < ys.length := by omega
  exact ⟨xs, ys, xs[i], ys[i], q.1, q.2, List.getElem?_eq_getElem h1, List.getElem?_eq_getElem h2⟩
theorem wj_zipT {a b : Addr} {xs ys : List V} {l m : List Dt} {G : Hp} (h : SqT K G a xs) (h' : SqT K G b ys) (r : RDs K G l xs) (r' : RDs K G m ys) : Wj K (RZ.ItzT K a b) (zpD l m) G := by
  have e := r.length
  have e' := r'.length
  have w := walk_zipT (K := K) (a := a) (b := b) (xs := xs) (ys := ys)
  have el : (zpD l m).length = min xs.length ys.length := by rw [zpD_len, e, e']
  refine ⟨fun i H hi s => w.goes i H (by rw [el] at hi; exact hi) ⟨same_sqT s h, same_sqT s h'⟩, fun H s => by rw [el]; exact w.stops H ⟨same_sqT s h, same_sqT s h'⟩, fun i G1 H x H' hi s1 s2 y => ?_⟩
  obtain ⟨T, u, v, rfl, nT, rfl, f1, f2⟩ := w.yields i H x H' (by rw [el] at hi; exact hi) ⟨same_sqT s2 (same_sqT s1 h), same_sqT s2 (same_sqT s1 h')⟩ y
  obtain ⟨d1, g1, q1⟩ := r.back f1
  obtain ⟨d2, g2, q2⟩ := r'.back f2
  obtain ⟨G', n, rd⟩ := nw_pair s2 nT (q1.same s1) (q2.same s1)
  exact ⟨G', _, n, zpD_get g1 g2, rd⟩
theorem ai_zipL {ta : TA} {Θ : List Dt → List En → Prop} (h : AA K ta ρ fun ds ρ1 => ∃ l m, ds = [.lst l, .lst m] ∧ Θ (zpD l m) ρ1) : AI K (RZ.iZipA K ta) ρ Θ := fun B σ G H mm Rr q =>
  h B σ G H mm _ fun vs ds ρ1 G1 H1 m1 s1 t1 r1 ⟨l, m, e, p⟩ => by
    subst e
    obtain ⟨x, y, rfl, ⟨a, xs, rfl, h1, h2⟩, ⟨b, ys, rfl, h3, h4⟩⟩ := r1.two
    exact ⟨a, b, xs, ys, rfl, .inl ⟨SqL.of (m1.sub _ _ h1), SqL.of (m1.sub _ _ h3), q _ _ ρ1 G1 H1 m1 s1 t1 (wj_zipL h1 h3 h2 h4) p⟩⟩
theorem ai_zipT {ta : TA} {Θ : List Dt → List En → Prop} (h : AA K ta ρ fun ds ρ1 => ∃ l m, ds = [.tup l, .tup m] ∧ Θ (zpD l m) ρ1) : AI K (RZ.iZipA K ta) ρ Θ := fun B σ G H mm Rr q =>
  h B σ G H mm _ fun vs ds ρ1 G1 H1 m1 s1 t1 r1 ⟨l, m, e, p⟩ => by
    subst e
    obtain ⟨x, y, rfl, ⟨a, xs, rfl, h1, h2⟩, ⟨b, ys, rfl, h3, h4⟩⟩ := r1.two
    exact ⟨a, b, xs, ys, rfl, .inr ⟨same_sqT m1.sub h1, same_sqT m1.sub h3, q _ _ ρ1 G1 H1 m1 s1 t1 (wj_zipT h1 h3 h2 h4) p⟩⟩
def enD (l : List Dt) : List Dt := (List.range l.length).zipWith (fun (i : Nat) d => .tup [.int ((i : Nat) : Int), d]) l
theorem enD_len {l : List Dt} : (enD l).length = l.length := by unfold enD; simp
theorem enD_get {l : List Dt} {i : Nat} {d : Dt} (h : l[i]? = some d) : (enD l)[i]? = some (.tup [.int ((i : Nat) : Int), d]) := by
  have hi := (List.getElem?_eq_some_iff.mp h).1
  unfold enD
  rw [List.getElem?_zipWith, List.getElem?_range hi, h]
/-! ### for -/
theorem as_for {wi : TI} {g : TG} {tb : TS} (h : AI K wi ρ fun l ρ1 => ∃ I : Nat → List En → Prop, I 0 ρ1 ∧ (∀ i d ρ2, l[i]? = some d → I i ρ2 → AG K g d ρ2 fun ρ3 => AS K tb ρ3 (I (i + 1)) R) ∧ ∀ ρ2, I l.length ρ2 → N ρ2) : AS K (tFor wi g tb) ρ N R := fun B σ G H m D qn qr =>
  h B σ G H m _ fun J l ρ1 G1 H1 m1 s1 t1 w ⟨I, i0, is, ie⟩ => by
    refine for_it w.walk (fun i σ2 H2 => ∃ ρ2 G2, Mt K B ρ2 σ2 G2 H2 ∧ Same G1 G2 ∧ Tr B H1 H2 ∧ I i ρ2) ⟨ρ1, G1, m1, Same.refl _, Tr.refl, i0⟩ (fun i σ2 H2 _ ⟨ρ2, G2, m2, s2, t2, p⟩ => s2.trans m2.sub) ?_ ?_
    · rintro i x σ2 H2 H3 hi ⟨ρ2, G2, m2, s2, t2, p⟩ y
      obtain ⟨G3, d, n3, hd, rd⟩ := y G2 s2 m2.sub
      refine is i d ρ2 hd p B σ2 G3 H3 (m2.nw n3) x rd _ fun σ4 ρ4 G4 H4 m4 s4 t4 h4 => ?_
      refine h4 B σ4 G4 H4 m4 _ (fun σ5 ρ5 G5 H5 m5 s5 t5 p5 => ⟨ρ5, G5, m5, (((s2.trans n3.g).trans s4).trans s5), (((t2.trans (Tr.same n3.h)).trans t4).trans t5), p5⟩) ?_
      exact fun v d σ5 ρ5 G5 H5 m5 s5 t5 r5 p5 => qr v d σ5 ρ5 G5 H5 m5 ((((s1.trans s2).trans n3.g).trans s4).trans s5) ((((t1.trans t2).trans (Tr.same n3.h)).trans t4).trans t5) r5 p5
    · rintro σ2 H2 ⟨ρ2, G2, m2, s2, t2, p⟩
      exact qn σ2 ρ2 G2 H2 m2 (s1.trans s2) (t1.trans t2) (ie ρ2 p)
/-! ### comprehensions -/
def wipeE (ρ : List En) : List Nat → List En
  | [] => ρ
  | v :: vs => (wipeE ρ vs).set v .no
theorem Mt.wipe {B : Addr → Prop} {σ : L2.St} {G H : Hp} (m : Mt K B ρ σ G H) : ∀ vs : List Nat, Mt K B (wipeE ρ vs) (L2.wipe σ vs) G H
  | [] => m
  | v :: vs => (Mt.wipe m vs).drop v none
/-- the slots may be others where nothing is known -/
theorem Mt.other {B : Addr → Prop} {σ σ' : L2.St} {G H : Hp} (m : Mt K B ρ σ G H) (hl : σ'.length = σ.length) (h : ∀ i : Nat, ρ[i]? = some En.no ∨ σ'[i]? = σ[i]?) : Mt K B ρ σ' G H where
  sub := m.sub
  pro := m.pro
  len := hl.trans m.len
  da := fun i d e => by
    rcases h i with z | z
    · rw [z] at e; cases e
    · rw [z]; exact m.da i d e
  own := fun i d e => by
    rcases h i with z | z
    · rw [z] at e; cases e
    · rw [z]; exact m.own i d e
  bx := fun i b f e => by
    rcases h i with z | z
    · rw [z] at e; cases e
    · rw [z]; exact m.bx i b f e
  dis := fun i j e e' a h1 h2 o1 o2 ne s1 s2 => by
    rcases h i with z | z
    · rw [z] at h1; cases h1; exact o1
    · rcases h j with z' | z'
      · rw [z'] at h2; cases h2; exact o2
      · rw [z] at s1; rw [z'] at s2; exact m.dis i j e e' a h1 h2 o1 o2 ne s1 s2
/-- off vs the slots are the same -/
def Off (vs : List Nat) (σ σ' : L2.St) : Prop := σ'.length = σ.length ∧ ∀ i, i ∉ vs → σ'[i]? = σ[i]?
theorem wipe_in {σ : L2.St} {i : Nat} : ∀ {vs : List Nat}, i ∈ vs → i < σ.length → (L2.wipe σ vs)[i]? = some none
  | v :: vs, h, lt => by
    unfold L2.wipe
    by_cases e : v = i
    · subst e; exact set_at (by rw [wipe_length]; exact lt)
    · rw [set_off e]
      exact wipe_in (by rcases List.mem_cons.mp h with z | z; exact absurd z.symm e; exact z) lt
theorem Off.wipe {vs : List Nat} {σ σ' : L2.St} (o : Off vs σ σ') : L2.wipe σ' vs = L2.wipe σ vs := by
  apply List.ext_getElem?
  intro i
  by_cases h : i ∈ vs
  · by_cases lt : i < σ.length
    · rw [wipe_in h lt, wipe_in h (by rw [o.1]; exact lt)]
    · rw [List.getElem?_eq_none (by rw [wipe_length, o.1]; omega), List.getElem?_eq_none (by rw [wipe_length]; omega)]
  · rw [wipe_out h, wipe_out h, o.2 i h]
theorem wipe_off (vs : List Nat) (σ : L2.St) : Off vs (L2.wipe σ vs) σ := ⟨(wipe_length σ vs).symm, fun i h => (wipe_out h).symm⟩
def AGv (K : PySem.W.Frag) (vs : List Nat) (g : TG) (d : Dt) (ρ : List En) (N : List En → Prop) : Prop := ∀ B σ G H, Mt K B ρ σ G H → ∀ v, RD K G d v → ∀ Q : L2.St → Hp → Prop, (∀ σ' ρ' G' H', Mt K B ρ' σ' G' H' → Same G G' → Tr B H H' → Off vs σ σ' → N ρ' → Q σ' H') → g v σ H Q
def AGvs (K : PySem.W.Frag) (vs : List Nat) (g : TGs) (ds : List Dt) (ρ : List En) (N : List En → Prop) : Prop := ∀ B σ G H, Mt K B ρ σ G H → ∀ xs, RDs K G ds xs → ∀ Q : L2.St → Hp → Prop, (∀ σ' ρ' G' H', Mt K B ρ' σ' G' H' → Same G G' → Tr B H H' → Off vs σ σ' → N ρ' → Q σ' H') → g xs σ H Q
theorem agv_name {vs : List Nat} {i : Nat} {d : Dt} (hi : i ∈ vs) (h : N (ρ.set i (.da d))) : AGv K vs (gName i) d ρ N := fun B σ G H m v r Q q => q _ _ G H (m.set i r) (Same.refl _) Tr.refl ⟨List.length_set, fun j hj => set_off (fun z => hj (by rw [← z]; exact hi))⟩ h
theorem agvs_nil {vs : List Nat} (h : N ρ) : AGvs K vs gNil [] ρ N := fun B σ G H m xs r Q q => ⟨r, q σ ρ G H m (Same.refl _) Tr.refl ⟨rfl, fun _ _ => rfl⟩ h⟩
theorem agvs_cons {vs : List Nat} {t : TG} {u : TGs} {d : Dt} {ds : List Dt} (h : AGv K vs t d ρ fun ρ1 => AGvs K vs u ds ρ1 N) : AGvs K vs (gCons t u) (d :: ds) ρ N := fun B σ G H m xs r Q q => by
  obtain ⟨x, ys, rfl, r1, r2⟩ := r
  exact ⟨x, ys, rfl, h B σ G H m x r1 _ fun σ1 ρ1 G1 H1 m1 s1 t1 o1 h1 => h1 B σ1 G1 H1 m1 ys (r2.same s1) Q fun σ' ρ' G' H' m' s t o p => q σ' ρ' G' H' m' (s1.trans s) (t1.trans t) ⟨o.1.trans o1.1, fun i hi => (o.2 i hi).trans (o1.2 i hi)⟩ p⟩
theorem agv_tup {vs : List Nat} {t : TGs} {n : Nat} {ds : List Dt} (hn : ds.length = n) (h : AGvs K vs t ds ρ N) : AGv K vs (gTup K n t) (.tup ds) ρ N := fun B σ G H m v r Q q => by
  obtain ⟨a, xs, rfl, r1, r2⟩ := r
  exact ⟨a, xs, rfl, same_sqT m.sub r1, by rw [r2.length]; exact hn, h B σ G H m xs r2 Q q⟩
theorem at_yes (h : ΨT true ρ) : AT K tYes ρ ΨT := fun B σ G H m Q q => q true ρ G H m (Same.refl _) Tr.refl h
/-- [e for .. in ..]: ρ is silent about the slots of the targets -/
theorem ae_lc {wi : TI} {g : TG} {tt : TT} {te : TE} {vs : List Nat}
    (h : AI K wi ρ fun l ρ1 => ∃ I : Nat → List Dt → List En → Prop, I 0 [] (wipeE ρ1 vs) ∧
      (∀ i d acc ρ2, l[i]? = some d → I i acc ρ2 → AGv K vs g d ρ2 fun ρ3 => AT K tt ρ3 fun b ρ4 => (b = true → AE K te ρ4 fun e ρ5 => acc.length < sizeLine ∧ I (i + 1) (acc ++ [e]) (wipeE ρ5 vs)) ∧ (b = false → I (i + 1) acc (wipeE ρ4 vs))) ∧
      ∀ acc ρ2, I l.length acc ρ2 → (∀ i ∈ vs, i < ρ2.length → ρ2[i]? = some En.no) ∧ Ψ (.lst acc) ρ2) : AE K (tLc wi g tt te vs) ρ Ψ := fun B σ G H m Q q =>
  h B σ G H m _ fun J l ρ1 G1 H1 m1 s1 t1 w ⟨I, i0, is, ie⟩ => fun D hD => by
    have back : ∀ {σ2 : L2.St} {ρ2 : List En} {B' : Addr → Prop} {G2 H2 : Hp}, L2.wipe σ2 vs = L2.wipe σ vs → Mt K B' ρ2 σ2 G2 H2 → Mt K B' (wipeE ρ2 vs) (L2.wipe σ vs) G2 H2 := fun e m2 => by
      rw [← e]; exact m2.wipe vs
    have mg := m1.guard (o := .lst []) hD
    refine lc_it w.walk (fun i H2 => ∃ (acc : List Dt) (xs : List V) (ρ2 : List En) (G2 : Hp), Mt K (fun a => B a ∨ a = D) ρ2 (L2.wipe σ vs) G2 H2 ∧ Same G1 G2 ∧ Tr B H1 H2 ∧ H2 D = some (.lst xs) ∧ RDs K G2 acc xs ∧ I i acc ρ2)
      ⟨[], [], wipeE ρ1 vs, G1, mg.wipe vs, Same.refl _, Tr.same (same_up hD), upd_same, rfl, i0⟩ (fun i H2 _ ⟨acc, xs, ρ2, G2, m2, s2, t2, e2, r2, p⟩ => s2.trans m2.sub) ?_ ?_
    · rintro i x H2 H3 hi ⟨acc, xs, ρ2, G2, m2, s2, t2, e2, r2, p⟩ y
      obtain ⟨G3, d, n3, hd, rd⟩ := y G2 s2 m2.sub
      have m3 := m2.nw n3
      refine is i d acc ρ2 hd p _ (L2.wipe σ vs) G3 H3 m3 x rd _ fun σ4 ρ4 G4 H4 m4 s4 t4 o4 h4 => ?_
      have ew : L2.wipe σ4 vs = L2.wipe σ vs := by
        rw [o4.wipe]
        exact (Off.wipe (wipe_off vs σ)).symm
      have e3 := n3.h _ _ e2
      have e4 := t4 _ _ (.inr rfl) e3
      have tB3 : Tr B H1 H4 := (t2.trans (Tr.same n3.h)).trans fun a o b e => t4 a o (.inl b) e
      refine ⟨ew, ?_⟩
      refine h4 _ σ4 G4 H4 m4 _ fun b ρ5 G5 H5 m5 s5 t5 h5 => ?_
      have e5 := t5 _ _ (.inr rfl) e4
      have tB5 : Tr B H1 H5 := tB3.trans fun a o b e => t5 a o (.inl b) e
      have s15 : Same G1 G5 := ((s2.trans n3.g).trans s4).trans s5
      cases b
      · rw [if_neg (by decide)]
        exact ⟨acc, xs, wipeE ρ5 vs, G5, back ew m5, s15, tB5, e5, ((r2.same n3.g).same s4).same s5, h5.2 rfl⟩
      · rw [if_pos rfl]
        refine h5.1 rfl _ σ4 G5 H5 m5 _ fun v e ρ6 G6 H6 m6 s6 t6 r6 h6 => ?_
        have e6 := t6 _ _ (.inr rfl) e5
        have rr : RDs K G6 acc xs := (((r2.same n3.g).same s4).same s5).same s6
        refine ⟨xs, e6, by rw [rr.length]; exact h6.1, acc ++ [e], xs ++ [v], wipeE ρ6 vs, G6, (back ew m6).turn (.inr rfl), s15.trans s6, ?_, upd_same, rr.snoc r6, h6.2⟩
        intro a o b z
        have z1 := t6 a o (.inl b) (tB5 a o b z)
        rw [upd_ne (fun z' => (m1.pro a b).2 (by rw [z']; exact hD))]; exact z1
    · rintro H2 ⟨acc, xs, ρ2, G2, m2, s2, t2, e2, r2, p⟩
      obtain ⟨hn, hp⟩ := ie acc ρ2 p
      have m3 : Mt K (fun a => B a ∨ a = D) ρ2 σ G2 H2 := m2.other (wipe_length σ vs).symm fun i => by
        by_cases hi : i ∈ vs
        · by_cases lt : i < ρ2.length
          · exact .inl (hn i hi lt)
          · exact .inr (by rw [List.getElem?_eq_none (by have := m2.len; rw [wipe_length] at this; omega), List.getElem?_eq_none (by have := m2.len; omega)])
        · exact .inr (wipe_out hi).symm
      have nD : G2 D = none := (m2.pro D (.inr rfl)).1
      have mB : Mt K B ρ2 σ G2 H2 := m3.less fun a b => .inl b
      -- the new list becomes data
      have sg : Same G2 (upd G2 D (.lst xs)) := same_up nD
      have mF : Mt K B ρ2 σ (upd G2 D (.lst xs)) H2 := ⟨fun a o z => by
          by_cases w : a = D
          · subst w; rw [upd_same] at z; cases z; exact e2
          · rw [upd_ne w] at z; exact m2.sub _ _ z,
        fun a b => ⟨by rw [upd_ne (fun w => (m1.pro a b).2 (by rw [w]; exact hD))]; exact (mB.pro a b).1, (mB.pro a b).2⟩, mB.len, fun i d e => by
          obtain ⟨v, z1, z2⟩ := mB.da i d e
          exact ⟨v, z1, z2.same sg⟩, fun i k e => by
          obtain ⟨q', ys, z1, z2, z3, z4, z5⟩ := m3.own i k e
          exact ⟨q', ys, z1, z2, z3.same sg, by rw [upd_ne (fun w => z5 (.inr w))]; exact z4, fun b => z5 (.inl b)⟩, fun i b f e => by
          obtain ⟨y, c, z1, z2, z3, z4, z5, z6⟩ := m3.bx i b f e
          exact ⟨y, c, z1, z2, z3, z4, by rw [upd_ne (fun w => z6 (.inr w))]; exact z5, fun b => z6 (.inl b)⟩, mB.dis⟩
      exact q _ (.lst acc) ρ2 _ H2 mF ((s1.trans s2).trans sg) (t1.trans t2) ⟨D, xs, rfl, upd_same, r2.same sg⟩ hp
end
end Sh
set_option Elab.async false
set_option linter.all false
set_option maxRecDepth 100000
set_option maxHeartbeats 4000000
namespace Sh
open PySem PySem.Spec PyProof.Rows L2
/-! ### promises over data -/
def spP (K : PySem.W.Frag) (S : List Dt → Dt → Prop) : Sp := fun vs H Q _ => ∃ G ds r, Same G H ∧ RDs K G ds vs ∧ S ds r ∧ ∀ v G' H', Nw G H G' H' → RD K G' r v → Q v H'
def But (b : Addr) (H H' : Hp) : Prop := ∀ a o, a ≠ b → H a = some o → H' a = some o
theorem but_upd {H : Hp} {b : Addr} {o : HO} : But b H (upd H b o) := fun a u n e => by rw [upd_ne n]; exact e
structure Nb (b : Addr) (G H G' H' : Hp) : Prop where
  g : Same G G'
  s : Same G' H'
  h : But b H H'
  f : ∀ a, G a = none → H a ≠ none → G' a = none
def spB (K : PySem.W.Frag) (n : Nat) (dom : List Dt → Prop) (post : List Dt → Dt → Prop) : Sp := fun vs H Q _ => ∃ G ds b us y c, ∃ F : Nat, vs = .ref b :: us ∧ Same G H ∧ Bx H b y c ∧ 0 ≤ c ∧ c + (F + n : Nat) ≤ BxM ∧ G b = none ∧ RDs K G ds us ∧ dom ds ∧
  ∀ v d G' H' y' c', Nb b G H G' H' → Bx H' b y' c' → 0 ≤ c' → c' + F ≤ BxM → RD K G' d v → post ds d → Q v H'
section
variable {K : PySem.W.Frag} {ρ : List En} {Ψ : Dt → List En → Prop} {ΨT : Bool → List En → Prop} {ΨA : List Dt → List En → Prop} {N : List En → Prop} {R : Dt → List En → Prop} {Φ : Dt → Prop}
theorem ae_call {S : List Dt → Dt → Prop} {E : XK} {ta : TA} (h : AA K ta ρ fun ds ρ1 => ∃ r, S ds r ∧ Ψ r ρ1) : AE K (tCall (spP K S) [] E ta) ρ Ψ := fun B σ G H m Q q =>
  h B σ G H m _ fun vs ds ρ1 G1 H1 m1 s1 t1 r1 ⟨r, hs, p⟩ => ⟨G1, ds, r, m1.sub, by rw [List.append_nil]; exact r1, hs, fun v G2 H2 n r2 => q v r ρ1 G2 H2 (m1.nw n) (s1.trans n.g) (t1.trans (Tr.same n.h)) r2 p⟩
/-- a box has been drawn from -/
theorem Mt.box {B : Addr → Prop} {σ : L2.St} {G H G' H' : Hp} (m : Mt K B ρ σ G H) {i f : Nat} {b : Addr} {y c : Int} (e : ρ[i]? = some (.bx b f)) (n : Nb b G H G' H') {F : Nat} (h : Bx H' b y c) (c0 : 0 ≤ c) (c1 : c + F ≤ BxM) : Mt K B (ρ.set i (.bx b F)) σ G' H' ∧ Tr B H H' := by
  obtain ⟨y0, k0, z1, z2, z3, z4, z5, z6⟩ := m.bx i b f e
  have tr : Tr B H H' := fun a o ba e => n.h a o (fun w => z6 (by rw [← w]; exact ba)) e
  refine ⟨⟨n.s, fun a ba => ⟨n.f a (m.pro a ba).1 (m.pro a ba).2, ?_⟩, by rw [List.length_set]; exact m.len, ?_, ?_, ?_, ?_⟩, tr⟩
  · intro z
    cases q : H a with
    | none => exact (m.pro a ba).2 q
    | some o => rw [tr a o ba q] at z; cases z
  · intro j d hj
    rcases get_set hj with ⟨rfl, w, lt⟩ | ⟨ne, w⟩
    · cases w
    · obtain ⟨v, w1, w2⟩ := m.da j d w
      exact ⟨v, w1, w2.same n.g⟩
  · intro j l hj
    rcases get_set hj with ⟨rfl, w, lt⟩ | ⟨ne, w⟩
    · cases w
    · obtain ⟨q, xs, w1, w2, w3, w4, w5⟩ := m.own j l w
      exact ⟨q, xs, w1, n.h _ _ (fun z => m.dis i j _ _ b e w trivial trivial ne z1 (by rw [← z]; exact w1)) w2, w3.same n.g, n.f q w4 (some_ne w2), w5⟩
  · intro j b' f' hj
    rcases get_set hj with ⟨rfl, w, lt⟩ | ⟨ne, w⟩
    · cases w
      exact ⟨y, c, z1, h, c0, c1, n.f b z5 z2.ne, z6⟩
    · obtain ⟨y', c', w1, ⟨x, w2, w2'⟩, w3, w4, w5, w6⟩ := m.bx j b' f' w
      exact ⟨y', c', w1, ⟨x, n.h _ _ (fun z => m.dis i j _ _ b e w trivial trivial ne z1 (by rw [← z]; exact w1)) w2, w2'⟩, w3, w4, n.f b' w5 (some_ne w2), w6⟩
  · intro j k e1 e2 a g1 g2 o1 o2 ne s1 s2
    rcases get_set g1 with ⟨rfl, z, lt⟩ | ⟨n1, z1'⟩
    · rcases get_set g2 with ⟨w, z', lt'⟩ | ⟨n2, z2'⟩
      · exact ne w
      · exact m.dis i k _ e2 a e z2' trivial o2 ne s1 s2
    · rcases get_set g2 with ⟨rfl, z, lt⟩ | ⟨n2, z2'⟩
      · exact m.dis j i e1 _ a z1' e o1 trivial ne s1 s2
      · exact m.dis j k e1 e2 a z1' z2' o1 o2 ne s1 s2
theorem ae_draw {n : Nat} {dom : List Dt → Prop} {post : List Dt → Dt → Prop} {E : XK} {ta : TA} {i : Nat} {b : Addr} {f0 : Nat} (e0 : ρ[i]? = some (.bx b f0))
    (h : AA K ta ρ fun ds ρ1 => dom ds ∧ ∃ F, ρ1[i]? = some (.bx b (F + n)) ∧ ∀ d, post ds d → Ψ d (ρ1.set i (.bx b F))) : AE K (tCall (spB K n dom post) [] E (tCons (tVar i) ta)) ρ Ψ := fun B σ G H m Q q => by
  obtain ⟨y0, k0, z1, _⟩ := m.bx i b f0 e0
  refine ⟨_, z1, h B σ G H m _ fun vs ds ρ1 G1 H1 m1 s1 t1 r1 ⟨hd, F, e, p⟩ => ?_⟩
  obtain ⟨y, c, w1, w2, w3, w4, w5, w6⟩ := m1.bx i b (F + n) e
  refine ⟨G1, ds, b, vs, y, c, F, by rw [List.append_nil], m1.sub, w2, w3, w4, w5, r1, hd, fun v d G2 H2 y' c' nb hb c0 c1 r2 hp => ?_⟩
  obtain ⟨m2, t2⟩ := m1.box e nb hb c0 c1
  exact q v d _ G2 H2 m2 (s1.trans nb.g) (t1.trans t2) r2 (p d hp)
/-! ### a def keeps such a promise -/
def env0 (N : List Str) (ds : List Dt) : List En := ds.map En.da ++ List.replicate (N.length - ds.length) .no
def envB (N : List Str) (b : Addr) (f : Nat) (ds : List Dt) : List En := .bx b f :: (ds.map En.da ++ List.replicate (N.length - (ds.length + 1)) .no)
theorem rep_get {n i : Nat} {e : En} (h : (List.replicate n En.no)[i]? = some e) : e = .no := by
  rw [List.getElem?_replicate] at h
  split at h
  · cases h; rfl
  · cases h
theorem da_get {ds : List Dt} {n i : Nat} {e : En} (h : (ds.map En.da ++ List.replicate n En.no)[i]? = some e) : e = .no ∨ ∃ d, ds[i]? = some d ∧ e = .da d := by
  by_cases lt : i < ds.length
  · rw [List.getElem?_append_left (by rw [List.length_map]; exact lt), List.getElem?_map] at h
    obtain ⟨d, h1, h2⟩ := Option.map_eq_some_iff.mp h
    exact .inr ⟨d, h1, h2.symm⟩
  · rw [List.getElem?_append_right (by rw [List.length_map]; omega)] at h
    exact .inl (rep_get h)
theorem start_get {N : List Str} {vs : List V} {i : Nat} {x : V} (h : vs[i]? = some x) : (L2.start N vs)[i]? = some (some x) := by
  have lt := (List.getElem?_eq_some_iff.mp h).1
  unfold L2.start
  rw [List.getElem?_append_left (by rw [List.length_map]; exact lt), List.getElem?_map, h]; rfl
theorem mt_start {N : List Str} {ds : List Dt} {vs : List V} {G H : Hp} (s : Same G H) (r : RDs K G ds vs) : Mt K (fun a => H a ≠ none ∧ G a = none) (env0 N ds) (L2.start N vs) G H where
  sub := s
  pro := fun a b => ⟨b.2, b.1⟩
  len := by unfold L2.start env0; simp [r.length]
  da := fun i d e => by
    rcases da_get e with z | ⟨d', z1, z2⟩
    · cases z
    · cases z2
      obtain ⟨x, h1, h2⟩ := r.get z1
      exact ⟨x, start_get h1, h2⟩
  own := fun i l e => by rcases da_get e with z | ⟨d', z1, z2⟩ <;> contradiction
  bx := fun i b f e => by rcases da_get e with z | ⟨d', z1, z2⟩ <;> contradiction
  dis := fun i j e e' a h1 h2 o1 o2 ne s1 s2 => by
    rcases da_get h1 with z | ⟨d', z1, z2⟩
    · subst z; exact o1
    · subst z2; exact o1
theorem mt_startB {N : List Str} {ds : List Dt} {vs : List V} {G H : Hp} {b : Addr} {y c : Int} {f : Nat} (s : Same G H) (r : RDs K G ds vs) (hb : Bx H b y c) (c0 : 0 ≤ c) (c1 : c + f ≤ BxM) (gb : G b = none) : Mt K (fun a => H a ≠ none ∧ G a = none ∧ a ≠ b) (envB N b f ds) (L2.start N (.ref b :: vs)) G H where
  sub := s
  pro := fun a b => ⟨b.2.1, b.1⟩
  len := by unfold L2.start envB; simp [r.length]
  da := fun i d e => by
    cases i with
    | zero => cases e
    | succ i =>
      rcases da_get (show _ = some _ from e) with z | ⟨d', z1, z2⟩
      · cases z
      · cases z2
        obtain ⟨x, h1, h2⟩ := r.get z1
        exact ⟨x, start_get (vs := .ref b :: vs) (i := i + 1) h1, h2⟩
  own := fun i l e => by
    cases i with
    | zero => cases e
    | succ i => rcases da_get (show _ = some _ from e) with z | ⟨d', z1, z2⟩ <;> contradiction
  bx := fun i b' f' e => by
    cases i with
    | zero => cases e; exact ⟨y, c, rfl, hb, c0, c1, gb, fun z => z.2.2 rfl⟩
    | succ i => rcases da_get (show _ = some _ from e) with z | ⟨d', z1, z2⟩ <;> contradiction
  dis := fun i j e e' a h1 h2 o1 o2 ne s1 s2 => by
    cases i with
    | zero =>
      cases j with
      | zero => exact ne rfl
      | succ j => rcases da_get (show _ = some _ from h2) with z | ⟨d', z1, z2⟩ <;> (subst_vars; exact o2)
    | succ i => rcases da_get (show _ = some _ from h1) with z | ⟨d', z1, z2⟩ <;> (subst_vars; exact o1)
end
section
variable {P : Program} {w : World} {K : PySem.W.Frag} {mg : Str → Option Value} {base : Heap}
theorem okP {x qual : Str} {st : Stmt} {f : Addr} {fd : FuncData} {N ps : List Str} {k : Nat} {S : List Dt → Dt → Prop} (F : Fun K x qual st f fd) (sc : FnScope N ps (defScope st)) (len : ∀ ds r, S ds r → ds.length = ps.length)
    (body : ∀ (cdv : Value) (A : Around) (outer : List Env) (s : Shared) (H : Hp) (E : XK), Room k (A.deeper (envOfC qual (defScope st) s.heap.objs.size f cdv)) → ∀ ds r, S ds r →
      ∃ t, PSs (cxOf CX0 P w K mg base N qual (defScope st) f cdv A outer s H E).nox (defBody st) t ∧ AS K t (env0 N ds) (fun _ => r = .non) (fun d _ => d = r)) : FnOk P w K mg base CX0 (k + 1) f fd ps (spP K S) := by
  refine F.ok sc (fun vs H Q E h => ?_) (fun cdv A outer s H vs Q E hr h => ?_)
  · obtain ⟨G, ds, r, s, rd, hs, _⟩ := h
    rw [rd.length]; exact len ds r hs
  · obtain ⟨G, ds, r, sm, rd, hs, q⟩ := h
    obtain ⟨t, ht, ha⟩ := body cdv A outer s H E hr ds r hs
    refine ⟨t, ht, ha _ _ G H (mt_start sm rd) _ (fun σ' ρ' G' H' m' s' t' e => ?_) (fun v d σ' ρ' G' H' m' s' t' rv e => ?_)⟩
    all_goals
      have nw : Nw G H G' H' := ⟨s', m'.sub, fun a o e => by
          cases z : G a with
          | none => exact t' a o ⟨some_ne e, z⟩ e
          | some o' => rw [sm _ _ z] at e; cases e; exact m'.sub _ _ (s' _ _ z), fun a h1 h2 => (m'.pro a ⟨h2, h1⟩).1⟩
    · exact q .non G' H' nw (by rw [e]; rfl)
    · exact q v G' H' nw (by rw [← e]; exact rv)
theorem okB {x qual : Str} {st : Stmt} {f : Addr} {fd : FuncData} {N ps : List Str} {k n : Nat} {dom : List Dt → Prop} {post : List Dt → Dt → Prop} (F : Fun K x qual st f fd) (sc : FnScope N ps (defScope st)) (len : ∀ ds, dom ds → ds.length + 1 = ps.length)
    (body : ∀ (cdv : Value) (A : Around) (outer : List Env) (s : Shared) (H : Hp) (E : XK), Room k (A.deeper (envOfC qual (defScope st) s.heap.objs.size f cdv)) → ∀ ds, dom ds →
      ∃ t, PSs (cxOf CX0 P w K mg base N qual (defScope st) f cdv A outer s H E).nox (defBody st) t ∧ ∀ (b : Addr) (F : Nat), AS K t (envB N b (F + n) ds) (fun ρ => post ds .non ∧ ∃ f, ρ[0]? = some (.bx b f) ∧ F ≤ f) (fun d ρ => post ds d ∧ ∃ f, ρ[0]? = some (.bx b f) ∧ F ≤ f)) : FnOk P w K mg base CX0 (k + 1) f fd ps (spB K n dom post) := by
  refine F.ok sc (fun vs H Q E h => ?_) (fun cdv A outer s H vs Q E hr h => ?_)
  · obtain ⟨G, ds, b, us, y, c, F', rfl, sm, hb, c0, c1, gb, rd, hd, _⟩ := h
    rw [List.length_cons, rd.length]; exact len ds hd
  · obtain ⟨G, ds, b, us, y, c, F', rfl, sm, hb, c0, c1, gb, rd, hd, q⟩ := h
    obtain ⟨t, ht, ha⟩ := body cdv A outer s H E hr ds hd
    refine ⟨t, ht, ha b F' _ _ G H (mt_startB sm rd hb c0 c1 gb) _ (fun σ' ρ' G' H' m' s' t' e => ?_) (fun v d σ' ρ' G' H' m' s' t' rv e => ?_)⟩
    all_goals
      obtain ⟨hp, f', he, hf⟩ := e
      have nb : Nb b G H G' H' := ⟨s', m'.sub, fun a o ne e => by
          cases z : G a with
          | none => exact t' a o ⟨some_ne e, z, ne⟩ e
          | some o' => rw [sm _ _ z] at e; cases e; exact m'.sub _ _ (s' _ _ z), fun a h1 h2 => by
          by_cases w : a = b
          · subst w
            obtain ⟨_, _, _, _, _, _, z, _⟩ := m'.bx 0 a f' he
            exact z
          · exact (m'.pro a ⟨h2, h1, w⟩).1⟩
      obtain ⟨y', c', w1, w2, w3, w4, w5, w6⟩ := m'.bx 0 b f' he
    · exact q .non .non G' H' y' c' nb w2 w3 (by omega) rfl hp
    · exact q v d G' H' y' c' nb w2 w3 (by omega) rv hp
end
/-! ### calls by keywords alone -/
def tCallK0 (m : Nat) (sp : Sp) (gV : List V → List V) (E : XK) (tk : TA) : TE := fun σ H Q => tk σ H fun zs H2 => zs.length = m ∧ sp (gV zs) H2 Q E
structure KB0 (K : PySem.W.Frag) (fd : FuncData) (ps ks : List Str) (g : List Value → List Value) (gV : List V → List V) : Prop where
  to : ∀ (s : Shared) (ws : List Value), ws.length = ks.length → BindsTo s fd ⟨[], ks.zip ws⟩ (ps.zip (g ws))
  rel : ∀ {zs : List V} {ws : List Value}, Vals zs ws → zs.length = ks.length → Vals (gV zs) (g ws)
section
variable {X : Cx} {CX : CXT} {k n : Nat} {f : Addr} {fd : FuncData} {ps ks : List Str} {sp : Sp} {E : XK} {x : Str} {p pos : Pos} {kws : List Keyword} {tk : TA} {g : List Value → List Value} {gV : List V → List V}
theorem run_fnK0 {pins : List (Addr × Obj)} {σ : L2.St} {H : Hp} {s : Shared} {Q : VK} {ws : List Value} {zs : List V} (F : FnOk X.prog X.w X.K X.mg X.base CX k f fd ps sp) (hr : Room k X.A) (hb : KB0 X.K fd ps ks g gV) (hx : Passes CX X E)
    (I : Inv X pins σ H s) (rz : Vals zs ws) (l2 : zs.length = ks.length) (h : sp (gV zs) H Q E) : wpAny (model X.prog X.w) X.A (call (.ref f) [] (ks.zip ws)) (EP X pins σ Q) X.xe s := by
  have r2 := hb.rel rz l2
  refine wpAny_call (codeAny_mono (F.run X.A X.stack s H ⟨[], ks.zip ws⟩ (g ws) (gV zs) Q E hr I.env0 (hb.to s ws (rz.length.symm.trans l2)) r2 h) fun r s' hq => ?_)
  cases r with
  | error e => exact hx pins σ H s e s' I hq
  | ok fl =>
    cases fl with
    | ret u => exact I.after hq
    | next => exact False.elim hq
    | brk => exact False.elim hq
    | cont => exact False.elim hq
theorem pe_callK0 (F : FnOk X.prog X.w X.K X.mg X.base CX k f fd ps sp) (hr : Room k X.A) (hg : Gl X x) (hm : X.mg x = some (.ref f)) (hk : PySem.W.keepIn X.K (.ref f) = true) (hb : KB0 X.K fd ps ks g gV) (hx : Passes CX X E)
    (hkw : PK X kws tk) (hall : (backToKw pos (keywordEach kws X.env)).all (·.1.isSome) = true := by rfl) (hks : (backToKw pos (keywordEach kws X.env)).filterMap (·.1) = ks := by rfl)
    (hdb : (x == ("__debug__" : Str)) = false := by decide) (hpl : ((backTo pos (starEach [] X.env)).any (·.1) || (backToKw pos (keywordEach kws X.env)).any (·.1.isNone)) = false := by rfl) :
    PE X (.Call (.Name x p) [] kws pos) (tCallK0 ks.length sp gV E tk) := by
  refine ⟨fun pins s σ H Q I h => ?_⟩
  refine wpAny_Call_Name_kw (ld_glob I hg hm ?_ hdb)
  refine PySem.W.callWith_KW0 (h₀ := X.base) I.ok.mod.kin hk hall ?_ hpl
  refine thn (hkw.run pos pins s σ H _ I h) fun ws s2 ⟨zs, H2, I2, rz, l2, q2⟩ => ⟨I2.kIn, ?_⟩
  rw [hks]
  exact run_fnK0 F hr hb hx I2 rz l2 q2
end
section
variable {K : PySem.W.Frag} {ρ : List En} {Ψ : Dt → List En → Prop} {E : XK} {tk : TA}
theorem ae_callK {m : Nat} {S : List Dt → Dt → Prop} {gV : List V → List V} (gD : List Dt → List Dt) (hg : ∀ {G : Hp} {ds : List Dt} {vs : List V}, RDs K G ds vs → ds.length = m → RDs K G (gD ds) (gV vs)) (h : AA K tk ρ fun ds ρ1 => ds.length = m ∧ ∃ r, S (gD ds) r ∧ Ψ r ρ1) : AE K (tCallK0 m (spP K S) gV E tk) ρ Ψ := fun B σ G H mm Q q =>
  h B σ G H mm _ fun vs ds ρ1 G1 H1 m1 s1 t1 r1 ⟨l, r, hs, p⟩ => ⟨by rw [r1.length]; exact l, G1, gD ds, r, m1.sub, hg r1 l, hs, fun v G2 H2 n r2 => q v r ρ1 G2 H2 (m1.nw n) (s1.trans n.g) (t1.trans (Tr.same n.h)) r2 p⟩
end
end Sh
set_option Elab.async false
set_option linter.all false
set_option maxRecDepth 100000
set_option maxHeartbeats 4000000
namespace Sh
open PySem PySem.Spec PyProof.Rows L2
/-- a def that may be called: its promise, how its arguments bind -/
structure Cal (P : Program) (w : World) (K : PySem.W.Frag) (mg : Str → Option Value) (base : Heap) (n : Nat) (x : Str) (ps : List Str) (sp : Sp) (g : Addr) (d : FuncData) : Prop where
  ok : FnOk P w K mg base CX0 n g d ps sp
  bi : Binds K d ps []
  kp : PySem.W.keepIn K (.ref g) = true
  mg : mg x = some (.ref g)
structure Blts (mg : Str → Option Value) : Prop where
  len : mg "len" = none
  abs : mg "abs" = none
  int : mg "int" = none
  list : mg "list" = none
  tuple : mg "tuple" = none
  bool : mg "bool" = none
  str : mg "str" = none
  enumerate : mg "enumerate" = none
  isinstance : mg "isinstance" = none
  all : mg "all" = none
  any : mg "any" = none
  zip : mg "zip" = none
  range : mg "range" = none
  min : mg "min" = none
  max : mg "max" = none
  set : mg "set" = none
  sorted : mg "sorted" = none
  repr : mg "repr" = none
  sum : mg "sum" = none
section
variable {K : PySem.W.Frag} {ρ : List En} {N : List En → Prop} {R : Dt → List En → Prop}
theorem as_par3 {ta : TA} {i j l : Nat} (h : AA K ta ρ fun ds ρ1 => ∃ d e f, ds = [d, e, f] ∧ N (((ρ1.set i (.da d)).set j (.da e)).set l (.da f))) : AS K (tPar3 i j l ta) ρ N R := fun B σ G H m D qn qr =>
  h B σ G H m _ fun vs ds ρ1 G1 H1 m1 s1 t1 r1 ⟨d, e, f, z, h1⟩ => by
    subst z
    obtain ⟨x, r, rfl, r2, r3⟩ := r1
    obtain ⟨y, z, rfl, r4, r5⟩ := r3.two
    exact ⟨x, y, z, rfl, qn _ _ G1 H1 (((m1.set i r2).set j r4).set l r5) s1 t1 h1⟩
theorem ar_eq3 {d e : Dt} {x y : V} {Φ : Dt → Prop} (c : d.v? = some x ∧ e.v? = some y ∧ scal x y = true) (h : Φ (.bl (decide (x = y)))) : AR K rEq d e Φ := ar_eq c.1 c.2.1 c.2.2 h
theorem ar_ne3 {d e : Dt} {x y : V} {Φ : Dt → Prop} (c : d.v? = some x ∧ e.v? = some y ∧ scal x y = true) (h : Φ (.bl (!decide (x = y)))) : AR K rNe d e Φ := ar_ne c.1 c.2.1 c.2.2 h
theorem ac_isi1 {d : Dt} {T : String} {b : Bool} {Φ : Dt → Prop} (c : d.noTy = true ∧ kitB d.kind T = some b) (h : Φ (.bl b)) : AC K (rIsi K) [d, .ty T] Φ := ac_isi c.1 c.2 h
theorem kb_NoneType_list : kitB "NoneType" "list" = some false := by decide +kernel
theorem kb_NoneType_tuple : kitB "NoneType" "tuple" = some false := by decide +kernel
theorem kb_NoneType_bool : kitB "NoneType" "bool" = some false := by decide +kernel
theorem kb_NoneType_int : kitB "NoneType" "int" = some false := by decide +kernel
theorem kb_NoneType_str : kitB "NoneType" "str" = some false := by decide +kernel
theorem kb_bool_list : kitB "bool" "list" = some false := by decide +kernel
theorem kb_bool_tuple : kitB "bool" "tuple" = some false := by decide +kernel
theorem kb_bool_bool : kitB "bool" "bool" = some true := by decide +kernel
theorem kb_bool_int : kitB "bool" "int" = some true := by decide +kernel
theorem kb_bool_str : kitB "bool" "str" = some false := by decide +kernel
theorem kb_int_list : kitB "int" "list" = some false := by decide +kernel
theorem kb_int_tuple : kitB "int" "tuple" = some false := by decide +kernel
theorem kb_int_bool : kitB "int" "bool" = some false := by decide +kernel
theorem kb_int_int : kitB "int" "int" = some true := by decide +kernel
theorem kb_int_str : kitB "int" "str" = some false := by decide +kernel
theorem kb_str_list : kitB "str" "list" = some false := by decide +kernel
theorem kb_str_tuple : kitB "str" "tuple" = some false := by decide +kernel
theorem kb_str_bool : kitB "str" "bool" = some false := by decide +kernel
theorem kb_str_int : kitB "str" "int" = some false := by decide +kernel
theorem kb_str_str : kitB "str" "str" = some true := by decide +kernel
theorem kb_tuple_list : kitB "tuple" "list" = some false := by decide +kernel
theorem kb_tuple_tuple : kitB "tuple" "tuple" = some true := by decide +kernel
theorem kb_tuple_bool : kitB "tuple" "bool" = some false := by decide +kernel
theorem kb_tuple_int : kitB "tuple" "int" = some false := by decide +kernel
theorem kb_tuple_str : kitB "tuple" "str" = some false := by decide +kernel
theorem kb_list_list : kitB "list" "list" = some true := by decide +kernel
theorem kb_list_tuple : kitB "list" "tuple" = some false := by decide +kernel
theorem kb_list_bool : kitB "list" "bool" = some false := by decide +kernel
theorem kb_list_int : kitB "list" "int" = some false := by decide +kernel
theorem kb_list_str : kitB "list" "str" = some false := by decide +kernel
theorem ar_eqS {d : Dt} {Φ : Dt → Prop} (c : d.pl = true ∧ SeqAt.shaped d.pd = true) (h : Φ (.bl true)) : AR K (rEqD K) d d Φ := ar_eqD c.1 c.1 c.2 c.2 (by rw [SeqAt.eqv_refl d.pd (SeqAt.canLay_of_shaped c.2)]; exact h)
theorem ar_neS {d : Dt} {Φ : Dt → Prop} (c : d.pl = true ∧ SeqAt.shaped d.pd = true) (h : Φ (.bl false)) : AR K (rNeD K) d d Φ := ar_neD c.1 c.1 c.2 c.2 (by rw [SeqAt.eqv_refl d.pd (SeqAt.canLay_of_shaped c.2)]; exact h)
theorem ac_len {k : Bool} {l : List Dt} {Φ : Dt → Prop} (h : Φ (.int (l.length : Nat))) : AC K (fun xs H Q => ∃ p ys, xs = [.ref p] ∧ (SqL K H p ys ∨ SqT K H p ys) ∧ Q (.int ys.length) H) [sq k l] Φ := by
  cases k
  · exact ac_lenL h
  · exact ac_lenT h
theorem wipe_no {ρ : List En} {i : Nat} : ∀ {vs : List Nat}, i ∈ vs → i < ρ.length → (wipeE ρ vs)[i]? = some En.no
  | v :: vs, h, lt => by
    have hl : ∀ ws : List Nat, (wipeE ρ ws).length = ρ.length := fun ws => by
      induction ws with
      | nil => rfl
      | cons w ws ih => unfold wipeE; rw [List.length_set, ih]
    unfold wipeE
    by_cases e : v = i
    · subst e; exact set_at (by rw [hl]; exact lt)
    · rw [set_off e]
      exact wipe_no (by rcases List.mem_cons.mp h with z | z; exact absurd z.symm e; exact z) lt
theorem wipeE_len {ρ : List En} (ws : List Nat) : (wipeE ρ ws).length = ρ.length := by
  induction ws with
  | nil => rfl
  | cons w ws ih => unfold wipeE; rw [List.length_set, ih]
/-- a comprehension item by item -/
theorem ae_lcMap {Ψ : Dt → List En → Prop} {wi : TI} {g : TG} {te : TE} {vs : List Nat} (f : Dt → Dt)
    (h : AI K wi ρ fun l ρ1 => l.length < sizeLine ∧ (∀ d ∈ l, AGv K vs g d (wipeE ρ1 vs) fun ρ3 => AE K te ρ3 fun e ρ5 => e = f d ∧ wipeE ρ5 vs = wipeE ρ1 vs) ∧ Ψ (.lst (l.map f)) (wipeE ρ1 vs)) : AE K (tLc wi g tYes te vs) ρ Ψ := by
  refine ae_lc (fun B σ G H m R q => h B σ G H m R fun J l ρ1 G1 H1 m1 s1 t1 w ⟨h1, h2, h3⟩ => q J l ρ1 G1 H1 m1 s1 t1 w ⟨fun i acc ρ2 => i ≤ l.length ∧ acc = (l.take i).map f ∧ ρ2 = wipeE ρ1 vs, ⟨Nat.zero_le _, rfl, rfl⟩, ?_, ?_⟩)
  · rintro i d acc ρ2 hd ⟨hi, rfl, rfl⟩
    have lt := (List.getElem?_eq_some_iff.mp hd).1
    have hm := List.mem_of_getElem? hd
    intro B σ G H m v r Q q
    refine h2 d hm B σ G H m v r Q fun σ' ρ' G' H' m' s t o p => q σ' ρ' G' H' m' s t o (at_yes ⟨fun _ => ?_, fun z => nomatch z⟩)
    refine ae_mono p fun e ρ5 ⟨e1, e2⟩ => ⟨?_, lt, ?_, e2⟩
    · rw [List.length_map, List.length_take]; exact Nat.lt_of_le_of_lt (Nat.min_le_right _ _) h1
    · rw [e1, List.take_succ, hd, List.map_append]; rfl
  · rintro acc ρ2 ⟨_, rfl, rfl⟩
    refine ⟨fun i hi lt => wipe_no hi (by rw [wipeE_len] at lt; exact lt), ?_⟩
    rw [List.take_length]; exact h3
/-- a comprehension with a test -/
theorem ae_lcFil {Ψ : Dt → List En → Prop} {wi : TI} {g : TG} {tt : TT} {te : TE} {vs : List Nat} (f : Dt → Option Dt)
    (h : AI K wi ρ fun l ρ1 => l.length < sizeLine ∧ (∀ d ∈ l, AGv K vs g d (wipeE ρ1 vs) fun ρ3 => AT K tt ρ3 fun b ρ4 => (b = true → AE K te ρ4 fun e ρ5 => f d = some e ∧ wipeE ρ5 vs = wipeE ρ1 vs) ∧ (b = false → f d = none ∧ wipeE ρ4 vs = wipeE ρ1 vs)) ∧ Ψ (.lst (l.filterMap f)) (wipeE ρ1 vs)) : AE K (tLc wi g tt te vs) ρ Ψ := by
  refine ae_lc (fun B σ G H m R q => h B σ G H m R fun J l ρ1 G1 H1 m1 s1 t1 w ⟨h1, h2, h3⟩ => q J l ρ1 G1 H1 m1 s1 t1 w ⟨fun i acc ρ2 => i ≤ l.length ∧ acc = (l.take i).filterMap f ∧ ρ2 = wipeE ρ1 vs, ⟨Nat.zero_le _, rfl, rfl⟩, ?_, ?_⟩)
  · rintro i d acc ρ2 hd ⟨hi, rfl, rfl⟩
    have lt := (List.getElem?_eq_some_iff.mp hd).1
    have hm := List.mem_of_getElem? hd
    intro B σ G H m v r Q q
    refine h2 d hm B σ G H m v r Q fun σ' ρ' G' H' m' s t o p => q σ' ρ' G' H' m' s t o (at_mono p fun b ρ4 ⟨p1, p2⟩ => ⟨fun hb => ae_mono (p1 hb) fun e ρ5 ⟨e1, e2⟩ => ⟨?_, lt, ?_, e2⟩, fun hb => ⟨lt, ?_, (p2 hb).2⟩⟩)
    · exact Nat.lt_of_le_of_lt (Nat.le_trans (List.length_filterMap_le _ _) (by rw [List.length_take]; exact Nat.min_le_right _ _)) h1
    · rw [List.take_succ, hd, List.filterMap_append]; simp [e1]
    · rw [List.take_succ, hd, List.filterMap_append]; simp [(p2 hb).1]
  · rintro acc ρ2 ⟨_, rfl, rfl⟩
    refine ⟨fun i hi lt => wipe_no hi (by rw [wipeE_len] at lt; exact lt), ?_⟩
    rw [List.take_length]; exact h3
theorem sz60 {n : Nat} (h : n ≤ 60) : n ≤ sizeLine := Nat.le_trans h (by decide)
theorem sz60' {n : Nat} (h : n ≤ 60) : n < sizeLine := Nat.lt_of_le_of_lt h (by decide)
theorem cxOf_K {CX : CXT} {P : Program} {w : World} {mg : Str → Option Value} {base : Heap} {N : List Str} {q : Str} {sc : Scope} {f : Addr} {cdv : Value} {A : Around} {outer : List Env} {s : Shared} {H : Hp} {E : XK} : (cxOf CX P w K mg base N q sc f cdv A outer s H E).K = K := rfl
end
def oD : Option Int → Dt
  | none => .non
  | some i => .int i
theorem oD_some {i : Int} : oD (some i) = .int i := rfl
theorem oD_none : oD none = .non := rfl
end Sh
set_option Elab.async false
set_option linter.all false
set_option maxRecDepth 100000
set_option maxHeartbeats 4000000
/-! ### set(xs) of a list of whole numbers; max, min of one with a default -/
namespace Sh
open PySem PySem.Spec PyProof.Rows L2
abbrev eSet (w : World) : Obj :=
  { cls := .type "set", dict := none,
    data := .set #[] 0 (.fresh 0 0 (!w.params.followText "set-order")) }
/-! by values -/
end Sh
set_option Elab.async false
set_option linter.all false
set_option maxRecDepth 100000
set_option maxHeartbeats 4000000
namespace Sh
open PySem PySem.Spec PyProof.Rows L2
section
variable {K : PySem.W.Frag} {ρ : List En} {Ψ : Dt → List En → Prop} {N : List En → Prop} {R : Dt → List En → Prop}
/-! an own list, item by item -/
theorem ae_ixOwn {ti : TE} {i : Nat} (o : ∃ l, ρ[i]? = some (.own l)) (h : AE K ti ρ fun d ρ1 => ∃ (l : List Dt) (k : Int) (e : Dt), ρ1[i]? = some (.own l) ∧ d = .int k ∧ atI l k = some e ∧ Ψ e ρ1) : AE K (tOp (rIxL K) (tVar i) ti) ρ Ψ := fun B σ G H m Q q => by
  obtain ⟨l0, e0⟩ := o
  obtain ⟨p0, xs0, a1, _⟩ := m.own i l0 e0
  refine ⟨_, a1, h B σ G H m _ fun v d ρ1 G1 H1 m1 s1 t1 r1 ⟨l, k, e, z1, z2, z3, p⟩ => ?_⟩
  subst z2
  obtain ⟨p, xs, b1, b2, b3, _⟩ := m1.own i l z1
  rw [a1] at b1
  cases b1
  obtain ⟨x, y1, y2⟩ := atI_get b3 z3
  exact ⟨p0, xs, k, x, rfl, r1, SqL.of b2, y1, q x e ρ1 G1 H1 m1 s1 t1 y2 p⟩
theorem RDs.setAt {G : Hp} : ∀ {l : List Dt} {xs : List V} {d : Dt} {x : V} (n : Nat), RDs K G l xs → RD K G d x → RDs K G (l.set n d) (xs.set n x)
  | [], _, _, _, n, h, r => by rw [show _ = [] from h]; rfl
  | a :: l, _, d, x, 0, ⟨y, r, e1, h1, h2⟩, q => ⟨x, r, by rw [e1]; rfl, q, h2⟩
  | a :: l, _, d, x, n + 1, ⟨y, r, e1, h1, h2⟩, q => ⟨y, r.set n x, by rw [e1]; rfl, h1, RDs.setAt n h2 q⟩
theorem as_setAt {te ti : TE} {i : Nat} (h : AE K te ρ fun d ρ1 => (∃ l, ρ1[i]? = some (.own l)) ∧ AE K ti ρ1 fun k ρ2 => ∃ (l : List Dt) (n : Nat), ρ2[i]? = some (.own l) ∧ k = .int (n : Int) ∧ n < l.length ∧ N (ρ2.set i (.own (l.set n d)))) : AS K (tAsg te (gSub (tVar i) ti rSetL)) ρ N R := fun B σ G H m D qn qr =>
  h B σ G H m _ fun v d ρ1 G1 H1 m1 s1 t1 r1 ⟨⟨l0, e0⟩, h1⟩ => by
    obtain ⟨p0, xs0, a1, _⟩ := m1.own i l0 e0
    refine ⟨_, a1, h1 B σ G1 H1 m1 _ fun x k ρ2 G2 H2 m2 s2 t2 r2 ⟨l, n, z1, z2, z3, p⟩ => ?_⟩
    subst z2
    obtain ⟨p1, xs, b1, b2, b3, b4, b5⟩ := m2.own i l z1
    rw [a1] at b1
    cases b1
    have hx : ixN xs.length (n : Int) = some n := by
      unfold ixN
      rw [if_pos (Int.natCast_nonneg _), if_pos (by rw [b3.length]; exact Int.ofNat_lt.mpr z3), Int.toNat_natCast]
    refine ⟨p0, xs, n, n, rfl, r2, b2, hx, ?_⟩
    exact qn σ _ G2 _ (m2.chOwn z1 a1 (b3.setAt n (r1.same s2))) (s1.trans s2) ((t1.trans t2).trans fun a o b z => by rw [upd_ne (fun w => b5 (by rw [← w]; exact b))]; exact z) p
end
end Sh
set_option Elab.async false
set_option linter.all false
set_option maxRecDepth 100000
set_option maxHeartbeats 4000000
namespace Sh
open PySem PySem.Spec PyProof.Rows L2
section
variable {K : PySem.W.Frag} {ρ : List En} {N : List En → Prop} {Φ : Dt → Prop}
/-- whole numbers that pass -/
def fI (p : Int → Bool) : Dt → Option Dt
  | .int m => if p m then some (.int m) else none
  | _ => none
theorem cxOf_w {CX : CXT} {P : Program} {w : World} {mg : Str → Option Value} {base : Heap} {N : List Str} {q : Str} {sc : Scope} {f : Addr} {cdv : Value} {A : Around} {outer : List Env} {s : Shared} {H : Hp} {E : XK} : (cxOf CX P w K mg base N q sc f cdv A outer s H E).w = w := rfl
theorem RDs.rev {G : Hp} : ∀ {ds : List Dt} {vs : List V}, RDs K G ds vs → RDs K G ds.reverse vs.reverse
  | [], _, h => by cases (show _ = [] from h); rfl
  | d :: ds, _, ⟨x, r, e, h1, h2⟩ => by
    subst e
    rw [List.reverse_cons, List.reverse_cons]
    exact (RDs.rev h2).snoc h1
theorem vals_rev : ∀ {zs : List V} {ws : List Value}, Vals zs ws → Vals zs.reverse ws.reverse
  | _, _, .nil => .nil
  | _, _, .cons (l₁ := zs) (l₂ := ws) r t => by
    rw [List.reverse_cons, List.reverse_cons]
    exact (vals_rev t).append (.cons r .nil)
end
end Sh
set_option Elab.async false
set_option linter.all false
set_option maxRecDepth 100000
set_option maxHeartbeats 4000000
set_option Elab.async false
set_option linter.all false
set_option maxRecDepth 100000
set_option maxHeartbeats 4000000
namespace Sh
open PySem PySem.Spec PyProof.Rows L2
section
variable {K : PySem.W.Frag} {ρ : List En} {Ψ : Dt → List En → Prop} {ΨT : Bool → List En → Prop} {ΨA : List Dt → List En → Prop} {N : List En → Prop} {R : Dt → List En → Prop} {Φ : Dt → Prop}
theorem wipe2 {σ : L2.St} {vs vs1 : List Nat} (hv : ∀ i ∈ vs1, i ∈ vs) : L2.wipe (L2.wipe σ vs1) vs = L2.wipe σ vs := Off.wipe (vs := vs) ⟨wipe_length σ vs1, fun i h => wipe_out fun z => h (hv i z)⟩
/-- [e for .. in .. for .. in ..] -/
theorem ae_lc2 {wi wi1 : TI} {g g1 : TG} {tt tt1 : TT} {te : TE} {vs vs1 : List Nat} (hv : ∀ i ∈ vs1, i ∈ vs)
    (h : AI K wi ρ fun l ρ1 => ∃ I : Nat → List Dt → List En → Prop, I 0 [] (wipeE ρ1 vs) ∧
      (∀ i d acc ρ2, l[i]? = some d → I i acc ρ2 → AGv K vs g d ρ2 fun ρ3 => AT K tt ρ3 fun b ρ4 =>
        (b = true → AI K wi1 ρ4 fun l1 ρ5 => ∃ I1 : Nat → List Dt → List En → Prop, I1 0 acc (wipeE ρ5 vs1) ∧
          (∀ j d1 acc1 ρ6, l1[j]? = some d1 → I1 j acc1 ρ6 → AGv K vs1 g1 d1 ρ6 fun ρ7 => AT K tt1 ρ7 fun b1 ρ8 => (b1 = true → AE K te ρ8 fun e ρ9 => acc1.length < sizeLine ∧ I1 (j + 1) (acc1 ++ [e]) (wipeE ρ9 vs1)) ∧ (b1 = false → I1 (j + 1) acc1 (wipeE ρ8 vs1))) ∧
          ∀ acc1 ρ6, I1 l1.length acc1 ρ6 → I (i + 1) acc1 (wipeE ρ6 vs)) ∧
        (b = false → I (i + 1) acc (wipeE ρ4 vs))) ∧
      ∀ acc ρ2, I l.length acc ρ2 → (∀ i ∈ vs, i < ρ2.length → ρ2[i]? = some En.no) ∧ Ψ (.lst acc) ρ2) : AE K (tLc2 wi g tt wi1 g1 tt1 te vs vs1) ρ Ψ := fun B σ G H m Q q =>
  h B σ G H m _ fun J l ρ1 G1 H1 m1 s1 t1 w ⟨I, i0, is, ie⟩ => fun D hD => by
    have back : ∀ {vs : List Nat} {σ2 σ : L2.St} {ρ2 : List En} {B' : Addr → Prop} {G2 H2 : Hp}, L2.wipe σ2 vs = L2.wipe σ vs → Mt K B' ρ2 σ2 G2 H2 → Mt K B' (wipeE ρ2 vs) (L2.wipe σ vs) G2 H2 := fun {vs} _ _ _ _ _ _ e m2 => by
      rw [← e]; exact m2.wipe vs
    have mg := m1.guard (o := .lst []) hD
    have fin : ∀ H2, (∃ (acc : List Dt) (xs : List V) (ρ2 : List En) (G2 : Hp), Mt K (fun a => B a ∨ a = D) ρ2 (L2.wipe σ vs) G2 H2 ∧ Same G1 G2 ∧ Tr B H1 H2 ∧ H2 D = some (.lst xs) ∧ RDs K G2 acc xs ∧ I l.length acc ρ2) → Q (.ref D) H2 := by
      rintro H2 ⟨acc, xs, ρ2, G2, m2, s2, t2, e2, r2, p⟩
      obtain ⟨hn, hp⟩ := ie acc ρ2 p
      have m3 : Mt K (fun a => B a ∨ a = D) ρ2 σ G2 H2 := m2.other (wipe_length σ vs).symm fun i => by
        by_cases hi : i ∈ vs
        · by_cases lt : i < ρ2.length
          · exact .inl (hn i hi lt)
          · exact .inr (by rw [List.getElem?_eq_none (by have := m2.len; rw [wipe_length] at this; omega), List.getElem?_eq_none (by have := m2.len; omega)])
        · exact .inr (wipe_out hi).symm
      have nD : G2 D = none := (m2.pro D (.inr rfl)).1
      have mB : Mt K B ρ2 σ G2 H2 := m3.less fun a b => .inl b
      -- the new list becomes data
      have sg : Same G2 (upd G2 D (.lst xs)) := same_up nD
      have mF : Mt K B ρ2 σ (upd G2 D (.lst xs)) H2 := ⟨fun a o z => by
          by_cases w : a = D
          · subst w; rw [upd_same] at z; cases z; exact e2
          · rw [upd_ne w] at z; exact m2.sub _ _ z,
        fun a b => ⟨by rw [upd_ne (fun w => (m1.pro a b).2 (by rw [w]; exact hD))]; exact (mB.pro a b).1, (mB.pro a b).2⟩, mB.len, fun i d e => by
          obtain ⟨v, z1, z2⟩ := mB.da i d e
          exact ⟨v, z1, z2.same sg⟩, fun i k e => by
          obtain ⟨q', ys, z1, z2, z3, z4, z5⟩ := m3.own i k e
          exact ⟨q', ys, z1, z2, z3.same sg, by rw [upd_ne (fun w => z5 (.inr w))]; exact z4, fun b => z5 (.inl b)⟩, fun i b f e => by
          obtain ⟨y, c, z1, z2, z3, z4, z5, z6⟩ := m3.bx i b f e
          exact ⟨y, c, z1, z2, z3, z4, by rw [upd_ne (fun w => z6 (.inr w))]; exact z5, fun b => z6 (.inl b)⟩, mB.dis⟩
      exact q _ (.lst acc) ρ2 _ H2 mF ((s1.trans s2).trans sg) (t1.trans t2) ⟨D, xs, rfl, upd_same, r2.same sg⟩ hp
    let P : Nat → Hp → Prop := fun i H2 => ∃ (acc : List Dt) (xs : List V) (ρ2 : List En) (G2 : Hp), Mt K (fun a => B a ∨ a = D) ρ2 (L2.wipe σ vs) G2 H2 ∧ Same G1 G2 ∧ Tr B H1 H2 ∧ H2 D = some (.lst xs) ∧ RDs K G2 acc xs ∧ I i acc ρ2
    refine ⟨fun i m H => m = l.length - i ∧ i ≤ l.length ∧ P i H, ⟨l.length, rfl, Nat.zero_le _, [], [], wipeE ρ1 vs, G1, mg.wipe vs, Same.refl _, Tr.same (same_up hD), upd_same, rfl, i0⟩, ?_⟩
    rintro i mm H2 ⟨rfl, hi, pp⟩
    obtain ⟨acc, xs, ρ2, G2, m2, s2, t2, e2, r2, p⟩ := id pp
    have q0 : Same G1 H2 := s2.trans m2.sub
    by_cases hlt : i < l.length
    · refine .inr ⟨w.walk.goes i H2 hlt q0, P (i + 1), fun H' p' => ⟨l.length - (i + 1), by omega, rfl, hlt, p'⟩, fun x H3 y => ?_⟩
      obtain ⟨G3, d, n3, hd, rd⟩ := (w.walk.yields i H2 x H3 hlt q0 y) G2 s2 m2.sub
      have m3 := m2.nw n3
      refine is i d acc ρ2 hd p _ (L2.wipe σ vs) G3 H3 m3 x rd _ fun σ4 ρ4 G4 H4 m4 s4 t4 o4 h4 => ?_
      have ew : L2.wipe σ4 vs = L2.wipe σ vs := by
        rw [o4.wipe]
        exact (Off.wipe (wipe_off vs σ)).symm
      have e3 := n3.h _ _ e2
      have e4 := t4 _ _ (.inr rfl) e3
      have tB3 : Tr B H1 H4 := (t2.trans (Tr.same n3.h)).trans fun a o b e => t4 a o (.inl b) e
      refine ⟨ew, ?_⟩
      refine h4 _ σ4 G4 H4 m4 _ fun b ρ5 G5 H5 m5 s5 t5 h5 => ?_
      have e5 := t5 _ _ (.inr rfl) e4
      have tB5 : Tr B H1 H5 := tB3.trans fun a o b e => t5 a o (.inl b) e
      have s15 : Same G1 G5 := ((s2.trans n3.g).trans s4).trans s5
      have r5 : RDs K G5 acc xs := ((r2.same n3.g).same s4).same s5
      cases b
      · rw [if_neg (by decide)]
        exact ⟨acc, xs, wipeE ρ5 vs, G5, back ew m5, s15, tB5, e5, r5, h5.2 rfl⟩
      · rw [if_pos rfl]
        refine h5.1 rfl _ σ4 G5 H5 m5 _ fun J1 l1 ρ6 G6 H6 m6 s6 t6 w1 ⟨I1, j0, js, je⟩ => ?_
        have e6 := t6 _ _ (.inr rfl) e5
        have tB6 : Tr B H1 H6 := tB5.trans fun a o b e => t6 a o (.inl b) e
        let P1 : Nat → Hp → Prop := fun j H7 => ∃ (acc1 : List Dt) (xs1 : List V) (ρ7 : List En) (G7 : Hp), Mt K (fun a => B a ∨ a = D) ρ7 (L2.wipe σ4 vs1) G7 H7 ∧ Same G6 G7 ∧ Tr B H1 H7 ∧ H7 D = some (.lst xs1) ∧ RDs K G7 acc1 xs1 ∧ I1 j acc1 ρ7
        refine ⟨fun j m H => m = l1.length - j ∧ j ≤ l1.length ∧ P1 j H, ⟨l1.length, rfl, Nat.zero_le _, acc, xs, wipeE ρ6 vs1, G6, m6.wipe vs1, Same.refl _, tB6, e6, r5.same s6, j0⟩, ?_⟩
        rintro j k H7 ⟨rfl, hj, acc1, xs1, ρ7, G7, m7, s7, t7, e7, r7, p7⟩
        have q1 : Same G6 H7 := s7.trans m7.sub
        by_cases hlt1 : j < l1.length
        · refine .inr ⟨w1.walk.goes j H7 hlt1 q1, P1 (j + 1), fun H' p' => ⟨l1.length - (j + 1), by omega, rfl, hlt1, p'⟩, fun x1 H8 y1 => ?_⟩
          obtain ⟨G8, d1, n8, hd1, rd1⟩ := (w1.walk.yields j H7 x1 H8 hlt1 q1 y1) G7 s7 m7.sub
          have m8 := m7.nw n8
          refine js j d1 acc1 ρ7 hd1 p7 _ (L2.wipe σ4 vs1) G8 H8 m8 x1 rd1 _ fun σ9 ρ9 G9 H9 m9 s9 t9 o9 h9 => ?_
          have ew1 : L2.wipe σ9 vs1 = L2.wipe σ4 vs1 := by
            rw [o9.wipe]
            exact (Off.wipe (wipe_off vs1 σ4)).symm
          have e8 := n8.h _ _ e7
          have e9 := t9 _ _ (.inr rfl) e8
          have tB9 : Tr B H1 H9 := (t7.trans (Tr.same n8.h)).trans fun a o b e => t9 a o (.inl b) e
          refine ⟨ew1, ?_⟩
          refine h9 _ σ9 G9 H9 m9 _ fun b1 ρ10 G10 H10 m10 s10 t10 h10 => ?_
          have e10 := t10 _ _ (.inr rfl) e9
          have tB10 : Tr B H1 H10 := tB9.trans fun a o b e => t10 a o (.inl b) e
          have s610 : Same G6 G10 := ((s7.trans n8.g).trans s9).trans s10
          have r10 : RDs K G10 acc1 xs1 := ((r7.same n8.g).same s9).same s10
          cases b1
          · rw [if_neg (by decide)]
            exact ⟨acc1, xs1, wipeE ρ10 vs1, G10, back ew1 m10, s610, tB10, e10, r10, h10.2 rfl⟩
          · rw [if_pos rfl]
            refine h10.1 rfl _ σ9 G10 H10 m10 _ fun v e ρ11 G11 H11 m11 s11 t11 r11 h11 => ?_
            have e11 := t11 _ _ (.inr rfl) e10
            have rr : RDs K G11 acc1 xs1 := r10.same s11
            refine ⟨xs1, e11, by rw [rr.length]; exact h11.1, acc1 ++ [e], xs1 ++ [v], wipeE ρ11 vs1, G11, (back ew1 m11).turn (.inr rfl), s610.trans s11, ?_, upd_same, rr.snoc r11, h11.2⟩
            intro a o b z
            have z1 := t11 a o (.inl b) (tB10 a o b z)
            rw [upd_ne (fun z' => (m1.pro a b).2 (by rw [z']; exact hD))]; exact z1
        · have ej : j = l1.length := by omega
          subst ej
          have mw : Mt K (fun a => B a ∨ a = D) (wipeE ρ7 vs) (L2.wipe σ vs) G7 H7 := back (by rw [wipe2 hv]; exact ew) m7
          exact .inl ⟨w1.walk.stops H7 q1, acc1, xs1, wipeE ρ7 vs, G7, mw, (s15.trans s6).trans s7, t7, e7, r7, je acc1 ρ7 p7⟩
    · have ei : i = l.length := by omega
      subst ei
      exact .inl ⟨w.walk.stops H2 q0, fin H2 pp⟩
end
end Sh
set_option Elab.async false
set_option linter.all false
set_option maxRecDepth 100000
set_option maxHeartbeats 4000000
set_option Elab.async false
set_option linter.all false
set_option maxRecDepth 100000
set_option maxHeartbeats 4000000
set_option Elab.async false
set_option linter.all false
set_option maxRecDepth 100000
set_option maxHeartbeats 4000000
set_option Elab.async false
set_option linter.all false
set_option maxRecDepth 100000
set_option maxHeartbeats 4000000
/-! a pair backwards, extend of a list of one's own, None in a list -/
set_option Elab.async false
set_option linter.all false
set_option maxRecDepth 100000
set_option maxHeartbeats 4000000
/-! texts: join of a list backwards, f-strings, str, a loop that is not entered, a name that stands for a number, or of tuples -/
set_option Elab.async false
set_option linter.all false
set_option maxRecDepth 100000
set_option maxHeartbeats 4000000
namespace Sh
open PySem PySem.Spec PyProof.Rows L2 PySem.Calls
section
variable {K : PySem.W.Frag} {ρ : List En} {Ψ : Dt → List En → Prop} {N : List En → Prop} {R : Dt → List En → Prop} {Φ : Dt → Prop}
abbrev tS (i : Int) : Str := toString i
theorem ac_strI {i : Int} (hz : i.natAbs.log2 < 1920) (h : Φ (.str (tS i))) : AC K (fun xs H Q => ∃ i, xs = [.int i] ∧ i.natAbs.log2 < 1920 ∧ Q (.str (toString i)) H) [.int i] Φ := fun G H s vs r Q q => by
  obtain ⟨x, rfl, h1⟩ := r.one
  cases (show x = V.int i from h1)
  exact ⟨i, rfl, hz, q _ (.str (tS i)) G H (Nw.refl s) rfl h⟩
end
end Sh
set_option Elab.async false
set_option linter.all false
set_option maxRecDepth 100000
set_option maxHeartbeats 4000000
/-! gcd of three, is True, slices of four -/
namespace Sh
open PySem PySem.Spec PyProof.Rows L2 PySem.Calls PySem.W
def g3 (a b c : Int) : Int := (((Nat.gcd a.natAbs b.natAbs).gcd c.natAbs : Nat) : Int)
end Sh
set_option Elab.async false
set_option linter.all false
set_option maxRecDepth 100000
set_option maxHeartbeats 4000000
namespace Sh
open PySem PySem.Spec PyProof.Rows L2
def lwB (a b : Option Int) : Bool := match b with | none => true | some y => match a with | none => false | some x => decide (y ≤ x)
def hwB (a b : Option Int) : Bool := match b with | none => true | some y => match a with | none => false | some x => decide (x ≤ y)
def letsB (lo hi : Option Int) (n : Int) : Bool := lwB (some n) lo && hwB (some n) hi
def upR (r m x : Int) : Int := x + (r - x).fmod m
def dnR (r m y : Int) : Int := y - (y - r).fmod m
abbrev vD (lo hi : Option Int) (m r : Int) : Dt := .tup [oD lo, oD hi, .int m, .int r]
def voD (lo hi : Option Int) (m r : Int) : Dt := if m = 0 then (if letsB lo hi r then vD (some r) (some r) 0 r else .non) else
  match lo.map (upR r m), hi.map (dnR r m) with
  | some a, some b => if b ≤ a then (if a = b then vD (some a) (some a) 0 a else .non) else vD (some a) (some b) m r
  | a, b => vD a b m r
structure Ok (lo hi : Option Int) (m r : Int) : Prop where
  h : (m = 0 ∧ lo = some r ∧ hi = some r) ∨ (1 ≤ m ∧ 0 ≤ r ∧ r < m ∧ (∀ x, lo = some x → x.fmod m = r) ∧ (∀ y, hi = some y → y.fmod m = r) ∧ ∀ x y, lo = some x → hi = some y → x < y)
/-! joins -/
end Sh
set_option Elab.async false
set_option linter.all false
set_option maxRecDepth 100000
set_option maxHeartbeats 4000000
/-! a place of a naming stands for an integer or for none: the program's value beside the law's list (k37) -/
namespace N37
/-- the first number from lo on that leaves r -/
def fst (lo m r : Int) : Int := lo + (r - lo) % m
def lst (hi m r : Int) : Int := hi - (hi - r) % m
theorem mod_r {m r : Int} (h0 : 0 ≤ r) (h1 : r < m) : r % m = r := Int.emod_eq_of_lt h0 h1
theorem eq_mod {a b m : Int} (h : a % m = b % m) : ∃ q, a = b + m * q := by
  have h1 := Int.emod_add_mul_ediv a m
  have h2 := Int.emod_add_mul_ediv b m
  refine ⟨a / m - b / m, ?_⟩
  rw [Int.mul_sub]
  omega
theorem fst_mod {lo m r : Int} (h0 : 0 ≤ r) (h1 : r < m) : fst lo m r % m = r := by
  unfold fst
  rw [Int.add_emod, Int.emod_emod_of_dvd _ (Int.dvd_refl m), ← Int.add_emod, show lo + (r - lo) = r by omega]
  exact mod_r h0 h1
theorem lst_mod {hi m r : Int} (h0 : 0 ≤ r) (h1 : r < m) : lst hi m r % m = r := by
  unfold lst
  rw [Int.sub_emod, Int.emod_emod_of_dvd _ (Int.dvd_refl m), ← Int.sub_emod, show hi - (hi - r) = r by omega]
  exact mod_r h0 h1
theorem fst_win {lo m r : Int} (h : 0 < m) : lo ≤ fst lo m r ∧ fst lo m r < lo + m := by
  unfold fst
  have a := Int.emod_nonneg (r - lo) (show m ≠ 0 by omega)
  have b := Int.emod_lt_of_pos (r - lo) h
  omega
theorem lst_win {hi m r : Int} (h : 0 < m) : hi - m < lst hi m r ∧ lst hi m r ≤ hi := by
  unfold lst
  have a := Int.emod_nonneg (hi - r) (show m ≠ 0 by omega)
  have b := Int.emod_lt_of_pos (hi - r) h
  omega
/-- two numbers of one rest that are less than m apart are one -/
theorem one_rest {a b m : Int} (h : a % m = b % m) (hm : 0 < m) (h1 : a < b + m) (h2 : b < a + m) : a = b := by
  obtain ⟨q, e⟩ := eq_mod h
  have q0 : q = 0 := by
    apply Classical.byContradiction
    intro z
    rcases (by omega : q ≤ -1 ∨ 1 ≤ q) with c | c
    · have : m * q ≤ m * (-1) := Int.mul_le_mul_of_nonneg_left c (by omega)
      omega
    · have : m * 1 ≤ m * q := Int.mul_le_mul_of_nonneg_left c (by omega)
      omega
  rw [q0, Int.mul_zero] at e
  omega
/-- an integer of the rest lies between just if the first one does -/
theorem meet_iff {lo hi m r : Int} (h0 : 0 ≤ r) (h1 : r < m) : fst lo m r ≤ lst hi m r ↔ fst lo m r ≤ hi := by
  have hm : 0 < m := by omega
  obtain ⟨a1, a2⟩ := fst_win (lo := lo) (r := r) hm
  obtain ⟨b1, b2⟩ := lst_win (hi := hi) (r := r) hm
  refine ⟨fun h => by omega, fun h => ?_⟩
  rcases (by omega : fst lo m r ≤ lst hi m r ∨ lst hi m r < fst lo m r) with c | c
  · exact c
  · have := one_rest (a := fst lo m r) (b := lst hi m r) (by rw [fst_mod h0 h1, lst_mod h0 h1]) hm (by omega) (by omega)
    omega
/-- the numbers that the law looks through, upwards and downwards -/
def upL (lo : Int) (m : Nat) : List Int := (List.range m).map fun k => lo + ((k : Nat) : Int)
def dnL (hi : Int) (m : Nat) : List Int := (List.range m).map fun k => hi - ((k : Nat) : Int)
theorem up_mem {lo x : Int} {m : Nat} : x ∈ upL lo m ↔ lo ≤ x ∧ x < lo + m := by
  unfold upL
  refine ⟨fun h => ?_, fun h => ?_⟩
  · obtain ⟨k, hk, e⟩ := List.mem_map.mp h
    have := List.mem_range.mp hk
    omega
  · exact List.mem_map.mpr ⟨(x - lo).toNat, List.mem_range.mpr (by omega), by omega⟩
theorem dn_mem {hi x : Int} {m : Nat} : x ∈ dnL hi m ↔ hi - m < x ∧ x ≤ hi := by
  unfold dnL
  refine ⟨fun h => ?_, fun h => ?_⟩
  · obtain ⟨k, hk, e⟩ := List.mem_map.mp h
    have := List.mem_range.mp hk
    omega
  · exact List.mem_map.mpr ⟨(hi - x).toNat, List.mem_range.mpr (by omega), by omega⟩
/-- an open end below or above: there is always one -/
theorem up_some {lo r : Int} {m : Nat} (h0 : 0 ≤ r) (h1 : r < m) : ∃ x, x ∈ upL lo m ∧ x % (m : Int) = r :=
  ⟨fst lo m r, up_mem.mpr (fst_win (by omega)), fst_mod h0 h1⟩
theorem dn_some {hi r : Int} {m : Nat} (h0 : 0 ≤ r) (h1 : r < m) : ∃ x, x ∈ dnL hi m ∧ x % (m : Int) = r :=
  ⟨lst hi m r, dn_mem.mpr (lst_win (by omega)), lst_mod h0 h1⟩
/-- between two cuts -/
theorem mid_iff {lo cut r : Int} {m : Nat} (h0 : 0 ≤ r) (h1 : r < m) : (∃ x, x ∈ upL lo m ∧ x < cut ∧ x % (m : Int) = r) ↔ fst lo m r ≤ lst (cut - 1) m r := by
  have hm : 0 < (m : Int) := by omega
  rw [meet_iff h0 h1]
  refine ⟨fun ⟨x, hx, hc, e⟩ => ?_, fun h => ⟨fst lo m r, up_mem.mpr (fst_win hm), by omega, fst_mod h0 h1⟩⟩
  obtain ⟨a1, a2⟩ := up_mem.mp hx
  obtain ⟨b1, b2⟩ := fst_win (lo := lo) (r := r) hm
  have := one_rest (a := x) (b := fst lo m r) (by rw [e, fst_mod h0 h1]) hm (by omega) (by omega)
  omega
end N37
set_option Elab.async false
set_option linter.all false
set_option maxRecDepth 100000
set_option maxHeartbeats 4000000
/-! loops by a measure, quotients by great numbers, chains of comparisons, gcd of two -/
namespace Sh
open PySem PySem.Spec PyProof.Rows L2 PySem.Calls
section
variable {K : PySem.W.Frag} {ρ : List En} {Ψ : Dt → List En → Prop} {N : List En → Prop} {R : Dt → List En → Prop} {Φ : Dt → Prop}
theorem ae_chain {r r' : R2} {ta tb tc : TE} (h : AE K ta ρ fun d1 ρ1 => AE K tb ρ1 fun d2 ρ2 => AR K r d1 d2 fun d => ∃ k, d = .bl k ∧ (k = true → AE K tc ρ2 fun d3 ρ3 => AR K r' d2 d3 fun d => Ψ d ρ3) ∧ (k = false → Ψ (.bl false) ρ2)) : AE K (tChain r r' ta tb tc) ρ Ψ := fun B σ G H m Q q =>
  h B σ G H m _ fun x d1 ρ1 G1 H1 m1 s1 t1 r1 h1 => h1 B σ G1 H1 m1 _ fun y d2 ρ2 G2 H2 m2 s2 t2 r2 h2 => h2 G2 H2 m2.sub x y (r1.same s2) r2 _ fun z d G3 H3 n3 r3 ⟨k, e, p1, p2⟩ => by
    subst e
    refine ⟨k, r3, ?_⟩
    cases k with
    | false =>
      rw [if_neg Bool.false_ne_true]
      exact q _ (.bl false) ρ2 G3 H3 (m2.nw n3) ((s1.trans s2).trans n3.g) ((t1.trans t2).trans (Tr.same n3.h)) rfl (p2 rfl)
    | true =>
      rw [if_pos rfl]
      exact p1 rfl B σ G3 H3 (m2.nw n3) _ fun w' d3 ρ4 G4 H4 m4 s4 t4 r4 p => p G4 H4 m4.sub y w' ((r2.same n3.g).same s4) r4 Q fun v d G5 H5 n5 r5 pp =>
        q v d ρ4 G5 H5 (m4.nw n5) ((((s1.trans s2).trans n3.g).trans s4).trans n5.g) ((((t1.trans t2).trans (Tr.same n3.h)).trans t4).trans (Tr.same n5.h)) r5 pp
end
end Sh
set_option Elab.async false
set_option linter.all false
set_option maxRecDepth 100000
set_option maxHeartbeats 4000000
namespace Sh
open PySem PySem.Spec PyProof.Rows L2
/-! sorted(set(xs)), ints, as many as a set's bound lets -/
section
variable {P : Program} {w : World} {A : Around} {E : Value → Shared → Prop} {s : Shared} {a : Addr}
theorem sorted_setB {S : Int → Bool} {n : Nat} {Q : Value → Shared → Prop} (R : SetR w s.heap a S n) (hh : A.handled = none) (hn : n ≤ sizeLine)
    (hQ : ∀ s' p (out : Array Value) (c : Nat) (ns : List Int), (∀ b o, s.heap.get? b = some o → s'.heap.get? b = some o) → s'.gens = s.gens → s'.os = s.os → s.heap.objs.size ≤ p →
      s'.heap.get? p = some (seqObj "list" out c) → IntsAre out.toList ns → ns.Pairwise (· < ·) → (∀ k, k ∈ ns ↔ S k = true) → ns.length = n → Q (.ref p) s') :
    wpAny (model P w) A (call (.builtin "sorted") [.ref a]) Q E s := by
  obtain ⟨o, es, ep, t, ho, hex, hd, g, nd, hm, hb, hf, hcount, hr, hl⟩ := R
  refine Calls.call_function_entry kind_sorted plain_sorted entry_sorted (args_sorted1 _) ?_
  unfold Builtin.«sorted»
  refine wpAny_bind (m := checkCount "sorted" 1 1 _) (wpAny_pure ?_)
  refine wpAny_bind (collect_set (A := A.in1) hh ⟨o, ho, hex.1, hd⟩ hf hb hr hl fun s1 vs old fresh g1 o1 perm => ?_)
  have len : vs.length = n := by
    rw [perm.length_eq, List.length_map, Array.length_toList]; exact hcount
  have areInts : IntsAre vs (vs.map Builtin.Re.reRawOf) := by
    refine ints_of vs fun v hv => ?_
    obtain ⟨e, he, rfl⟩ := List.mem_map.mp (perm.mem_iff.mp hv)
    obtain ⟨k, tk, h1, _⟩ := g e he
    exact ⟨k, tk, h1⟩
  have keys : (vs.map Builtin.Re.reRawOf).Perm (es.toList.map keyOf) := by
    have := perm.map Builtin.Re.reRawOf
    rwa [List.map_map] at this
  refine wpAny_bind (wpAny_newList ?_ (by rw [len]; exact hn))
  have made : (s1.heap.push (seqObj "list" vs.toArray 0)).get? s1.heap.objs.size = some (seqObj "list" vs.toArray 0) := Heap.get?_push_size _ rfl
  refine wpAny_bind (wpAny_holding (wpAny_call_entry slot_list_sort ⟨_, made, rfl⟩ entry_list_sort (list_sort_treeAny made areInts (by rw [len]; exact hn) fun out ns i1 i2 i3 => ⟨_, rfl, ?_⟩) (args_list_sort _)))
  obtain ⟨c, hc⟩ := sortedHeap_at (vs := vs) (out := out) made
  have all : ns.Perm (es.toList.map keyOf) := i2.trans keys
  have up : ns.Pairwise (· < ·) := lt_of_le_nodup ns i3 (all.nodup_iff.mpr nd)
  have mem : ∀ k, k ∈ ns ↔ S k = true := fun k => by rw [all.mem_iff, ← hm k]
  have num : ns.length = n := by rw [all.length_eq, List.length_map, Array.length_toList]; exact hcount
  refine wpAny_pure ⟨_, rfl, hQ _ s1.heap.objs.size out c ns (fun b u e => ?_) g1 o1 fresh hc i1 up mem num⟩
  have q := old b u e
  have lt := Heap.lt_size q
  show (sortedHeap (s1.heap.push (seqObj "list" vs.toArray 0)) s1.heap.objs.size vs out).get? b = some u
  rw [sortedHeap_old (Nat.ne_of_lt lt) (by rw [size_push']; exact Nat.lt_succ_of_lt lt)]
  exact Heap.get?_push_of_some _ q
end
section
variable {X : Cx}
def rSortedSetB (w : World) : List V → Hp → VK → Prop := fun vs H Q => ∃ (a : Addr) (S : Int → Bool) (n : Nat), vs = [V.ref a] ∧ H a = some (SetO w a S n) ∧ n ≤ 4096 ∧
  ∀ (ns : List Int) (p : Addr), ns.Pairwise (· < ·) → (∀ k : Int, k ∈ ns ↔ S k = true) → ns.length = n → H p = none → Q (.ref p) (upd H p (.lst (ns.map V.int)))
theorem cr_sortedSetB (hc : X.calm = true) : CallR X (.builtin "sorted") (rSortedSetB X.w) := by
  intro pins s σ H vs us Q I r h
  obtain ⟨a, S, n, rfl, ha, hn, q⟩ := h
  have R := setO_get I ha
  rw [Vals.ref1 r]
  refine sorted_setB R (I.ok.hd hc) (by rw [sizeLine_eq]; omega) fun s' p out c ns k g o hp hg hi hs hm hl => ?_
  have hlen : (ns.map V.int).length ≤ sizeLine := by rw [List.length_map, hl, sizeLine_eq]; omega
  have free : H p = none := I.hok.fresh hp
  have J : Inv X pins σ (upd H p (.lst (ns.map V.int))) { s with heap := s'.heap, gens := s'.gens, drawn := s'.drawn, toks := s'.toks } :=
    I.call (ch := []) (Un.laid k hp free) (I.hok.laid k hp ⟨hlen, out.toList, c, vals_of_ints hi, hg⟩) (by rw [g]; exact I.bare) (fun _ z => nomatch z)
  have e : s' = { s with heap := s'.heap, gens := s'.gens, drawn := s'.drawn, toks := s'.toks } := by
    cases s'; cases s; cases o; rfl
  rw [e]
  exact ⟨.ref p, _, J, rfl, q ns p hs hm hl free⟩
end
section
variable {K : PySem.W.Frag} {ρ : List En} {Ψ : Dt → List En → Prop}
theorem ar_catL {Φ : Dt → Prop} {l l' : List Dt} (hz : l.length + l'.length ≤ sizeLine) (h : Φ (.lst (l ++ l'))) : AR K rCat (.lst l) (.lst l') Φ := fun G H s x y r1 r2 Q q => by
  obtain ⟨a, xs, rfl, h1, h2⟩ := r1
  obtain ⟨b, ys, rfl, h3, h4⟩ := r2
  refine ⟨a, b, xs, ys, rfl, rfl, s _ _ h1, s _ _ h3, (by rw [h2.length, h4.length]; exact hz), fun p hp => ?_⟩
  have n := Nw.new (o := .lst (xs ++ ys)) s hp
  exact q _ (.lst (l ++ l')) _ _ n ⟨p, _, rfl, upd_same, (h2.same n.g).app (h4.same n.g)⟩ h
end
end Sh
set_option Elab.async false
set_option linter.all false
set_option maxRecDepth 100000
set_option maxHeartbeats 4000000
/-! ### sets of texts: set(xs), sorted(set(xs)) -/
namespace Sh
open PySem PySem.Spec PyProof.Rows L2
abbrev txt (e : Int × Value) : Str := strOf e.2
def TxE (w : World) (e : Int × Value) : Prop := ∃ x u, e.2 = Value.str x u ∧ e.1 = hashStr w x
/-- what the rows of a table of texts are -/
structure STab (w : World) (es : Array (Int × Value)) (t : SetTable) (S : Str → Bool) : Prop where
  good : ∀ e, e ∈ es.toList → TxE w e
  once : (es.toList.map txt).Nodup
  mem : ∀ x, S x = true ↔ x ∈ es.toList.map txt
  small : es.size < scanBound
  fits : t.fits es.size = true
  ris : Ris t.place.toList
  led : w.params.followText "set-order" = true ∨ t.led = true
def SetS (w : World) (h : Heap) (a : Addr) (S : Str → Bool) (n : Nat) : Prop :=
  ∃ o es ep t, h.get? a = some o ∧ o.ExactSet ∧ o.data = .set es ep t ∧ STab w es t S ∧ es.size = n
section
variable {P : Program} {w : World} {h h' : Heap} {a : Addr} {S : Str → Bool} {n : Nat} {es : Array (Int × Value)} {t : SetTable}
theorem SetS.kept (R : SetS w h a S n) (k : ∀ o, h.get? a = some o → h'.get? a = some o) : SetS w h' a S n := by
  obtain ⟨o, es, ep, t, ho, more⟩ := R
  exact ⟨o, es, ep, t, k o ho, more⟩
theorem SetS.same {S' : Str → Bool} (R : SetS w h a S n) (e : S = S') : SetS w h a S' n := e ▸ R
theorem TxE.is {e : Int × Value} (g : TxE w e) (k : Str) : (PySem.strKind P w).is k e.2 = true ↔ txt e = k := by
  obtain ⟨x, u, h1, _⟩ := g
  rw [txt, h1]
  show (x == k) = true ↔ x = k
  exact beq_iff_eq
theorem STab.elems (T : STab w es t S) : ElemsOf (PySem.strKind P w) es.toList := fun e he => by
  obtain ⟨x, u, h1, h2⟩ := T.good e he
  exact ⟨⟨x, by rw [h1]; exact strKind_is P w x u, h2⟩, by rw [h1]; rfl⟩
theorem STab.find (T : STab w es t S) (k : Str) : k ∈ es.toList.map txt ↔ ∃ e ∈ es.toList, (PySem.strKind P w).is k e.2 = true := by
  refine List.mem_map.trans ⟨fun ⟨e, he, q⟩ => ⟨e, he, ((T.good e he).is k).mpr q⟩, fun ⟨e, he, q⟩ => ⟨e, he, ((T.good e he).is k).mp q⟩⟩
/-- the same rows in another order under another table -/
theorem STab.perm {es' : Array (Int × Value)} {t' : SetTable} (T : STab w es t S) (p : es'.toList.Perm es.toList) (hf : t'.fits es'.size = true) (hr : Ris t'.place.toList) (hl : t'.led = t.led) : STab w es' t' S :=
  ⟨fun e he => T.good e (p.mem_iff.mp he), (p.map txt).nodup_iff.mpr T.once, fun x => (T.mem x).trans (p.map txt).mem_iff.symm,
    by rw [← Array.length_toList, p.length_eq, Array.length_toList]; exact T.small, hf, hr, by rw [hl]; exact T.led⟩
end
section
variable {P : Program} {w : World} {A : Around} {E : Value → Shared → Prop} {s : Shared} {a : Addr} {S : Str → Bool} {n : Nat}
theorem gave_any (b : Bool) {u : Shared} {Q : Unit → Shared → Prop} {why : String} (q : Q () u) : wpAny (model P w) A (match b with | true => rule why | false => pure ()) Q E u := by
  cases b
  · exact wpAny_pure q
  · exact wpAny_rule q
theorem sets_tail {g : Bool → Sem Unit} {o : Obj} {es fs : Array (Int × Value)} {ep : Nat} {t t2 : SetTable} {wd : Bool} {R : Option Bool → Shared → Prop}
    (free : ∀ (b : Bool) (u : Shared) (Q : Unit → Shared → Prop), Q () u → wpAny (model P w) A (g b) Q E u)
    (ho : s.heap.get? a = some o) (ex : o.ExactSet) (hd : o.data = .set es ep t) (T : STab w fs t2 S)
    (kont : ∀ h', Heap.SameBut a s.heap h' → SetS w h' a S fs.size → R (some true) { s with heap := h' }) :
    wpAny (model P w) A (do
        storeSet a fs t2
        if (!wd && t2.tooFull) = true then do
            g (relayAll t2 fs (SetTable.grown fs.size)).2.2
            storeSet a (relayAll t2 fs (SetTable.grown fs.size)).1 (relayAll t2 fs (SetTable.grown fs.size)).2.1
            pure (some true)
          else pure (some true)) R E s := by
  refine wpAny_bind (wpAny_storeSet_of ho hd ?_ (fits_of_scanBound T.small))
  have at1 := store_at (es' := fs) (t' := t2) ho hd
  have but1 := Heap.SameBut.update s.heap a (Obj.putSet fs t2)
  split
  · have p := relayAll_perm t2 fs (SetTable.grown fs.size)
    have T3 : STab w (relayAll t2 fs (SetTable.grown fs.size)).1 (relayAll t2 fs (SetTable.grown fs.size)).2.1 S :=
      T.perm p (relayAll_fits _ _ _) (relayAll_ris _ _ _) (relayAll_led _ _ _)
    generalize relayAll t2 fs (SetTable.grown fs.size) = Z at p T3 ⊢
    obtain ⟨gs, t3, gave⟩ := Z
    dsimp only at p T3 ⊢
    refine wpAny_bind (free _ _ _ ?_)
    refine wpAny_bind (wpAny_storeSet_of at1 rfl ?_ (fits_of_scanBound T3.small))
    have at2 := store_at (es' := gs) (t' := t3) at1 rfl
    exact wpAny_pure (kont _ (but1.trans (Heap.SameBut.update _ a _)) ⟨_, gs, _, t3, at2, ex, rfl, T3, by rw [← Array.length_toList, p.length_eq, Array.length_toList]⟩)
  · exact wpAny_pure (kont _ but1 ⟨_, fs, _, t2, at1, ex, rfl, T, rfl⟩)
/-- a text is added -/
theorem sets_add {k : Str} {u : Tok} {Q : Bool → Shared → Prop} (R : SetS w s.heap a S n) (room : n + 1 < scanBound)
    (kont : ∀ h', Heap.SameBut a s.heap h' → SetS w h' a (fun x => S x || decide (x = k)) (if S k = true then n else n + 1) → Q (!S k) { s with heap := h' }) :
    wpAny (model P w) A (setAddHashed a (.str k u) ((PySem.strKind P w).hash k)) Q E s := by
  obtain ⟨o, es, ep, t, ho, ex, hd, T, num⟩ := R
  have isK : (PySem.strKind P w).is k (.str k u) = true := strKind_is P w k u
  have scan : (Value.str k u).scannable = true := rfl
  have el : ElemsOf (PySem.strKind P w) es.toList := T.elems
  unfold setAddHashed setAddHashedIn
  refine wpAny_holding (wpAny_bind (wpAny_setState_of ho hd T.fits ?_))
  dsimp only
  rw [byScan_of scan T.small el]
  simp only [↓reduceIte]
  unfold setAddByScan
  refine wpAny_bind (wpAny_bind (wpAny_rule ?_))
  refine wpAny_bind (wpAny_setScan_of isK ho hd T.fits el ?_)
  cases found : List.findIdx? (fun e => (PySem.strKind P w).is k e.2) es.toList with
  | some j =>
    dsimp only
    obtain ⟨hj, pj, _⟩ := List.findIdx?_eq_some_iff_getElem.mp found
    have yes : S k = true := (T.mem k).mpr ((T.find (P := P) k).mpr ⟨_, List.getElem_mem hj, pj⟩)
    have same : (fun x => S x || decide (x = k)) = S := funext fun x => by
      by_cases e : x = k
      · rw [e, yes]; rfl
      · rw [decide_eq_false e, Bool.or_false]
    have q := kont s.heap (Heap.SameBut.refl a s.heap) (by rw [same, if_pos yes]; exact ⟨o, es, ep, t, ho, ex, hd, T, num⟩)
    rw [yes] at q
    exact wpAny_pure (wpAny_pure q)
  | none =>
    dsimp only
    have out : k ∉ es.toList.map txt := fun z => by
      obtain ⟨e, he, q⟩ := (T.find (P := P) k).mp z
      rw [List.findIdx?_eq_none_iff.mp found e he] at q
      cases q
    have no : S k = false := by
      cases q : S k
      · rfl
      · exact absurd ((T.mem k).mp q) out
    have p0 := layNew_perm t es ((PySem.strKind P w).hash k) (.str k u)
    have f0 := layNew_fits t es ((PySem.strKind P w).hash k) (.str k u)
    have r0 := layNew_ris t es ((PySem.strKind P w).hash k) (.str k u) T.ris
    have l0 := layNew_led t es ((PySem.strKind P w).hash k) (.str k u)
    generalize layNew t es ((PySem.strKind P w).hash k) (.str k u) = Z at p0 f0 r0 l0 ⊢
    obtain ⟨fs, t1, wd, gave⟩ := Z
    dsimp only at p0 f0 r0 l0 ⊢
    rw [Array.toList_push] at p0
    have p1 : fs.toList.Perm (((PySem.strKind P w).hash k, Value.str k u) :: es.toList) := p0.trans (List.perm_append_singleton _ _)
    have p2 : (fs.toList.map txt).Perm (k :: es.toList.map txt) := p1.map txt
    have num1 : fs.size = n + 1 := by rw [← Array.length_toList, p1.length_eq, List.length_cons, Array.length_toList, num]
    have T1 : STab w fs t1 (fun x => S x || decide (x = k)) := by
      refine ⟨fun e he => ?_, p2.nodup_iff.mpr (List.nodup_cons.mpr ⟨out, T.once⟩), fun x => ?_, by rw [num1]; exact room, f0, r0, by rw [l0]; exact T.led⟩
      · rcases List.mem_cons.mp (p1.mem_iff.mp he) with rfl | z
        · exact ⟨k, u, rfl, rfl⟩
        · exact T.good e z
      · rw [p2.mem_iff, List.mem_cons, ← T.mem x, Bool.or_eq_true, decide_eq_true_eq]
        exact Or.comm
    have last : ∀ h', Heap.SameBut a s.heap h' → SetS w h' a (fun x => S x || decide (x = k)) fs.size → Q true { s with heap := h' } := fun h' b r => by
      have q := kont h' b
      rw [no] at q
      rw [num1] at r
      exact q r
    refine wpAny_bind (gave_any _ ?_)
    split
    · refine wpAny_bind ?_
      rw [hashByValue_scannable 8 scan]
      refine wpAny_pure (sets_tail (S := fun x => S x || decide (x = k)) (fun b _ _ q => gave_any b q) ho ex hd ?_ fun h' b r => ?_)
      · first
          | exact T1
          | (split <;> first | exact T1 | exact ⟨T1.good, T1.once, T1.mem, T1.small, SetTable.fits_plain_off T1.fits, T1.ris, T1.led⟩)
      · exact wpAny_pure (last h' b r)
    · refine wpAny_bind (wpAny_pure ?_)
      simp only [↓reduceIte]
      refine sets_tail (fun b _ _ q => gave_any b q) ho ex hd T1 fun h' b r => ?_
      exact wpAny_pure (last h' b r)
end
/-! set(xs) -/
theorem setS_new_at {w : World} {h : Heap} {a : Addr} {ns : List Str}
    (ho : h.get? a = some (eSet w)) : SetS w h a (fun j => decide (j ∈ ns.take 0)) 0 := by
  refine ⟨_, #[], 0, _, ho, ⟨rfl, rfl, rfl⟩, rfl, ⟨fun e he => by simp at he, by simp, fun k => by simp, by decide, rfl, List.Pairwise.nil, ?_⟩, rfl⟩
  show w.params.followText "set-order" = true ∨ (!w.params.followText "set-order") = true
  cases w.params.followText "set-order"
  · exact Or.inr rfl
  · exact Or.inl rfl
section
variable {P : Program} {w : World} {A : Around} {E : Value → Shared → Prop} {s : Shared}
theorem set_update_strs {I : Addr} {fp wr : List Addr} {G : Array GenState → Array GenState → Prop} {n : Nat} {Pv : Nat → Value → Prop} {St : Nat → Shared → Prop} {R : Result → Shared → Prop}
    (W : WalksS P w A.in1 I fp wr G n Pv St) (a : Addr) (out : a ∉ fp) (ns : List Str) (len : n = ns.length) (room : ns.length + 1 < scanBound)
    (vals : ∀ i v, Pv i v → ∃ k t, ns[i]? = some k ∧ v = .str k t) :
    ∀ (k i : Nat) (s : Shared), n - i = k → i ≤ n → St i s → (∃ c, c ≤ i ∧ SetS w s.heap a (fun j => decide (j ∈ ns.take i)) c) →
      (∀ s' c, Moved (a :: wr) G s s' → c ≤ n → SetS w s'.heap a (fun j => decide (j ∈ ns)) c → R (.ok (.ret .none)) s') →
      codeAny (model P w) A (.builtin "set.update.loop" ⟨[.ref a, .ref I], []⟩) R s := by
  have outw : a ∉ wr := fun z => out (W.sub _ z)
  have more : ∀ b, b ∈ wr → b ∈ a :: wr := fun b z => List.mem_cons_of_mem _ z
  intro k
  induction k with
  | zero =>
    intro i s e le st ⟨c, cle, T⟩ kont
    obtain rfl : i = n := by omega
    refine codeAny_builtin F.entry_set_update_loop ?_
    rw [Around.under_plainId F.plain_set_update_loop _]
    show wpAny _ A.in1 (pyNext (.ref I) >>= _) _ _ s
    rw [List.take_of_length_le (by omega)] at T
    refine wpAny_bind (W.done s _ _ st fun v mv => ?_)
    show wpAny _ A.in1 (ret Value.none) _ _ v
    exact wpAny_pure (kont v c (mv.mono more) cle (T.kept fun o z => mv.heap a o outw z))
  | succ k ih =>
    intro i s e le st ⟨c, cle, T⟩ kont
    have lt : i < n := by omega
    refine codeAny_builtin F.entry_set_update_loop ?_
    rw [Around.under_plainId F.plain_set_update_loop _]
    show wpAny _ A.in1 (pyNext (.ref I) >>= _) _ _ s
    refine wpAny_bind (W.item i s _ _ lt st fun v u pv stu mv => ?_)
    obtain ⟨x, tk, hx, rfl⟩ := vals i v pv
    have T1 : SetS w u.heap a (fun j => decide (j ∈ ns.take i)) c := T.kept fun o z => mv.heap a o outw z
    show wpAny _ A.in1 (holding [Value.str x tk] (setAdd a (.str x tk)) >>= _) _ _ u
    refine wpAny_bind (wpAny_holding ?_)
    unfold setAdd
    refine wpAny_holding (wpAny_bind ((PySem.strKind P w).pyHash (k := x) (strKind_is _ _ _ _) ?_))
    refine sets_add (s := { u with toks := u.toks + 1 }) T1 (by omega) fun g but T2 => ?_
    have T3 : SetS w g a (fun j => decide (j ∈ ns.take (i + 1))) (if decide (x ∈ ns.take i) = true then c else c + 1) := T2.same (funext fun j => by
      rw [List.take_add_one, hx]
      simp [List.mem_append])
    have c3 : (if decide (x ∈ ns.take i) = true then c else c + 1) ≤ i + 1 := by split <;> omega
    refine wpAny_pure ⟨plainId_quiet F.plain_set_update_loop _, ih (i + 1) _ (by omega) lt (W.frame _ u _ _ stu (Nat.le_succ _) fun b hb o z => ?_) ⟨_, c3, T3⟩ fun v c2 mv2 le2 T4 => ?_⟩
    · rw [but.2 b fun q => out (q ▸ hb)]
      exact z
    · refine kont v c2 (Moved.trans W.gtrans ((mv.mono more).then_heap (Nat.le_succ _) fun b o hb z => ?_) mv2) le2 T4
      rw [but.2 b fun q => hb (q ▸ List.mem_cons_self)]
      exact z
set_option maxHeartbeats 8000000 in
theorem set_of_strs {l : Addr} {its : Array Value} (ns : List Str) {Q : Value → Shared → Prop}
    (nh : A.handled = none) (il : s.heap.IsList l its) (ii : StrsAre its.toList ns)
    (nb : ns.length + 1 < scanBound)
    (kont : ∀ (g : Heap) (tk c : Nat),
      SetS w g s.heap.objs.size (fun j => decide (j ∈ ns)) c → c ≤ ns.length →
      (∀ b o, s.heap.get? b = some o → g.get? b = some o) →
      Q (.ref s.heap.objs.size) { s with heap := g, toks := tk }) :
    wpAny (model P w) A (call (.type "set") [.ref l]) Q E s := by
  have sz : its.size = ns.length := by
    have z := StrsAre.len_eq ii
    rw [Array.length_toList] at z
    exact z
  obtain ⟨cc, tl, isMro⟩ := F.called_set.mro
  have isMade := F.called_set.made
  have isSub := F.called_set.sub
  refine wpAny_call (codeAny_of_tree ?_)
  show wpAny _ _
    (callAny (.type "set") _) _ _ _
  refine wpAny_pure
    ⟨Code.quiet_builtin _ (by decide +kernel), codeAny_builtin F.entry_type_call ?_⟩
  rw [Around.under_plain
    (weight_type_call_type "set" [.ref l] []) rfl]
  have notT := F.called_set.notType
  have canC := F.called_set.canCreate
  have typC := F.typeCall_set_1 (.ref l)
  repeat (any_goals (first
    | assumption
    | wp_step))
  refine codeAny_mono (code_set_led1 (.ref l) (E := E)
    (Q₁ := fun o t => o = .ref s.heap.objs.size ∧
      t = { s with heap := s.heap.push (eSet w) }) ⟨rfl, rfl⟩) fun r t hr => ?_
  cases r with
  | error _ => exact hr
  | ok fl =>
    cases fl with
    | ret o =>
      obtain ⟨rfl, rfl⟩ := hr
      have at0 : (s.heap.push (eSet w)).get? s.heap.objs.size = some (eSet w) :=
        Heap.get?_push_size _ rfl
      have isT : Shared.TypeIs { s with heap := s.heap.push (eSet w) }
          (.ref s.heap.objs.size) "set" := ⟨_, at0, rfl⟩
      have lkI := F.called_set.init.lookup
      have bdI := F.called_set.init.bind (.ref s.heap.objs.size)
      repeat (any_goals (first
        | assumption
        | wp_step))
      refine codeAny_mono (codeAny_call_builtin
        (R := wants (fun r u => r = .none ∧ ∃ g tk c,
          u = { s with heap := g, toks := tk } ∧
          SetS w g s.heap.objs.size (fun j => decide (j ∈ ns)) c ∧ c ≤ ns.length ∧
          (∀ b o, s.heap.get? b = some o → g.get? b = some o)) E)
        F.called_set.init.plain F.entry_set_init
        (check_set_init_1 isT ?_)) fun r2 u hr2 => ?_
      · have lt : l < s.heap.objs.size := by
          obtain ⟨ob, hob, _⟩ := il
          exact Heap.lt_size hob
        have il1 : (s.heap.push (eSet w)).IsList l its := il.push _
        obtain ⟨ob, hob, hcls, nn, hdat⟩ := il1
        obtain ⟨oc, od, oda, osl⟩ := ob
        simp only at hcls hdat
        subst hcls
        subst hdat
        have il1 : (s.heap.push (eSet w)).IsList l its := ⟨_, hob, rfl, nn, rfl⟩
        have subA := F.sub_list_set
        have subB := F.sub_list_frozenset
        have nd : (Value.type "list" == Value.type "dict") = false := by decide
        unfold Builtin.«set.__init__» noKeywords Builtin.Frozenset.updateFrom
        generalize eqI : pyIter = PI
        wp_walk
        subst eqI
        refine wpAny_pyIter_list il1 ?_
        refine wpAny_bind (wpAny_runValue ?_)
        have nh3 : A.in1.in1.in1.handled = none := by simp [nh]
        have szp : (s.heap.push (eSet w)).objs.size = s.heap.objs.size + 1 :=
          Heap.size_push ..
        have neI : l ≠ (s.heap.push (eSet w)).objs.size := by
          rw [szp]
          exact Nat.ne_of_lt (Nat.lt_succ_of_lt lt)
        have notIn : s.heap.objs.size ∉ [(s.heap.push (eSet w)).objs.size, l] := by
          rw [szp]
          simp only [List.mem_cons, List.not_mem_nil, or_false, not_or]
          exact ⟨Nat.ne_of_lt (Nat.lt_succ_self _), Nat.ne_of_gt lt⟩
        have vals : ∀ (i : Nat) (v : Value), its[i]? = some v →
            ∃ k t, ns[i]? = some k ∧ v = .str k t := fun i v hv => by
          have lti : i < ns.length := by
            rw [← sz]
            exact (Array.getElem?_eq_some_iff.mp hv).1
          obtain ⟨t, e⟩ := SS.strs_at ii i v
            (by rw [Array.getElem?_toList]; exact hv)
          exact ⟨ns[i], t, List.getElem?_eq_getElem lti, by
            rw [e, List.getD_eq_getElem?_getD, List.getElem?_eq_getElem lti]; rfl⟩
        refine set_update_strs
          ((Walks.list nh3 _ l neI its).toS) s.heap.objs.size notIn ns sz nb vals
          (its.size - 0) 0 _ (by omega) (Nat.zero_le _)
          ⟨⟨_, Heap.get?_push_size _ rfl, rfl, rfl⟩, il1.push _⟩ ?first ?last
        case first =>
          exact ⟨0, Nat.le_refl 0, setS_new_at (Heap.get?_push_of_some _ at0)⟩
        case last =>
          intro v c mv hc hS
          obtain ⟨g, g2, d, tk, os⟩ := v
          have e1 : g2 = s.gens := mv.gens
          have e2 : d = s.drawn := mv.drawn
          have e3 : os = s.os := mv.os
          subst e1
          subst e2
          subst e3
          show wpAny _ _ _ _ _ _
          refine wpAny_pure ?_
          show wpAny _ _ (ret Value.none) _ _ _
          rw [sz] at hc
          refine wpAny_pure ⟨rfl, g, tk, c, rfl, hS, hc, fun b o e => ?_⟩
          have ltb : b < s.heap.objs.size := Heap.lt_size e
          refine mv.heap b o ?_ (Heap.get?_push_of_some _ (Heap.get?_push_of_some _ e))
          rw [szp]
          simp only [List.mem_cons, List.not_mem_nil, or_false, not_or]
          exact ⟨Nat.ne_of_lt ltb, Nat.ne_of_lt (Nat.lt_succ_of_lt ltb)⟩
      · cases r2 with
        | error _ => exact hr2
        | ok fl2 =>
          cases fl2 with
          | ret _ =>
            obtain ⟨rfl, g, tk, c, rfl, hS, hc, hk⟩ := hr2
            repeat (any_goals (first
              | assumption
              | wp_step))
            exact kont _ _ _ hS hc hk
          | _ => exact hr2.elim
    | _ => exact hr.elim
end
/-! sorted(found) -/
/-- what is sorted, each text once -/
def UpS (ys : List Str) : Prop := ys.Pairwise fun a b => a.cps.toList < b.cps.toList
def Canon (ys xs : List Str) : Prop := UpS ys ∧ ∀ x, x ∈ ys ↔ x ∈ xs
theorem str_ext {a b : Str} (h : a.cps.toList = b.cps.toList) : a = b := by
  cases a
  cases b
  exact congrArg _ (Array.toList_inj.mp h)
theorem upS_eq : ∀ {xs ys : List Str}, UpS xs → UpS ys → (∀ x, x ∈ xs ↔ x ∈ ys) → xs = ys
  | [], [], _, _, _ => rfl
  | [], y :: ys, _, _, h => nomatch (h y).mpr List.mem_cons_self
  | x :: xs, [], _, _, h => nomatch (h x).mp List.mem_cons_self
  | x :: xs, y :: ys, h1, h2, h => by
    obtain ⟨a1, a2⟩ := List.pairwise_cons.mp h1
    obtain ⟨b1, b2⟩ := List.pairwise_cons.mp h2
    have e : x = y := by
      rcases List.mem_cons.mp ((h x).mp List.mem_cons_self) with z | z
      · exact z
      rcases List.mem_cons.mp ((h y).mpr List.mem_cons_self) with w | w
      · exact w.symm
      · exact absurd (a1 y w) (List.lt_asymm (b1 x z))
    subst e
    refine congrArg _ (upS_eq a2 b2 fun z => ?_)
    refine ⟨fun w => ?_, fun w => ?_⟩
    · rcases List.mem_cons.mp ((h z).mp (List.mem_cons_of_mem _ w)) with e | e
      · exact absurd (a1 z w) (by rw [e]; exact List.lt_irrefl _)
      · exact e
    · rcases List.mem_cons.mp ((h z).mpr (List.mem_cons_of_mem _ w)) with e | e
      · exact absurd (b1 z w) (by rw [e]; exact List.lt_irrefl _)
      · exact e
theorem Canon.one {xs ys zs : List Str} (h1 : Canon xs zs) (h2 : Canon ys zs) : xs = ys := upS_eq h1.1 h2.1 fun x => (h1.2 x).trans (h2.2 x).symm
theorem rising_up : ∀ (p : Str) (l : List Str), risingS p l = true → (p :: l).Nodup → UpS (p :: l)
  | p, [], _, _ => List.pairwise_singleton _ _
  | p, x :: r, h, d => by
    obtain ⟨h1, h2⟩ := Bool.and_eq_true_iff.mp (show (!ltCps x.cps.toList p.cps.toList && risingS x r) = true from h)
    obtain ⟨d1, d2⟩ := List.nodup_cons.mp d
    have up := rising_up x r h2 d2
    have le : ¬ x.cps.toList < p.cps.toList := by
      rw [ltCps_eq] at h1
      simpa using h1
    have lt : p.cps.toList < x.cps.toList := by
      apply Classical.byContradiction
      intro n
      exact d1 (by rw [str_ext (List.le_antisymm (List.not_lt.mp le) (List.not_lt.mp n))]; exact List.mem_cons_self)
    refine List.pairwise_cons.mpr ⟨fun y hy => ?_, up⟩
    rcases List.mem_cons.mp hy with rfl | hy
    · exact lt
    · exact List.lt_trans lt ((List.pairwise_cons.mp up).1 y hy)
theorem sorted_up : ∀ (l : List Str), sortedS l = true → l.Nodup → UpS l
  | [], _, _ => List.Pairwise.nil
  | x :: r, h, d => rising_up x r h d
section
variable {P : Program} {w : World} {A : Around} {E : Value → Shared → Prop} {s : Shared} {a : Addr}
theorem list_sort_txts {vs : List Value} {xs : List Str} {n : Nat} {Q : Fin → Shared → Prop} (ho : s.heap.get? a = some (seqObj "list" vs.toArray n)) (ts : StrsAre vs xs) (few : vs.length ≤ sizeLine)
    (kont : ∀ (out : Array Value) (ys : List Str), StrsAre out.toList ys → ys.Perm xs → sortedS ys = true → Q (.done (.ret .none)) { s with heap := sortedHeap s.heap a vs out }) :
    wpAny (model P w) A (Builtin.«list.sort» ⟨[.ref a], []⟩) Q E s := by
  refine list_sort_treeKAny strKind_oneLt ho ts.keysOf (fun v1 v2 r e => keyKind_strs (by rw [← e]; exact ts)) few fun st hp hs => ?_
  obtain ⟨ys, i1, i2, i3⟩ := sorted_out_str ts hp hs
  exact kont _ ys i1 i2 i3
theorem sorted_setT {S : Str → Bool} {n : Nat} {Q : Value → Shared → Prop} (R : SetS w s.heap a S n) (calm : A.handled = none) (few : n ≤ sizeLine)
    (kont : ∀ v p (out : Array Value) (c : Nat) (ys : List Str), (∀ b o, s.heap.get? b = some o → v.heap.get? b = some o) → v.gens = s.gens → v.os = s.os → s.heap.objs.size ≤ p →
      v.heap.get? p = some (seqObj "list" out c) → StrsAre out.toList ys → UpS ys → (∀ k, k ∈ ys ↔ S k = true) → ys.length = n → Q (.ref p) v) :
    wpAny (model P w) A (call (.builtin "sorted") [.ref a]) Q E s := by
  obtain ⟨o, es, ep, t, ho, ex, hd, T, num⟩ := R
  refine Calls.call_function_entry kind_sorted plain_sorted entry_sorted (args_sorted1 _) ?_
  unfold Builtin.«sorted»
  refine wpAny_bind (m := checkCount "sorted" 1 1 _) (wpAny_pure ?_)
  refine wpAny_bind (collect_set (A := A.in1) calm ⟨o, ho, ex.1, hd⟩ T.fits T.small T.ris T.led fun s1 vs old fresh g1 o1 perm => ?_)
  have len : vs.length = n := by
    rw [perm.length_eq, List.length_map, Array.length_toList]; exact num
  have txts : StrsAre vs (vs.map strOf) := by
    refine strsAre_map vs fun v hv => ?_
    obtain ⟨e, he, rfl⟩ := List.mem_map.mp (perm.mem_iff.mp hv)
    obtain ⟨x, u, h1, _⟩ := T.good e he
    exact ⟨x, u, h1⟩
  have keys : (vs.map strOf).Perm (es.toList.map txt) := by
    have := perm.map strOf
    rwa [List.map_map] at this
  refine wpAny_bind (wpAny_newList ?_ (by rw [len]; exact few))
  have made : (s1.heap.push (seqObj "list" vs.toArray 0)).get? s1.heap.objs.size = some (seqObj "list" vs.toArray 0) := Heap.get?_push_size _ rfl
  refine wpAny_bind (wpAny_holding (wpAny_call_entry slot_list_sort ⟨_, made, rfl⟩ entry_list_sort (list_sort_txts made txts (by rw [len]; exact few) fun out ys i1 i2 i3 => ⟨_, rfl, ?_⟩) (args_list_sort _)))
  obtain ⟨c, hc⟩ := sortedHeap_at (vs := vs) (out := out) made
  have all : ys.Perm (es.toList.map txt) := i2.trans keys
  refine wpAny_pure ⟨_, rfl, kont _ s1.heap.objs.size out c ys (fun b u e => ?_) g1 o1 fresh hc i1 (sorted_up ys i3 (all.nodup_iff.mpr T.once)) (fun k => by rw [all.mem_iff, ← T.mem k]) (by rw [all.length_eq, List.length_map, Array.length_toList]; exact num)⟩
  have q := old b u e
  have lt := Heap.lt_size q
  show (sortedHeap (s1.heap.push (seqObj "list" vs.toArray 0)) s1.heap.objs.size vs out).get? b = some u
  rw [sortedHeap_old (Nat.ne_of_lt lt) (by rw [size_push']; exact Nat.lt_succ_of_lt lt)]
  exact Heap.get?_push_of_some _ q
end
/-! by values -/
def SetO2 (w : World) (a : Addr) (S : Str → Bool) (n : Nat) : HO := .ext fun h => SetS w h a S n
section
variable {X : Cx}
theorem setO2_new {w : World} {P : Program} {H : Hp} {h : Heap} {a : Addr} {S : Str → Bool} {n : Nat} (R : SetS w h a S n) : ObjOk P w H h a (SetO2 w a S n) := by
  have ⟨o, _, _, _, ho, _⟩ := R
  exact ⟨R, ⟨o, ho⟩, fun h1 h2 p k => SetS.kept p k⟩
/-- set(xs), xs a list of texts -/
def rSetT (K : PySem.W.Frag) (w : World) : List V → Hp → VK → Prop := fun vs H Q => ∃ (a : Addr) (ns : List Str), vs = [.ref a] ∧ SqL K H a (ns.map V.str) ∧ ns.length + 1 < scanBound ∧
  ∀ p c, H p = none → c ≤ ns.length → Q (.ref p) (upd H p (SetO2 w p (fun j => decide (j ∈ ns)) c))
theorem cr_setT (hc : X.calm = true) : CallR X (.type "set") (rSetT X.K X.w) := by
  intro pins s σ H vs us Q I r h
  obtain ⟨a, ns, rfl, hs, hb, q⟩ := h
  obtain ⟨its, rv, hl, _⟩ := I.list hs
  rw [Vals.ref1 r]
  refine set_of_strs ns (I.ok.hd hc) hl.isList (by simpa using strsAre_of rv) hb fun g tk c hS hle hk => ?_
  exact ⟨.ref _, _, I.laid (t' := tk) hk (Nat.le_refl _) (setO2_new hS), rfl, q _ c (I.hok.fresh (Nat.le_refl _)) hle⟩
def rSortedSetT (w : World) : List V → Hp → VK → Prop := fun vs H Q => ∃ (a : Addr) (S : Str → Bool) (n : Nat), vs = [V.ref a] ∧ H a = some (SetO2 w a S n) ∧ n ≤ 4096 ∧
  ∀ (ys : List Str) (p : Addr), UpS ys → (∀ k, k ∈ ys ↔ S k = true) → ys.length = n → H p = none → Q (.ref p) (upd H p (.lst (ys.map V.str)))
theorem cr_sortedSetT (hc : X.calm = true) : CallR X (.builtin "sorted") (rSortedSetT X.w) := by
  intro pins s σ H vs us Q I r h
  obtain ⟨a, S, n, rfl, ha, hn, q⟩ := h
  have R : SetS X.w s.heap a S n := (I.hok a _ ha).1
  rw [Vals.ref1 r]
  refine sorted_setT R (I.ok.hd hc) (by rw [sizeLine_eq]; omega) fun s' p out c ns k g o hp hg hi hs hm hl => ?_
  have hlen : (ns.map V.str).length ≤ sizeLine := by rw [List.length_map, hl, sizeLine_eq]; omega
  have free : H p = none := I.hok.fresh hp
  have J : Inv X pins σ (upd H p (.lst (ns.map V.str))) { s with heap := s'.heap, gens := s'.gens, drawn := s'.drawn, toks := s'.toks } :=
    I.call (ch := []) (Un.laid k hp free) (I.hok.laid k hp ⟨hlen, out.toList, c, vals_of_strs hi, hg⟩) (by rw [g]; exact I.bare) (fun _ z => nomatch z)
  have e : s' = { s with heap := s'.heap, gens := s'.gens, drawn := s'.drawn, toks := s'.toks } := by
    cases s'; cases s; cases o; rfl
  rw [e]
  exact ⟨.ref p, _, J, rfl, q ns p hs hm hl free⟩
end
section
variable {K : PySem.W.Frag} {ρ : List En} {Ψ : Dt → List En → Prop}
theorem RDs.txts {G : Hp} : ∀ {ns : List Str} {xs : List V}, RDs K G (ns.map Dt.str) xs → xs = ns.map V.str
  | [], _, h => h
  | n :: ns, _, ⟨x, r, e, h1, h2⟩ => by rw [e, RDs.txts h2, show x = V.str n from h1]; rfl
theorem ae_sortedSetT {w : World} {ta : TA} (h : AA K ta ρ fun ds ρ1 => ∃ ns : List Str, ds = [.lst (ns.map Dt.str)] ∧ ns.length ≤ 4000 ∧ ∀ ys : List Str, Canon ys ns → ys.length ≤ ns.length → Ψ (.lst (ys.map Dt.str)) ρ1) :
    AE K (tCB (rSortedSetT w) (tCons (tCB (rSetT K w) ta) tNil)) ρ Ψ := fun B σ G H m Q q =>
  h B σ G H m _ fun vs ds ρ1 G1 H1 m1 s1 t1 r1 ⟨ns, e, hn, p⟩ => by
    subst e
    obtain ⟨x, rfl, a, xs, rfl, ha, hx⟩ := r1.one
    cases hx.txts
    refine ⟨a, ns, rfl, SqL.of (m1.sub _ _ ha), Nat.lt_of_le_of_lt (Nat.succ_le_succ hn) (by decide), fun p' c np hc => ?_⟩
    have mg := (m1.guard (o := SetO2 w p' (fun j => decide (j ∈ ns)) c) np).less (B' := B) fun a b => .inl b
    refine ⟨p', _, c, rfl, upd_same, by omega, fun ms l hs hm hl nl => ?_⟩
    have nw := Nw.new (o := .lst (ms.map V.str)) mg.sub nl
    have rd : ∀ zs : List Str, RDs K (upd G1 l (.lst (ms.map V.str))) (zs.map Dt.str) (zs.map V.str) := fun zs => by
      induction zs with
      | nil => rfl
      | cons z zs ih => exact ⟨_, _, rfl, rfl, ih⟩
    exact q _ (.lst (ms.map Dt.str)) ρ1 _ _ (mg.nw nw) (s1.trans nw.g) ((t1.trans (Tr.same (same_up np))).trans (Tr.same nw.h)) ⟨l, _, rfl, upd_same, rd ms⟩ (p ms ⟨hs, fun k => by rw [hm k]; simp⟩ (by omega))
end
end Sh
set_option Elab.async false
set_option linter.all false
set_option maxRecDepth 100000
set_option maxHeartbeats 4000000
namespace Sh
open PySem PySem.Spec PyProof.Rows L2
/-! lists: * k, slices of ints; a tuple of the module; a conditional expression as a test -/
section
variable {K : PySem.W.Frag} {ρ : List En} {Ψ : Dt → List En → Prop} {Φ : Dt → Prop}
theorem ar_rep2 {d : Dt} (h : Φ (.lst [d, d])) : AR K rRep (.lst [d]) (.int 2) Φ := fun G H s x y r1 r2 Q q => by
  obtain ⟨a, xs, rfl, h1, h2⟩ := r1
  cases (show y = V.int 2 from r2)
  obtain ⟨z, r, rfl, h3, e⟩ := h2
  cases (show r = [] from e)
  refine ⟨a, 2, [z], rfl, rfl, s _ _ h1, by decide, by decide, (by show 1 * 2 ≤ sizeLine; rw [sizeLine_eq]; omega), fun p hp => ?_⟩
  have e : (List.replicate (2 : Int).toNat [z]).flatten = [z, z] := rfl
  rw [e]
  have n := Nw.new (o := .lst [z, z]) s hp
  exact q _ (.lst [d, d]) _ _ n ⟨p, _, rfl, upd_same, ⟨z, [z], rfl, h3.same n.g, z, [], rfl, h3.same n.g, rfl⟩⟩ h
theorem ar_isBl {a b : Bool} (h : Φ (.bl (decide (a = b)))) : AR K rIsB (.bl a) (.bl b) Φ := fun G H s x y r1 r2 Q q => by
  cases (show x = V.bl a from r1)
  cases (show y = V.bl b from r2)
  exact ⟨a, b, rfl, rfl, q _ (.bl (decide (a = b))) G H (Nw.refl s) rfl h⟩
end
end Sh
set_option Elab.async false
set_option linter.all false
set_option maxRecDepth 100000
set_option maxHeartbeats 4000000
/-! tuple(map(f, xs)), f a def of one's own that may lay out -/
namespace MpT
open PySem PySem.Spec PyProof.Rows L2 FbM
section
variable {prog : Program} {w : World} {A : Around} {E : Value → Shared → Prop} {s : Shared}
theorem next_anyT {m T it l : Addr} {f : Value} {items : Array Value} {i : Nat} {u : Value} {Q : Value → Shared → Prop} (hm : MpR.IsMap s.heap m T f) (hT : MpR.IsOne s.heap T (.ref it)) (hit : s.heap.IsTupleIter it l i) (hl : s.heap.IsTuple l items)
    (hu : items[i]? = some u) (hmi : m ≠ it)
    (hc : ∀ h', h'.IsTupleIter it l (i + 1) → Heap.SameBut it s.heap h' → wpAny (model prog w) A (call f [u]) Q E { s with heap := h' }) :
    wpAny (model prog w) A (Builtin.«map.__next__» ⟨[.ref m], []⟩) (fun fin s' => ∃ v, fin = .done (.ret v) ∧ Q v s') E s := by
  show wpAny _ _ (field (.ref m) 0 >>= _) _ _ _
  refine wpAny_bind (wpAny_field hm rfl (x := .ref T) rfl ?_)
  refine wpAny_bind (wpAny_seqItems hT rfl ?_)
  try dsimp only
  refine wpAny_bind ?_
  simp only [List.forIn_toArray, List.forIn_cons, List.forIn_nil]
  refine wpAny_bind (wpAny_bind (wpAny_holding (wpAny_nextOf_tuple_item hit hl hu fun h' hit' hs' => ?_)))
  first
  | refine wpAny_pure (wpAny_pure ?_)
  | refine wpAny_bind (wpAny_pure (wpAny_pure (wpAny_pure ?_)))
  have hm' : MpR.IsMap h' m T f := hs'.extBut _ _ hmi hm
  show wpAny _ _ (field (.ref m) 1 >>= _) _ _ _
  refine wpAny_bind (wpAny_field hm' rfl (x := f) rfl ?_)
  show wpAny _ _ (holding _ (call f [u]) >>= _) _ _ _
  refine wpAny_bind (wpAny_holding (wpAny_mono (hc h' hit' hs') (fun v s' hv => ?_) fun _ _ z => z))
  refine wpAny_bind (wpAny_letGo ?_)
  exact wpAny_pure ⟨v, rfl, hv⟩
theorem pyNext_anyT {m T it l : Addr} {f : Value} {items : Array Value} {i : Nat} {u : Value} {Q : Option Value → Shared → Prop} (hm : MpR.IsMap s.heap m T f) (hT : MpR.IsOne s.heap T (.ref it)) (hit : s.heap.IsTupleIter it l i) (hl : s.heap.IsTuple l items)
    (hu : items[i]? = some u) (hmi : m ≠ it)
    (hc : ∀ h', h'.IsTupleIter it l (i + 1) → Heap.SameBut it s.heap h' → wpAny (model prog w) A.in1 (call f [u]) (fun v s' => Q (some v) s') (fun e s' => NotStop e s' ∧ E e s') { s with heap := h' }) :
    wpAny (model prog w) A (pyNext (.ref m)) Q E s := by
  have hT0 : s.TypeIs (.ref m) "map" := ⟨_, hm, rfl⟩
  unfold pyNext
  refine wpAny_bind (wpAny_attempt (wpAny_callSpecial?_slot (name := Str.ofString "__next__") hT0 MpR.slot_mp_next
    (wpAny_call_entry MpR.slot_mp_next hT0 MpR.entry_mp_next (next_anyT hm hT hit hl hu hmi fun h' hit' hs' => ?_) (MpR.args_mp_next _))))
  refine wpAny_mono (hc h' hit' hs') (fun v s' hv => wpAny_pure hv) fun e s' he => ?_
  obtain ⟨⟨Te, hTe, hsub⟩, hE⟩ := he
  refine wpAny_bind (wpAny_isInstance hTe hsub ?_)
  exact bm_if_false rfl (wpAny_throw hE)
end
/-- the source of a map: a list or a tuple -/
structure Src (X : Cx) (pins : List (Addr × Obj)) (σ : L2.St) (g m T it : Addr) (xs : List V) (Gs : Hp → Prop) (itS : Nat → Heap → Prop) : Prop where
  keep : ∀ i h h', itS i h → (∀ o, h.get? it = some o → h'.get? it = some o) → itS i h'
  live : ∀ i h, itS i h → ∃ o, h.get? it = some o
  item : ∀ (A : Around) (E : Value → Shared → Prop) (s : Shared) (H : Hp) (i : Nat) (x : V) (Q : Option Value → Shared → Prop), Inv X pins σ H s → Gs H → MpR.IsMap s.heap m T (.ref g) → MpR.IsOne s.heap T (.ref it) → itS i s.heap → xs[i]? = some x → m ≠ it →
    (∀ u h', RelV x u → itS (i + 1) h' → Heap.SameBut it s.heap h' → wpAny (model X.prog X.w) A.in1 (call (.ref g) [u]) (fun v s' => Q (some v) s') (fun e s' => NotStop e s' ∧ E e s') { s with heap := h' }) →
    wpAny (model X.prog X.w) A (pyNext (.ref m)) Q E s
  done : ∀ (A : Around) (E : Value → Shared → Prop) (s : Shared) (H : Hp) (Q : Option Value → Shared → Prop), A.handled = none → Inv X pins σ H s → Gs H → MpR.IsMap s.heap m T (.ref g) → MpR.IsOne s.heap T (.ref it) → itS xs.length s.heap →
    (∀ h', Heap.ExtBut it s.heap h' → Q none { s with heap := h' }) → wpAny (model X.prog X.w) A (pyNext (.ref m)) Q E s
theorem src_list {X : Cx} {pins : List (Addr × Obj)} {σ : L2.St} {g m T it l : Addr} {xs : List V} (li : l ≠ it) : Src X pins σ g m T it xs (fun H => SqL X.K H l xs) (fun i h => h.IsListIter it l i) where
  keep := fun i h h' q k => by obtain ⟨o, ho, r⟩ := q; exact ⟨o, k _ ho, r⟩
  live := fun i h q => by obtain ⟨o, ho, r⟩ := q; exact ⟨o, ho⟩
  item := fun A E s H i x Q I hl hm hT hit hx mi hc => by
    obtain ⟨its, rv, pl, _⟩ := I.list hl
    obtain ⟨u, hu, rx⟩ := rv.get hx
    exact pyNext_any hm hT hit pl.isList (u := u) (by simpa using hu) mi fun h' hit' hs' => hc u h' rx hit' hs'
  done := fun A E s H Q hh I hl hm hT hit hq => by
    obtain ⟨its, rv, pl, _⟩ := I.list hl
    have hsz : its.toArray.size = xs.length := by rw [List.size_toArray]; exact rv.length.symm
    exact MpR.mp_pyNext_end (A := A) (n := its.toArray.size) (Draws.list (show A.in1.handled = none from hh) it l li its.toArray) hm hT ⟨(by rw [hsz]; exact hit), pl.isList⟩ hq
theorem src_tup {X : Cx} {pins : List (Addr × Obj)} {σ : L2.St} {g m T it l : Addr} {xs : List V} (li : l ≠ it) : Src X pins σ g m T it xs (fun H => SqT X.K H l xs) (fun i h => h.IsTupleIter it l i) where
  keep := fun i h h' q k => by obtain ⟨o, ho, r⟩ := q; exact ⟨o, k _ ho, r⟩
  live := fun i h q => by obtain ⟨o, ho, r⟩ := q; exact ⟨o, ho⟩
  item := fun A E s H i x Q I hl hm hT hit hx mi hc => by
    obtain ⟨its, rv, pl, _⟩ := I.tuple hl
    obtain ⟨u, hu, rx⟩ := rv.get hx
    exact pyNext_anyT hm hT hit pl (u := u) (by simpa using hu) mi fun h' hit' hs' => hc u h' rx hit' hs'
  done := fun A E s H Q hh I hl hm hT hit hq => by
    obtain ⟨its, rv, pl, _⟩ := I.tuple hl
    have hsz : its.toArray.size = xs.length := by rw [List.size_toArray]; exact rv.length.symm
    exact MpR.mp_pyNext_end (A := A) (n := its.toArray.size) (Draws.tuple (show A.in1.handled = none from hh) it l li its.toArray) hm hT ⟨(by rw [hsz]; exact hit), pl⟩ hq
/-- the items one after another; G: the source stands -/
def mapR (sp : Sp) (G : Hp → Prop) : List V → List V → Hp → (List V → Hp → Prop) → Prop
  | [], ys, H, Q => Q ys H
  | x :: r, ys, H, Q => sp [x] H (fun y H' => G H' ∧ mapR sp G r (ys ++ [y]) H' Q) E0
theorem Vals.snoc {xs : List V} {us : List Value} {x : V} {u : Value} (r : Vals xs us) (q : RelV x u) : Vals (xs ++ [x]) (us ++ [u]) := r.append (.cons q .nil)
section
variable {X : Cx} {pins : List (Addr × Obj)} {σ : L2.St} {kk : Nat} {g m T it S : Addr} {sp : Sp} {xs : List V} {Gs : Hp → Prop} {itS : Nat → Heap → Prop} {A : Around} {R : Result → Shared → Prop} {fin : List V → Hp → Prop} {res : Value}
theorem mp_loop (hh : A.handled = none) (hr : Room kk A.in1.in1) (hA : A.frames = some X.stack) (Fn : FnR X.prog X.w X.K X.mg X.base CX0 kk g sp) (sr : Src X pins σ g m T it xs Gs itS) (hz : xs.length ≤ sizeLine)
    (rm : Rec X pins m) (rT : Rec X pins T) (rS : Rec X pins S) (ri : Rec X pins it)
    (mi : m ≠ it) (Ti : T ≠ it) (Si : S ≠ it) (mS : m ≠ S) (TS : T ≠ S)
    (hR : ∀ ys acc c H' s', fin ys H' → Vals ys acc → ys.length = xs.length → Inv X pins σ H' s' → s'.heap.get? S = some { cls := .type "list", dict := none, data := .seq acc.toArray c, slots := #[] } → R (.ok (.ret res)) s') :
    ∀ (r : List V) (i : Nat) (ys : List V) (acc : Array Value) (c : Nat) (s : Shared) (H : Hp), xs.drop i = r → i ≤ xs.length → ys.length = i → Vals ys acc.toList → Inv X pins σ H s → Gs H → H m = none → H T = none → H S = none → H it = none →
      MpR.IsMap s.heap m T (.ref g) → MpR.IsOne s.heap T (.ref it) → itS i s.heap → s.heap.get? S = some { cls := .type "list", dict := none, data := .seq acc c, slots := #[] } →
      mapR sp Gs r ys H fin → codeAny (model X.prog X.w) A (.builtin "list.extend.loop" ⟨[.ref S, .ref m, res], []⟩) R s
  | [], i, ys, acc, c, s, H, hd, hi, ha, hv, I, hG, um, uT, uS, ui, hm, hT, hit, hS, D => by
    have hin : i = xs.length := by
      have e := congrArg List.length hd
      rw [List.length_drop] at e
      have e2 : xs.length - i = 0 := e
      omega
    subst hin
    refine codeAny_builtin F.entry_extend_loop ?_
    rw [Around.under_plainId F.plain_extend_loop _]
    show wpAny _ A.in1 (pyNext (.ref m) >>= _) _ _ s
    refine wpAny_bind (sr.done A.in1 _ s H _ hh I hG hm hT hit fun h' he => ?_)
    have I2 : Inv X pins σ H { s with heap := h' } := ri.turn (t' := s.toks) I ui fun c o hc e => he c o hc e
    have hS' := he S _ Si hS
    exact wpAny_pure (hR ys acc.toList c H _ D hv ha I2 (by simpa using hS'))
  | x :: r, i, ys, acc, c, s, H, hd, hi, ha, hv, I, hG, um, uT, uS, ui, hm, hT, hit, hS, D => by
    have hlt : i < xs.length := by
      rcases Nat.lt_or_ge i xs.length with z | z
      · exact z
      · rw [List.drop_eq_nil_of_le z] at hd
        exact (nomatch hd)
    have hxi : xs[i]? = some x := by
      have e : (xs.drop i)[0]? = (x :: r)[0]? := by rw [hd]
      rw [List.getElem?_drop] at e
      exact e
    have hdr : xs.drop (i + 1) = r := by
      have e := congrArg (List.drop 1) hd
      rw [List.drop_drop] at e
      first
        | exact e
        | (rw [Nat.add_comm] at e; exact e)
    have hac : acc.size = i := by
      have e : ys.length = acc.toList.length := Vals.length hv
      have e2 : acc.toList.length = acc.size := Array.length_toList
      omega
    refine codeAny_builtin F.entry_extend_loop ?_
    rw [Around.under_plainId F.plain_extend_loop _]
    show wpAny _ A.in1 (pyNext (.ref m) >>= _) _ _ s
    refine wpAny_bind (sr.item A.in1 _ s H i x _ I hG hm hT hit hxi mi fun u h1 rx hit1 hs1 => ?_)
    have I1 : Inv X pins σ H { s with heap := h1 } := ri.turn (t' := s.toks) I ui fun c o hc e => hs1.extBut c o hc e
    have e0 := I1.env0
    have e1 : Env0 X.prog X.w X.K X.mg X.base A.in1.in1 X.stack { s with heap := h1 } H := ⟨hA, e0.mod, e0.bs, e0.bsz, e0.funs, e0.frf, e0.hok, e0.bare⟩
    refine wpAny_call (codeAny_mono (Fn A.in1.in1 X.stack _ H [u] [x] _ E0 hr e1 (.cons rx .nil) D) fun rr s2 hrr => ?_)
    cases rr with
    | error e => exact False.elim hrr
    | ok fl =>
      cases fl with
      | next => exact False.elim hrr
      | brk => exact False.elim hrr
      | cont => exact False.elim hrr
      | ret v =>
        obtain ⟨y, H', os, bare, un, hok, ry, hG', D'⟩ := (show CE X.stack X.prog X.w H _ _ v s2 from hrr)
        have I2 : Inv X pins σ H' s2 := I1.call' os un hok bare (fun b y => absurd y List.not_mem_nil)
        have keep : ∀ {b : Addr} {o : Obj}, Rec X pins b → H b = none → h1.get? b = some o → s2.heap.get? b = some o := fun rb ub eb => un.keep _ _ eb ub rb.fr List.not_mem_nil
        have hm1 := hs1.extBut _ _ mi hm
        have hT1 := hs1.extBut _ _ Ti hT
        have hS1 := hs1.extBut _ _ Si hS
        obtain ⟨oi, hoi⟩ := sr.live _ _ hit1
        have hm2 : MpR.IsMap s2.heap m T (.ref g) := keep rm um hm1
        have hT2 : MpR.IsOne s2.heap T (.ref it) := keep rT uT hT1
        have hS2 := keep rS uS hS1
        have hit2 : itS (i + 1) s2.heap := sr.keep _ _ _ hit1 fun o e => keep ri ui e
        have um2 : H' m = none := un.free _ _ hm1 um List.not_mem_nil
        have uT2 : H' T = none := un.free _ _ hT1 uT List.not_mem_nil
        have uS2 : H' S = none := un.free _ _ hS1 uS List.not_mem_nil
        have ui2 : H' it = none := un.free _ _ hoi ui List.not_mem_nil
        show wpAny _ A.in1 (updateSeq S (·.push v) >>= _) _ _ _
        refine wpAny_bind ?_
        have upS := Heap.get?_update_self (Obj.mapSeq (·.push v)) hS2 rfl
        have sb : Heap.SameBut S s2.heap (s2.heap.update S (Obj.mapSeq (·.push v))) := Heap.SameBut.update ..
        have I3 : Inv X pins σ H' { s2 with heap := s2.heap.update S (Obj.mapSeq (·.push v)) } := rS.turn (t' := s2.toks) I2 uS2 fun c o hc e => sb.extBut c o hc e
        refine wpAny_updateSeq hS2 rfl (wpAny_pure ⟨plainId_quiet F.plain_extend_loop _, mp_loop hh hr hA Fn sr hz rm rT rS ri mi Ti Si mS TS hR r (i + 1) (ys ++ [y]) (acc.push v) _ _ H' hdr hlt ?_ ?_ I3 hG' um2 uT2 uS2 ui2 ?_ ?_ ?_ upS D'⟩)
          (by rw [hac]; omega) (by show (acc.push v).size ≤ sizeLine + 1; rw [Array.size_push, hac]; omega)
        · rw [List.length_append, ha]; rfl
        · rw [Array.toList_push]; exact Vals.snoc hv ry
        · exact sb.extBut _ _ mS hm2
        · exact sb.extBut _ _ TS hT2
        · exact sr.keep _ _ _ hit2 fun o e => sb.extBut _ _ (Ne.symm Si) e
/-- the list of all that a map gives -/
theorem mp_collect {s : Shared} {H : Hp} {E : Value → Shared → Prop} {Q : List Value → Shared → Prop} (hh : A.handled = none) (hr : Room kk A.in1.in1) (hA : A.frames = some X.stack) (Fn : FnR X.prog X.w X.K X.mg X.base CX0 kk g sp) (sr : Src X pins σ g m T it xs Gs itS) (hz : xs.length ≤ sizeLine)
    (rm : Rec X pins m) (rT : Rec X pins T) (ri : Rec X pins it) (um : H m = none) (uT : H T = none) (ui : H it = none) (mi : m ≠ it) (Ti : T ≠ it)
    (I : Inv X pins σ H s) (hG : Gs H) (hm : MpR.IsMap s.heap m T (.ref g)) (hT : MpR.IsOne s.heap T (.ref it)) (hit : itS 0 s.heap) (D : mapR sp Gs xs [] H fin)
    (hQ : ∀ ys acc H' s', fin ys H' → Vals ys acc → ys.length = xs.length → Inv X pins σ H' s' → Q acc s') : wpAny (model X.prog X.w) A (collect (.ref m)) Q E s := by
  have hTy : ∀ {s' : Shared}, MpR.IsMap s'.heap m T (.ref g) → s'.TypeIs (.ref m) "map" := fun h => ⟨_, h, rfl⟩
  have nm : m ≠ s.heap.objs.size := Nat.ne_of_lt (Heap.lt_size hm)
  have nT : T ≠ s.heap.objs.size := Nat.ne_of_lt (Heap.lt_size hT)
  have ni : it ≠ s.heap.objs.size := by obtain ⟨o, ho⟩ := sr.live _ _ hit; exact Nat.ne_of_lt (Heap.lt_size ho)
  unfold collect
  refine wpAny_bind (wpAny_runValue (codeAny_builtin F.entry_proto_collect ?_))
  rw [Around.under_plainId F.plain_proto_collect _]
  show wpAny _ A.in1 (newList [] >>= fun l => again (.builtin "list.__iadd__" ⟨[l, .ref m], []⟩)) _ _ s
  refine wpAny_bind (wpAny_newObj_type ?_)
  refine wpAny_pure ⟨plainId_quiet F.plain_list_iadd _, codeAny_builtin F.entry_list_iadd ?_⟩
  rw [Around.under_plainId F.plain_list_iadd _]
  have kp : ∀ b o, s.heap.get? b = some o → (s.heap.push { cls := .type "list", data := .seq ([] : List Value).toArray }).get? b = some o := fun b o e => Heap.get?_push_of_some _ e
  have hm₁ : MpR.IsMap (s.heap.push { cls := .type "list", data := .seq ([] : List Value).toArray }) m T (.ref g) := kp _ _ hm
  show wpAny _ A.in1 (Builtin.List.listExtendWith (.ref s.heap.objs.size) (.ref m) (.ref s.heap.objs.size)) _ _ _
  unfold Builtin.List.listExtendWith
  refine wpAny_bind (wpAny_typeOf (hTy hm₁) ?_)
  have h1 : Builtin.List.listSameRef (.ref s.heap.objs.size) (.ref m) = false := by simp [Builtin.List.listSameRef, Ne.symm nm]
  have h2 : (Value.type "map" == Value.type "list") = false := by decide
  have h3 : (Value.type "map" == Value.type "tuple") = false := by decide
  simp only [h1, h2, h3, Bool.or_false, Bool.false_eq_true, if_false]
  refine wpAny_bind (MpR.mp_pyIter hm₁ ?_)
  refine wpAny_bind (wpAny_holding ?_)
  unfold Builtin.List.listLengthHint
  refine wpAny_bind (wpAny_specialOf (hTy hm₁) MpR.nolen_mp ?_)
  show wpAny _ A.in1 (specialOf (Value.ref m) (Str.ofString "__length_hint__") >>= _) _ _ _
  refine wpAny_bind (wpAny_specialOf (hTy hm₁) MpR.nohint_mp ?_)
  refine wpAny_pure ?_
  show wpAny _ A.in1 (rule "list.extend.makes-room" >>= fun _ => Builtin.List.listTouch (.ref s.heap.objs.size) >>= fun _ =>
    again (.builtin "list.extend.loop" ⟨[.ref s.heap.objs.size, .ref m, .ref s.heap.objs.size], []⟩)) _ _ _
  refine wpAny_bind (wpAny_rule ?_)
  have hS₁ : (s.heap.push { cls := .type "list", data := .seq ([] : List Value).toArray }).get? s.heap.objs.size = some { cls := .type "list", data := .seq ([] : List Value).toArray } := Heap.get?_push_size _ rfl
  refine wpAny_bind ?_
  show wpAny _ A.in1 (updateSeq s.heap.objs.size (·.push .none) >>= fun _ => updateSeq s.heap.objs.size (·.pop)) _ _ _
  refine wpAny_bind (wpAny_updateSeq hS₁ rfl ?_)
  have hS₂ := Heap.get?_update_self (Obj.mapSeq (·.push Value.none)) hS₁ rfl
  refine wpAny_updateSeq hS₂ rfl ?_
  have hS₃ := Heap.get?_update_self (Obj.mapSeq (·.pop)) hS₂ rfl
  have oth : ∀ b o, b ≠ s.heap.objs.size → s.heap.get? b = some o →
      (((s.heap.push { cls := .type "list", data := .seq ([] : List Value).toArray }).update s.heap.objs.size (Obj.mapSeq (·.push Value.none))).update s.heap.objs.size (Obj.mapSeq (·.pop))).get? b = some o :=
    fun b o hb e => (Heap.get?_update_other _ _ (Ne.symm hb)).trans ((Heap.get?_update_other _ _ (Ne.symm hb)).trans (kp b o e))
  have I4 := I.kept (t' := s.toks) (h' := ((s.heap.push { cls := .type "list", data := .seq ([] : List Value).toArray }).update s.heap.objs.size (Obj.mapSeq (·.push Value.none))).update s.heap.objs.size (Obj.mapSeq (·.pop)))
    fun b o e => oth b o (Nat.ne_of_lt (Heap.lt_size e)) e
  have rS : Rec X pins s.heap.objs.size := rec_new I (Nat.le_refl _)
  have uS : H s.heap.objs.size = none := I.hok.fresh (Nat.le_refl _)
  refine wpAny_pure ⟨plainId_quiet F.plain_extend_loop _, mp_loop (S := s.heap.objs.size) (res := .ref s.heap.objs.size) (A := A) (fin := fin) hh hr hA Fn sr hz rm rT rS ri mi Ti (Ne.symm ni) nm nT ?_ xs 0 [] _ _ _ H rfl (Nat.zero_le _) rfl .nil I4 hG um uT uS ui
    (oth _ _ nm hm) (oth _ _ nT hT) (sr.keep _ _ _ hit fun o e => oth _ _ ni e) hS₃ D⟩
  intro ys acc c H' s' hf hv hn I' hS'
  show wpAny _ A (load s.heap.objs.size >>= _) _ _ s'
  refine wpAny_bind (wpAny_load hS' ?_)
  exact wpAny_pure (hQ ys acc H' s' hf hv hn I')
theorem mp_new {s : Shared} {H : Hp} {E : Value → Shared → Prop} {Q₁ : Value → Shared → Prop} (hh : A.handled = none) (hr : Room kk A.in1.in1.in1) (hA : A.frames = some X.stack) (Fn : FnR X.prog X.w X.K X.mg X.base CX0 kk g sp) (sr : Src X pins σ g m T it xs Gs itS) (hz : xs.length ≤ sizeLine)
    (rm : Rec X pins m) (rT : Rec X pins T) (ri : Rec X pins it) (um : H m = none) (uT : H T = none) (ui : H it = none) (mi : m ≠ it) (Ti : T ≠ it)
    (I : Inv X pins σ H s) (hG : Gs H) (hm : MpR.IsMap s.heap m T (.ref g)) (hT : MpR.IsOne s.heap T (.ref it)) (hit : itS 0 s.heap) (D : mapR sp Gs xs [] H fin)
    (hQ : ∀ ys acc H' s', fin ys H' → Vals ys acc → ys.length = xs.length → Inv X pins σ H' s' → Q₁ (.ref s'.heap.objs.size) { s' with heap := s'.heap.push { cls := .type "tuple", data := .seq acc.toArray } }) :
    codeAny (model X.prog X.w) A (.call (.builtin "tuple.__new__") ⟨[.type "tuple", .ref m], []⟩) (wants Q₁ E) s := by
  refine codeAny_of_tree ?_
  show wpAny _ A.in1 (do checkBuiltinCall "tuple.__new__" ⟨[.type "tuple", .ref m], []⟩; again (.builtin "tuple.__new__" ⟨[.type "tuple", .ref m], []⟩)) _ _ s
  refine wpAny_bind (wpAny_of_eq (F.newCall_tuple_1 _) (wpAny_pure ⟨plainId_quiet F.plain_tuple_new _, codeAny_builtin F.entry_tuple_new ?_⟩))
  rw [Around.under_plainId F.plain_tuple_new _]
  have hsub := sub_tuple_self
  have hinit := init_tuple_lookup
  have hmh := madeHere_tuple
  have hTI : s.TypeIs (.ref m) "map" := ⟨_, hm, rfl⟩
  have hC : ∀ (E' : Value → Shared → Prop) (Q' : List Value → Shared → Prop), (∀ l s', (∃ ys H', fin ys H' ∧ Vals ys l ∧ ys.length = xs.length ∧ Inv X pins σ H' s') → Q' l s') → wpAny (model X.prog X.w) A.in1 (collect (.ref m)) Q' E' s := fun E' Q' k => mp_collect (A := A.in1) (fin := fin) hh hr hA Fn sr hz rm rT ri um uT ui mi Ti I hG hm hT hit D
    fun ys acc H' s' hf hv hn I' => k _ _ ⟨ys, H', hf, hv, hn, I'⟩
  wp_walk using wpAny_typeOf hTI, hC _ _
  intro l s' hl
  obtain ⟨ys, H', hf, hv, hn, I'⟩ := hl
  show wpAny _ _ (Builtin.Tuple.tupleExact l.toArray >>= fun v => ret v) _ _ _
  unfold Builtin.Tuple.tupleExact
  refine wpAny_bind (wpAny_newObj_type ?_ (by show l.toArray.size ≤ sizeLine; rw [List.size_toArray, ← hv.length, hn]; exact hz))
  refine wpAny_pure ?_
  exact hQ ys l H' s' hf hv hn I'
theorem mp_tuple {s : Shared} {H : Hp} {E : Value → Shared → Prop} {Q : Value → Shared → Prop} (hh : A.handled = none) (hr : Room kk A.in1.in1.in1.in1) (hA : A.frames = some X.stack) (Fn : FnR X.prog X.w X.K X.mg X.base CX0 kk g sp) (sr : Src X pins σ g m T it xs Gs itS) (hz : xs.length ≤ sizeLine)
    (rm : Rec X pins m) (rT : Rec X pins T) (ri : Rec X pins it) (um : H m = none) (uT : H T = none) (ui : H it = none) (mi : m ≠ it) (Ti : T ≠ it)
    (I : Inv X pins σ H s) (hG : Gs H) (hm : MpR.IsMap s.heap m T (.ref g)) (hT : MpR.IsOne s.heap T (.ref it)) (hit : itS 0 s.heap) (D : mapR sp Gs xs [] H fin)
    (hQ : ∀ ys acc H' s', fin ys H' → Vals ys acc → ys.length = xs.length → Inv X pins σ H' s' → Q (.ref s'.heap.objs.size) { s' with heap := s'.heap.push { cls := .type "tuple", data := .seq acc.toArray } }) :
    wpAny (model X.prog X.w) A (call (.type "tuple") [.ref m]) Q E s := by
  refine callType_codes (Q₁ := fun obj s₁ => s₁.TypeIs obj "tuple" ∧ Q obj s₁) F.called_tuple (F.typeCall_tuple_1 _) F.entry_object_init
    (mp_new (A := A.in1) hh hr hA Fn sr hz rm rT ri um uT ui mi Ti I hG hm hT hit D fun ys acc H' s' hf hv hn I' => ⟨⟨_, Heap.get?_push_size _ rfl, rfl⟩, hQ ys acc H' s' hf hv hn I'⟩) fun obj s₁ h₁ => ?_
  exact ⟨h₁.1, F.args_object_init_2 obj _, object_init_meets F.called_tuple.init.lookup F.called_tuple.made (by decide) X.prog X.w A.in1 _ s₁ ⟨h₁.1, rfl, h₁.2⟩⟩
end
theorem raw0 {P : Program} {w : World} {K : PySem.W.Frag} {mg : Str → Option Value} {base : Heap} {CX : CXT} {k : Nat} {f : Addr} {fd : FuncData} {ps : List Str} {sp : Sp} (F : FnOk P w K mg base CX k f fd ps sp) (hb : Binds K fd ps []) : FnR P w K mg base CX k f sp :=
  (F.raw hb .nil).imp fun vs H Q E h => by
    show sp (vs ++ []) H Q E
    rw [List.append_nil]
    exact h
/-- tuple(map(f, e)), e a list or a tuple -/
def tTupMap (K : PySem.W.Frag) (sp : Sp) (te : TE) : TE := fun σ H Q => te σ H fun x H2 => ∃ q xs, x = V.ref q ∧
  ((SqL K H2 q xs ∧ mapR sp (fun H3 => SqL K H3 q xs) xs [] H2 fun ys H3 => ∀ l, H3 l = none → Q (.ref l) (upd H3 l (.tup ys))) ∨
   (SqT K H2 q xs ∧ mapR sp (fun H3 => SqT K H3 q xs) xs [] H2 fun ys H3 => ∀ l, H3 l = none → Q (.ref l) (upd H3 l (.tup ys))))
section
variable {X : Cx} {kk : Nat} {g : Addr} {sp : Sp}
theorem pe_tupMap {fe e : Expr} {te : TE} {p0 pos p pos2 : Pos} (hc : X.calm = true) (hgs : Gl X "tuple") (hms : X.mg "tuple" = none) (hg : Gl X "map") (hm : X.mg "map" = none) (hf : PF X fe (.ref g)) (ha : PE X e te)
    (Fn : FnR X.prog X.w X.K X.mg X.base CX0 kk g sp) (hr : Room (kk + 4) X.A)
    (hs1 : starEach [.Call (.Name "map" p) [fe, e] [] pos2] X.env = (false, eval (.Call (.Name "map" p) [fe, e] [] pos2) X.env) :: starEach [] X.env := by rfl)
    (hp1 : (backTo pos (starEach [] X.env)).any (·.1) = false := by rfl) (hs : starEach [fe, e] X.env = (false, eval fe X.env) :: starEach [e] X.env := by rfl)
    (hs2 : starEach [e] X.env = (false, eval e X.env) :: starEach [] X.env := by rfl) (hpl : (backTo pos2 (starEach [e] X.env)).any (·.1) = false := by rfl) :
    PE X (.Call (.Name "tuple" p0) [.Call (.Name "map" p) [fe, e] [] pos2] [] pos) (tTupMap X.K sp te) := by
  refine ⟨fun pins s σ H Q I h => ?_⟩
  have hh : X.A.handled = none := I.ok.hd hc
  have hA : X.A.frames = some X.stack := I.ok.frames
  refine wpAny_Call_Name_kw (ld_blt I hgs hms (u := .type "tuple") (by decide +kernel) ?_)
  refine PyProof.Rows.callWith_type1 ?_ hs1 hp1
  rw [hs1]
  show wpAny _ _ (spliced ((false, eval (.Call (.Name "map" p) [fe, e] [] pos2) X.env) :: backTo pos (starEach [] X.env))) _ _ s
  refine Calls.spliced_cons ?_
  refine wpAny_Call_Name_kw (ld_blt I hg hm boot_map ?_)
  refine PyProof.Rows.callWith_type1 ?_ hs hpl
  rw [hs, hs2]
  show wpAny _ _ (spliced ((false, eval fe X.env) :: (false, eval e X.env) :: backTo pos2 (starEach [] X.env))) _ _ s
  refine Calls.spliced_cons (hf.run pins s σ H _ I fun s2 I2 => ?_)
  refine Calls.spliced_cons (thn (ha.run pins s2 σ H _ I2 h) fun u s3 ⟨x, H2, I3, r3, q3⟩ => ?_)
  refine Calls.spliced_nil ?_
  obtain ⟨q, xs, rfl, q3⟩ := q3
  cases r3
  rcases q3 with ⟨hq, D⟩ | ⟨hq, D⟩
  · obtain ⟨its, rv, pl, hz⟩ := I3.list hq
    have ql : q < s3.heap.objs.size := by obtain ⟨o, ho, _⟩ := pl.isList; exact Heap.lt_size ho
    refine MpR.call_map (wpAny_pyIter_list pl.isList fun h5 hO hM hsz5 hk => ?_)
    have hs5 : (s3.heap.push { cls := .type "list_iterator", data := .fields #[.ref q, .int 0 0] }).objs.size = s3.heap.objs.size + 1 := Heap.size_push ..
    have kp : ∀ b o, s3.heap.get? b = some o → h5.get? b = some o := fun b o e => hk b o (Heap.get?_push_of_some _ e)
    have I5 : Inv X pins σ H2 { s3 with heap := h5 } := I3.kept (t' := s3.toks) kp
    have fresh : ∀ b, s3.heap.objs.size ≤ b → H2 b = none := fun b hb => I3.hok.fresh hb
    have lt0 : s3.heap.objs.size ≤ (s3.heap.push { cls := .type "list_iterator", data := .fields #[.ref q, .int 0 0] }).objs.size := by rw [hs5]; exact Nat.le_succ _
    have hsx := hs5
    generalize (s3.heap.push { cls := .type "list_iterator", data := .fields #[.ref q, .int 0 0] }).objs.size = TT at *
    refine Calls.spliced_nil (mp_tuple (it := s3.heap.objs.size) (T := TT) (m := TT + 1) hh hr.in1.in1.in1.in1 hA Fn (src_list (Nat.ne_of_lt ql)) hz (rec_new I3 (Nat.le_trans lt0 (Nat.le_succ _))) (rec_new I3 lt0) (rec_new I3 (Nat.le_refl _)) (fresh _ (Nat.le_trans lt0 (Nat.le_succ _))) (fresh _ lt0) (fresh _ (Nat.le_refl _))
      (by rw [hsx]; exact Nat.ne_of_gt (Nat.lt_succ_of_lt (Nat.lt_succ_self _))) (by rw [hsx]; exact Nat.succ_ne_self _) I5 hq hM hO ⟨_, hk _ _ (Heap.get?_push_size _ rfl), rfl, rfl⟩ D fun ys acc H' s' hf hv hn I' => ?_)
    have I6 : Inv X pins σ (upd H' s'.heap.objs.size (.tup ys)) { s' with heap := s'.heap.push { cls := .type "tuple", data := .seq acc.toArray } } :=
      I'.laid (t' := s'.toks) (fun b o e => Heap.get?_push_of_some _ e) (Nat.le_refl _) (show ObjOk X.prog X.w _ _ _ (.tup ys) from ⟨by rw [hn]; exact hz, acc, hv, IsTup.new _ _⟩)
    exact ⟨.ref s'.heap.objs.size, _, I6, rfl, hf _ (I'.hok.fresh (Nat.le_refl _))⟩
  · obtain ⟨its, rv, pl, hz⟩ := I3.tuple hq
    have ql : q < s3.heap.objs.size := by obtain ⟨o, ho, _⟩ := id pl; exact Heap.lt_size ho
    refine MpR.call_map (wpAny_pyIter_tuple pl fun h5 hO hM hsz5 hk => ?_)
    have hs5 : (s3.heap.push { cls := .type "tuple_iterator", data := .fields #[.ref q, .int 0 0] }).objs.size = s3.heap.objs.size + 1 := Heap.size_push ..
    have kp : ∀ b o, s3.heap.get? b = some o → h5.get? b = some o := fun b o e => hk b o (Heap.get?_push_of_some _ e)
    have I5 : Inv X pins σ H2 { s3 with heap := h5 } := I3.kept (t' := s3.toks) kp
    have fresh : ∀ b, s3.heap.objs.size ≤ b → H2 b = none := fun b hb => I3.hok.fresh hb
    have lt0 : s3.heap.objs.size ≤ (s3.heap.push { cls := .type "tuple_iterator", data := .fields #[.ref q, .int 0 0] }).objs.size := by rw [hs5]; exact Nat.le_succ _
    have hsx := hs5
    generalize (s3.heap.push { cls := .type "tuple_iterator", data := .fields #[.ref q, .int 0 0] }).objs.size = TT at *
    refine Calls.spliced_nil (mp_tuple (it := s3.heap.objs.size) (T := TT) (m := TT + 1) hh hr.in1.in1.in1.in1 hA Fn (src_tup (Nat.ne_of_lt ql)) hz (rec_new I3 (Nat.le_trans lt0 (Nat.le_succ _))) (rec_new I3 lt0) (rec_new I3 (Nat.le_refl _)) (fresh _ (Nat.le_trans lt0 (Nat.le_succ _))) (fresh _ lt0) (fresh _ (Nat.le_refl _))
      (by rw [hsx]; exact Nat.ne_of_gt (Nat.lt_succ_of_lt (Nat.lt_succ_self _))) (by rw [hsx]; exact Nat.succ_ne_self _) I5 hq hM hO ⟨_, hk _ _ (Heap.get?_push_size _ rfl), rfl, rfl⟩ D fun ys acc H' s' hf hv hn I' => ?_)
    have I6 : Inv X pins σ (upd H' s'.heap.objs.size (.tup ys)) { s' with heap := s'.heap.push { cls := .type "tuple", data := .seq acc.toArray } } :=
      I'.laid (t' := s'.toks) (fun b o e => Heap.get?_push_of_some _ e) (Nat.le_refl _) (show ObjOk X.prog X.w _ _ _ (.tup ys) from ⟨by rw [hn]; exact hz, acc, hv, IsTup.new _ _⟩)
    exact ⟨.ref s'.heap.objs.size, _, I6, rfl, hf _ (I'.hok.fresh (Nat.le_refl _))⟩
end
end MpT
set_option Elab.async false
set_option linter.all false
set_option maxRecDepth 100000
set_option maxHeartbeats 4000000
namespace Sh
open PySem PySem.Spec PyProof.Rows L2
/-! tuple(map(f, xs)) over data -/
def All2 (S : List Dt → Dt → Prop) : List Dt → List Dt → Prop
  | [], o => o = []
  | d :: l, o => ∃ e r, o = e :: r ∧ S [d] e ∧ All2 S l r
section
variable {K : PySem.W.Frag} {ρ : List En} {Ψ : Dt → List En → Prop} {S : List Dt → Dt → Prop}
theorem map_walk {B : Addr → Prop} {σ : L2.St} {Gs : Hp → Prop} {fin : List V → Hp → Prop} {G1 H1 : Hp} (kp : ∀ G' H', Same G1 G' → Same G' H' → Gs H') : ∀ (l outs done : List Dt) (xs ys : List V) (G H : Hp), Mt K B ρ σ G H → Same G1 G → Tr B H1 H → RDs K G l xs → RDs K G done ys → All2 S l outs →
    (∀ ys' G' H', Mt K B ρ σ G' H' → Same G1 G' → Tr B H1 H' → RDs K G' (done ++ outs) ys' → fin ys' H') → MpT.mapR (spP K S) Gs xs ys H fin
  | [], outs, done, xs, ys, G, H, m, s, t, r, r2, a, k => by
    cases (show xs = [] from r)
    cases (show outs = [] from a)
    exact k ys G H m s t (by rw [List.append_nil]; exact r2)
  | d :: l, outs, done, xs, ys, G, H, m, s, t, r, r2, a, k => by
    obtain ⟨x, xr, rfl, h1, h2⟩ := r
    obtain ⟨e, o, rfl, hS, ha⟩ := a
    refine ⟨G, [d], e, m.sub, ⟨x, [], rfl, h1, rfl⟩, hS, fun v G' H' n rv => ⟨kp G' H' (s.trans n.g) n.s, ?_⟩⟩
    exact map_walk kp l o (done ++ [e]) xr (ys ++ [v]) G' H' (m.nw n) (s.trans n.g) (t.trans (Tr.same n.h)) (h2.same n.g) ((r2.same n.g).snoc rv) ha fun ys' G'' H'' m' s' t' r' => k ys' G'' H'' m' s' t' (by rwa [List.append_assoc] at r')
theorem ae_tupMap {te : TE} (h : AE K te ρ fun d ρ1 => ∃ k l, d = sq k l ∧ ∃ out, All2 S l out ∧ Ψ (.tup out) ρ1) : AE K (MpT.tTupMap K (spP K S) te) ρ Ψ := fun B σ G H m Q q =>
  h B σ G H m _ fun v d ρ1 G1 H1 m1 s1 t1 r1 ⟨kk, l, ed, out, a2, k⟩ => by
    subst ed
    cases kk with
    | true =>
      obtain ⟨a, xs, rfl, hq, rs⟩ := r1
      refine ⟨a, xs, rfl, .inr ⟨same_sqT m1.sub hq, ?_⟩⟩
      refine map_walk (G1 := G1) (H1 := H1) (fun G' H' s s' => same_sqT (s.trans s') hq) l out [] xs [] G1 H1 m1 (Same.refl _) Tr.refl rs rfl a2 fun ys G' H' m' s' t' r' => ?_
      intro p hp
      have n := Nw.new (o := .tup ys) m'.sub hp
      exact q _ (.tup out) ρ1 _ _ (m'.nw n) (s1.trans (s'.trans n.g)) (t1.trans (t'.trans (Tr.same n.h))) ⟨p, ys, rfl, SqT.of upd_same, r'.same n.g⟩ k
    | false =>
      obtain ⟨a, xs, rfl, hq, rs⟩ := r1
      refine ⟨a, xs, rfl, .inl ⟨SqL.of (m1.sub _ _ hq), ?_⟩⟩
      refine map_walk (G1 := G1) (H1 := H1) (fun G' H' s s' => SqL.of (s' _ _ (s _ _ hq))) l out [] xs [] G1 H1 m1 (Same.refl _) Tr.refl rs rfl a2 fun ys G' H' m' s' t' r' => ?_
      intro p hp
      have n := Nw.new (o := .tup ys) m'.sub hp
      exact q _ (.tup out) ρ1 _ _ (m'.nw n) (s1.trans (s'.trans n.g)) (t1.trans (t'.trans (Tr.same n.h))) ⟨p, ys, rfl, SqT.of upd_same, r'.same n.g⟩ k
end
/-! as_tuples: tuples for lists at every depth -/
mutual
def Dt.tu : Dt → Dt
  | .tup l => .tup (tus l) | .lst l => .tup (tus l) | .non => .non | .bl b => .bl b | .int i => .int i | .str s => .str s | .ty n => .ty n
def tus : List Dt → List Dt
  | [] => []
  | d :: l => d.tu :: tus l
end
def AsN : Nat → Dt → Prop
  | 0, _ => False
  | n + 1, .tup l => ∀ d, d ∈ l → AsN n d
  | n + 1, .lst l => ∀ d, d ∈ l → AsN n d
  | _ + 1, .ty _ => False
  | _ + 1, _ => True
def S_as (n : Nat) (ds : List Dt) (r : Dt) : Prop := ∃ d, ds = [d] ∧ AsN n d ∧ r = d.tu
theorem all2_as {n : Nat} : ∀ {l : List Dt}, (∀ d, d ∈ l → AsN n d) → All2 (S_as n) l (tus l)
  | [], _ => rfl
  | d :: l, h => ⟨d.tu, tus l, rfl, ⟨d, rfl, h d List.mem_cons_self, rfl⟩, all2_as fun e he => h e (List.mem_cons_of_mem _ he)⟩
end Sh
set_option Elab.async false
set_option linter.all false
set_option maxRecDepth 100000
set_option maxHeartbeats 4000000
namespace Sh
open PySem PySem.Spec PyProof.Rows L2
section
variable {K : PySem.W.Frag} {ρ : List En} {Ψ : Dt → List En → Prop} {ΨT : Bool → List En → Prop} {Φ : Dt → Prop} {N : List En → Prop} {R : Dt → List En → Prop}
/-! slices with any bounds -/
def AO (K : PySem.W.Frag) (to : TO) (ρ : List En) (Φo : Option Int → List En → Prop) : Prop := ∀ B σ G H, Mt K B ρ σ G H → ∀ Q : Option Int → Hp → Prop, (∀ o ρ' G' H', Mt K B ρ' σ G' H' → Same G G' → Tr B H H' → Φo o ρ' → Q o H') → to σ H Q
def cutD (l : List Dt) (lo hi : Option Int) : List Dt := (l.drop (HT.sIx l.length 0 lo)).take (HT.sIx l.length l.length hi - HT.sIx l.length 0 lo)
theorem RDs.cut {G : Hp} {l : List Dt} {xs : List V} {lo hi : Option Int} (r : RDs K G l xs) : RDs K G (cutD l lo hi) (cutV xs lo hi) := by
  unfold cutD cutV
  rw [r.length]
  exact (r.drop _).take _
theorem ao_none {Φo : Option Int → List En → Prop} (k : Φo none ρ) : AO K (fun _ H Q => Q none H) ρ Φo := fun B σ G H m Q q => q none ρ G H m (Same.refl _) Tr.refl k
theorem ao_some {te : TE} {Φo : Option Int → List En → Prop} (h : AE K te ρ fun d ρ1 => ∃ i : Int, d = .int i ∧ Φo (some i) ρ1) : AO K (tPart te) ρ Φo := fun B σ G H m Q q =>
  h B σ G H m _ fun v d ρ1 G1 H1 m1 s1 t1 r1 ⟨i, ed, k⟩ => by
    subst ed
    exact ⟨i, r1, q _ ρ1 G1 H1 m1 s1 t1 k⟩
theorem ae_slD {te : TE} {tl th : TO} (h : AE K te ρ fun d ρ1 => ∃ l, d = .lst l ∧ AO K tl ρ1 fun lo ρ2 => AO K th ρ2 fun hi ρ3 => Ψ (.lst (cutD l lo hi)) ρ3) : AE K (tSl (rSlL K) te tl th) ρ Ψ := fun B σ G H m Q q =>
  h B σ G H m _ fun v d ρ1 G1 H1 m1 s1 t1 r1 ⟨l, ed, h1⟩ => h1 B σ G1 H1 m1 _ fun lo ρ2 G2 H2 m2 s2 t2 h2 => h2 B σ G2 H2 m2 _ fun hi ρ3 G3 H3 m3 s3 t3 k => by
    subst ed
    obtain ⟨p, xs, rfl, hp, r⟩ := r1
    have hp3 := s3 _ _ (s2 _ _ hp)
    refine ⟨p, _, rfl, SqL.of (m3.sub _ _ hp3), fun p' hp' => ?_⟩
    have nw := Nw.new (o := .lst (cutV xs lo hi)) m3.sub hp'
    exact q _ (.lst (cutD l lo hi)) ρ3 _ _ (m3.nw nw) (((s1.trans s2).trans s3).trans nw.g) (((t1.trans t2).trans t3).trans (Tr.same nw.h)) ⟨p', _, rfl, upd_same, ((r.same (s2.trans s3)).cut).same nw.g⟩ k
end
end Sh
set_option Elab.async false
set_option linter.all false
set_option maxRecDepth 100000
set_option maxHeartbeats 4000000
set_option Elab.async false
set_option linter.all false
set_option maxRecDepth 100000
set_option maxHeartbeats 4000000
/-! list(zip(xs, ys)), of two lists -/
namespace Sh
open PySem PySem.Spec PyProof.Rows L2
theorem zip_no_len : typeLookup (.type "zip") "__len__" = pure none := by rw [typeLookup_type, builtinLookup_eq_fast]; kernel_rfl
theorem zip_no_hint : typeLookup (.type "zip") "__length_hint__" = pure none := by rw [typeLookup_type, builtinLookup_eq_fast]; kernel_rfl
/-- new pairs, laid one after another -/
inductive NP : Hp → List V → List (V × V) → Hp → Prop where
  | nil {H : Hp} : NP H [] [] H
  | snoc {H H' : Hp} {ts : List V} {ps : List (V × V)} {T : Addr} {x y : V} : NP H ts ps H' → H' T = none → NP H (ts ++ [.ref T]) (ps ++ [(x, y)]) (upd H' T (.tup [x, y]))
theorem NP.len {H H' : Hp} {ts : List V} {ps : List (V × V)} (h : NP H ts ps H') : ts.length = ps.length := by
  induction h with
  | nil => rfl
  | snoc _ _ ih => rw [List.length_append, List.length_append, ih]; rfl
theorem NP.same {H H' : Hp} {ts : List V} {ps : List (V × V)} (h : NP H ts ps H') : Same H H' := by
  induction h with
  | nil => exact Same.refl _
  | snoc _ n ih => exact ih.trans (same_up n)
/-- where a zip stands -/
structure ZSt (z TI TO i1 i2 l1 l2 S : Addr) (i : Nat) (h : Heap) : Prop where
  ti : IsPair h TI (.ref i1) (.ref i2)
  a : h.IsListIter i1 l1 i
  b : h.IsListIter i2 l2 i
  s : (IsZip h z TI TO .none ∧ ∃ x y, IsPair h TO x y) ∨ ∃ T f oT, IsZipHeld h z TI TO T f ∧ h.get? T = some oT ∧ T ≠ z ∧ T ≠ i1 ∧ T ≠ i2 ∧ T ≠ S
theorem ZSt.keep {z TI TO i1 i2 l1 l2 S : Addr} {i : Nat} {h h' : Heap} (st : ZSt z TI TO i1 i2 l1 l2 S i h) (n : z ≠ S ∧ TI ≠ S ∧ TO ≠ S ∧ i1 ≠ S ∧ i2 ≠ S) (k : ∀ c o, c ≠ S → h.get? c = some o → h'.get? c = some o) : ZSt z TI TO i1 i2 l1 l2 S i h' where
  ti := k _ _ n.2.1 st.ti
  a := st.a.at fun o e => k _ o n.2.2.2.1 e
  b := st.b.at fun o e => k _ o n.2.2.2.2 e
  s := by
    rcases st.s with ⟨hz, x, y, h2⟩ | ⟨T, f, oT, hz, hT, r1, r2, r3, r4⟩
    · exact .inl ⟨k _ _ n.1 hz, x, y, k _ _ n.2.2.1 h2⟩
    · exact .inr ⟨T, f, oT, k _ _ n.1 hz, k _ _ r4 hT, r1, r2, r3, r4⟩
section
variable {X : Cx} {pins : List (Addr × Obj)} {σ : L2.St} {z TI TO i1 i2 l1 l2 S : Addr} {xs ys : List V} {A : Around}
theorem zl_next {E : Value → Shared → Prop} {Q : Option Value → Shared → Prop} {s : Shared} {H : Hp} {i : Nat} {x y : V} (D : ZipApart z TI TO i1 i2 l1 l2) (I : Inv X pins σ H s) (hx : SqL X.K H l1 xs) (hy : SqL X.K H l2 ys) (st : ZSt z TI TO i1 i2 l1 l2 S i s.heap)
    (hf : ∀ b ∈ [z, TO, i1, i2], FpOk X pins H b) (ex : xs[i]? = some x) (ey : ys[i]? = some y) (hS : S < s.heap.objs.size)
    (hQ : ∀ h', Inv X pins σ (upd H s.heap.objs.size (.tup [x, y])) { s with heap := h' } → ZSt z TI TO i1 i2 l1 l2 S (i + 1) h' → (∀ c o, c ∉ [z, TO, i1, i2] → s.heap.get? c = some o → h'.get? c = some o) → h'.objs.size = s.heap.objs.size + 1 →
      Q (some (.ref s.heap.objs.size)) { s with heap := h' }) : wpAny (model X.prog X.w) A (pyNext (.ref z)) Q E s := by
  obtain ⟨its, rv, p1, _⟩ := I.list hx
  obtain ⟨its2, rv2, p2, _⟩ := I.list hy
  obtain ⟨u, hu, rx⟩ := rv.get ex
  obtain ⟨v, hv, ry⟩ := rv2.get ey
  have lt : ∀ {c : Addr} {o : Obj}, s.heap.get? c = some o → c < s.heap.objs.size := fun e => Heap.lt_size e
  have n1 : i1 < s.heap.objs.size := by obtain ⟨_, e, _⟩ := st.a; exact lt e
  have n2 : i2 < s.heap.objs.size := by obtain ⟨_, e, _⟩ := st.b; exact lt e
  have lay : ∀ h', IsPair h' s.heap.objs.size u v → (∀ c o, c ∉ [z, TO, i1, i2] → s.heap.get? c = some o → h'.get? c = some o) → Inv X pins σ (upd H s.heap.objs.size (.tup [x, y])) { s with heap := h' } := fun h' hp k =>
    I.turnedNew (t' := s.toks) (ch := [z, TO, i1, i2]) k hf (Nat.le_refl _) (show ObjOk X.prog X.w _ _ _ (.tup [x, y]) from ⟨by show 2 ≤ sizeLine; decide, [u, v], .cons rx (.cons ry .nil), ⟨_, hp, rfl, _, rfl⟩⟩)
  have ti := st.ti
  have a := st.a
  have b := st.b
  rcases st.s with ⟨hz, a0, b0, hTO⟩ | ⟨T, f, oT, hz, hT, r1, r2, r3, r4⟩
  · have nz := lt hz
    have nTO := lt hTO
    refine wpAny_pyNext_zip_item D hz ti hTO a b p1.isList p2.isList (x := u) (y := v) (by simpa using hu) (by simpa using hv) fun h' a1 a2 a3 a4 a5 a6 hk => ?_
    have k : ∀ c o, c ∉ [z, TO, i1, i2] → s.heap.get? c = some o → h'.get? c = some o := fun c o hc e => hk c o (fun q => hc (by simp [q])) (fun q => hc (by simp [q])) (fun q => hc (by simp [q])) (fun q => hc (by simp [q])) e
    refine hQ h' (lay h' a5 k) ⟨hk _ _ D.TIz D.TITO D.TIi1 D.TIi2 ti, a3, a4, .inr ⟨s.heap.objs.size, false, _, a1, a5, Nat.ne_of_gt nz, Nat.ne_of_gt n1, Nat.ne_of_gt n2, Nat.ne_of_gt hS⟩⟩ k a6
  · have nz := lt hz
    refine wpAny_pyNext_zip_item_held D hz hT ti a b p1.isList p2.isList (x := u) (y := v) (by simpa using hu) (by simpa using hv) fun h' a1 a3 a4 a5 a6 hk => ?_
    have k : ∀ c o, c ∉ [z, TO, i1, i2] → s.heap.get? c = some o → h'.get? c = some o := fun c o hc e => hk c o (fun q => hc (by simp [q])) (fun q => hc (by simp [q])) (fun q => hc (by simp [q])) e
    refine hQ h' (lay h' a5 k) ⟨hk _ _ D.TIz D.TIi1 D.TIi2 ti, a3, a4, .inr ⟨T, true, oT, a1, hk _ _ r1 r2 r3 hT, r1, r2, r3, r4⟩⟩ k a6
theorem zl_end {E : Value → Shared → Prop} {Q : Option Value → Shared → Prop} {s : Shared} {H : Hp} {i : Nat} (hh : A.handled = none) (D : ZipApart z TI TO i1 i2 l1 l2) (I : Inv X pins σ H s) (hx : SqL X.K H l1 xs) (hy : SqL X.K H l2 ys) (st : ZSt z TI TO i1 i2 l1 l2 S i s.heap)
    (hf : ∀ b ∈ [z, TO, i1, i2], FpOk X pins H b) (he : xs[i]? = none ∨ ys[i]? = none)
    (hQ : ∀ h', Inv X pins σ H { s with heap := h' } → (∀ c o, c ∉ [z, TO, i1, i2] → s.heap.get? c = some o → h'.get? c = some o) → Q none { s with heap := h' }) : wpAny (model X.prog X.w) A (pyNext (.ref z)) Q E s := by
  obtain ⟨its, rv, p1, _⟩ := I.list hx
  obtain ⟨its2, rv2, p2, _⟩ := I.list hy
  have e1 := rv.length
  have e2 := rv2.length
  have hend : its.toArray[i]? = none ∨ its2.toArray[i]? = none := by
    rcases he with q | q
    · exact .inl (by simp; have := List.getElem?_eq_none_iff.mp q; omega)
    · exact .inr (by simp; have := List.getElem?_eq_none_iff.mp q; omega)
  rcases st.s with ⟨hz, a0, b0, hTO⟩ | ⟨T, f, oT, hz, hT, r1, r2, r3, r4⟩
  · refine wpAny_pyNext_zip_end hh D hz st.ti hTO st.a st.b p1.isList p2.isList hend fun h' hk => ?_
    have k : ∀ c o, c ∉ [z, TO, i1, i2] → s.heap.get? c = some o → h'.get? c = some o := fun c o hc e => hk c o (fun q => hc (by simp [q])) (fun q => hc (by simp [q])) (fun q => hc (by simp [q])) (fun q => hc (by simp [q])) e
    exact hQ h' (I.turnedL (t' := s.toks) (ch := [z, TO, i1, i2]) k hf) k
  · refine wpAny_pyNext_zip_end_held hh D hz hT st.ti st.a st.b p1.isList p2.isList hend fun h' hk => ?_
    have k : ∀ c o, c ∉ [z, TO, i1, i2] → s.heap.get? c = some o → h'.get? c = some o := fun c o hc e => hk c o (fun q => hc (by simp [q])) (fun q => hc (by simp [q])) (fun q => hc (by simp [q])) e
    exact hQ h' (I.turnedL (t' := s.toks) (ch := [z, TO, i1, i2]) k hf) k
theorem vals_snoc {xs : List V} {us : List Value} {x : V} {u : Value} (r : Vals xs us) (q : RelV x u) : Vals (xs ++ [x]) (us ++ [u]) := r.append (.cons q .nil)
theorem zl_loop {R : Result → Shared → Prop} {H0 : Hp} {n : Nat} (hh : A.handled = none) (D : ZipApart z TI TO i1 i2 l1 l2) (nS : z ≠ S ∧ TI ≠ S ∧ TO ≠ S ∧ i1 ≠ S ∧ i2 ≠ S) (hn : n = min xs.length ys.length) (hz : n ≤ sizeLine)
    (fz : ∀ b ∈ [z, TO, i1, i2], FpOk X pins H0 b) (fS : FpOk X pins H0 S) (base : Nat) (lz : ∀ b ∈ [z, TO, i1, i2], b < base) (lS : S < base)
    (hR : ∀ ts acc c H' s', NP H0 ts (xs.zip ys) H' → Vals ts acc → Inv X pins σ H' s' → s'.heap.get? S = some { cls := .type "list", dict := none, data := .seq acc.toArray c, slots := #[] } → H' S = none → R (.ok (.ret .none)) s') :
    ∀ (m i : Nat) (ts : List V) (acc : Array Value) (c : Nat) (s : Shared) (H : Hp), i + m = n → NP H0 ts ((xs.zip ys).take i) H → Vals ts acc.toList → Inv X pins σ H s → SqL X.K H l1 xs → SqL X.K H l2 ys → base ≤ s.heap.objs.size →
      ZSt z TI TO i1 i2 l1 l2 S i s.heap → (∀ b ∈ [z, TO, i1, i2], H b = none) → H S = none → s.heap.get? S = some { cls := .type "list", dict := none, data := .seq acc c, slots := #[] } →
      codeAny (model X.prog X.w) A (.builtin "list.extend.loop" ⟨[.ref S, .ref z, .none], []⟩) R s
  | 0, i, ts, acc, c, s, H, hi, np, hv, I, hx, hy, hb, st, uz, uS, hS => by
    have hf : ∀ b ∈ [z, TO, i1, i2], FpOk X pins H b := fun b hb' => ⟨uz b hb', (fz b hb').2⟩
    have hend : xs[i]? = none ∨ ys[i]? = none := by
      rcases Nat.le_total xs.length ys.length with h | h
      · exact .inl (List.getElem?_eq_none (by omega))
      · exact .inr (List.getElem?_eq_none (by omega))
    have htk : (xs.zip ys).take i = xs.zip ys := List.take_of_length_le (by rw [List.length_zip]; omega)
    rw [htk] at np
    refine codeAny_builtin F.entry_extend_loop ?_
    rw [Around.under_plainId F.plain_extend_loop _]
    show wpAny _ A.in1 (pyNext (.ref z) >>= _) _ _ s
    refine wpAny_bind (zl_end (A := A.in1) hh D I hx hy st hf hend fun h' I2 k => ?_)
    have hSn : S ∉ [z, TO, i1, i2] := by simp [nS.1.symm, nS.2.2.1.symm, nS.2.2.2.1.symm, nS.2.2.2.2.symm]
    have hS' := k S _ hSn hS
    exact wpAny_pure (hR ts acc.toList c H _ np hv I2 (by simpa using hS') uS)
  | m + 1, i, ts, acc, c, s, H, hi, np, hv, I, hx, hy, hb, st, uz, uS, hS => by
    have hf : ∀ b ∈ [z, TO, i1, i2], FpOk X pins H b := fun b hb' => ⟨uz b hb', (fz b hb').2⟩
    have lx : i < xs.length := by omega
    have ly : i < ys.length := by omega
    have ex := List.getElem?_eq_getElem lx
    have ey := List.getElem?_eq_getElem ly
    have hSn : S ∉ [z, TO, i1, i2] := by simp [nS.1.symm, nS.2.2.1.symm, nS.2.2.2.1.symm, nS.2.2.2.2.symm]
    have hac : acc.size = i := by
      have e1 := Vals.length hv
      have e2 := np.len
      rw [List.length_take, List.length_zip] at e2
      have e3 : acc.toList.length = acc.size := Array.length_toList
      omega
    have htk : (xs.zip ys).take (i + 1) = (xs.zip ys).take i ++ [(xs[i], ys[i])] := by
      rw [List.take_add_one, zip_get ex ey]; rfl
    refine codeAny_builtin F.entry_extend_loop ?_
    rw [Around.under_plainId F.plain_extend_loop _]
    show wpAny _ A.in1 (pyNext (.ref z) >>= _) _ _ s
    have nN : H s.heap.objs.size = none := I.hok.fresh (Nat.le_refl _)
    refine wpAny_bind (zl_next (A := A.in1) D I hx hy st hf ex ey (Nat.lt_of_lt_of_le lS hb) fun h' I1 st1 k hsz => ?_)
    have hS1 := k S _ hSn hS
    have uS1 : (upd H s.heap.objs.size (.tup [xs[i], ys[i]])) S = none := by rw [upd_ne (Nat.ne_of_lt (Nat.lt_of_lt_of_le lS hb))]; exact uS
    show wpAny _ A.in1 (updateSeq S (·.push (.ref s.heap.objs.size)) >>= _) _ _ _
    refine wpAny_bind ?_
    have upS := Heap.get?_update_self (Obj.mapSeq (·.push (Value.ref s.heap.objs.size))) hS1 rfl
    have sb : Heap.SameBut S h' (h'.update S (Obj.mapSeq (·.push (Value.ref s.heap.objs.size)))) := Heap.SameBut.update ..
    have I2 : Inv X pins σ (upd H s.heap.objs.size (.tup [xs[i], ys[i]])) { s with heap := h'.update S (Obj.mapSeq (·.push (Value.ref s.heap.objs.size))) } :=
      Inv.turnedL (s := { s with heap := h' }) (t' := s.toks) (ch := [S]) I1 (fun b o hb' e => sb.extBut b o (fun q => hb' (by simp [q])) e) (fun b hb' => by rw [List.mem_singleton.mp hb']; exact ⟨uS1, fS.2⟩)
    have np1 : NP H0 (ts ++ [.ref s.heap.objs.size]) ((xs.zip ys).take (i + 1)) (upd H s.heap.objs.size (.tup [xs[i], ys[i]])) := by rw [htk]; exact .snoc np nN
    have sm : Same H (upd H s.heap.objs.size (.tup [xs[i], ys[i]])) := same_up nN
    refine wpAny_updateSeq hS1 rfl (wpAny_pure ⟨plainId_quiet F.plain_extend_loop _, zl_loop hh D nS hn hz fz fS base lz lS hR m (i + 1) (ts ++ [.ref s.heap.objs.size]) (acc.push (.ref s.heap.objs.size)) _ _ _ (by omega) np1 ?_ I2 (same_sqL sm hx) (same_sqL sm hy) ?_ (st1.keep nS fun c o hc e => sb.extBut c o hc e) ?_ uS1 upS⟩)
      (by rw [hac]; omega) (by show (acc.push _).size ≤ sizeLine + 1; rw [Array.size_push, hac]; omega)
    · rw [Array.toList_push]; exact vals_snoc hv rfl
    · show base ≤ (h'.update S _).objs.size
      rw [sb.1, hsz]; omega
    · intro b hb'
      rw [upd_ne (Nat.ne_of_lt (Nat.lt_of_lt_of_le (lz b hb') hb))]
      exact uz b hb'
theorem call_listZip {E : Value → Shared → Prop} {Q : Value → Shared → Prop} {s : Shared} {H : Hp} (hh : A.handled = none) (D : ZipApart z TI TO i1 i2 l1 l2) (I : Inv X pins σ H s) (hx : SqL X.K H l1 xs) (hy : SqL X.K H l2 ys) (hz : min xs.length ys.length ≤ sizeLine)
    (hi : IsZip s.heap z TI TO .none) (ti : IsPair s.heap TI (.ref i1) (.ref i2)) (to : ∃ x y, IsPair s.heap TO x y) (a : s.heap.IsListIter i1 l1 0) (b : s.heap.IsListIter i2 l2 0) (fz : ∀ b ∈ [z, TO, i1, i2], FpOk X pins H b)
    (hQ : ∀ ts acc c H' s' S, NP H ts (xs.zip ys) H' → Vals ts acc → Inv X pins σ H' s' → s'.heap.get? S = some { cls := .type "list", dict := none, data := .seq acc.toArray c, slots := #[] } → ts.length ≤ sizeLine → H' S = none → FpOk X pins H' S → Q (.ref S) s') :
    wpAny (model X.prog X.w) A (call (.type "list") [.ref z]) Q E s := by
  obtain ⟨x0, y0, hTO⟩ := to
  have lt : ∀ {c : Addr} {o : Obj}, s.heap.get? c = some o → c < s.heap.objs.size := fun e => Heap.lt_size e
  have n1 : i1 < s.heap.objs.size := by obtain ⟨_, e, _⟩ := a; exact lt e
  have n2 : i2 < s.heap.objs.size := by obtain ⟨_, e, _⟩ := b; exact lt e
  have nz := lt hi
  have nTI := lt ti
  have nTO := lt hTO
  have nS : z ≠ s.heap.objs.size ∧ TI ≠ s.heap.objs.size ∧ TO ≠ s.heap.objs.size ∧ i1 ≠ s.heap.objs.size ∧ i2 ≠ s.heap.objs.size := ⟨Nat.ne_of_lt nz, Nat.ne_of_lt nTI, Nat.ne_of_lt nTO, Nat.ne_of_lt n1, Nat.ne_of_lt n2⟩
  refine callType_codes (Q₁ := fun obj s₁ => obj = .ref s.heap.objs.size ∧ s₁ = { s with heap := s.heap.push { cls := .type "list", data := .seq #[] } }) F.called_list (F.typeCall_list_1 _) F.entry_list_init
    (code_list_new _ ⟨rfl, rfl⟩) fun obj s₁ h₁ => ?_
  obtain ⟨rfl, rfl⟩ := h₁
  have hS : (s.heap.push { cls := .type "list", data := .seq #[] }).get? s.heap.objs.size = some { cls := .type "list", data := .seq #[] } := Heap.get?_push_size _ rfl
  refine ⟨⟨_, hS, rfl⟩, F.args_list_init_2 _ _, ?_⟩
  show wpAny _ A.in1.in1 (do let old ← Builtin.List.listItems (.ref s.heap.objs.size); Builtin.List.listUpdate (.ref s.heap.objs.size) (fun _ => #[]); letGo old.toList.reverse; Builtin.List.listExtendWith (.ref s.heap.objs.size) (.ref z) .none) _ _ _
  refine wpAny_bind ?_
  unfold Builtin.List.listItems
  refine wpAny_bind (wpAny_seqItems hS rfl (wpAny_pure ?_))
  show wpAny _ A.in1.in1 (updateSeq s.heap.objs.size (fun _ => #[]) >>= fun _ => letGo (#[] : Array Value).toList.reverse >>= fun _ => Builtin.List.listExtendWith (.ref s.heap.objs.size) (.ref z) .none) _ _ _
  refine wpAny_bind (wpAny_updateSeq hS rfl ?_)
  have hS2 := Heap.get?_update_self (Obj.mapSeq (fun _ => (#[] : Array Value))) hS rfl
  refine wpAny_bind (wpAny_letGo ?_)
  have oth1 : ∀ b o, b ≠ s.heap.objs.size → s.heap.get? b = some o → ((s.heap.push { cls := .type "list", data := .seq #[] }).update s.heap.objs.size (Obj.mapSeq (fun _ => (#[] : Array Value)))).get? b = some o :=
    fun b o hb e => (Heap.get?_update_other _ _ (Ne.symm hb)).trans (Heap.get?_push_of_some _ e)
  have hi1 := oth1 _ _ nS.1 hi
  have hTy : ∀ {s' : Shared}, IsZip s'.heap z TI TO .none → s'.TypeIs (.ref z) "zip" := fun h => ⟨_, h, rfl⟩
  unfold Builtin.List.listExtendWith
  refine wpAny_bind (wpAny_typeOf (hTy hi1) ?_)
  have h1 : Builtin.List.listSameRef (.ref s.heap.objs.size) (.ref z) = false := by simp [Builtin.List.listSameRef, Ne.symm nS.1]
  have h2 : (Value.type "zip" == Value.type "list") = false := by decide
  have h3 : (Value.type "zip" == Value.type "tuple") = false := by decide
  simp only [h1, h2, h3, Bool.or_false, Bool.false_eq_true, if_false]
  refine wpAny_bind (wpAny_pyIter_zip hi1 ?_)
  refine wpAny_bind (wpAny_holding ?_)
  unfold Builtin.List.listLengthHint
  refine wpAny_bind (wpAny_specialOf (hTy hi1) zip_no_len ?_)
  show wpAny _ A.in1.in1 (specialOf (Value.ref z) (Str.ofString "__length_hint__") >>= _) _ _ _
  refine wpAny_bind (wpAny_specialOf (hTy hi1) zip_no_hint ?_)
  refine wpAny_pure ?_
  show wpAny _ A.in1.in1 (rule "list.extend.makes-room" >>= fun _ => Builtin.List.listTouch (.ref s.heap.objs.size) >>= fun _ =>
    again (.builtin "list.extend.loop" ⟨[.ref s.heap.objs.size, .ref z, .none], []⟩)) _ _ _
  refine wpAny_bind (wpAny_rule ?_)
  refine wpAny_bind ?_
  show wpAny _ A.in1.in1 (updateSeq s.heap.objs.size (·.push .none) >>= fun _ => updateSeq s.heap.objs.size (·.pop)) _ _ _
  refine wpAny_bind (wpAny_updateSeq hS2 rfl ?_)
  have hS3 := Heap.get?_update_self (Obj.mapSeq (·.push Value.none)) hS2 rfl
  refine wpAny_updateSeq (hz := by seq_fits) hS3 rfl ?_
  have hS4 := Heap.get?_update_self (Obj.mapSeq (·.pop)) hS3 rfl
  have oth : ∀ b o, b ≠ s.heap.objs.size → s.heap.get? b = some o →
      ((((s.heap.push { cls := .type "list", data := .seq #[] }).update s.heap.objs.size (Obj.mapSeq (fun _ => (#[] : Array Value)))).update s.heap.objs.size (Obj.mapSeq (·.push Value.none))).update s.heap.objs.size (Obj.mapSeq (·.pop))).get? b = some o :=
    fun b o hb e => (Heap.get?_update_other _ _ (Ne.symm hb)).trans ((Heap.get?_update_other _ _ (Ne.symm hb)).trans (oth1 b o hb e))
  have I4 := I.kept (t' := s.toks) (h' := (((s.heap.push { cls := .type "list", data := .seq #[] }).update s.heap.objs.size (Obj.mapSeq (fun _ => (#[] : Array Value)))).update s.heap.objs.size (Obj.mapSeq (·.push Value.none))).update s.heap.objs.size (Obj.mapSeq (·.pop)))
    fun b o e => oth b o (Nat.ne_of_lt (Heap.lt_size e)) e
  have uS : H s.heap.objs.size = none := I.hok.fresh (Nat.le_refl _)
  have fS : FpOk X pins H s.heap.objs.size := I.fpOk (Nat.le_refl _) uS
  have lz : ∀ b ∈ [z, TO, i1, i2], b < s.heap.objs.size + 1 := fun c hc => by
    have e' : c = z ∨ c = TO ∨ c = i1 ∨ c = i2 := by simpa using hc
    rcases e' with q | q | q | q <;> (rw [q]; exact Nat.lt_succ_of_lt (by assumption))
  refine wpAny_pure ⟨plainId_quiet F.plain_extend_loop _, zl_loop (S := s.heap.objs.size) (n := min xs.length ys.length) (H0 := H) (A := A.in1) hh D nS rfl hz fz fS (s.heap.objs.size + 1) lz (Nat.lt_succ_self _) ?_ (min xs.length ys.length) 0 [] _ _ _ H (Nat.zero_add _) (by rw [List.take_zero]; exact .nil) .nil I4 hx hy ?_
    ⟨oth _ _ nS.2.1 ti, a.at fun o e => oth _ o nS.2.2.2.1 e, b.at fun o e => oth _ o nS.2.2.2.2 e, .inl ⟨oth _ _ nS.1 hi, x0, y0, oth _ _ nS.2.2.1 hTO⟩⟩ (fun b hb => (fz b hb).1) uS hS4⟩
  · intro ts acc c H' s' np hv I' hS' uS'
    exact ⟨rfl, hQ ts acc c H' s' _ np hv I' hS' (by rw [np.len, List.length_zip]; exact hz) uS' ⟨uS', fS.2⟩⟩
  · show s.heap.objs.size + 1 ≤ (Heap.update _ _ _).objs.size
    simp only [Heap.size_update, Heap.size_push]
    exact Nat.le_refl _
/-- an object of ours that stands already is tracked from here on -/
theorem inv_track {s : Shared} {H : Hp} {ob : HO} (I : Inv X pins σ H s) (f : FpOk X pins H S) (new : ObjOk X.prog X.w (upd H S ob) s.heap S ob) : Inv X pins σ (upd H S ob) s := by
  have hn : H S = none := f.1
  refine I.step (h' := s.heap) (t' := s.toks) (g' := s.gens) (d' := s.drawn) (ch := [S]) (fun b hb => ?_) (fun b o _ _ hc e _ => e) (fun b o _ _ hc e _ => ⟨o.slots, e⟩)
    (fun b o hc e n => ?_) (fun b o hc e => ⟨o, e⟩) (fun b xs e => ?_) (fun b o u e => ?_) (fun b ps e => ⟨#[], ?_⟩) (fun m hm => hm) (fun b u e => ?_) I.bare
  · rw [List.mem_singleton.mp hb]
    exact ⟨f.2.2.2.1, f.2.1, f.2.2.2.2.1, f.2.2.2.2.2⟩
  · rw [upd_ne (fun z => hc (by simp [z]))]; exact n
  · rw [upd_ne (ne_of_none e hn)]; exact e
  · rw [upd_ne (ne_of_none e hn)]; exact e
  · rw [upd_ne (ne_of_none e hn), e]; simp
  · by_cases hb : b = S
    · subst hb
      rw [upd_same] at e
      cases e
      exact new
    · rw [upd_ne hb] at e
      exact (I.hok b u e).stay (fun c v _ q => q) (fun c q => by rw [upd_ne (ne_of_none q hn)]; exact q) fun c xs q => by rw [upd_ne (ne_of_none q hn)]; exact q
end
def tListZip (K : PySem.W.Frag) (ta : TA) : TE := fun σ H Q => ta σ H fun vs H1 => ∃ a b xs ys, vs = [V.ref a, V.ref b] ∧ SqL K H1 a xs ∧ SqL K H1 b ys ∧ ∀ ts H2 l, NP H1 ts (xs.zip ys) H2 → H2 l = none → Q (.ref l) (upd H2 l (.lst ts))
section
variable {X : Cx}
theorem pe_listZip {e e2 : Expr} {ta : TA} {p0 pos p pos2 : Pos} (hc : X.calm = true) (hgs : Gl X "list") (hms : X.mg "list" = none) (hg : Gl X "zip") (hm : X.mg "zip" = none) (ha : PA X [e, e2] ta)
    (hs1 : starEach [.Call (.Name "zip" p) [e, e2] [] pos2] X.env = (false, eval (.Call (.Name "zip" p) [e, e2] [] pos2) X.env) :: starEach [] X.env := by rfl)
    (hp1 : (backTo pos (starEach [] X.env)).any (·.1) = false := by rfl)
    (hs : starEach [e, e2] X.env = (false, eval e X.env) :: starEach [e2] X.env := by rfl) (hpl : (backTo pos2 (starEach [e2] X.env)).any (·.1) = false := by rfl) :
    PE X (.Call (.Name "list" p0) [.Call (.Name "zip" p) [e, e2] [] pos2] [] pos) (tListZip X.K ta) := by
  refine ⟨fun pins s σ H Q I h => ?_⟩
  have hh : X.A.handled = none := I.ok.hd hc
  refine wpAny_Call_Name_kw (ld_blt I hgs hms (u := .type "list") (by decide +kernel) ?_)
  refine PyProof.Rows.callWith_type1 ?_ hs1 hp1
  rw [hs1]
  show wpAny _ _ (spliced ((false, eval (.Call (.Name "zip" p) [e, e2] [] pos2) X.env) :: backTo pos (starEach [] X.env))) _ _ s
  refine Calls.spliced_cons ?_
  refine Call_ (ld_blt I hg hm PyProof.Rows.boot_zip (PyProof.Rows.callWith_type1 (thn (ha.run pos2 pins s σ H _ I h) fun us s1 ⟨vs, H1, I1, r1, q1⟩ => ?_) hs hpl))
  obtain ⟨a, b, xs, ys, ex, hqx, hqy, q⟩ := q1
  subst ex
  cases r1 with
  | cons r rr =>
    cases rr with
    | cons r' rr =>
      cases rr
      cases r
      cases r'
      obtain ⟨its, rv, p1, zx⟩ := I1.list hqx
      obtain ⟨its2, rv2, p2, zy⟩ := I1.list hqy
      have l1 := rv.length
      refine call_zip_2 p1.isList p2.isList fun h' hz hTI hTO h1 h2 hsz hk => ?_
      have I2 : Inv X pins σ H1 { s1 with heap := h' } := I1.kept (t' := s1.toks) hk
      have fz : ∀ c ∈ [s1.heap.objs.size + 4, s1.heap.objs.size + 3, s1.heap.objs.size, s1.heap.objs.size + 1], FpOk X pins H1 c := fun c hcm => by
        have e' : c = s1.heap.objs.size + 4 ∨ c = s1.heap.objs.size + 3 ∨ c = s1.heap.objs.size ∨ c = s1.heap.objs.size + 1 := by simpa using hcm
        have hle : s1.heap.objs.size ≤ c := by
          rcases e' with z | z | z | z
          · rw [z]; exact Nat.le_add_right _ _
          · rw [z]; exact Nat.le_add_right _ _
          · rw [z]; exact Nat.le_refl _
          · rw [z]; exact Nat.le_add_right _ _
        exact I1.fpOk hle (I1.hok.fresh hle)
      refine Calls.spliced_nil ?_
      refine call_listZip (xs := xs) (ys := ys) hh (PySem.W.ktu_apart s1.heap.objs.size a b p1.lt p2.lt) I2 hqx hqy (by omega) hz hTI ⟨_, _, hTO⟩ h1 h2 fz fun ts acc c H' s' S np hv I' hS hlen hn hf => ?_
      have I3 : Inv X pins σ (upd H' S (.lst ts)) s' := inv_track I' hf (show ObjOk X.prog X.w _ _ _ (.lst ts) from ⟨hlen, acc, c, hv, by rw [hS]⟩)
      exact ⟨.ref S, _, I3, rfl, q ts H' S np hn⟩
end
end Sh
set_option Elab.async false
set_option linter.all false
set_option maxRecDepth 100000
set_option maxHeartbeats 4000000
namespace Sh
open PySem PySem.Spec PyProof.Rows L2
section
variable {K : PySem.W.Frag} {ρ : List En} {Ψ : Dt → List En → Prop} {Φ : Dt → Prop}
theorem rds_unsnoc {G : Hp} : ∀ {l : List Dt} {xs : List V} {x : V}, RDs K G l (xs ++ [x]) → ∃ l' d, l = l' ++ [d] ∧ RDs K G l' xs ∧ RD K G d x
  | [], xs, x, h => by
    have h' : xs ++ [x] = [] := h
    simp at h'
  | d :: l, [], x, ⟨y, r, e, h1, h2⟩ => by
    have e' : [x] = y :: r := e
    cases e'
    cases l with
    | nil => exact ⟨[], d, rfl, rfl, h1⟩
    | cons d' l =>
      obtain ⟨_, _, z, _⟩ := h2
      cases z
  | d :: l, z :: xs, x, ⟨y, r, e, h1, h2⟩ => by
    have e' : z :: (xs ++ [x]) = y :: r := e
    cases e'
    obtain ⟨l', d', e2, h3, h4⟩ := rds_unsnoc h2
    exact ⟨d :: l', d', by rw [e2]; rfl, ⟨z, xs, rfl, h1, h3⟩, h4⟩
theorem np_data {G H H2 : Hp} {ts : List V} {ps : List (V × V)} (np : NP H ts ps H2) : ∀ (l m : List Dt), Same G H → RDs K G l (ps.map (·.1)) → RDs K G m (ps.map (·.2)) → ∃ G', Nw G H G' H2 ∧ RDs K G' (zpD l m) ts := by
  induction np with
  | nil =>
    intro l m s h1 h2
    have e : l = [] := List.eq_nil_of_length_eq_zero (by have := h1.length; simpa using this.symm)
    subst e
    exact ⟨G, Nw.refl s, rfl⟩
  | @snoc H' ts ps T x y np n ih =>
    intro l m s h1 h2
    rw [List.map_append] at h1 h2
    obtain ⟨l', d, rfl, a1, a2⟩ := rds_unsnoc h1
    obtain ⟨m', e, rfl, b1, b2⟩ := rds_unsnoc h2
    obtain ⟨G1, nw, rd⟩ := ih l' m' s a1 b1
    obtain ⟨G2, nw2, rd2⟩ := nw_pair (K := K) nw.s n (a2.same nw.g) (b2.same nw.g)
    have len : l'.length = m'.length := by
      have q1 := a1.length
      have q2 := b1.length
      rw [List.length_map] at q1 q2
      omega
    refine ⟨G2, nw.trans nw2, ?_⟩
    have e3 : zpD (l' ++ [d]) (m' ++ [e]) = zpD l' m' ++ [.tup [d, e]] := by
      unfold zpD
      rw [List.zip_append len, List.map_append]; rfl
    rw [e3]
    exact (rd.same nw2.g).snoc rd2
theorem zip_fst {α β : Type} : ∀ {xs : List α} {ys : List β}, xs.length = ys.length → (xs.zip ys).map (·.1) = xs ∧ (xs.zip ys).map (·.2) = ys
  | [], [], _ => ⟨rfl, rfl⟩
  | x :: xs, y :: ys, h => by
    obtain ⟨h1, h2⟩ := zip_fst (xs := xs) (ys := ys) (by simpa using h)
    exact ⟨by rw [List.zip_cons_cons, List.map_cons, h1], by rw [List.zip_cons_cons, List.map_cons, h2]⟩
theorem ae_listZip {ta : TA} (h : AA K ta ρ fun ds ρ1 => ∃ l m, ds = [.lst l, .lst m] ∧ l.length = m.length ∧ Ψ (.lst (zpD l m)) ρ1) : AE K (tListZip K ta) ρ Ψ := fun B σ G H mm Q q =>
  h B σ G H mm _ fun vs ds ρ1 G1 H1 m1 s1 t1 r1 ⟨l, m, e, len, p⟩ => by
    subst e
    obtain ⟨x, y, rfl, ⟨a, xs, rfl, h1, h2⟩, ⟨b, ys, rfl, h3, h4⟩⟩ := r1.two
    refine ⟨a, b, xs, ys, rfl, SqL.of (m1.sub _ _ h1), SqL.of (m1.sub _ _ h3), fun ts H2 c np hc => ?_⟩
    have e1 := h2.length
    have e2 := h4.length
    obtain ⟨z1, z2⟩ := zip_fst (xs := xs) (ys := ys) (by omega)
    obtain ⟨G2, nw, rd⟩ := np_data (K := K) np l m m1.sub (by rw [z1]; exact h2) (by rw [z2]; exact h4)
    have nw2 := Nw.new (o := .lst ts) nw.s hc
    exact q (.ref c) (.lst (zpD l m)) ρ1 _ _ ((m1.nw nw).nw nw2) ((s1.trans nw.g).trans nw2.g) ((t1.trans (Tr.same nw.h)).trans (Tr.same nw2.h)) ⟨c, ts, rfl, upd_same, rd.same nw2.g⟩ p
end
end Sh
set_option Elab.async false
set_option linter.all false
set_option maxRecDepth 100000
set_option maxHeartbeats 4000000
/-! a range as a value, walked more than once -/
set_option Elab.async false
set_option linter.all false
set_option maxRecDepth 100000
set_option maxHeartbeats 4000000
/-! for x, y in zip(a, b), a and b lists or tuples in any mix -/
namespace Sh
open PySem PySem.Spec PyProof.Rows L2
def SqK (K : PySem.W.Frag) (k : Bool) (H : Hp) (a : Addr) (xs : List V) : Prop := match k with
  | true => SqT K H a xs
  | false => SqL K H a xs
def IsIt (k : Bool) (h : Heap) (i l : Addr) (n : Nat) : Prop := match k with
  | true => h.IsTupleIter i l n
  | false => h.IsListIter i l n
def IsSq (k : Bool) (h : Heap) (l : Addr) (its : Array Value) : Prop := match k with
  | true => h.IsTuple l its
  | false => h.IsList l its
theorem IsIt.at {k : Bool} {h h' : Heap} {i l : Addr} {n : Nat} (x : IsIt k h i l n) (e : ∀ o, h.get? i = some o → h'.get? i = some o) : IsIt k h' i l n := by
  cases k
  · exact Heap.IsListIter.at x e
  · exact Heap.IsTupleIter.at x e
theorem IsIt.obj {k : Bool} {h : Heap} {i l : Addr} {n : Nat} (x : IsIt k h i l n) : ∃ o, h.get? i = some o ∧ ∀ v, o.data ≠ .cell v := by
  cases k
  · obtain ⟨o, e, _, d⟩ := x
    exact ⟨o, e, fun v q => by rw [d] at q; cases q⟩
  · obtain ⟨o, e, _, d⟩ := x
    exact ⟨o, e, fun v q => by rw [d] at q; cases q⟩
theorem draws_k {prog : Program} {w : World} {A : Around} (hh : A.handled = none) (k : Bool) (it l : Addr) (hne : l ≠ it) (items : Array Value) :
    Draws prog w A it [it, l] items.size (fun i v => items[i]? = some v) (fun i h => IsIt k h it l i ∧ IsSq k h l items) := by
  cases k
  · exact Draws.list hh it l hne items
  · exact Draws.tuple hh it l hne items
theorem inv_sq {X : Cx} {pins : List (Addr × Obj)} {σ : L2.St} {H : Hp} {s : Shared} {k : Bool} {a : Addr} {xs : List V} (I : Inv X pins σ H s) (h : SqK X.K k H a xs) : ∃ its, Vals xs its ∧ IsSq k s.heap a its.toArray ∧ a < s.heap.objs.size ∧ xs.length ≤ sizeLine := by
  cases k
  · obtain ⟨its, rv, p, z⟩ := I.list h
    exact ⟨its, rv, p.isList, p.lt, z⟩
  · obtain ⟨its, rv, p, z⟩ := I.tuple h
    obtain ⟨o, ho, _⟩ := id p
    exact ⟨its, rv, p, Heap.lt_size ho, z⟩
theorem inv_inj {X : Cx} {pins : List (Addr × Obj)} {σ : L2.St} {H : Hp} {s : Shared} {k : Bool} {a : Addr} {xs ys : List V} (I : Inv X pins σ H s) (h : SqK X.K k H a xs) (h' : SqK X.K k H a ys) : xs = ys := by
  cases k
  · exact I.list_inj h h'
  · exact I.tuple_inj h h'
def ItzK (K : PySem.W.Frag) (k1 k2 : Bool) (a b : Addr) : It :=
  ⟨fun i H => ∃ (xs ys : List V) (x y : V), SqK K k1 H a xs ∧ SqK K k2 H b ys ∧ xs[i]? = some x ∧ ys[i]? = some y,
    fun i H v H' => ∃ T x y, v = .ref T ∧ H T = none ∧ H' = upd H T (.tup [x, y]) ∧ (∀ xs, SqK K k1 H a xs → xs[i]? = some x) ∧ ∀ ys, SqK K k2 H b ys → ys[i]? = some y,
    fun i H => ∃ xs ys : List V, SqK K k1 H a xs ∧ SqK K k2 H b ys ∧ i = min xs.length ys.length⟩
theorem turn_zipK {P : Program} {w : World} {K : PySem.W.Frag} {elts : List Expr} {kk : Nat} {tpos : Pos} {k1 k2 : Bool} {a b z TI TO i1 i2 : Addr} (S : ZipSep2 z TI TO i1 i2 [i1, a] [i2, b]) (na : a ≠ i1) (nb : b ≠ i2) :
    Turn P w K (.Tuple elts kk tpos) (ItzK K k1 k2 a b) [z, TI, TO, i1, i2] z (fun i h => IsZip h z TI TO .none ∧ IsTupOf2 h TI (.ref i1) (.ref i2) ∧ (∃ x y, IsTupOf2 h TO x y) ∧ IsIt k1 h i1 a i ∧ IsIt k2 h i2 b i) where
  mem := by simp
  obj := fun i h st c hc => by
    obtain ⟨hz, hTI, ⟨x, y, hTO⟩, h1, h2⟩ := st
    have e' : c = z ∨ c = TI ∨ c = TO ∨ c = i1 ∨ c = i2 := by simpa using hc
    rcases e' with q | q | q | q | q
    · rw [q]; exact ⟨_, hz, fun v q => nomatch q⟩
    · rw [q]; exact ⟨_, hTI, fun v q => nomatch q⟩
    · rw [q]; exact ⟨_, hTO, fun v q => nomatch q⟩
    · rw [q]; exact h1.obj
    · rw [q]; exact h2.obj
  keep := fun i h h' st k => by
    obtain ⟨hz, hTI, ⟨x, y, hTO⟩, h1, h2⟩ := st
    exact ⟨k z (by simp) _ hz, k TI (by simp) _ hTI, ⟨x, y, k TO (by simp) _ hTO⟩, h1.at fun o q => k i1 (by simp) o q, h2.at fun o q => k i2 (by simp) o q⟩
  item := by
    intro X hP hw hK hc i pins s σ H E I hf st hg
    subst hP hw hK
    obtain ⟨hz, hTI, hTO, h1, h2⟩ := st
    obtain ⟨xs, ys, x, y, hqx, hqy, hx, hy⟩ := hg
    obtain ⟨its, rv, p, la, _⟩ := inv_sq I hqx
    obtain ⟨its2, rv2, p2, lb, _⟩ := inv_sq I hqy
    obtain ⟨u, hu, ru⟩ := rv.get hx
    obtain ⟨u2, hu2, ru2⟩ := rv2.get hy
    have hh : X.A.in1.handled = none := I.ok.hd hc
    have W := GoesN.zip2 (prog := X.prog) (w := X.w) (A := X.A) (elts := elts) (x1 := kk) (pos := tpos) S (draws_k (A := X.A.in1) hh k1 i1 a na its.toArray) (draws_k (A := X.A.in1) hh k2 i2 b nb its2.toArray)
    have hlt : i < min its.toArray.size its2.toArray.size := by
      have e1 := (List.getElem?_eq_some_iff.mp hu).1
      have e2 := (List.getElem?_eq_some_iff.mp hu2).1
      simp only [List.size_toArray]
      omega
    refine W.goes i s _ _ hlt ⟨hz, hTI, hTO, ⟨h1, p⟩, ⟨h2, p2⟩⟩ fun v h' tk hY st' hk htk => ?_
    obtain ⟨T, u', u2', rfl, hT, e1, e2, tp⟩ := hY
    have e1' : u' = u := by
      have : some u' = some u := e1.symm.trans (by simpa using hu)
      cases this; rfl
    have e2' : u2' = u2 := by
      have : some u2' = some u2 := e2.symm.trans (by simpa using hu2)
      cases this; rfl
    subst e1' e2'
    have new : ObjOk X.prog X.w (upd H T (.tup [x, y])) h' T (.tup [x, y]) := ⟨by show 2 ≤ sizeLine; decide, [u', u2'], .cons ru (.cons ru2 .nil), tp⟩
    have I1 : Inv X pins σ (upd H T (.tup [x, y])) { s with heap := h', toks := tk } :=
      I.turnedNew (t' := tk) (ch := [z, TI, TO, i1, i2]) (fun c o hb q => hk c o (fun q' => hb (by
        have e' : c = z ∨ c = TO ∨ c = i1 ∨ c = i2 := by simpa using q'
        rcases e' with q | q | q | q <;> simp [q])) q) hf hT new
    obtain ⟨z', ti', to', ⟨a', _⟩, ⟨b', _⟩⟩ := st'
    refine ⟨.ref T, _, I1, rfl, ⟨_, x, y, rfl, I.hok.fresh hT, rfl, fun l hl => by rw [inv_inj I hl hqx]; exact hx, fun l hl => by rw [inv_inj I hl hqy]; exact hy⟩, ⟨z', ti', to', a', b'⟩, fun c hcm => ?_⟩
    obtain ⟨o, ho, _⟩ : ∃ o, s.heap.get? c = some o ∧ True := by
      obtain ⟨x0, y0, hTO⟩ := hTO
      have e' : c = z ∨ c = TI ∨ c = TO ∨ c = i1 ∨ c = i2 := by simpa using hcm
      rcases e' with q | q | q | q | q
      · rw [q]; exact ⟨_, hz, trivial⟩
      · rw [q]; exact ⟨_, hTI, trivial⟩
      · rw [q]; exact ⟨_, hTO, trivial⟩
      · rw [q]; obtain ⟨o, e, _⟩ := h1.obj; exact ⟨o, e, trivial⟩
      · rw [q]; obtain ⟨o, e, _⟩ := h2.obj; exact ⟨o, e, trivial⟩
    rw [upd_ne (Nat.ne_of_lt (Nat.lt_of_lt_of_le (Heap.lt_size ho) hT))]
    exact (hf c hcm).1
  done := by
    intro X hP hw hK hc i pins s σ H E I hf st hg
    subst hP hw hK
    obtain ⟨hz, hTI, hTO, h1, h2⟩ := st
    obtain ⟨xs, ys, hqx, hqy, hend⟩ := hg
    obtain ⟨its, rv, p, la, _⟩ := inv_sq I hqx
    obtain ⟨its2, rv2, p2, lb, _⟩ := inv_sq I hqy
    have hh : X.A.in1.handled = none := I.ok.hd hc
    have W := GoesN.zip2 (prog := X.prog) (w := X.w) (A := X.A) (elts := elts) (x1 := kk) (pos := tpos) S (draws_k (A := X.A.in1) hh k1 i1 a na its.toArray) (draws_k (A := X.A.in1) hh k2 i2 b nb its2.toArray)
    have e1 := rv.length
    have e2 := rv2.length
    have hi : i = min its.toArray.size its2.toArray.size := by
      simp only [List.size_toArray]
      rw [hend, e1, e2]
    subst hi
    exact W.stops s (fun s1 => Inv X pins σ H s1) _ ⟨hz, hTI, hTO, ⟨h1, p⟩, ⟨h2, p2⟩⟩ fun h' tk hk htk => I.turnedL (t' := tk) (ch := [z, TI, TO, i1, i2]) (fun c o hb q => hk c o (fun q' => hb (by
      have e' : c = z ∨ c = TO ∨ c = i1 ∨ c = i2 := by simpa using q'
      rcases e' with q | q | q | q <;> simp [q])) q) hf
  self := fun A i s Q E st h => wpAny_pyIter_zip st.1 h
def iZipK (K : PySem.W.Frag) (ta : TA) : TI := fun σ H R => ta σ H fun vs H1 => ∃ a b xs ys k1 k2, vs = [V.ref a, V.ref b] ∧ SqK K k1 H1 a xs ∧ SqK K k2 H1 b ys ∧ R (ItzK K k1 k2 a b) H1
theorem begins_k (k : Bool) (l : Addr) (items : Array Value) : ∃ o, Begins (.ref l) o (fun h => IsSq k h l items) ∧ ∀ (h : Heap) (i : Addr), h.get? i = some o → IsIt k h i l 0 := by
  cases k
  · exact ⟨_, begins_list l items, fun h i e => ⟨_, e, rfl, rfl⟩⟩
  · exact ⟨_, begins_tuple l items, fun h i e => ⟨_, e, rfl, rfl⟩⟩
theorem pi_zipK {X : Cx} {e e2 : Expr} {ta : TA} {p pos tpos : Pos} {elts : List Expr} {kk : Nat} (hg : Gl X "zip") (hm : X.mg "zip" = none) (ha : PA X [e, e2] ta)
    (hs : starEach [e, e2] X.env = (false, eval e X.env) :: starEach [e2] X.env := by rfl) (hpl : (backTo pos (starEach [e2] X.env)).any (·.1) = false := by rfl) :
    PI X (.Tuple elts kk tpos) (.Call (.Name "zip" p) [e, e2] [] pos) (iZipK X.K ta) := by
  refine ⟨fun pins s σ H R I h => ?_⟩
  refine Call_ (ld_blt I hg hm PyProof.Rows.boot_zip (PyProof.Rows.callWith_type1 (thn (ha.run pos pins s σ H _ I h) fun us s1 ⟨vs, H1, I1, r1, q1⟩ => ?_) hs hpl))
  obtain ⟨a, b, xs, ys, k1, k2, ex, hqx, hqy, q⟩ := q1
  subst ex
  cases r1 with
  | cons r rr =>
    cases rr with
    | cons r' rr =>
      cases rr
      cases r
      cases r'
      obtain ⟨its, rv, p1, la, _⟩ := inv_sq I1 hqx
      obtain ⟨its2, rv2, p2, lb, _⟩ := inv_sq I1 hqy
      obtain ⟨o1, B1, it1⟩ := begins_k k1 a its.toArray
      obtain ⟨o2, B2, it2⟩ := begins_k k2 b its2.toArray
      refine zip_begins2 B1 B2 p1 p2 fun h' hz hTI hTO h1 h2 hsz hk => wpAny_pyIter_zip hz ?_
      have I2 : Inv X pins σ H1 { s1 with heap := h' } := I1.kept (t' := s1.toks) hk
      have fresh5 : ∀ c, c ∈ [s1.heap.objs.size + 4, s1.heap.objs.size + 2, s1.heap.objs.size + 3, s1.heap.objs.size, s1.heap.objs.size + 1] → FpOk X pins H1 c := fun c hcm => by
        have e' : c = s1.heap.objs.size + 4 ∨ c = s1.heap.objs.size + 2 ∨ c = s1.heap.objs.size + 3 ∨ c = s1.heap.objs.size ∨ c = s1.heap.objs.size + 1 := by simpa using hcm
        have hle : s1.heap.objs.size ≤ c := by
          rcases e' with z | z | z | z | z
          · rw [z]; exact Nat.le_add_right _ _
          · rw [z]; exact Nat.le_add_right _ _
          · rw [z]; exact Nat.le_add_right _ _
          · rw [z]; exact Nat.le_refl _
          · rw [z]; exact Nat.le_add_right _ _
        exact I1.fpOk hle (I1.hok.fresh hle)
      have S := zip_sep2 (N := s1.heap.objs.size) (fp1 := [a]) (fp2 := [b]) (fun c hc => by rw [List.mem_singleton.mp hc]; exact la) (fun c hc => by rw [List.mem_singleton.mp hc]; exact lb)
      exact ⟨s1.heap.objs.size + 4, [s1.heap.objs.size + 4, s1.heap.objs.size + 2, s1.heap.objs.size + 3, s1.heap.objs.size, s1.heap.objs.size + 1], _, _, H1, rfl, I2, turn_zipK S (Nat.ne_of_lt la) (Nat.ne_of_lt (Nat.lt_succ_of_lt lb)), ⟨hz, hTI, ⟨_, _, hTO⟩, it1 _ _ h1, it2 _ _ h2⟩, fresh5, q⟩
section
variable {K : PySem.W.Frag} {ρ : List En}
theorem sqK_of {G H : Hp} (s : Same G H) {k : Bool} {l : List Dt} {x : V} (r : RD K G (sq k l) x) : ∃ a xs, x = .ref a ∧ SqK K k G a xs ∧ RDs K G l xs := by
  cases k
  · obtain ⟨a, xs, e, h1, h2⟩ := r
    exact ⟨a, xs, e, SqL.of h1, h2⟩
  · obtain ⟨a, xs, e, h1, h2⟩ := r
    exact ⟨a, xs, e, h1, h2⟩
theorem same_sqK {H H' : Hp} {k : Bool} {a : Addr} {xs : List V} (e : Same H H') (h : SqK K k H a xs) : SqK K k H' a xs := by
  cases k
  · exact same_sqL e h
  · exact same_sqT e h
theorem wj_zipK {k1 k2 : Bool} {a b : Addr} {xs ys : List V} {l m : List Dt} {G : Hp} (h : SqK K k1 G a xs) (h' : SqK K k2 G b ys) (r : RDs K G l xs) (r' : RDs K G m ys) : Wj K (ItzK K k1 k2 a b) (zpD l m) G := by
  have e := r.length
  have e' := r'.length
  have el : (zpD l m).length = min xs.length ys.length := by rw [zpD_len, e, e']
  refine ⟨fun i H hi s => ?_, fun H s => ⟨xs, ys, same_sqK s h, same_sqK s h', el⟩, fun i G1 H x H' hi s1 s2 y => ?_⟩
  · rw [el] at hi
    have h1 : i < xs.length := by omega
    have h2 : i < ys.length := by omega
    exact ⟨xs, ys, xs[i], ys[i], same_sqK s h, same_sqK s h', List.getElem?_eq_getElem h1, List.getElem?_eq_getElem h2⟩
  · obtain ⟨T, u, v, rfl, nT, rfl, f1, f2⟩ := y
    obtain ⟨d1, g1, q1⟩ := r.back (f1 xs (same_sqK s2 (same_sqK s1 h)))
    obtain ⟨d2, g2, q2⟩ := r'.back (f2 ys (same_sqK s2 (same_sqK s1 h')))
    obtain ⟨G', n, rd⟩ := nw_pair s2 nT (q1.same s1) (q2.same s1)
    exact ⟨G', _, n, zpD_get g1 g2, rd⟩
theorem ai_zipK {ta : TA} {Θ : List Dt → List En → Prop} (h : AA K ta ρ fun ds ρ1 => ∃ k1 k2 l m, ds = [sq k1 l, sq k2 m] ∧ Θ (zpD l m) ρ1) : AI K (iZipK K ta) ρ Θ := fun B σ G H mm Rr q =>
  h B σ G H mm _ fun vs ds ρ1 G1 H1 m1 s1 t1 r1 ⟨k1, k2, l, m, e, p⟩ => by
    subst e
    obtain ⟨x, y, rfl, r2, r3⟩ := r1.two
    obtain ⟨a, xs, rfl, h1, h2⟩ := sqK_of m1.sub r2
    obtain ⟨b, ys, rfl, h3, h4⟩ := sqK_of m1.sub r3
    exact ⟨a, b, xs, ys, k1, k2, rfl, same_sqK m1.sub h1, same_sqK m1.sub h3, q _ _ ρ1 G1 H1 m1 s1 t1 (wj_zipK h1 h3 h2 h4) p⟩
end
end Sh
set_option Elab.async false
set_option linter.all false
set_option maxRecDepth 100000
set_option maxHeartbeats 4000000
/-! for t in zip(a, b), and for x, y in zip(*t); a and b lists or tuples in any mix -/
set_option Elab.async false
set_option linter.all false
set_option maxRecDepth 100000
set_option maxHeartbeats 4000000
/-! sum of ints, slices of tuples, a list times an int that will change, an item set at any place, tuple + tuple -/
namespace Sh
open PySem PySem.Spec PyProof.Rows L2
section
variable {K : PySem.W.Frag} {ρ : List En} {N : List En → Prop} {R : Dt → List En → Prop} {Φ : Dt → Prop} {Ψ : Dt → List En → Prop}
theorem cutD_all {l : List Dt} {lo hi : Option Int} (h : HT.sIx l.length 0 lo = 0 ∧ HT.sIx l.length l.length hi = l.length) : cutD l lo hi = l := by
  unfold cutD
  rw [h.1, h.2, List.drop_zero, Nat.sub_zero, List.take_of_length_le (Nat.le_refl _)]
theorem ae_slT {te : TE} {tl th : TO} (h : AE K te ρ fun d ρ1 => ∃ l, d = .tup l ∧ AO K tl ρ1 fun lo ρ2 => AO K th ρ2 fun hi ρ3 => Ψ (.tup (cutD l lo hi)) ρ3) : AE K (tSl (rSlA K) te tl th) ρ Ψ := fun B σ G H m Q q =>
  h B σ G H m _ fun v d ρ1 G1 H1 m1 s1 t1 r1 ⟨l, ed, h1⟩ => h1 B σ G1 H1 m1 _ fun lo ρ2 G2 H2 m2 s2 t2 h2 => h2 B σ G2 H2 m2 _ fun hi ρ3 G3 H3 m3 s3 t3 k => by
    subst ed
    obtain ⟨p, xs, rfl, hp, r⟩ := r1
    have hp3 := same_sqT s3 (same_sqT s2 hp)
    refine ⟨p, xs, rfl, same_sqT m3.sub hp3, fun w => ?_, fun _ p' hp' => ?_⟩
    · rw [r.length] at w
      have k : Ψ (.tup (cutD l lo hi)) ρ3 := k
      rw [cutD_all w] at k
      exact q _ (.tup l) ρ3 _ _ m3 ((s1.trans s2).trans s3) ((t1.trans t2).trans t3) ⟨p, xs, rfl, hp3, r.same (s2.trans s3)⟩ k
    · have nw := Nw.new (o := .tup (cutV xs lo hi)) m3.sub hp'
      exact q _ (.tup (cutD l lo hi)) ρ3 _ _ (m3.nw nw) (((s1.trans s2).trans s3).trans nw.g) (((t1.trans t2).trans t3).trans (Tr.same nw.h)) ⟨p', _, rfl, SqT.of upd_same, ((r.same (s2.trans s3)).cut).same nw.g⟩ k
end
end Sh
set_option Elab.async false
set_option linter.all false
set_option maxRecDepth 100000
set_option maxHeartbeats 4000000
/-! tuple + tuple -/
set_option Elab.async false
set_option linter.all false
set_option maxRecDepth 100000
set_option maxHeartbeats 4000000
/-! enumerate of a tuple; xs.pop(i), list(e) as a list of one's own, its length -/
namespace Sh
open PySem PySem.Spec PyProof.Rows L2
abbrev enObj (it : Addr) : Obj := { cls := .type "enumerate", data := .fields #[.none, .bool false, .ref it, rawInt 0, .none, .none] }
abbrev tiObj (t : Addr) : Obj := { cls := .type "tuple_iterator", data := .fields #[.ref t, .int 0 0] }
theorem en_new (t : Addr) (its : Array Value) : Meets (Builtin.«enumerate.__new__» ⟨[.type "enumerate", .ref t], []⟩) fun _ R s =>
    s.heap.IsTuple t its ∧ R (.ok (.ret (.ref (s.heap.push (tiObj t)).objs.size))) { s with heap := (s.heap.push (tiObj t)).push (enObj s.heap.objs.size) } := by
  refine .of_wp fun pr wo A R s h => ?_
  obtain ⟨hp, ge, dr, tk, sy⟩ := s
  obtain ⟨ht, fin⟩ := h
  have is_sub := sub_enumerate
  have go : ∀ {A' : Around} {Ex : Value → Shared → Prop} {Qv : Value → Shared → Prop}, Qv (.ref hp.objs.size) ⟨hp.push (tiObj t), ge, dr, tk, sy⟩ → wpAny (model pr wo) A' (pyIter (.ref t)) Qv Ex ⟨hp, ge, dr, tk, sy⟩ :=
    fun q => wpAny_pyIter_tuple (s := ⟨hp, ge, dr, tk, sy⟩) ht q
  wp_walk using go
  refine wpAny_stack_any fun k => wpAny_pure ?_
  split
  · rename_i c _ _ _ _ _
    cases (c == Value.type "enumerate") <;> (wp_walk using go; exact ⟨_, rfl, fin⟩)
  · wp_walk using go
    exact ⟨_, rfl, fin⟩
section
variable {prog : Program} {w : World} {A : Around} {E : Value → Shared → Prop} {s : Shared}
theorem call_en {t : Addr} {its : Array Value} {Q : Value → Shared → Prop} (ht : s.heap.IsTuple t its)
    (q : ∀ h', IsEnum h' (s.heap.objs.size + 1) s.heap.objs.size 0 .none → h'.IsTupleIter s.heap.objs.size t 0 → (∀ b o, s.heap.get? b = some o → h'.get? b = some o) → Q (.ref (s.heap.objs.size + 1)) { s with heap := h' }) :
    wpAny (model prog w) A (call (.type "enumerate") [.ref t]) Q E s := by
  refine callType_new F.called_enumerate (by decide) (F.typeCall_enumerate_1 _) (F.newCall_enumerate_1 _) (fun o => F.args_object_init_2 o _) F.entry_enumerate_new (en_new t its) ⟨ht, ?_⟩
  have sz : (s.heap.push (tiObj t)).objs.size = s.heap.objs.size + 1 := Heap.size_push ..
  show _ ∧ _
  rw [sz]
  have e1 : ((s.heap.push (tiObj t)).push (enObj s.heap.objs.size)).get? (s.heap.objs.size + 1) = some (enObj s.heap.objs.size) := by
    have z := Heap.get?_push_size (s.heap.push (tiObj t)) (o := enObj s.heap.objs.size) rfl
    rwa [sz] at z
  exact ⟨⟨_, e1, rfl⟩, q _ e1 ⟨_, Heap.get?_push_of_some _ (Heap.get?_push_size _ rfl), rfl, rfl⟩ fun b o z => Heap.get?_push_of_some _ (Heap.get?_push_of_some _ z)⟩
end
/-- the tuple at a, each item in a new pair -/
def ItT (K : PySem.W.Frag) (a : Addr) : It :=
  ⟨fun i H => ∃ (xs : List V) (x : V), SqT K H a xs ∧ xs[i]? = some x, fun i H v H' => ∃ T x, v = .ref T ∧ H T = none ∧ H' = upd H T (.tup [.int (i : Nat), x]) ∧ ∀ xs, SqT K H a xs → xs[i]? = some x,
    fun i H => ∃ xs : List V, SqT K H a xs ∧ xs.length ≤ i⟩
theorem turn_en {P : Program} {w : World} {K : PySem.W.Frag} {es : List Expr} {k : Nat} {tp : Pos} (a e it : Addr) :
    Turn P w K (.Tuple es k tp) (ItT K a) [e, it] e (fun i h => (∃ old, IsEnum h e it ((i : Nat) : Int) old) ∧ h.IsTupleIter it a i ∧ e ≠ it) where
  mem := List.mem_cons_self
  obj := fun i h st b hb => by
    obtain ⟨⟨old, he⟩, ⟨o, ho, hc, hd⟩, _⟩ := st
    rcases List.mem_cons.mp hb with rfl | hb
    · exact ⟨_, he, fun v q => nomatch q⟩
    · cases List.mem_singleton.mp hb
      exact ⟨o, ho, fun v q => by rw [hd] at q; cases q⟩
  keep := fun i h h' st k => by
    obtain ⟨⟨old, he⟩, hit, hne⟩ := st
    exact ⟨⟨old, k e List.mem_cons_self _ he⟩, hit.at fun o q => k it (by simp) o q, hne⟩
  item := by
    intro X hP hw hK hc i pins s σ H E I hf st hg
    subst hP hw hK
    obtain ⟨⟨old, he⟩, hit, hne⟩ := st
    obtain ⟨xs, x, hq, hx⟩ := hg
    obtain ⟨its, rv, p, _⟩ := I.tuple hq
    obtain ⟨u, hu, ru⟩ := rv.get hx
    have le : e < s.heap.objs.size := Heap.lt_size he
    have li : it < s.heap.objs.size := by
      obtain ⟨_, q, _⟩ := hit
      exact Heap.lt_size q
    have ea : a ≠ e := fun z => by
      obtain ⟨o, ho, hcl, _⟩ := id p
      rw [z, he] at ho
      cases ho
      exact absurd (Value.type.inj hcl) (by decide)
    have ia : a ≠ it := fun z => by
      obtain ⟨o, ho, hcl, _⟩ := id p
      obtain ⟨o', ho', hcl', _⟩ := id hit
      rw [z, ho'] at ho
      cases ho
      rw [hcl'] at hcl
      exact absurd hcl (by decide)
    have ht : s.heap.IsTuple a its.toArray := p
    have hi : i < its.toArray.size := by
      rw [List.size_toArray]
      exact (List.getElem?_eq_some_iff.mp hu).1
    refine wpAny_pyNext_enum_itemD (Draws.tuple (A := X.A.in1) (I.ok.hd hc) it a ia its.toArray) he ⟨hit, ht⟩ hi hne (fun z => ?_) fun x' h' tk hP ho hs' hT _ kp => ?_
    · rcases List.mem_cons.mp z with z | z
      · exact hne z
      · exact ea (List.mem_singleton.mp z).symm
    · have ux : x' = u := by
        have z : its[i]? = some x' := by simpa using hP
        rw [hu] at z
        exact (Option.some.inj z).symm
      subst ux
      refine ⟨_, rfl, wpAny_letOwnedTupleGo_enum (s := { s with heap := h', toks := tk + 1 }) ho fun h2 he2 sb => ?_⟩
      have hT2 := (sb.2 _ (Nat.ne_of_gt le)).trans hT
      have new : ObjOk X.prog X.w (upd H s.heap.objs.size (.tup [.int (i : Nat), x])) h2 s.heap.objs.size (.tup [.int (i : Nat), x]) :=
        ⟨by show 2 ≤ sizeLine; decide, [.int i tk, x'], .cons ⟨_, rfl⟩ (.cons ru .nil), ⟨_, hT2, rfl, _, rfl⟩⟩
      have J : Inv X pins σ (upd H s.heap.objs.size (.tup [.int (i : Nat), x])) { s with heap := h2, toks := tk + 1 } :=
        I.turnedNew (ch := [e, it]) (fun b o nb q => (sb.2 b fun z => nb (by rw [z]; exact List.mem_cons_self)).trans (kp b o (fun z => nb (by rw [z]; exact List.mem_cons_self)) (fun z => nb (by rw [z]; simp)) q)) hf (Nat.le_refl _) new
      refine ⟨.ref s.heap.objs.size, _, J, rfl, ⟨_, x, rfl, I.hok.fresh (Nat.le_refl _), rfl, fun l hl => by rw [I.tuple_inj hl hq]; exact hx⟩, ⟨⟨x', ?_⟩, hs'.1.at fun o q => (sb.2 it hne.symm).trans q, hne⟩, fun b hb => ?_⟩
      · have e1 : ((i + 1 : Nat) : Int) = (i : Int) + 1 := by omega
        rw [e1]
        exact he2
      · have lt : b < s.heap.objs.size := by
          rcases List.mem_cons.mp hb with rfl | hb
          · exact le
          · cases List.mem_singleton.mp hb
            exact li
        rw [upd_ne (Nat.ne_of_lt lt)]
        exact (hf b hb).1
  done := by
    intro X hP hw hK hc i pins s σ H E I hf st hg
    subst hP hw hK
    obtain ⟨⟨old, he⟩, hit, hne⟩ := st
    obtain ⟨xs, hq, hx⟩ := hg
    obtain ⟨its, rv, p, _⟩ := I.tuple hq
    have ia : a ≠ it := fun z => by
      obtain ⟨o, ho, hcl, _⟩ := id p
      obtain ⟨o', ho', hcl', _⟩ := id hit
      rw [z, ho'] at ho
      cases ho
      rw [hcl'] at hcl
      exact absurd hcl (by decide)
    obtain ⟨f0, f1, f2, f3, f4, f5⟩ := hf it (by simp)
    have hl := rv.length
    have ht : s.heap.IsTuple a its.toArray := p
    have D0 := Draws.tuple (prog := X.prog) (w := X.w) (A := X.A.in1) (I.ok.hd hc) it a ia its.toArray
    have D : Draws X.prog X.w X.A.in1 it [it, a] 0 (fun _ _ => True) (fun _ h => h.IsTupleIter it a i ∧ h.IsTuple a its.toArray) :=
      ⟨fun _ h st => D0.live i h st, fun _ h h' st k => D0.frame i h h' st k, fun j s Q E hj => absurd hj (Nat.not_lt_zero j), fun s Q E st hE => wpAny_nextOf_tuple_end (I.ok.hd hc) st.1 st.2 (by simp; omega) hE⟩
    exact wpAny_pyNext_enum_endD D he ⟨hit, ht⟩ fun h' eb => ⟨rfl, I.turned (t' := s.toks) (fun b o hb q => eb b o hb q) f0 f1 f3 f4 f5⟩
  self := fun A i s Q E st h => by
    obtain ⟨⟨_, he⟩, _⟩ := st
    exact wpAny_pyIter_enum he h
def iEnT (K : PySem.W.Frag) (ta : TA) : TI := fun σ H R => ta σ H fun vs H1 => ∃ a xs, vs = [.ref a] ∧ SqT K H1 a xs ∧ R (ItT K a) H1
theorem pi_enT {X : Cx} {e : Expr} {ta : TA} {p pos tp : Pos} {es : List Expr} {k : Nat} (hg : Gl X "enumerate") (hm : X.mg "enumerate" = none) (ha : PA X [e] ta) (hs : starEach [e] X.env = [(false, eval e X.env)] := by rfl) :
    PI X (.Tuple es k tp) (.Call (.Name "enumerate" p) [e] [] pos) (iEnT X.K ta) := by
  refine ⟨fun pins s σ H R I h => Call_ (ld_blt I hg hm boot_enumerate (PyProof.Rows.callWith_type1 (thn (ha.run pos pins s σ H _ I h) fun us s1 ⟨vs, H1, I1, r1, a, xs, ex, hq, q⟩ => ?_) hs rfl))⟩
  subst ex
  obtain ⟨u, rfl, ru⟩ := vals1 r1
  obtain rfl : u = .ref a := ru
  obtain ⟨its, rv, p', hz⟩ := I1.tuple hq
  refine call_en (show s1.heap.IsTuple a its.toArray from p') fun h' he hit kp => wpAny_pyIter_enum he ?_
  have I2 : Inv X pins σ H1 { s1 with heap := h' } := I1.kept (t' := s1.toks) kp
  refine ⟨s1.heap.objs.size + 1, [s1.heap.objs.size + 1, s1.heap.objs.size], _, _, H1, rfl, I2, turn_en a (s1.heap.objs.size + 1) s1.heap.objs.size, ⟨⟨.none, he⟩, hit, Nat.succ_ne_self _⟩, fun b hb => ?_, q⟩
  have le : s1.heap.objs.size ≤ b := by
    rcases List.mem_cons.mp hb with rfl | hb
    · exact Nat.le_succ _
    · cases List.mem_singleton.mp hb
      exact Nat.le_refl _
  exact I1.fpOk le (I1.hok.fresh le)
theorem walk_enT {K : PySem.W.Frag} {a : Addr} {xs : List V} : Walk (ItT K a) xs.length (fun H => SqT K H a xs) (YPair (fun i => some (.int (i : Nat))) (fun i => xs[i]?)) := by
  refine ⟨fun i _ hi q => ⟨xs, xs[i], q, List.getElem?_eq_getElem hi⟩, fun _ q => ⟨xs, q, Nat.le_refl _⟩, fun i H v H' _ q y => ?_⟩
  obtain ⟨T, x, z1, z2, z3, z4⟩ := y
  exact ⟨T, .int (i : Nat), x, z1, z2, z3, rfl, z4 xs q⟩
section
variable {K : PySem.W.Frag} {ρ : List En} {N : List En → Prop} {R : Dt → List En → Prop} {Ψ : Dt → List En → Prop}
theorem wj_enT {a : Addr} {xs : List V} {l : List Dt} {G : Hp} (h : SqT K G a xs) (r : RDs K G l xs) : Wj K (ItT K a) (enD l) G := by
  have e := r.length
  have w := walk_enT (K := K) (a := a) (xs := xs)
  have el : (enD l).length = xs.length := by rw [enD_len, e]
  refine ⟨fun i H hi s => w.goes i H (by rw [el] at hi; exact hi) (same_sqT s h), fun H s => by rw [el]; exact w.stops H (same_sqT s h), fun i G1 H x H' hi s1 s2 y => ?_⟩
  obtain ⟨T, u, v, rfl, nT, rfl, f1, f2⟩ := w.yields i H x H' (by rw [el] at hi; exact hi) (same_sqT s2 (same_sqT s1 h)) y
  cases f1
  obtain ⟨d2, g2, q2⟩ := r.back f2
  obtain ⟨G', n, rd⟩ := nw_pair (K := K) (d := .int ((i : Nat) : Int)) s2 nT rfl (q2.same s1)
  exact ⟨G', _, n, enD_get g2, rd⟩
theorem ai_enT {ta : TA} {Θ : List Dt → List En → Prop} (h : AA K ta ρ fun ds ρ1 => ∃ l, ds = [.tup l] ∧ Θ (enD l) ρ1) : AI K (iEnT K ta) ρ Θ := fun B σ G H mm Rr q =>
  h B σ G H mm _ fun vs ds ρ1 G1 H1 m1 s1 t1 r1 ⟨l, e, p⟩ => by
    subst e
    obtain ⟨x, rfl, ⟨a, xs, rfl, h1, h2⟩⟩ := r1.one
    exact ⟨a, xs, rfl, same_sqT m1.sub h1, q _ _ ρ1 G1 H1 m1 s1 t1 (wj_enT h1 h2) p⟩
end
end Sh
set_option Elab.async false
set_option linter.all false
set_option maxRecDepth 100000
set_option maxHeartbeats 4000000
/-! repr of data: what it takes, how long it gets; a def that may ask for it -/
namespace Sh
open PySem PySem.Spec PyProof.Rows L2
mutual
def Dt.okR : Dt → Bool
  | .non => true | .bl _ => true
  | .int i => decide (i.natAbs.log2 < 1920)
  | .tup l => okRs l | .lst l => okRs l
  | _ => false
def okRs : List Dt → Bool
  | [] => true
  | d :: l => d.okR && okRs l
end
mutual
def Dt.rl : Dt → Nat
  | .int _ => 1921
  | .tup l => rls l + 3 | .lst l => rls l + 3
  | _ => 5
def rls : List Dt → Nat
  | [] => 0
  | d :: l => d.rl + 2 + rls l
end
mutual
def Dt.hgt : Dt → Nat
  | .tup l => hgts l + 1 | .lst l => hgts l + 1
  | _ => 0
def hgts : List Dt → Nat
  | [] => 0
  | d :: l => max d.hgt (hgts l)
end
theorem tuple_len (ts : List Str) : (tupleText ts).length ≤ piled ts + 3 := by
  unfold tupleText
  by_cases h : ts = []
  · subst h; decide
  · have := join_length_add ts h
    rw [Str.length_append, Str.length_append]
    have e1 : ("(" : Str).length = 1 := rfl
    have e2 : (if ts.length == 1 then ",)" else ")" : String) = ",)" ∨ (if ts.length == 1 then ",)" else ")" : String) = ")" := by split <;> simp
    rcases e2 with e2 | e2
    · rw [e2]; have : (Str.ofString ",)").length = 2 := rfl; show ("(" : Str).length + (Str.join ", " ts).length + (Str.ofString ",)").length ≤ _; omega
    · rw [e2]; have : (Str.ofString ")").length = 1 := rfl; show ("(" : Str).length + (Str.join ", " ts).length + (Str.ofString ")").length ≤ _; omega
theorem from_len : ∀ (ts : List Str) (k : Nat) (acc : Str), (textFrom k acc ts).length ≤ acc.length + piled ts
  | [], k, acc => by show acc.length ≤ _; omega
  | t :: ts, k, acc => by
    have h := from_len ts (k + 1) (acc ++ (if k > 0 then ", " else "" : String) ++ t)
    rw [piled_cons]
    rw [Str.length_append, Str.length_append] at h
    have e : (Str.ofString (if k > 0 then ", " else "" : String)).length ≤ 2 := by split <;> decide
    show (textFrom (k + 1) (acc ++ (if k > 0 then ", " else "" : String) ++ t) ts).length ≤ _
    have h' : (textFrom (k + 1) (acc ++ (if k > 0 then ", " else "" : String) ++ t) ts).length ≤ acc.length + (Str.ofString (if k > 0 then ", " else "" : String)).length + t.length + piled ts := h
    omega
theorem list_len (ts : List Str) : (listText ts).length ≤ piled ts + 2 := by
  unfold listText
  rw [Str.length_append]
  have := from_len ts 0 "["
  have e1 : ("[" : Str).length = 1 := rfl
  have e2 : ("]" : Str).length = 1 := rfl
  omega
mutual
theorem lay_okR : ∀ d : Dt, d.okR = true → d.pd.canLay0 = true ∧ d.pd.showable = true ∧ d.pl = true ∧ d.pd.depth ≤ d.hgt
  | .non, _ => ⟨rfl, rfl, rfl, Nat.le_refl _⟩
  | .bl _, _ => ⟨rfl, rfl, rfl, Nat.le_refl _⟩
  | .int i, h => ⟨rfl, h, rfl, Nat.le_refl _⟩
  | .tup l, h => by
    obtain ⟨a, b, c, e⟩ := lays_okR l h
    exact ⟨a, b, c, Nat.succ_le_succ e⟩
  | .lst l, h => by
    obtain ⟨a, b, c, e⟩ := lays_okR l h
    exact ⟨a, b, c, Nat.succ_le_succ e⟩
theorem lays_okR : ∀ l : List Dt, okRs l = true → PyData.canLayAll0 (pds l) = true ∧ PyData.showableAll (pds l) = true ∧ pls l = true ∧ PyData.depthAll (pds l) ≤ hgts l
  | [], _ => ⟨rfl, rfl, rfl, Nat.le_refl _⟩
  | d :: l, h => by
    have h' : (d.okR && okRs l) = true := h
    rw [Bool.and_eq_true] at h'
    obtain ⟨a1, b1, c1, e1⟩ := lay_okR d h'.1
    obtain ⟨a2, b2, c2, e2⟩ := lays_okR l h'.2
    refine ⟨?_, ?_, ?_, ?_⟩
    · show (d.pd.canLay0 && PyData.canLayAll0 (pds l)) = true
      rw [a1, a2]; rfl
    · show (d.pd.showable && PyData.showableAll (pds l)) = true
      rw [b1, b2]; rfl
    · show (d.pl && pls l) = true
      rw [c1, c2]; rfl
    · show max d.pd.depth (PyData.depthAll (pds l)) ≤ max d.hgt (hgts l)
      omega
end
/-- what may be shown, and compared -/
structure ShOk (d : Dt) : Prop where
  ok : d.okR = true
  hg : d.hgt ≤ 64
  ln : d.rl ≤ 16000000
theorem ShOk.shaped {d : Dt} (h : ShOk d) : SeqAt.shaped d.pd = true := by
  show (d.pd.canLay0 && decide (d.pd.depth ≤ 64)) = true
  obtain ⟨a, _, _, e⟩ := lay_okR d h.ok
  rw [a, decide_eq_true (Nat.le_trans e h.hg)]; rfl
/-- as FnOk, where the surroundings show nothing -/
structure FnG (P : Program) (w : World) (K : PySem.W.Frag) (mg : Str → Option Value) (base : Heap) (k : Nat) (g : Addr) (gd : FuncData) (names : List Str) (sp : Sp) : Prop where
  len : ∀ us H Q E, sp us H Q E → us.length = names.length
  go : ∀ (B : Around) (out : List Env) (s : Shared) (H : Hp) (args : Args) (ws : List Value) (us : List V) (Q : VK) (E : XK), Room k B → B.guards = some [] → Env0 P w K mg base B out s H →
    BindsTo s gd args (names.zip ws) → Vals us ws → sp us H Q E → codeAny (model P w) B (.call (.ref g) args) (CR CX0 out P w H s Q E) s
theorem FnG.of {P : Program} {w : World} {K : PySem.W.Frag} {mg : Str → Option Value} {base : Heap} {k : Nat} {g : Addr} {gd : FuncData} {names : List Str} {sp : Sp} (F : FnOk P w K mg base CX0 k g gd names sp) : FnG P w K mg base k g gd names sp :=
  ⟨F.len, fun B out s H args ws us Q E r _ e b v h => F.run B out s H args ws us Q E r e b v h⟩
section
variable {P : Program} {w : World} {K : PySem.W.Frag} {mg : Str → Option Value} {base : Heap}
/-- the rule for a def of the text -/
theorem okG {x q : Str} {st : Stmt} {g : Addr} {gd : FuncData} {N names : List Str} {k : Nat} {sp : Sp} (F : Fun K x q st g gd) (sc : FnScope N names (defScope st)) (len : ∀ us H Q E, sp us H Q E → us.length = names.length)
    (hb : ∀ (cv : Value) (B : Around) (out : List Env) (s : Shared) (H : Hp) (us : List V) (Q : VK) (E : XK), Room k (B.deeper (envOfC q (defScope st) s.heap.objs.size g cv)) → (B.deeper (envOfC q (defScope st) s.heap.objs.size g cv)).guards = some [] → sp us H Q E →
      ∃ t, PSs (cxOf CX0 P w K mg base N q (defScope st) g cv B out s H E).nox (defBody st) t ∧ t { nx := fun _ H' => Q .non H', rt := Q } (start N us) H) : FnG P w K mg base (k + 1) g gd names sp := by
  obtain ⟨oc, od, kV, doc, pm, an, cv, ct, osl, rfl, look, hcode⟩ := F.ex
  refine ⟨len, fun B out s H args ws us Q E room gu e0 bnd rel hsp => ?_⟩
  have nu := len _ _ _ _ hsp
  have hK : K.In s.heap := e0.mod.kin.keeps fun b o z => (e0.bs b o z).1
  have hL : s.heap.NoLimit := e0.mod.nolimit.keeps fun b o z => (e0.bs b o z).1
  have kinds : ∀ z ∈ names.zip ws, (defScope st).names.lookup z.1 = some .local ∨ ((defScope st).names.lookup z.1 = some .cell ∧ ((cellsFrom (s.heap.objs.size + 1) (defScope st).names []).lookup z.1).isSome = true) := by
    rintro ⟨n, v⟩ hz
    exact (sc.par n (List.of_mem_zip hz).1).elim .inl fun c => .inr ⟨c, PySem.W.cellsFrom_some _ _ _ (.inl c)⟩
  refine codeAny_call_function room.depth (hK _ _ look) rfl sc.co sc.gen rfl (PySem.W.codeRec_of hK hcode) (bnd _ _ _ _ ?_)
  refine wpAny_newFunctionEnv_cells sc.kind kinds fun env hev s1 fresh => ?_
  subst hev
  refine ⟨hL.keeps fresh.toInCall.keep, codeAny_func ?_⟩
  obtain ⟨t, body, reads⟩ := hb cv B out s H us Q E (room.deeper _) gu hsp
  have J := inv_start (CX := CX0) (E := E) sc room.hd e0 nu rel fresh
  refine wpAny_mono (body.nox.run [] s1 (start N us) H _ J reads) (fun fl s' hs => ?_) fun e s' hs => hs
  cases fl with
  | ret u => exact let ⟨v, σ', H', J', rv, qv⟩ := hs; ⟨v, H', J'.os, J'.bare, J'.base, J'.hok, rv, qv⟩
  | next => exact let ⟨σ', H', J', qv⟩ := hs; ⟨V.non, H', J'.os, J'.bare, J'.base, J'.hok, rfl, qv⟩
  | brk => exact let ⟨_, _, _, qv⟩ := hs; False.elim qv
  | cont => exact let ⟨_, _, _, qv⟩ := hs; False.elim qv
end
/-! ### repr of data -/
section
variable {X : Cx}
def rRepr (K : PySem.W.Frag) : List V → Hp → VK → Prop := fun xs H Q => ∃ (a : Addr) (d : PyData), xs = [.ref a] ∧ Dp K H (.ref a) d ∧ SeqAt.shaped d = true ∧ d.showable = true ∧ d.shown.length ≤ sizeLine ∧ Q (.str d.shown) H
theorem call_repr (hg : X.A.guards = some []) (hu : X.A.units + 200 < cLine) : CallR X (.builtin "repr") (rRepr X.K) := by
  intro pins s σ H xs us Q I r h
  obtain ⟨a, d, rfl, hd, hs, hsh, hz, q⟩ := h
  obtain ⟨u, rfl, ru⟩ := vals1 r
  obtain rfl : u = .ref a := ru
  obtain ⟨as, rd⟩ := Dp.reads I d (.ref a) (.ref a) hd rfl
  have dep := SeqAt.depth_of_shaped hs
  refine repr_of_reads' rd hsh (PyData.noDict_hsm (PyData.hasDict_of_canLay d (SeqAt.canLay_of_shaped hs))) hg (by omega) (fun _ _ e => e) (fun h' v tk k => ⟨.str d.shown, H, I.kept k, ⟨_, rfl⟩, q⟩) hz
/-- a call of such a def -/
theorem pe_callG {x : Str} {k : Nat} {g : Addr} {gd : FuncData} {names : List Str} {sp : Sp} {e : Expr} {es : List Expr} {t : TA} {p pos : Pos} (F : FnG X.prog X.w X.K X.mg X.base k g gd names sp) (hr : Room k X.A) (gu : X.A.guards = some []) (hgl : Gl X x) (hm : X.mg x = some (.ref g))
    (kp : PySem.W.keepIn X.K (.ref g) = true) (hb : Binds X.K gd names []) (hx : Passes CX0 X E0) (ha : PA X (e :: es) t) (hdb : (x == ("__debug__" : Str)) = false := by decide)
    (he : starEach (e :: es) X.env = (false, eval e X.env) :: starEach es X.env := by rfl) (hpl : (backTo pos (starEach es X.env)).any (·.1) = false := by rfl) : PE X (.Call (.Name x p) (e :: es) [] pos) (tCall sp [] E0 t) := by
  refine ⟨fun pins s σ H Q I h => wpAny_Call_Name_kw (ld_glob I hgl hm ?_ hdb)⟩
  refine PySem.W.callWith_K (h₀ := X.base) I.ok.mod.kin kp (thn (ha.run pos pins s σ H _ I h) fun ws s1 ⟨us, H1, I1, rel, hq⟩ => ⟨I1.kIn, ?_⟩) he hpl
  have hq' : sp us H1 Q E0 := by simpa using hq
  have nw : (ws ++ []).length = names.length := by rw [List.append_nil, ← rel.length]; exact F.len _ _ _ _ hq'
  refine wpAny_call (codeAny_mono (F.go X.A X.stack s1 H1 ⟨ws, []⟩ (ws ++ []) us Q E0 hr gu I1.env0 (hb s1 ws I1.kIn nw) (by rw [List.append_nil]; exact rel) hq') fun r s' z => ?_)
  cases r with
  | error v => exact hx pins σ H1 s1 v s' I1 z
  | ok fl =>
    cases fl with
    | ret u => exact I1.after z
    | next => exact False.elim z
    | brk => exact False.elim z
    | cont => exact False.elim z
end
section
variable {K : PySem.W.Frag} {Φ : Dt → Prop}
theorem ar_neText {s : Str} (h : Φ (.bl false)) : AR K rNe (.str s) (.str s) Φ := ar_ne3 ⟨rfl, rfl, rfl⟩ (by rw [decide_eq_true rfl]; exact h)
end
section
variable {P : Program} {w : World} {K : PySem.W.Frag} {mg : Str → Option Value} {base : Heap}
/-- a def that draws and may ask for repr -/
theorem okBG {x qual : Str} {st : Stmt} {f : Addr} {fd : FuncData} {N ps : List Str} {k n : Nat} {dom : List Dt → Prop} {post : List Dt → Dt → Prop} (F : Fun K x qual st f fd) (sc : FnScope N ps (defScope st)) (len : ∀ ds, dom ds → ds.length + 1 = ps.length)
    (body : ∀ (cdv : Value) (A : Around) (outer : List Env) (s : Shared) (H : Hp) (E : XK), Room k (A.deeper (envOfC qual (defScope st) s.heap.objs.size f cdv)) → (A.deeper (envOfC qual (defScope st) s.heap.objs.size f cdv)).guards = some [] → ∀ ds, dom ds →
      ∃ t, PSs (cxOf CX0 P w K mg base N qual (defScope st) f cdv A outer s H E).nox (defBody st) t ∧ ∀ (b : Addr) (F : Nat), AS K t (envB N b (F + n) ds) (fun ρ => post ds .non ∧ ∃ f, ρ[0]? = some (.bx b f) ∧ F ≤ f) (fun d ρ => post ds d ∧ ∃ f, ρ[0]? = some (.bx b f) ∧ F ≤ f)) : FnG P w K mg base (k + 1) f fd ps (spB K n dom post) := by
  refine okG F sc (fun vs H Q E h => ?_) (fun cdv A outer s H vs Q E hr gu h => ?_)
  · obtain ⟨G, ds, b, us, y, c, F', rfl, sm, hb, c0, c1, gb, rd, hd, _⟩ := h
    rw [List.length_cons, rd.length]; exact len ds hd
  · obtain ⟨G, ds, b, us, y, c, F', rfl, sm, hb, c0, c1, gb, rd, hd, q⟩ := h
    obtain ⟨t, ht, ha⟩ := body cdv A outer s H E hr gu ds hd
    refine ⟨t, ht, ha b F' _ _ G H (mt_startB sm rd hb c0 c1 gb) _ (fun σ' ρ' G' H' m' s' t' e => ?_) (fun v d σ' ρ' G' H' m' s' t' rv e => ?_)⟩
    all_goals
      obtain ⟨hp, f', he, hf⟩ := e
      have nb : Nb b G H G' H' := ⟨s', m'.sub, fun a o ne e => by
          cases z : G a with
          | none => exact t' a o ⟨some_ne e, z, ne⟩ e
          | some o' => rw [sm _ _ z] at e; cases e; exact m'.sub _ _ (s' _ _ z), fun a h1 h2 => by
          by_cases w : a = b
          · subst w
            obtain ⟨_, _, _, _, _, _, z, _⟩ := m'.bx 0 a f' he
            exact z
          · exact (m'.pro a ⟨h2, h1, w⟩).1⟩
      obtain ⟨y', c', w1, w2, w3, w4, w5, w6⟩ := m'.bx 0 b f' he
    · exact q .non .non G' H' y' c' nb w2 w3 (by omega) rfl hp
    · exact q v d G' H' y' c' nb w2 w3 (by omega) rv hp
end
end Sh
set_option Elab.async false
set_option linter.all false
set_option maxRecDepth 100000
set_option maxHeartbeats 4000000
/-! repr of data with texts in it, and of what is no list -/
namespace Sh
open PySem PySem.Spec PyProof.Rows L2
mutual
def Dt.okT : Dt → Bool
  | .non => true | .bl _ => true
  | .int i => decide (i.natAbs.log2 < 1920)
  | .str s => PyData.strOk s && decide (s.length ≤ 1925)
  | .tup l => okTs l | .lst l => okTs l
  | .ty _ => false
def okTs : List Dt → Bool
  | [] => true
  | d :: l => d.okT && okTs l
end
mutual
def Dt.tl : Dt → Nat
  | .tup l => tls l + 19255 | .lst l => tls l + 19255
  | _ => 19255
def tls : List Dt → Nat
  | [] => 0
  | d :: l => d.tl + 2 + tls l
end
theorem txt_len {s : Str} (h : PyData.strOk s = true) : (reprText s).length ≤ 10 * s.length + 2 := StrLaws.reprText_len s fun c hc => by
  have h' : s.cps.all (· < 0x110000) = true := h
  rw [Array.all_eq_true'] at h'
  have := of_decide_eq_true (h' c (Array.mem_toList_iff.mp hc))
  have e : (0x110000 : Nat) ≤ 16 ^ 8 := by decide
  omega
mutual
theorem shown_tl : ∀ d : Dt, d.okT = true → d.pd.shown.length ≤ d.tl
  | .non, _ => by show ("None" : Str).length ≤ 19255; decide +kernel
  | .bl true, _ => by show ("True" : Str).length ≤ 19255; decide +kernel
  | .bl false, _ => by show ("False" : Str).length ≤ 19255; decide +kernel
  | .int i, h => Nat.le_trans (int_text_len_1921 (of_decide_eq_true h)) (by show 1921 ≤ 19255; decide)
  | .str s, h => by
    obtain ⟨h1, h2⟩ := Bool.and_eq_true_iff.mp (show (PyData.strOk s && decide (s.length ≤ 1925)) = true from h)
    have a := txt_len h1
    have b := of_decide_eq_true h2
    show (reprText s).length ≤ 19255
    omega
  | .tup l, h => by
    have h1 := showns_tl l h
    have h2 := tuple_len (PyData.shownAll (pds l))
    show (tupleText (PyData.shownAll (pds l))).length ≤ tls l + 19255
    omega
  | .lst l, h => by
    have h1 := showns_tl l h
    have h2 := list_len (PyData.shownAll (pds l))
    show (listText (PyData.shownAll (pds l))).length ≤ tls l + 19255
    omega
theorem showns_tl : ∀ l : List Dt, okTs l = true → piled (PyData.shownAll (pds l)) ≤ tls l
  | [], _ => Nat.le_refl _
  | d :: l, h => by
    have h' : (d.okT && okTs l) = true := h
    rw [Bool.and_eq_true] at h'
    have h1 := shown_tl d h'.1
    have h2 := showns_tl l h'.2
    show piled (d.pd.shown :: PyData.shownAll (pds l)) ≤ d.tl + 2 + tls l
    rw [piled_cons]
    omega
end
mutual
theorem lay_okT : ∀ d : Dt, d.okT = true → d.pd.canLay0 = true ∧ d.pd.showable = true ∧ d.pl = true ∧ d.pd.depth ≤ d.hgt
  | .non, _ => ⟨rfl, rfl, rfl, Nat.le_refl _⟩
  | .bl _, _ => ⟨rfl, rfl, rfl, Nat.le_refl _⟩
  | .int i, h => ⟨rfl, h, rfl, Nat.le_refl _⟩
  | .str s, h => ⟨(Bool.and_eq_true_iff.mp (show (PyData.strOk s && decide (s.length ≤ 1925)) = true from h)).1, rfl, rfl, Nat.le_refl _⟩
  | .tup l, h => by
    obtain ⟨a, b, c, e⟩ := lays_okT l h
    exact ⟨a, b, c, Nat.succ_le_succ e⟩
  | .lst l, h => by
    obtain ⟨a, b, c, e⟩ := lays_okT l h
    exact ⟨a, b, c, Nat.succ_le_succ e⟩
theorem lays_okT : ∀ l : List Dt, okTs l = true → PyData.canLayAll0 (pds l) = true ∧ PyData.showableAll (pds l) = true ∧ pls l = true ∧ PyData.depthAll (pds l) ≤ hgts l
  | [], _ => ⟨rfl, rfl, rfl, Nat.le_refl _⟩
  | d :: l, h => by
    have h' : (d.okT && okTs l) = true := h
    rw [Bool.and_eq_true] at h'
    obtain ⟨a1, b1, c1, e1⟩ := lay_okT d h'.1
    obtain ⟨a2, b2, c2, e2⟩ := lays_okT l h'.2
    refine ⟨?_, ?_, ?_, ?_⟩
    · show (d.pd.canLay0 && PyData.canLayAll0 (pds l)) = true
      rw [a1, a2]; rfl
    · show (d.pd.showable && PyData.showableAll (pds l)) = true
      rw [b1, b2]; rfl
    · show (d.pl && pls l) = true
      rw [c1, c2]; rfl
    · show max d.pd.depth (PyData.depthAll (pds l)) ≤ max d.hgt (hgts l)
      omega
end
structure ShT (d : Dt) : Prop where
  ok : d.okT = true
  hg : d.hgt ≤ 64
  ln : d.tl ≤ 16000000
theorem ShT.shaped {d : Dt} (h : ShT d) : SeqAt.shaped d.pd = true := by
  show (d.pd.canLay0 && decide (d.pd.depth ≤ 64)) = true
  obtain ⟨a, _, _, e⟩ := lay_okT d h.ok
  rw [a, decide_eq_true (Nat.le_trans e h.hg)]; rfl
section
variable {X : Cx}
def rReprT (K : PySem.W.Frag) : List V → Hp → VK → Prop := fun xs H Q => ∃ (x : V) (d : PyData), xs = [x] ∧ Dp K H x d ∧ (∀ n, x ≠ .ty n) ∧ SeqAt.shaped d = true ∧ d.showable = true ∧ d.shown.length ≤ sizeLine ∧ Q (.str d.shown) H
theorem call_reprT (hg : X.A.guards = some []) (hu : X.A.units + 200 < cLine) : CallR X (.builtin "repr") (rReprT X.K) := by
  intro pins s σ H xs us Q I r h
  obtain ⟨x, d, rfl, hd, nt, hs, hsh, hz, q⟩ := h
  cases hd with
  | non =>
    obtain ⟨u, rfl, ru⟩ := vals1 r
    cases ru
    exact PySem.P.repr_of_none ⟨.str _, H, I.tok _, ⟨_, rfl⟩, q⟩
  | int i =>
    obtain ⟨u, rfl, ru⟩ := vals1 r
    obtain ⟨t, rfl⟩ := ru
    exact PySem.P.repr_of_int (of_decide_eq_true hsh) ⟨.str _, H, I.tok _, ⟨_, rfl⟩, q⟩
  | str z =>
    obtain ⟨u, rfl, ru⟩ := vals1 r
    obtain ⟨t, rfl⟩ := ru
    exact PySem.P.repr_of_str ⟨.str _, H, I.tok _, ⟨_, rfl⟩, q⟩ hz
  | bl b =>
    obtain ⟨u, rfl, ru⟩ := vals1 r
    cases ru
    exact PySem.P.repr_of_bool ⟨.str _, H, I.tok _, ⟨_, by cases b <;> rfl⟩, q⟩
  | _ => exact call_repr hg hu pins s σ H _ us Q I r ⟨_, _, rfl, (by first | exact .tup (by assumption) (by assumption) | exact .lst (by assumption) (by assumption)), hs, hsh, hz, q⟩
end
section
variable {K : PySem.W.Frag} {Φ : Dt → Prop}
theorem ac_reprT {d : Dt} (h : ShT d) (q : Φ (.str d.pd.shown)) : AC K (rReprT K) [d] Φ := fun G H s vs r Q qq => by
  obtain ⟨x, rfl, rd⟩ := r.one
  obtain ⟨a, b, c, e2⟩ := lay_okT d h.ok
  refine ⟨x, d.pd, rfl, rd.dp s c, fun n z => ?_, h.shaped, b, by have := shown_tl d h.ok; have := h.ln; rw [sizeLine_eq]; omega, qq _ (.str d.pd.shown) G H (Nw.refl s) rfl q⟩
  subst z
  cases d with
  | ty m => cases c
  | tup l => obtain ⟨_, _, e, _⟩ := rd; cases e
  | lst l => obtain ⟨_, _, e, _⟩ := rd; cases e
  | _ => cases rd
end
end Sh
set_option Elab.async false
set_option linter.all false
set_option maxRecDepth 100000
set_option maxHeartbeats 4000000
/-! a starred item of a list display; a field of an object as one of several targets -/
namespace Sh
open PySem PySem.Spec PyProof.Rows L2
section
variable {K : PySem.W.Frag} {ρ : List En} {ΨA : List Dt → List En → Prop}
theorem aa_star {te : TE} {ta : TA} (h : AE K te ρ fun d ρ1 => ∃ k l, d = sq k l ∧ AA K ta ρ1 fun ds ρ2 => ΨA (l ++ ds) ρ2) : AA K (StX.tStar K te ta) ρ ΨA := fun B σ G H m Q q =>
  h B σ G H m _ fun v d ρ1 G1 H1 m1 s1 t1 r1 ⟨k, l, e, p⟩ => by
    subst e
    obtain ⟨a, xs, rfl, h1, h2⟩ := sqK_of m1.sub r1
    refine ⟨a, xs, rfl, ?_, p B σ G1 H1 m1 _ fun ys ds ρ2 G2 H2 m2 s2 t2 r2 p2 => q (xs ++ ys) (l ++ ds) ρ2 G2 H2 m2 (s1.trans s2) (t1.trans t2) ((h2.same s2).app r2) p2⟩
    have z := same_sqK m1.sub h1
    cases k
    · exact .inr z
    · exact .inl z
end
section
variable {X : Cx}
def gFld (K : PySem.W.Frag) (ta : TE) (f : Str) : TG := fun v σ H Q => ta σ H fun x H1 => ∃ a C dx fs, x = V.ref a ∧ H1 a = some (.ins C dx fs) ∧ Cls K C ∧ NoAttr K C f ∧ fs.length < 1000 ∧ Q σ (upd H1 a (.ins C dx (putF f v fs)))
theorem pg_fld {o : Expr} {ta : TE} {f : Str} {pos : Pos} (ha : PE X o ta)
    (form : ∀ v, assign (.Attribute o f pos) X.env v = (do
      let ov ← holding [v] (eval o X.env)
      standAt pos.atName
      holding [v, ov] (setAttr ov f v)
      release [v, ov] []) := by intro _; rfl) : PG X (.Attribute o f pos) (gFld X.K ta f) := by
  refine ⟨fun pins s σ H v u Q I r h => ?_⟩
  rw [form]
  refine wpAny_bind (wpAny_holding (thn (ha.run pins s σ H _ I h) fun ov s1 ⟨x, H1, I1, r1, a, C, dx, fs, e, ea, c, n, l, q⟩ => ?_))
  subst e
  obtain rfl : ov = Value.ref a := r1
  refine wpAny_bind (wpAny_standAt (wpAny_bind (wpAny_holding (setattr_ok I1 ea c n l r fun s2 I2 => ?_))))
  exact wpAny_release ⟨σ, _, I2, q⟩
end
end Sh
set_option Elab.async false
set_option linter.all false
set_option maxRecDepth 100000
set_option maxHeartbeats 4000000
/-! namings as data (k37) -/
namespace Sh
open PySem PySem.Spec PyProof.Rows L2
def wholeB : Dt → Bool | .int _ => true | _ => false
def strB : Dt → Bool | .str _ => true | _ => false
def nonB : Dt → Bool | .non => true | _ => false
def toI : Dt → Int | .int i => i | _ => 0
theorem all_whole : ∀ {l : List Dt}, l.all wholeB = true → l = (l.map toI).map Dt.int
  | [], _ => rfl
  | d :: l, h => by
    obtain ⟨h1, h2⟩ := Bool.and_eq_true_iff.mp (show (wholeB d && l.all wholeB) = true from h)
    have := all_whole h2
    cases d with
    | int i => exact congrArg _ this
    | _ => cases h1
def loC (cs : List Int) (i : Nat) : Option Int := if i = 0 then none else cs[i - 1]?
def hiC (cs : List Int) (i : Nat) : Option Int := (cs[i]?).map fun c => c - 1
def cellB (lo hi : Option Int) (m : Int) (r : Nat) (d : Dt) : Bool := if nonB (voD lo hi m (r : Int)) then nonB d else strB d
def cellsB (lo hi : Option Int) (m : Int) : Nat → List Dt → Bool
  | _, [] => true
  | r, d :: l => cellB lo hi m r d && cellsB lo hi m (r + 1) l
def rowB (lo hi : Option Int) (m : Int) : Dt → Bool
  | .tup l => decide ((l.length : Int) = m) && cellsB lo hi m 0 l
  | _ => false
def rowsB (cs : List Int) (m : Int) : Nat → List Dt → Bool
  | _, [] => true
  | i, d :: l => rowB (loC cs i) (hiC cs i) m d && rowsB cs m (i + 1) l
def ascB : List Int → Bool
  | a :: b :: l => decide (a < b) && ascB (b :: l)
  | _ => true
def tupB : Dt → Bool | .tup _ => true | _ => false
def tupL : Dt → List Dt | .tup l => l | _ => []
def nam3 (c m n : Dt) : Bool := tupB c && ((tupL c).all wholeB && (ascB ((tupL c).map toI) && (wholeB m && (decide (1 ≤ toI m) && (tupB n && (decide ((tupL n).length = (tupL c).length + 1) && rowsB ((tupL c).map toI) (toI m) 0 (tupL n)))))))
def namB : Dt → Bool
  | .tup [c, m, n] => nam3 c m n
  | _ => false
theorem cut_1 (l : List Dt) : cutD l (some 1) none = l.drop 1 := by
  unfold cutD
  cases l with
  | nil => simp
  | cons d l =>
    have e1 : HT.sIx (d :: l).length 0 (some 1) = 1 := by
      unfold HT.sIx
      simp
      try omega
    have e2 : HT.sIx (d :: l).length (d :: l).length none = (d :: l).length := rfl
    rw [e1, e2]
    refine List.take_of_length_le ?_
    simp
theorem toI_ints (xs : List Int) : (xs.map Dt.int).map toI = xs := by
  rw [List.map_map]
  exact List.map_id' xs
/-- stretches(cuts) -/
def strL (cs : List Int) : List Dt := zpD (.non :: cs.map Dt.int) (cs.map (fun c => Dt.int (c - 1)) ++ [.non])
theorem strL_len (cs : List Int) : (strL cs).length = cs.length + 1 := by
  unfold strL
  rw [zpD_len]
  simp
theorem strL_get {cs : List Int} {i : Nat} (h : i ≤ cs.length) : (strL cs)[i]? = some (.tup [oD (loC cs i), oD (hiC cs i)]) := by
  refine zpD_get ?_ ?_
  · cases i with
    | zero => rfl
    | succ i =>
      have e : cs[i]? = some cs[i] := List.getElem?_eq_getElem (by omega)
      unfold loC
      rw [if_neg (by omega), List.getElem?_cons_succ, List.getElem?_map, Nat.add_sub_cancel, e]
      rfl
  · unfold hiC
    rcases Nat.lt_or_ge i cs.length with c | c
    · rw [List.getElem?_append_left (by rw [List.length_map]; exact c), List.getElem?_map, List.getElem?_eq_getElem c]
      rfl
    · have e : i = cs.length := by omega
      rw [List.getElem?_append_right (by rw [List.length_map]; exact c), List.length_map, e, Nat.sub_self, List.getElem?_eq_none (Nat.le_refl _)]
      rfl
/-- how many a list may have -/
theorem tls_len : ∀ l : List Dt, 19257 * l.length ≤ tls l
  | [] => Nat.le_refl _
  | d :: l => by
    have h := tls_len l
    have h1 : 19255 ≤ d.tl := by
      cases d <;> first | exact Nat.le_refl _ | exact Nat.le_add_left _ _
    show 19257 * (l.length + 1) ≤ d.tl + 2 + tls l
    omega
theorem ShT.len {k : Bool} {l : List Dt} (h : ShT (sq k l)) : l.length ≤ 830 := by
  have h1 := tls_len l
  have h2 := h.ln
  have e : (sq k l).tl = tls l + 19255 := by cases k <;> rfl
  rw [e] at h2
  omega
theorem okTs_mem : ∀ {l : List Dt} {d : Dt}, okTs l = true → d ∈ l → d.okT = true
  | e :: l, d, h, m => by
    obtain ⟨h1, h2⟩ := Bool.and_eq_true_iff.mp (show (e.okT && okTs l) = true from h)
    rcases List.mem_cons.mp m with z | z
    · rw [z]; exact h1
    · exact okTs_mem h2 z
theorem tls_mem : ∀ {l : List Dt} {d : Dt}, d ∈ l → d.tl + 2 ≤ tls l
  | e :: l, d, m => by
    show d.tl + 2 ≤ e.tl + 2 + tls l
    rcases List.mem_cons.mp m with z | z
    · rw [z]; omega
    · have := tls_mem z
      omega
theorem hgts_mem : ∀ {l : List Dt} {d : Dt}, d ∈ l → d.hgt ≤ hgts l
  | e :: l, d, m => by
    show d.hgt ≤ max e.hgt (hgts l)
    rcases List.mem_cons.mp m with z | z
    · rw [z]; omega
    · have := hgts_mem z
      omega
theorem ShT.mem {k : Bool} {l : List Dt} {d : Dt} (h : ShT (sq k l)) (m : d ∈ l) : ShT d := by
  have h1 := tls_mem m
  have h2 := hgts_mem m
  have h3 := h.hg
  have h4 := h.ln
  have e1 : (sq k l).tl = tls l + 19255 := by cases k <;> rfl
  have e2 : (sq k l).hgt = hgts l + 1 := by cases k <;> rfl
  have e3 : okTs l = true := by
    have := h.ok
    cases k <;> exact this
  rw [e1] at h4
  rw [e2] at h3
  exact ⟨okTs_mem e3 m, by omega, by omega⟩
/-! what the program's comprehensions make of it -/
def ltF : Dt → Dt
  | .tup [.int a, .int b] => .bl (decide (a < b))
  | _ => .non
def enF (f : Nat → Dt → Bool) : Dt → Dt
  | .tup [.int r, e] => .bl (f r.toNat e)
  | _ => .non
def toO : Dt → Option Int
  | .int i => some i
  | _ => none
theorem toO_oD (o : Option Int) : toO (oD o) = o := by cases o <;> rfl
def rwF (m : Int) : Dt → Dt
  | .tup [e, .tup [lo, hi]] => .bl (rowB (toO lo) (toO hi) m e)
  | _ => .non
theorem asc_zip : ∀ xs : List Int, (zpD (xs.map Dt.int) ((xs.drop 1).map Dt.int)).map ltF = ((xs.zip (xs.drop 1)).map fun p => decide (p.1 < p.2)).map Dt.bl := fun xs => by
  unfold zpD
  rw [List.map_map, List.map_map, List.zip_map, List.map_map]
  rfl
theorem asc_all : ∀ xs : List Int, ((xs.zip (xs.drop 1)).map fun p => decide (p.1 < p.2)).all id = ascB xs
  | [] => rfl
  | [a] => rfl
  | a :: b :: l => by
    have h := asc_all (b :: l)
    show (decide (a < b) && (((b :: l).zip ((b :: l).drop 1)).map fun p => decide (p.1 < p.2)).all id) = (decide (a < b) && ascB (b :: l))
    rw [h]
theorem enD_cons' : ∀ (l : List Dt) (f : Nat → Dt → Bool), (enD l).map (enF f) = (l.mapIdx f).map Dt.bl := fun l f => by
  refine List.ext_getElem? fun i => ?_
  rcases Nat.lt_or_ge i l.length with c | c
  · rw [List.getElem?_map, enD_get (List.getElem?_eq_getElem c), List.getElem?_map, List.getElem?_mapIdx, List.getElem?_eq_getElem c]
    show some (Dt.bl (f ((i : Int)).toNat l[i])) = some (Dt.bl (f i l[i]))
    rw [Int.toNat_natCast]
  · rw [List.getElem?_eq_none (by rw [List.length_map, enD_len]; exact c), List.getElem?_eq_none (by rw [List.length_map, List.length_mapIdx]; exact c)]
theorem cells_all (lo hi : Option Int) (m : Int) : ∀ (l : List Dt) (k : Nat), (l.mapIdx fun r d => cellB lo hi m (k + r) d).all id = cellsB lo hi m k l
  | [], _ => rfl
  | d :: l, k => by
    rw [List.mapIdx_cons]
    have h := cells_all lo hi m l (k + 1)
    show (cellB lo hi m (k + 0) d && (l.mapIdx fun i x => cellB lo hi m (k + (i + 1)) x).all id) = (cellB lo hi m k d && cellsB lo hi m (k + 1) l)
    rw [← h]
    congr 2
    exact congrArg (fun f => l.mapIdx f) (funext fun i => funext fun x => by rw [show k + (i + 1) = k + 1 + i by omega])
theorem cells_all0 (lo hi : Option Int) (m : Int) (l : List Dt) : (l.mapIdx fun r d => cellB lo hi m r d).all id = cellsB lo hi m 0 l := by
  rw [← cells_all lo hi m l 0]
  congr 1
  exact congrArg (fun f => l.mapIdx f) (funext fun i => funext fun x => by rw [Nat.zero_add])
theorem rows_zip (cs : List Int) (m : Int) : ∀ (rows : List Dt), rows.length = cs.length + 1 →
    (zpD rows (strL cs)) = rows.mapIdx fun i d => .tup [d, .tup [oD (loC cs i), oD (hiC cs i)]] := fun rows h => by
  refine List.ext_getElem? fun i => ?_
  rcases Nat.lt_or_ge i rows.length with c | c
  · rw [zpD_get (List.getElem?_eq_getElem c) (strL_get (by omega)), List.getElem?_mapIdx, List.getElem?_eq_getElem c]
    rfl
  · rw [List.getElem?_eq_none (by rw [zpD_len]; omega), List.getElem?_eq_none (by rw [List.length_mapIdx]; exact c)]
theorem rows_map (cs : List Int) (m : Int) (rows : List Dt) (h : rows.length = cs.length + 1) : (zpD rows (strL cs)).map (rwF m) = (rows.mapIdx fun i d => rowB (loC cs i) (hiC cs i) m d).map Dt.bl := by
  rw [rows_zip cs m rows h]
  refine List.ext_getElem? fun i => ?_
  rw [List.getElem?_map, List.getElem?_map, List.getElem?_mapIdx, List.getElem?_mapIdx]
  cases rows[i]? with
  | none => rfl
  | some d =>
    show some (Dt.bl (rowB (toO (oD (loC cs i))) (toO (oD (hiC cs i))) m d)) = _
    rw [toO_oD, toO_oD]
    rfl
theorem rows_all (cs : List Int) (m : Int) : ∀ (l : List Dt) (k : Nat), (l.mapIdx fun i d => rowB (loC cs (k + i)) (hiC cs (k + i)) m d).all id = rowsB cs m k l
  | [], _ => rfl
  | d :: l, k => by
    rw [List.mapIdx_cons]
    have h := rows_all cs m l (k + 1)
    show (rowB (loC cs (k + 0)) (hiC cs (k + 0)) m d && (l.mapIdx fun i x => rowB (loC cs (k + (i + 1))) (hiC cs (k + (i + 1))) m x).all id) = (rowB (loC cs k) (hiC cs k) m d && rowsB cs m (k + 1) l)
    rw [← h]
    congr 2
    exact congrArg (fun f => l.mapIdx f) (funext fun i => funext fun x => by rw [show k + (i + 1) = k + 1 + i by omega])
theorem rows_all0 (cs : List Int) (m : Int) (l : List Dt) : (l.mapIdx fun i d => rowB (loC cs i) (hiC cs i) m d).all id = rowsB cs m 0 l := by
  rw [← rows_all cs m l 0]
  congr 1
  exact congrArg (fun f => l.mapIdx f) (funext fun i => funext fun x => by rw [Nat.zero_add])
end Sh
set_option Elab.async false
set_option linter.all false
set_option maxRecDepth 100000
set_option maxHeartbeats 4000000
namespace Sh
open PySem PySem.Spec PyProof.Rows L2
def topS (i : Nat) : Stmt := PySem.Challenge.pw_shadowruns_k37_namings_or_not.main.body.getD i (.Pass ⟨0, 0, 0, 0⟩)
abbrev sBox : Stmt := topS 21
abbrev sTake : Stmt := topS 22
abbrev sCells : Stmt := topS 23
abbrev sOf : Stmt := topS 24
theorem scBox : FnScope ["_law_script", "_law_k", "_law_cell"] ["_law_script", "_law_k"] (defScope sBox) := ⟨rfl, rfl, rfl, by decide +kernel, rfl, by decide +kernel, by decide +kernel⟩
theorem scTake : FnScope ["_law_box_here", "_law_below", "_law_found", "_law_once", "_law_twice"] ["_law_box_here", "_law_below"] (defScope sTake) := ⟨rfl, rfl, rfl, by decide +kernel, rfl, by decide +kernel, by decide +kernel⟩
theorem scCells : FnScope ["_law_script", "_law_most", "_law_cells_here", "_law_k", "_law_cell"] ["_law_script", "_law_most"] (defScope sCells) := ⟨rfl, rfl, rfl, by decide +kernel, rfl, by decide +kernel, by decide +kernel⟩
/-! numbers -/
theorem fm0 {a b : Int} (h : 0 < b) : 0 ≤ a.fmod b := Int.fmod_nonneg_of_pos a h
theorem fm1 {a b : Int} (h : 0 < b) : a.fmod b < b := Int.fmod_lt_of_pos a h
theorem fd0 {a b : Int} (h : 0 ≤ a) (hb : 0 ≤ b) : 0 ≤ a.fdiv b := Int.fdiv_nonneg h hb
theorem fdle {a b : Int} (h : 0 ≤ a) (hb : 0 < b) : a.fdiv b ≤ a := by
  rw [Int.fdiv_eq_ediv_of_nonneg _ (by omega)]
  exact Int.ediv_le_self b h
theorem b01 (c : Bool) : (if c = true then (1 : Int) else 0) = 0 ∨ (if c = true then (1 : Int) else 0) = 1 := by cases c <;> simp
theorem b01s (c : Bool) : -(2 ^ 64) < (if c = true then (1 : Int) else 0) ∧ (if c = true then (1 : Int) else 0) < 2 ^ 64 := by cases c <;> decide
theorem nz (k : Int) (h : decide (k = 0) = false := by decide) : k ≠ 0 := of_decide_eq_false h
theorem But.of {b : Addr} {H H' : Hp} (h : Same H H') : But b H H' := fun a o _ e => h a o e
theorem But.refl {b : Addr} {H : Hp} : But b H H := fun _ _ _ e => e
theorem But.trans {b : Addr} {H H1 H2 : Hp} (x : But b H H1) (y : But b H1 H2) : But b H H2 := fun a o n e => y a o n (x a o n e)
section
variable {P : Program} {w : World} {K : PySem.W.Frag} {mg : Str → Option Value} {base : Heap}
/-! ### _law_box -/
def spBox (K : PySem.W.Frag) : Sp := fun vs H Q _ => ∃ (a : Addr) (ns : List Int) (k : Int), vs = [.ref a, .int k] ∧ SqL K H a (ns.map V.int) ∧ ns.length ≤ 1000 ∧ 0 ≤ k ∧ k ≤ 1000 ∧
  ∀ p x y, H p = none → 0 ≤ x → 0 ≤ y → y < 4611686018427387904 → Q (.ref p) (upd H p (.lst [.int x, .int y, .int 0]))
/-- what is left behind the cell z -/
theorem box_tail {H : Hp} {Q : VK} {k z : Int} (hq : ∀ p x y, H p = none → 0 ≤ x → 0 ≤ y → y < 4611686018427387904 → Q (.ref p) (upd H p (.lst [.int x, .int y, .int 0]))) (k0 : 0 ≤ k) (k1 : k ≤ 1000)
    {p : Addr} (hp : H p = none) (j : Int) (hj : j = 0 ∨ j = 1) : Q (.ref p) (upd H p (.lst [.int ((if z < 0 then -z else z) * j), .int (z.fmod 2305843009213693951 + 39373 * k + 71), .int 0])) := by
  have e0 : (0 : Int) ≤ z.fmod 2305843009213693951 := fm0 (by decide)
  have e1 : z.fmod 2305843009213693951 < 2305843009213693951 := fm1 (by decide)
  refine hq p _ _ hp ?_ (by omega) (by omega)
  have a0 : 0 ≤ (if z < 0 then -z else z) := by split <;> omega
  rcases hj with rfl | rfl
  · rw [Int.mul_zero] <;> decide
  · rw [Int.mul_one]; exact a0
theorem ok_box {f : Addr} {fd : FuncData} {n : Nat} (F : Fun K "_law_box" "_law_box" sBox f fd) (ml : mg "len" = none) (ma : mg "abs" = none) (mi : mg "int" = none) : FnOk P w K mg base CX0 (n + 1) f fd ["_law_script", "_law_k"] (spBox K) := by
  refine F.ok scBox (fun vs H Q E h => ?_) (fun cdv A outer s H vs Q E hr h => ?_)
  · obtain ⟨a, ns, k, rfl, _⟩ := h
    rfl
  obtain ⟨a, ns, k, rfl, hS, hlen, k0, k1, q⟩ := h
  refine ⟨_, pss_cons (ps_set (i := 2) scBox.nd rfl (Or.inl rfl) (pe_ifExp (pt_cmpR op_lt (pv 1) (pe_callB call_len_seq rfl ml PySem.boot_len (pa_cons (pv 0) pa_nil)) (nomark _)) (pe_ix ix_list (pv 0) (pv 1) (fun _ _ => rfl)) pe_int))
    (pss_one (ps_ret (pe_lst (pa_cons (pe_op op_mul (pe_callB call_abs rfl ma (by decide +kernel) (pa_cons (pv 2) pa_nil)) (pe_callTy call_int1 rfl mi (by decide +kernel) (pa_cons (pe_cmpR op_ge (pe_callB call_abs rfl ma (by decide +kernel) (pa_cons (pv 2) pa_nil)) (pe_op op_pow pe_int pe_int) (nomark _)) pa_nil)))
      (pa_cons (pe_op op_add (pe_op op_add (pe_op op_modN (pv 2) pe_int) (pe_op op_mul pe_int (pv 1))) pe_int) (pa_cons pe_int pa_nil)))))), ?_⟩
  have hl : (ns.map V.int).length = ns.length := List.length_map _
  refine ⟨_, rfl, _, rfl, a, _, rfl, .inl hS, _, _, rfl, rfl, _, rfl, ?_⟩
  have hr64 : (0 : Int) < 2305843009213693951 := by decide
  refine ite2 (fun c => ?_) (fun c => ?_)
  have c' : k < (((ns.map V.int).length : Nat) : Int) := of_decide_eq_true c
  rw [hl] at c'
  have hk : k.toNat < ns.length := by omega
  have ek : k = ((k.toNat : Nat) : Int) := by omega
  have g : atI (ns.map V.int) k = some (.int ns[k.toNat]) := at_of ek (by rw [List.getElem?_map, List.getElem?_eq_getElem hk] <;> rfl)
  refine ⟨_, rfl, _, rfl, a, _, _, _, rfl, rfl, hS, g, ?_⟩
  generalize ns[k.toNat] = z
  all_goals
    refine ⟨_, rfl, _, rfl, _, rfl, _, rfl, _, _, rfl, rfl, ⟨by decide, by decide, by decide⟩, _, _, rfl, rfl, .inr ⟨_, rfl, _, _, rfl, rfl, .inr (b01s _), ?_⟩⟩
    refine ⟨_, rfl, _, _, rfl, rfl, (nz _), _, rfl, _, _, rfl, rfl, .inl ⟨by decide, by decide⟩, _, _, rfl, rfl, _, _, rfl, rfl, (by show 3 ≤ sizeLine; decide), fun p hp => ?_⟩
    exact box_tail q k0 k1 hp _ (b01 _)
/-! ### _law_take -/
def spTake : Sp := fun vs H Q _ => ∃ (b : Addr) (m y c : Int), vs = [.ref b, .int m] ∧ Bx H b y c ∧ 0 ≤ c ∧ c < 1000000000000 ∧ 1 ≤ m ∧ m ≤ 10000000 ∧
  ∀ v c' H', 0 ≤ v → v < m → c ≤ c' → c' ≤ c + 1 → Bx H' b y c' → But b H H' → Q (.int v) H'
theorem bx_up {H : Hp} {b : Addr} {x y c : Int} {xs : List V} (e : xs = [.int x, .int y, .int c]) (h : 0 ≤ x) (h1 : 0 ≤ y) (h2 : y < 4611686018427387904) : Bx (upd H b (.lst xs)) b y c := ⟨x, by rw [e, upd_same], h, h1, h2⟩
theorem tw_ok {o c y : Int} (c0 : 0 ≤ c) (c1 : c < 1000000000000) (y0 : 0 ≤ y) (y1 : y < 4611686018427387904) : -(2 ^ 64) < o.fmod 2147483647 + (c + 1) + y.fdiv 1000003 ∧ o.fmod 2147483647 + (c + 1) + y.fdiv 1000003 < 2 ^ 64 := by
  have h0 : (0 : Int) ≤ o.fmod 2147483647 := fm0 (by decide)
  have h1 : o.fmod 2147483647 < 2147483647 := fm1 (by decide)
  have h2 : 0 ≤ y.fdiv 1000003 := fd0 y0 (by decide)
  have h3 : y.fdiv 1000003 ≤ y := fdle y0 (by decide)
  refine ⟨?_, ?_⟩ <;> omega
theorem tw_ok2 {o : Int} : -(2 ^ 64) < o.fmod 2147483629 ∧ o.fmod 2147483629 < 2 ^ 64 := by
  have h0 : (0 : Int) ≤ o.fmod 2147483629 := fm0 (by decide)
  have h1 : o.fmod 2147483629 < 2147483629 := fm1 (by decide)
  refine ⟨?_, ?_⟩ <;> omega
theorem ok_take {f : Addr} {fd : FuncData} {n : Nat} (F : Fun K "_law_take" "_law_take" sTake f fd) : FnOk P w K mg base CX0 (n + 1) f fd ["_law_box_here", "_law_below"] spTake := by
  refine F.ok scTake (fun vs H Q E h => ?_) (fun cdv A outer s H vs Q E hr h => ?_)
  · obtain ⟨b, m, y, c, rfl, _⟩ := h
    rfl
  obtain ⟨b, m, y, c, rfl, ⟨x, hB, x0, y0, y1⟩, c0, c1, m0, m1, q⟩ := h
  refine ⟨_, pss_cons (ps_if (pt_cmpR op_gt (pe_ix ix_list (pv 0) pe_int (fun _ _ => rfl)) pe_int (nomark _))
      (pss_cons (ps_set (i := 2) scTake.nd rfl (Or.inl rfl) (pe_op op_modN (pe_ix ix_list (pv 0) pe_int (fun _ _ => rfl)) (pv 1)))
      (pss_cons (ps_asg (pe_op op_fdivN (pe_ix ix_list (pv 0) pe_int (fun _ _ => rfl)) (pv 1)) (pg_sub (pv 0) pe_int set_list))
      (pss_one (ps_ret (pv 2))))) pss_nil)
    (pss_cons (ps_if (pt_cmpR op_gt (pv 1) (pe_op op_pow pe_int pe_int) (nomark _)) pss_never pss_nil)
    (pss_cons (ps_asg (pe_op op_add (pe_ix ix_list (pv 0) pe_int (fun _ _ => rfl)) pe_int) (pg_sub (pv 0) pe_int set_list))
    (pss_cons (ps_set (i := 3) scTake.nd rfl (Or.inl rfl) (pe_op op_modN (pe_op op_mul (pe_op op_add (pe_ix ix_list (pv 0) pe_int (fun _ _ => rfl)) (pe_op op_mul pe_int (pe_ix ix_list (pv 0) pe_int (fun _ _ => rfl)))) (pe_op op_add pe_int (pe_ix ix_list (pv 0) pe_int (fun _ _ => rfl)))) pe_int))
    (pss_cons (ps_set (i := 4) scTake.nd rfl (Or.inl rfl) (pe_op op_modN (pe_op op_mul (pe_op op_add (pe_op op_add (pv 3) (pe_ix ix_list (pv 0) pe_int (fun _ _ => rfl))) (pe_op op_fdivN (pe_ix ix_list (pv 0) pe_int (fun _ _ => rfl)) pe_int)) (pe_op op_add (pe_op op_modN (pv 3) pe_int) pe_int)) pe_int))
    (pss_one (ps_ret (pe_op op_modN (pe_op op_fdivN (pe_op op_modN (pe_op op_add (pe_op op_mul (pv 4) pe_int) (pv 3)) pe_int) pe_int) (pv 1)))))))), ?_⟩
  refine ⟨_, rfl, b, _, _, _, rfl, rfl, SqL.of hB, at_of (j := 0) rfl rfl, _, _, rfl, rfl, _, rfl, ?_⟩
  refine ite2 (fun t => ?_) (fun t => ?_)
  · have t' : x > 0 := of_decide_eq_true t
    refine ⟨_, rfl, b, _, _, _, rfl, rfl, SqL.of hB, at_of (j := 0) rfl rfl, _, rfl, _, _, rfl, rfl, (by omega), ?_⟩
    refine ⟨_, rfl, b, _, _, _, rfl, rfl, SqL.of hB, at_of (j := 0) rfl rfl, _, rfl, _, _, rfl, rfl, ⟨by omega, by omega⟩, ?_⟩
    refine ⟨_, rfl, b, _, _, 0, rfl, rfl, hB, rfl, _, rfl, ?_⟩
    exact q _ c _ (fm0 (by omega)) (fm1 (by omega)) (by omega) (by omega) (bx_up rfl (fd0 x0 (by omega)) y0 y1) but_upd
  · refine ⟨_, rfl, _, _, rfl, rfl, ⟨by decide, by decide, by decide⟩, _, _, rfl, rfl, _, rfl, ?_⟩
    refine ite2 (fun t2 => ?_) (fun t2 => ?_)
    · exfalso
      have t3 : m > 10 ^ 7 := of_decide_eq_true t2
      have t4 : (10 : Int) ^ 7 = 10000000 := by decide
      omega
    · have hB1 : (upd H b (.lst [.int x, .int y, .int (c + 1)])) b = some (.lst [.int x, .int y, .int (c + 1)]) := upd_same
      refine ⟨_, rfl, b, _, _, _, rfl, rfl, SqL.of hB, at_of (j := 2) rfl rfl, _, _, rfl, rfl, _, rfl, b, _, _, 2, rfl, rfl, hB, rfl, ?_⟩
      refine ⟨_, rfl, b, _, _, _, rfl, rfl, SqL.of hB1, at_of (j := 1) rfl rfl, _, rfl, b, _, _, _, rfl, rfl, SqL.of hB1, at_of (j := 2) rfl rfl, _, _, rfl, rfl, .inl ⟨by decide, by decide⟩, _, _, rfl, rfl,
        _, rfl, b, _, _, _, rfl, rfl, SqL.of hB1, at_of (j := 2) rfl rfl, _, _, rfl, rfl, _, _, rfl, rfl, .inl ⟨by omega, by omega⟩, _, _, rfl, rfl, (nz _), ?_⟩
      refine ⟨_, rfl, _, rfl, b, _, _, _, rfl, rfl, SqL.of hB1, at_of (j := 2) rfl rfl, _, _, rfl, rfl, _, rfl, b, _, _, _, rfl, rfl, SqL.of hB1, at_of (j := 1) rfl rfl, _, _, rfl, rfl, ⟨by decide, by decide⟩, _, _, rfl, rfl,
        _, rfl, _, _, rfl, rfl, (nz _), _, _, rfl, rfl, _, _, rfl, rfl, .inl (tw_ok c0 c1 y0 y1), _, _, rfl, rfl, (nz _), ?_⟩
      refine ⟨_, rfl, _, _, rfl, rfl, .inl tw_ok2, _, rfl, _, _, rfl, rfl, _, _, rfl, rfl, (nz _), _, _, rfl, rfl, ⟨by decide, by decide⟩, _, rfl, _, _, rfl, rfl, (by omega), ?_⟩
      exact q _ (c + 1) _ (fm0 (by omega)) (fm1 (by omega)) (by omega) (by omega) (bx_up rfl x0 y0 y1) but_upd
/-! ### _law_of -/
theorem But.seq {b a : Addr} {H H' : Hp} {xs : List V} (e : But b H H') (n : a ≠ b) (h : SqL K H a xs) : SqL K H' a xs := by
  rcases h with (h | ⟨o, h⟩) | h
  · exact .inl (.inl (e _ _ n h))
  · exact .inl (.inr ⟨o, e _ _ n h⟩)
  · exact .inr h
/-! ### _law_cells -/
theorem fm_nat (i m : Nat) : (i : Int).fmod (m : Int) = ((i % m : Nat) : Int) := by
  rw [Int.fmod_eq_emod_of_nonneg _ (Int.natCast_nonneg m)]; exact (Int.natCast_emod i m).symm
theorem cut_to (ns : List Int) (m : Nat) : cutV (ns.map V.int) none (some (m : Int)) = (ns.take m).map V.int := by
  unfold cutV
  rw [HT.sIx_none, HT.sIx_nat, List.length_map, List.drop_zero, Nat.sub_zero, List.map_take]
  by_cases h : m ≤ ns.length
  · rw [Nat.min_eq_left h]
  · rw [Nat.min_eq_right (by omega), List.take_of_length_le (by rw [List.length_map]; exact Nat.le_refl _), List.take_of_length_le (by rw [List.length_map]; omega)]
theorem cut_from (ns : List Int) (m : Nat) (h : ns.length ≤ 63) : cutV (ns.map V.int) (some (m : Int)) (some 63) = (ns.drop m).map V.int := by
  unfold cutV
  have e63 : HT.sIx (ns.map V.int).length (ns.map V.int).length (some 63) = min 63 (ns.map V.int).length := HT.sIx_nat _ _ 63
  rw [HT.sIx_nat, e63, List.length_map, Nat.min_eq_right h, List.map_drop]
  by_cases hm : m ≤ ns.length
  · rw [Nat.min_eq_left hm, List.take_of_length_le (by rw [List.length_drop, List.length_map]; exact Nat.le_refl _)]
  · rw [Nat.min_eq_right (by omega), List.drop_eq_nil_of_le (by rw [List.length_map]; exact Nat.le_refl _), List.drop_eq_nil_of_le (by rw [List.length_map]; omega), List.take_nil]
def cells0 (ns : List Int) (m : Nat) : List Int := if ns.take m = [] then [0] else ns.take m
theorem cells0_pos {ns : List Int} {m : Nat} : 1 ≤ (cells0 ns m).length := by
  unfold cells0
  split
  · exact Nat.le_refl _
  · rename_i h
    exact List.length_pos_iff.mpr h
theorem cells0_le {ns : List Int} {m : Nat} (hm : 1 ≤ m) : (cells0 ns m).length ≤ m := by
  unfold cells0
  split
  · exact hm
  · rw [List.length_take]; omega
theorem cells0_full {ns : List Int} {m : Nat} (hm : 1 ≤ m) (h : m ≤ ns.length) : (cells0 ns m).length = m := by
  unfold cells0
  have e : (ns.take m).length = m := by rw [List.length_take]; omega
  rw [if_neg (fun z => by rw [z] at e; simp at e; omega), e]
def spCells (K : PySem.W.Frag) : Sp := fun vs H Q _ => ∃ (a : Addr) (ns : List Int) (m : Nat), vs = [.ref a, .int (m : Int)] ∧ SqL K H a (ns.map V.int) ∧ ns.length ≤ 63 ∧ 1 ≤ m ∧ m ≤ 63 ∧
  ∀ p (ms : List Int) H', H p = none → Same H H' → H' p = some (.lst (ms.map V.int)) → 1 ≤ ms.length → ms.length ≤ m → Q (.ref p) H'
theorem ok_cells {f : Addr} {fd : FuncData} {n : Nat} (F : Fun K "_law_cells" "_law_cells" sCells f fd) (ml : mg "list" = none) (me : mg "enumerate" = none) : FnOk P w K mg base CX0 (n + 1) f fd ["_law_script", "_law_most"] (spCells K) := by
  refine F.ok scCells (fun vs H Q E h => ?_) (fun cdv A outer s H vs Q E hr h => ?_)
  · obtain ⟨a, ns, m, rfl, _⟩ := h
    rfl
  obtain ⟨a, ns, m, rfl, hS, hn, m1, m2, q⟩ := h
  refine ⟨_, pss_cons (ps_set (i := 2) scCells.nd rfl (Or.inl rfl) (pe_orT (pe_callTy call_list_of rfl ml (by decide +kernel) (pa_cons (pe_slice sl_list (pv 0) po_none (po_some (pv 1))) pa_nil)) (pe_one (pe_lst (pa_cons pe_int pa_nil)))))
    (pss_cons (ps_for PassesOwn.never rfl (pi_enum rfl me (pa_cons (pe_slice sl_list (pv 0) (po_some (pv 1)) (po_some pe_int)) pa_nil)) (pg_tup rfl (pgs_cons (pg_name (i := 3) scCells.nd rfl (Or.inl rfl)) (pgs_cons (pg_name (i := 4) scCells.nd rfl (Or.inl rfl)) pgs_nil)))
      (pss_one (ps_asg (pe_op op_add (pe_ix ix_list (pv 2) (pe_op op_modN (pv 3) (pv 1)) (fun _ _ => rfl)) (pe_op op_mul (pv 4) (pe_op op_add (pv 3) pe_int))) (pg_sub (pv 2) (pe_op op_modN (pv 3) (pv 1)) set_list))))
    (pss_one (ps_ret (pv 2)))), ?_⟩
  refine ⟨_, rfl, _, rfl, _, rfl, a, _, rfl, hS, fun c nc => ?_⟩
  rw [cut_to]
  refine ⟨c, _, rfl, .inl (SqL.of upd_same), fun l nl => ?_⟩
  have sc1 : Same H (upd H c (.lst ((ns.take m).map V.int))) := same_up nc
  have sl1 := sc1.trans (same_up (o := .lst ((ns.take m).map V.int)) nl)
  have nl0 : H l = none := sc1.free nl
  refine ⟨_, .inl ⟨_, SqL.of upd_same, rfl⟩, ?_⟩
  refine ite2 (fun t => ?_) (fun t => ?_)
  rotate_left
  have et : ns.take m = [] := by
    cases e : ns.take m with
    | nil => rfl
    | cons z r => rw [e] at t; exact absurd rfl t
  refine ⟨by show 1 ≤ sizeLine; decide, fun p np => ?_⟩
  have nl0 : H p = none := sl1.free np
  have sl1 := sl1.trans (same_up (o := .lst [.int 0]) np)
  have hp : (upd (upd (upd H c (.lst ((ns.take m).map V.int))) l (.lst ((ns.take m).map V.int))) p (.lst [.int 0])) p = some (.lst ((cells0 ns m).map V.int)) := by rw [upd_same, cells0, if_pos et]; rfl
  generalize upd (upd (upd H c (.lst ((ns.take m).map V.int))) l (.lst ((ns.take m).map V.int))) p (.lst [.int 0]) = H1 at hp sl1 ⊢
  rotate_left
  have et : ns.take m ≠ [] := fun e => by
    rw [e] at t
    exact absurd t (by decide)
  have hp : (upd (upd H c (.lst ((ns.take m).map V.int))) l (.lst ((ns.take m).map V.int))) l = some (.lst ((cells0 ns m).map V.int)) := by rw [upd_same, cells0, if_neg et]
  generalize upd (upd H c (.lst ((ns.take m).map V.int))) l (.lst ((ns.take m).map V.int)) = H1 at hp sl1 ⊢
  obtain ⟨p, ep⟩ : ∃ p, p = l := ⟨_, rfl⟩
  subst ep
  all_goals
    refine ⟨_, rfl, _, rfl, _, rfl, 63, rfl, a, _, rfl, sl1.seq hS, fun d nd => ?_⟩
    rw [cut_from ns m hn]
    have sd := sl1.trans (same_up (o := .lst ((ns.drop m).map V.int)) nd)
    have hd : (upd H1 d (.lst ((ns.drop m).map V.int))) d = some (.lst ((ns.drop m).map V.int)) := upd_same
    have hpd : (upd H1 d (.lst ((ns.drop m).map V.int))) p = some (.lst ((cells0 ns m).map V.int)) := by rw [upd_ne (ne_of_none hp nd)]; exact hp
    have ndp : d ≠ p := (ne_of_none hp nd).symm
    generalize upd H1 d (.lst ((ns.drop m).map V.int)) = H2 at sd hd hpd ⊢
    refine ⟨d, _, rfl, SqL.of hd, for_it walk_enum (fun i σ H3 => ∃ y3 y4, ∃ ms : List Int, σ = [some (.ref a), some (.int (m : Int)), some (.ref p), y3, y4] ∧ Same H H3 ∧ H3 d = some (.lst ((ns.drop m).map V.int)) ∧ H3 p = some (.lst (ms.map V.int)) ∧ ms.length = (cells0 ns m).length)
      ⟨none, none, _, rfl, sd, hd, hpd, rfl⟩ (fun i σ H3 _ ⟨_, _, _, _, _, e, _⟩ => SqL.of e) ?_ ?_⟩
    · rintro i x σ H3 H4 hi ⟨y3, y4, ms, rfl, s3, e3, ep, el⟩ ⟨T, v1, v2, rfl, nT, rfl, f1, f2⟩
      cases f1
      have hi' : i < (ns.drop m).length := by rw [List.length_map] at hi; exact hi
      have f2' : some (V.int (ns.drop m)[i]) = some v2 := by rw [← f2]; show _ = (List.map V.int (List.drop m ns))[i]?; rw [List.getElem?_map, List.getElem?_eq_getElem hi'] <;> rfl
      cases f2'
      rw [List.length_drop] at hi'
      have lm : ms.length = m := by rw [el]; exact cells0_full m1 (by omega)
      have hk : i % m < ms.length := by rw [lm]; exact Nat.mod_lt _ (by omega)
      have hA : atI (ms.map V.int) ((i : Int).fmod (m : Int)) = some (.int ms[i % m]) := at_of (fm_nat i m) (by rw [List.getElem?_map, List.getElem?_eq_getElem hk] <;> rfl)
      have hX : ixN (ms.map V.int).length ((i : Int).fmod (m : Int)) = some (i % m) := by
        rw [fm_nat]
        unfold ixN
        rw [if_pos (Int.natCast_nonneg _), if_pos (by rw [List.length_map]; exact Int.ofNat_lt.mpr hk), Int.toNat_natCast]
      have mz : (m : Int) ≠ 0 := by omega
      have sT : Same H3 (upd H3 T (.tup [.int (i : Int), .int (ns.drop m)[i]])) := same_up nT
      have eT := sT _ _ ep
      refine ⟨T, _, rfl, .inl (.inl upd_same), rfl, _, _, rfl, _, _, rfl, rfl, ?_⟩
      refine ⟨_, rfl, _, rfl, _, rfl, _, _, rfl, rfl, mz, p, _, _, _, rfl, rfl, SqL.of eT, hA, _, rfl, _, rfl, _, _, rfl, rfl, _, _, rfl, rfl, .inr ⟨by omega, by omega⟩, _, _, rfl, rfl, _, rfl, _, rfl, _, rfl, _, _, rfl, rfl, mz, p, _, _, _, rfl, rfl, eT, hX, ?_⟩
      refine ⟨_, _, ms.set (i % m) (ms[i % m] + (ns.drop m)[i] * ((i : Int) + 2)), rfl, fun b z e => ?_, ?_, ?_, ?_⟩
      rotate_left 2
      · rw [upd_same, List.map_set]
      · rw [List.length_set]; exact el
      · rw [upd_ne (ne_of_none e nl0)]; exact sT _ _ (s3 _ _ e)
      · rw [upd_ne ndp]; exact sT _ _ e3
    · rintro σ H3 ⟨y3, y4, ms, rfl, s3, e3, ep, el⟩
      exact ⟨_, rfl, q p ms H3 nl0 s3 ep (by rw [el]; exact cells0_pos) (by rw [el]; exact cells0_le m1)⟩
abbrev p_l_take : List Str := ["_law_box_here", "_law_below"]
/-! the layer's promises of them -/
def domT (ds : List Dt) : Prop := ∃ m : Int, ds = [.int m] ∧ 1 ≤ m ∧ m ≤ 10000000
def postT (ds : List Dt) (d : Dt) : Prop := ∃ m v : Int, ds = [.int m] ∧ d = .int v ∧ 0 ≤ v ∧ v < m
theorem take_B {f : Addr} {fd : FuncData} {n : Nat} {ps : List Str} (C : FnOk P w K mg base CX0 n f fd ps spTake) : FnOk P w K mg base CX0 n f fd ps (spB K 1 domT postT) := C.imp fun vs H Q E h => by
  obtain ⟨G, ds, b, us, y, c, F, rfl, sm, hb, c0, c1, gb, rd, ⟨m, rfl, m1, m2⟩, q⟩ := h
  obtain ⟨x, rfl, e⟩ := rd.one
  have c2 : c + ((F + 1 : Nat) : Int) ≤ 1000000000000 := c1
  refine ⟨b, m, y, c, by rw [show x = V.int m from e], hb, c0, by omega, m1, m2, fun v c' H' v0 v1 e0 e1 hb' bt => ?_⟩
  refine q (.int v) (.int v) G H' y c' ⟨Same.refl _, fun a o z => bt a o (fun w => by rw [w, gb] at z; cases z) (sm _ _ z), bt, fun a h1 h2 => h1⟩ hb' (by omega) ?_ rfl ⟨m, v, rfl, rfl, v0, v1⟩
  show c' + (F : Int) ≤ 1000000000000
  omega
theorem ae_take {ρ : List En} {Ψ : Dt → List En → Prop} {E : XK} {te : TE} {i : Nat} {b : Addr} {f0 : Nat} (e0 : ρ[i]? = some (.bx b f0))
    (h : AE K te ρ fun d ρ1 => ∃ m : Int, d = .int m ∧ 1 ≤ m ∧ m ≤ 10000000 ∧ ∃ F, ρ1[i]? = some (.bx b (F + 1)) ∧ ∀ v : Int, 0 ≤ v → v < m → Ψ (.int v) (ρ1.set i (.bx b F))) : AE K (tCall (spB K 1 domT postT) [] E (tCons (tVar i) (tCons te tNil))) ρ Ψ :=
  ae_draw e0 (aa_cons (ae_mono h fun d ρ1 ⟨m, e, m1, m2, F, e1, k⟩ => aa_nil ⟨⟨m, by rw [e], m1, m2⟩, F, e1, fun d' hp => by
    obtain ⟨m', v, z1, z2, z3, z4⟩ := hp
    rw [e] at z1
    cases z1
    rw [z2]; exact k v z3 z4⟩))
def domO (ds : List Dt) : Prop := ∃ k l, ds = [sq k l] ∧ 1 ≤ l.length ∧ l.length ≤ 1000
def postO (ds : List Dt) (d : Dt) : Prop := ∀ k l, ds = [sq k l] → d ∈ l
theorem sq_inj {k k' : Bool} {l l' : List Dt} (h : sq k l = sq k' l') : l = l' := by
  cases k <;> cases k' <;> first | (cases h; rfl) | (exact absurd h (fun z => nomatch z))
theorem ae_ofL {ρ : List En} {Ψ : Dt → List En → Prop} {E : XK} {te : TE} {i : Nat} {b : Addr} {f0 : Nat} (e0 : ρ[i]? = some (.bx b f0))
    (h : AE K te ρ fun d ρ1 => ∃ l, d = .lst l ∧ 1 ≤ l.length ∧ l.length ≤ 1000 ∧ ∃ F, ρ1[i]? = some (.bx b (F + 1)) ∧ ∀ d, d ∈ l → Ψ d (ρ1.set i (.bx b F))) : AE K (tCall (spB K 1 domO postO) [] E (tCons (tVar i) (tCons te tNil))) ρ Ψ :=
  ae_draw e0 (aa_cons (ae_mono h fun d ρ1 ⟨l, e, m1, m2, F, e1, k⟩ => aa_nil ⟨⟨false, l, by rw [e]; rfl, m1, m2⟩, F, e1, fun d' hp => k d' (hp false l (by rw [e]; rfl))⟩))
abbrev s_l_of : Stmt := topS 24
abbrev N_l_of : List Str := ["_law_box_here", "_law_some"]
abbrev p_l_of : List Str := ["_law_box_here", "_law_some"]
theorem sc_l_of : FnScope N_l_of p_l_of (defScope s_l_of) := ⟨rfl, rfl, rfl, by decide +kernel, rfl, by decide +kernel, by decide +kernel⟩
theorem ok_l_of (bl : Blts mg) {g_l_take : Addr} {d_l_take : FuncData} (c_l_take : Cal P w K mg base 2 "_law_take" p_l_take (spB K 1 domT postT) g_l_take d_l_take)  {f : Addr} {fd : FuncData} (F : Fun K "_law_of" "_law_of" s_l_of f fd) : FnOk P w K mg base CX0 3 f fd p_l_of (spB K 1 (domO) (postO)) := by
  refine okB F sc_l_of (fun ds h => ?_) (fun cdv A outer s H E hr ds h => ?_)
  · obtain ⟨k, l, rfl, l0, l1⟩ := h
    rfl
  obtain ⟨k, l, rfl, l0, l1⟩ := h
  refine ⟨_, (pss_one (ps_ret (pe_ix ix_seq (pv 1) (pe_call c_l_take.ok (hr.mono (by decide)) rfl c_l_take.mg c_l_take.kp c_l_take.bi .nil pass0 (pa_cons (pv 0) (pa_cons (pe_callB call_len_seq rfl bl.len (by decide +kernel) (pa_cons (pv 1) pa_nil)) pa_nil))) (fun _ _ => rfl)))), fun b F => ?_⟩
  change AS K _ [En.bx _ _, En.da _] _ _
  try simp only [cxOf_K, cxOf_w]
  repeat' (first
    | ((with_reducible apply ae_take); · rfl)
    | with_reducible apply ac_len
    | refine ⟨_, rfl, by omega, by omega, _, rfl, fun v v0 v1 => ?_⟩
    | with_reducible apply as_seq
    | with_reducible apply as_ret
    | with_reducible apply as_next
    | with_reducible apply as_if
    | with_reducible apply as_set
    | with_reducible apply as_par
    | with_reducible apply as_par3
    | with_reducible apply as_asg
    | ((with_reducible apply ae_var); · rfl)
    | with_reducible apply ae_int
    | with_reducible apply ae_non
    | with_reducible apply ae_bl
    | with_reducible apply ae_str
    | with_reducible apply ae_ty
    | with_reducible apply ae_isi2
    | with_reducible apply ae_op
    | with_reducible apply ae_un
    | with_reducible apply aa_nil
    | with_reducible apply aa_cons
    | with_reducible apply ae_cb
    | with_reducible apply ae_tup
    | with_reducible apply ae_lst
    | with_reducible apply ae_if
    | with_reducible apply at_test
    | with_reducible apply at_b
    | with_reducible apply at_and
    | with_reducible apply at_or
    | with_reducible apply at_not
    | with_reducible apply at_yes
    | with_reducible apply ae_andV
    | with_reducible apply ae_orV
    | with_reducible apply ae_notV
    | with_reducible apply ar_I0i
    | with_reducible apply ar_I0b
    | with_reducible apply ar_isN
    | with_reducible apply ar_notN
    | with_reducible apply au_Ui
    | ((with_reducible apply ar_ixTs); · rfl)
    | ((with_reducible apply ar_ixLs); · rfl)
    | ((with_reducible apply ar_ix); · rfl)
    | ((with_reducible apply ar_ixT); · rfl)
    | ((with_reducible apply ar_ixL); · rfl)
    | with_reducible apply ac_abs
    | with_reducible apply ac_max2
    | with_reducible apply ac_min2
    | with_reducible apply ac_lenT
    | with_reducible apply ac_lenL
    | with_reducible apply ac_listT
    | with_reducible apply ac_listL
    | with_reducible apply ac_tupL
    | with_reducible apply ac_tupT
    | with_reducible apply ac_int
    | with_reducible apply ac_intB
    | ((with_reducible apply ar_eq3); · exact ⟨rfl, rfl, rfl⟩)
    | ((with_reducible apply ar_ne3); · exact ⟨rfl, rfl, rfl⟩)
    | with_reducible apply ag_name
    | with_reducible apply ags_nil
    | with_reducible apply ags_cons
    | ((with_reducible apply ag_tup); · rfl)
    | refine ⟨sz60 (Nat.le_of_ble_eq_true rfl), ?_⟩
    | refine ⟨_, rfl, ?_⟩
    | refine ⟨_, _, rfl, ?_⟩
    | refine ⟨_, _, _, rfl, ?_⟩
    | (refine ⟨fun hc => ?_, fun hc => ?_⟩ <;> (first | (exfalso; exact absurd (show false = true from hc) (by decide)) | (exfalso; exact absurd (show true = false from hc) (by decide)) | (exfalso; simp at hc; done) | skip))
    | rfl
    | exact trivial
    | simp only [oD_some, oD_none])
  have hv : v.toNat < l.length := by omega
  have ev : v = ((v.toNat : Nat) : Int) := by omega
  refine ar_ix (d := l[v.toNat]) ?_ ?_
  · have e := atI_nat (List.getElem?_eq_getElem hv)
    rw [← ev] at e; exact e
  · refine ⟨fun k' l' z => ?_, _, rfl, Nat.le_refl _⟩
    rw [← sq_inj (List.cons.inj z).1]
    exact List.getElem_mem hv
end
end Sh
set_option Elab.async false
set_option linter.all false
set_option maxRecDepth 100000
set_option maxHeartbeats 4000000
namespace Sh
open PySem PySem.Spec PyProof.Rows L2
def S2b (g : Option Int → Option Int → Bool) (ds : List Dt) (r : Dt) : Prop := ∃ a b, ds = [oD a, oD b] ∧ r = .bl (g a b)
def S_lets (ds : List Dt) (r : Dt) : Prop := ∃ a b n, ds = [oD a, oD b, .int n] ∧ r = .bl (letsB a b n)
def S_sing (ds : List Dt) (res : Dt) : Prop := ∃ n : Int, ds = [.int n] ∧ res = vD (some n) (some n) 0 n
def S_vo (ds : List Dt) (res : Dt) : Prop := ∃ lo hi, ∃ m r : Int, ds = [oD lo, oD hi, .int m, .int r] ∧ res = voD lo hi m r
def S_wh (ds : List Dt) (res : Dt) : Prop := ∃ d, ds = [d] ∧ d.okT = true ∧ res = .bl (wholeB d)
def S_str (ds : List Dt) (res : Dt) : Prop := ∃ cs : List Int, ds = [.tup (cs.map Dt.int)] ∧ cs.length ≤ 830 ∧ res = .lst (strL cs)
def S_row (ds : List Dt) (res : Dt) : Prop := ∃ d lo hi, ∃ m : Int, ds = [d, .tup [oD lo, oD hi], .int m] ∧ ShT d ∧ 1 ≤ m ∧ res = .bl (rowB lo hi m d)
def S_nam (ds : List Dt) (res : Dt) : Prop := ∃ d, ds = [d] ∧ ShT d ∧ res = .bl (namB d)
abbrev s_is_whole : Stmt := topS 2
abbrev N_is_whole : List Str := ["thing"]
abbrev p_is_whole : List Str := ["thing"]
theorem sc_is_whole : FnScope N_is_whole p_is_whole (defScope s_is_whole) := ⟨rfl, rfl, rfl, by decide +kernel, rfl, by decide +kernel, by decide +kernel⟩
abbrev s_low_within : Stmt := topS 5
abbrev N_low_within : List Str := ["one", "other"]
abbrev p_low_within : List Str := ["one", "other"]
theorem sc_low_within : FnScope N_low_within p_low_within (defScope s_low_within) := ⟨rfl, rfl, rfl, by decide +kernel, rfl, by decide +kernel, by decide +kernel⟩
abbrev s_high_within : Stmt := topS 6
abbrev N_high_within : List Str := ["one", "other"]
abbrev p_high_within : List Str := ["one", "other"]
theorem sc_high_within : FnScope N_high_within p_high_within (defScope s_high_within) := ⟨rfl, rfl, rfl, by decide +kernel, rfl, by decide +kernel, by decide +kernel⟩
abbrev s_lets_in : Stmt := topS 7
abbrev N_lets_in : List Str := ["low", "high", "n"]
abbrev p_lets_in : List Str := ["low", "high", "n"]
theorem sc_lets_in : FnScope N_lets_in p_lets_in (defScope s_lets_in) := ⟨rfl, rfl, rfl, by decide +kernel, rfl, by decide +kernel, by decide +kernel⟩
abbrev s_single : Stmt := topS 9
abbrev N_single : List Str := ["n"]
abbrev p_single : List Str := ["n"]
theorem sc_single : FnScope N_single p_single (defScope s_single) := ⟨rfl, rfl, rfl, by decide +kernel, rfl, by decide +kernel, by decide +kernel⟩
abbrev s_value_of : Stmt := topS 10
abbrev N_value_of : List Str := ["low", "high", "m", "r"]
abbrev p_value_of : List Str := ["low", "high", "m", "r"]
theorem sc_value_of : FnScope N_value_of p_value_of (defScope s_value_of) := ⟨rfl, rfl, rfl, by decide +kernel, rfl, by decide +kernel, by decide +kernel⟩
abbrev s_stretches : Stmt := topS 13
abbrev N_stretches : List Str := ["cuts", "cut"]
abbrev p_stretches : List Str := ["cuts"]
theorem sc_stretches : FnScope N_stretches p_stretches (defScope s_stretches) := ⟨rfl, rfl, rfl, by decide +kernel, rfl, by decide +kernel, by decide +kernel⟩
abbrev s_is_row : Stmt := topS 15
abbrev N_is_row : List Str := ["thing", "span", "m", "r", "name"]
abbrev p_is_row : List Str := ["thing", "span", "m"]
theorem sc_is_row : FnScope N_is_row p_is_row (defScope s_is_row) := ⟨rfl, rfl, rfl, by decide +kernel, rfl, by decide +kernel, by decide +kernel⟩
abbrev s_has_naming_form : Stmt := topS 14
abbrev N_has_naming_form : List Str := ["thing", "cuts", "m", "names", "row", "span", "cut", "ahead"]
abbrev p_has_naming_form : List Str := ["thing"]
theorem sc_has_naming_form : FnScope N_has_naming_form p_has_naming_form (defScope s_has_naming_form) := ⟨rfl, rfl, rfl, by decide +kernel, rfl, by decide +kernel, by decide +kernel⟩
abbrev s_is_naming : Stmt := topS 17
abbrev N_is_naming : List Str := ["thing"]
abbrev p_is_naming : List Str := ["thing"]
theorem sc_is_naming : FnScope N_is_naming p_is_naming (defScope s_is_naming) := ⟨rfl, rfl, rfl, by decide +kernel, rfl, by decide +kernel, by decide +kernel⟩
section
variable {P : Program} {w : World} {K : PySem.W.Frag} {mg : Str → Option Value} {base : Heap}
theorem ok_low_within (bl : Blts mg)   {f : Addr} {fd : FuncData} (F : Fun K "low_within" "low_within" s_low_within f fd) : FnOk P w K mg base CX0 1 f fd p_low_within (spP K (S2b lwB)) := by
  refine okP F sc_low_within (fun ds r h => ?_) (fun cdv A outer s H E hr ds r h => ?_)
  · obtain ⟨a, b, rfl, rfl⟩ := h
    rfl
  obtain ⟨a, b, rfl, rfl⟩ := h
  refine ⟨_, (pss_one (ps_ret (pe_or (pe_cmpR op_isN (pv 1) pe_non (nomark _)) (pe_one (pe_and (pe_cmpR op_notN (pv 0) pe_non (nomark _)) (pe_one (pe_cmpR op_ge (pv 0) (pv 1) (nomark _)))))))), ?_⟩
  change AS K _ [En.da _, En.da _] _ _
  try simp only [cxOf_K]
  cases a <;> cases b
  all_goals
    repeat' (first
      | with_reducible apply as_ret
      | ((with_reducible apply ae_var); · rfl)
      | with_reducible apply ae_non
      | with_reducible apply ae_op
      | with_reducible apply ae_andV
      | with_reducible apply ae_orV
      | with_reducible apply ar_I0b
      | with_reducible apply ar_isN
      | with_reducible apply ar_notN
      | refine ⟨_, rfl, ?_⟩
      | (refine ⟨fun hc => ?_, fun hc => ?_⟩ <;> (first | (exfalso; exact absurd (show false = true from hc) (by decide)) | (exfalso; exact absurd (show true = false from hc) (by decide)) | (exfalso; simp at hc; done) | skip))
      | rfl
      | simp only [oD_some, oD_none]
      | fail)
theorem ok_high_within (bl : Blts mg)   {f : Addr} {fd : FuncData} (F : Fun K "high_within" "high_within" s_high_within f fd) : FnOk P w K mg base CX0 1 f fd p_high_within (spP K (S2b hwB)) := by
  refine okP F sc_high_within (fun ds r h => ?_) (fun cdv A outer s H E hr ds r h => ?_)
  · obtain ⟨a, b, rfl, rfl⟩ := h
    rfl
  obtain ⟨a, b, rfl, rfl⟩ := h
  refine ⟨_, (pss_one (ps_ret (pe_or (pe_cmpR op_isN (pv 1) pe_non (nomark _)) (pe_one (pe_and (pe_cmpR op_notN (pv 0) pe_non (nomark _)) (pe_one (pe_cmpR op_le (pv 0) (pv 1) (nomark _)))))))), ?_⟩
  change AS K _ [En.da _, En.da _] _ _
  try simp only [cxOf_K]
  cases a <;> cases b
  all_goals
    repeat' (first
      | with_reducible apply as_ret
      | ((with_reducible apply ae_var); · rfl)
      | with_reducible apply ae_non
      | with_reducible apply ae_op
      | with_reducible apply ae_andV
      | with_reducible apply ae_orV
      | with_reducible apply ar_I0b
      | with_reducible apply ar_isN
      | with_reducible apply ar_notN
      | refine ⟨_, rfl, ?_⟩
      | (refine ⟨fun hc => ?_, fun hc => ?_⟩ <;> (first | (exfalso; exact absurd (show false = true from hc) (by decide)) | (exfalso; exact absurd (show true = false from hc) (by decide)) | (exfalso; simp at hc; done) | skip))
      | rfl
      | simp only [oD_some, oD_none]
      | fail)
theorem ok_lets_in (bl : Blts mg) {g_low_within : Addr} {d_low_within : FuncData} (c_low_within : Cal P w K mg base 1 "low_within" p_low_within (spP K (S2b lwB)) g_low_within d_low_within) {g_high_within : Addr} {d_high_within : FuncData} (c_high_within : Cal P w K mg base 1 "high_within" p_high_within (spP K (S2b hwB)) g_high_within d_high_within)  {f : Addr} {fd : FuncData} (F : Fun K "lets_in" "lets_in" s_lets_in f fd) : FnOk P w K mg base CX0 2 f fd p_lets_in (spP K (S_lets)) := by
  refine okP F sc_lets_in (fun ds r h => ?_) (fun cdv A outer s H E hr ds r h => ?_)
  · obtain ⟨a, b, n, rfl, rfl⟩ := h
    rfl
  obtain ⟨a, b, n, rfl, rfl⟩ := h
  refine ⟨_, (pss_one (ps_ret (pe_and (pe_call c_low_within.ok (hr.mono (by decide)) rfl c_low_within.mg c_low_within.kp c_low_within.bi .nil pass0 (pa_cons (pv 2) (pa_cons (pv 0) pa_nil))) (pe_one (pe_call c_high_within.ok (hr.mono (by decide)) rfl c_high_within.mg c_high_within.kp c_high_within.bi .nil pass0 (pa_cons (pv 2) (pa_cons (pv 1) pa_nil))))))), ?_⟩
  change AS K _ [En.da _, En.da _, En.da _] _ _
  try simp only [cxOf_K]
  repeat' (first
    | with_reducible apply ae_call
    | (refine ⟨_, ⟨some _, _, rfl, rfl⟩, ?_⟩)
    | with_reducible apply as_ret
    | ((with_reducible apply ae_var); · rfl)
    | with_reducible apply aa_nil
    | with_reducible apply aa_cons
    | with_reducible apply ae_andV
    | refine ⟨_, rfl, ?_⟩
    | (refine ⟨fun hc => ?_, fun hc => ?_⟩ <;> (first | (exfalso; exact absurd (show false = true from hc) (by decide)) | (exfalso; exact absurd (show true = false from hc) (by decide)) | (exfalso; simp at hc; done) | skip))
    | fail)
  all_goals (unfold letsB; first | (rw [show lwB (some n) a = true from hc]; rfl) | (rw [show lwB (some n) a = false from hc]; rfl) | trace_state)
theorem ok_single (bl : Blts mg)   {f : Addr} {fd : FuncData} (F : Fun K "single" "single" s_single f fd) : FnOk P w K mg base CX0 1 f fd p_single (spP K (S_sing)) := by
  refine okP F sc_single (fun ds r h => ?_) (fun cdv A outer s H E hr ds r h => ?_)
  · obtain ⟨n, rfl, rfl⟩ := h
    rfl
  obtain ⟨n, rfl, rfl⟩ := h
  refine ⟨_, (pss_one (ps_ret (pe_tup (pa_cons (pv 0) (pa_cons (pv 0) (pa_cons pe_int (pa_cons (pv 0) pa_nil))))))), ?_⟩
  change AS K _ [En.da _] _ _
  try simp only [cxOf_K]
  repeat' (first
    | with_reducible apply as_ret
    | ((with_reducible apply ae_var); · rfl)
    | with_reducible apply ae_int
    | with_reducible apply aa_nil
    | with_reducible apply aa_cons
    | with_reducible apply ae_tup
    | refine ⟨sz60 (Nat.le_of_ble_eq_true rfl), ?_⟩
    | rfl
    | fail)
theorem ok_value_of (bl : Blts mg) {g_lets_in : Addr} {d_lets_in : FuncData} (c_lets_in : Cal P w K mg base 2 "lets_in" p_lets_in (spP K S_lets) g_lets_in d_lets_in) {g_single : Addr} {d_single : FuncData} (c_single : Cal P w K mg base 1 "single" p_single (spP K S_sing) g_single d_single)  {f : Addr} {fd : FuncData} (F : Fun K "value_of" "value_of" s_value_of f fd) : FnOk P w K mg base CX0 3 f fd p_value_of (spP K (S_vo)) := by
  refine okP F sc_value_of (fun ds r h => ?_) (fun cdv A outer s H E hr ds r h => ?_)
  · obtain ⟨lo, hi, m, r, rfl, rfl⟩ := h
    rfl
  obtain ⟨lo, hi, m, r, rfl, rfl⟩ := h
  refine ⟨_, (pss_cons (ps_if (pt_cmpR op_eq (pv 2) pe_int (nomark _)) (pss_one (ps_ret (pe_ifExp (pt_val (pe_call c_lets_in.ok (hr.mono (by decide)) rfl c_lets_in.mg c_lets_in.kp c_lets_in.bi .nil pass0 (pa_cons (pv 0) (pa_cons (pv 1) (pa_cons (pv 3) pa_nil))))) (pe_call c_single.ok (hr.mono (by decide)) rfl c_single.mg c_single.kp c_single.bi .nil pass0 (pa_cons (pv 3) pa_nil)) pe_non))) pss_nil)
    (pss_cons (ps_if (pt_cmpR op_notN (pv 0) pe_non (nomark _)) (pss_one (ps_set (i := 0) sc_value_of.nd rfl (by first | exact Or.inl rfl | exact Or.inr rfl) (pe_op op_add (pv 0) (pe_op op_modN (pe_op op_sub (pv 3) (pv 0)) (pv 2))))) pss_nil)
    (pss_cons (ps_if (pt_cmpR op_notN (pv 1) pe_non (nomark _)) (pss_one (ps_set (i := 1) sc_value_of.nd rfl (by first | exact Or.inl rfl | exact Or.inr rfl) (pe_op op_sub (pv 1) (pe_op op_modN (pe_op op_sub (pv 1) (pv 3)) (pv 2))))) pss_nil)
    (pss_cons (ps_if (PW.pt (pw_and (pt_cmpR op_notN (pv 0) pe_non (nomark _)) (pw_and (pt_cmpR op_notN (pv 1) pe_non (nomark _)) (pw_and1 (pt_cmpR op_ge (pv 0) (pv 1) (nomark _)))))) (pss_one (ps_ret (pe_ifExp (pt_cmpR op_eq (pv 0) (pv 1) (nomark _)) (pe_call c_single.ok (hr.mono (by decide)) rfl c_single.mg c_single.kp c_single.bi .nil pass0 (pa_cons (pv 0) pa_nil)) pe_non))) pss_nil)
    (pss_one (ps_ret (pe_tup (pa_cons (pv 0) (pa_cons (pv 1) (pa_cons (pv 2) (pa_cons (pv 3) pa_nil))))))))))), ?_⟩
  change AS K _ [En.da _, En.da _, En.da _, En.da _] _ _
  try simp only [cxOf_K]
  by_cases h0 : m = 0
  · subst h0
    cases hl : letsB lo hi r
    all_goals
      repeat' (first
        | with_reducible apply ae_call
        | (refine ⟨.bl true, ⟨lo, hi, r, rfl, (congrArg Dt.bl hl.symm)⟩, ?_⟩)
        | (refine ⟨.bl false, ⟨lo, hi, r, rfl, (congrArg Dt.bl hl.symm)⟩, ?_⟩)
        | (refine ⟨_, ⟨_, rfl, rfl⟩, ?_⟩)
        | with_reducible apply as_seq
        | with_reducible apply as_ret
        | with_reducible apply as_if
        | ((with_reducible apply ae_var); · rfl)
        | with_reducible apply ae_int
        | with_reducible apply ae_non
        | with_reducible apply ae_op
        | with_reducible apply aa_nil
        | with_reducible apply aa_cons
        | with_reducible apply ae_if
        | with_reducible apply at_test
        | with_reducible apply at_b
        | ((with_reducible apply ar_eq3); · exact ⟨rfl, rfl, rfl⟩)
        | refine ⟨_, rfl, ?_⟩
        | (refine ⟨fun hc => ?_, fun hc => ?_⟩ <;> (first | (exfalso; exact absurd (show false = true from hc) (by decide)) | (exfalso; exact absurd (show true = false from hc) (by decide)) | (exfalso; simp at hc; done) | skip))
        | fail)
    all_goals simp [voD, hl]
  · have hd : decide (V.int m = V.int 0) = false := decide_eq_false (fun z => h0 (by cases z; rfl))
    cases lo with
    | none => cases hi with
      | none =>
        repeat' (first
          | (refine ⟨_, rfl, ?_⟩; rw [hd]; refine ⟨fun hc => (nomatch hc), fun hc => ?_⟩)
          | with_reducible apply as_seq
          | with_reducible apply as_ret
          | with_reducible apply as_next
          | with_reducible apply as_if
          | ((with_reducible apply ae_var); · rfl)
          | with_reducible apply ae_int
          | with_reducible apply ae_non
          | with_reducible apply ae_op
          | with_reducible apply aa_nil
          | with_reducible apply aa_cons
          | with_reducible apply ae_tup
          | with_reducible apply at_test
          | with_reducible apply at_and
          | with_reducible apply ar_notN
          | ((with_reducible apply ar_eq3); · exact ⟨rfl, rfl, rfl⟩)
          | refine ⟨sz60 (Nat.le_of_ble_eq_true rfl), ?_⟩
          | refine ⟨_, rfl, ?_⟩
          | (refine ⟨fun hc => ?_, fun hc => ?_⟩ <;> (first | (exfalso; exact absurd (show false = true from hc) (by decide)) | (exfalso; exact absurd (show true = false from hc) (by decide)) | (exfalso; simp at hc; done) | skip))
          | simp only [oD_some, oD_none]
          | fail)
        all_goals (simp [voD, h0, oD]; done)
      | some y =>
        repeat' (first
          | (refine ⟨_, rfl, ?_⟩; rw [hd]; refine ⟨fun hc => (nomatch hc), fun hc => ?_⟩)
          | refine ar_Ii (C := fun _ j => j ≠ 0) (by first | assumption | omega) ?_
          | with_reducible apply as_seq
          | with_reducible apply as_ret
          | with_reducible apply as_next
          | with_reducible apply as_if
          | with_reducible apply as_set
          | ((with_reducible apply ae_var); · rfl)
          | with_reducible apply ae_int
          | with_reducible apply ae_non
          | with_reducible apply ae_op
          | with_reducible apply aa_nil
          | with_reducible apply aa_cons
          | with_reducible apply ae_tup
          | with_reducible apply at_test
          | with_reducible apply at_and
          | with_reducible apply ar_I0i
          | with_reducible apply ar_notN
          | ((with_reducible apply ar_eq3); · exact ⟨rfl, rfl, rfl⟩)
          | refine ⟨sz60 (Nat.le_of_ble_eq_true rfl), ?_⟩
          | refine ⟨_, rfl, ?_⟩
          | (refine ⟨fun hc => ?_, fun hc => ?_⟩ <;> (first | (exfalso; exact absurd (show false = true from hc) (by decide)) | (exfalso; exact absurd (show true = false from hc) (by decide)) | (exfalso; simp at hc; done) | skip))
          | simp only [oD_some, oD_none]
          | fail)
        all_goals (simp [voD, h0, dnR, oD]; done)
    | some x => cases hi with
      | none =>
        repeat' (first
          | (refine ⟨_, rfl, ?_⟩; rw [hd]; refine ⟨fun hc => (nomatch hc), fun hc => ?_⟩)
          | refine ar_Ii (C := fun _ j => j ≠ 0) (by first | assumption | omega) ?_
          | with_reducible apply as_seq
          | with_reducible apply as_ret
          | with_reducible apply as_next
          | with_reducible apply as_if
          | with_reducible apply as_set
          | ((with_reducible apply ae_var); · rfl)
          | with_reducible apply ae_int
          | with_reducible apply ae_non
          | with_reducible apply ae_op
          | with_reducible apply aa_nil
          | with_reducible apply aa_cons
          | with_reducible apply ae_tup
          | with_reducible apply at_test
          | with_reducible apply at_and
          | with_reducible apply ar_I0i
          | with_reducible apply ar_notN
          | ((with_reducible apply ar_eq3); · exact ⟨rfl, rfl, rfl⟩)
          | refine ⟨sz60 (Nat.le_of_ble_eq_true rfl), ?_⟩
          | refine ⟨_, rfl, ?_⟩
          | (refine ⟨fun hc => ?_, fun hc => ?_⟩ <;> (first | (exfalso; exact absurd (show false = true from hc) (by decide)) | (exfalso; exact absurd (show true = false from hc) (by decide)) | (exfalso; simp at hc; done) | skip))
          | simp only [oD_some, oD_none]
          | fail)
        all_goals (simp [voD, h0, upR, oD]; done)
      | some y =>
        repeat' (first
          | (refine ⟨_, rfl, ?_⟩; rw [hd]; refine ⟨fun hc => (nomatch hc), fun hc => ?_⟩)
          | refine ar_Ii (C := fun _ j => j ≠ 0) (by first | assumption | omega) ?_
          | with_reducible apply ae_call
          | (refine ⟨_, ⟨_, rfl, rfl⟩, ?_⟩)
          | with_reducible apply as_seq
          | with_reducible apply as_ret
          | with_reducible apply as_next
          | with_reducible apply as_if
          | with_reducible apply as_set
          | ((with_reducible apply ae_var); · rfl)
          | with_reducible apply ae_int
          | with_reducible apply ae_non
          | with_reducible apply ae_op
          | with_reducible apply aa_nil
          | with_reducible apply aa_cons
          | with_reducible apply ae_tup
          | with_reducible apply ae_if
          | with_reducible apply at_test
          | with_reducible apply at_and
          | with_reducible apply ar_I0i
          | with_reducible apply ar_I0b
          | with_reducible apply ar_notN
          | ((with_reducible apply ar_eq3); · exact ⟨rfl, rfl, rfl⟩)
          | refine ⟨sz60 (Nat.le_of_ble_eq_true rfl), ?_⟩
          | refine ⟨_, rfl, ?_⟩
          | (refine ⟨fun hc => ?_, fun hc => ?_⟩ <;> (first | (exfalso; exact absurd (show false = true from hc) (by decide)) | (exfalso; exact absurd (show true = false from hc) (by decide)) | (exfalso; simp at hc; done) | skip))
          | simp only [oD_some, oD_none]
          | fail)
        all_goals (clear F hr c_lets_in c_single bl; unfold voD; rw [if_neg h0]; simp_all [upR, dnR, oD])
        all_goals (repeat (first | rw [if_neg (by omega)] | rw [if_pos (by omega)])); (try rfl)
theorem ok_is_whole (bl : Blts mg)   {f : Addr} {fd : FuncData} (F : Fun K "is_whole" "is_whole" s_is_whole f fd) : FnOk P w K mg base CX0 1 f fd p_is_whole (spP K (S_wh)) := by
  refine okP F sc_is_whole (fun ds r h => ?_) (fun cdv A outer s H E hr ds r h => ?_)
  · obtain ⟨d, rfl, hd, rfl⟩ := h
    rfl
  obtain ⟨d, rfl, hd, rfl⟩ := h
  refine ⟨_, (pss_one (ps_ret (pe_and (pe_callB call_isi rfl bl.isinstance (by decide +kernel) (pa_cons (pv 0) (pa_cons (pe_bltn (v := .ty "int") rfl bl.int (by decide +kernel) rfl) pa_nil))) (pe_one (pe_not (pe_callB call_isi rfl bl.isinstance (by decide +kernel) (pa_cons (pv 0) (pa_cons (pe_bltn (v := .ty "bool") rfl bl.bool (by decide +kernel) rfl) pa_nil)))))))), ?_⟩
  change AS K _ [En.da _] _ _
  try simp only [cxOf_K]
  cases d with
  | non =>
    repeat' (first
      | with_reducible apply ac_isi1
      | exact ⟨rfl, kb_NoneType_int⟩
      | with_reducible apply as_ret
      | ((with_reducible apply ae_var); · rfl)
      | with_reducible apply ae_ty
      | with_reducible apply aa_nil
      | with_reducible apply aa_cons
      | with_reducible apply ae_cb
      | with_reducible apply ae_andV
      | refine ⟨_, rfl, ?_⟩
      | (refine ⟨fun hc => ?_, fun hc => ?_⟩ <;> (first | (exfalso; exact absurd (show false = true from hc) (by decide)) | (exfalso; exact absurd (show true = false from hc) (by decide)) | (exfalso; simp at hc; done) | skip))
      | rfl
      | fail)
  | bl b =>
    repeat' (first
      | with_reducible apply ac_isi1
      | exact ⟨rfl, kb_bool_int⟩
      | with_reducible apply as_ret
      | ((with_reducible apply ae_var); · rfl)
      | with_reducible apply ae_ty
      | with_reducible apply aa_nil
      | with_reducible apply aa_cons
      | with_reducible apply ae_cb
      | with_reducible apply ae_andV
      | with_reducible apply ae_notV
      | refine ⟨_, rfl, ?_⟩
      | (refine ⟨fun hc => ?_, fun hc => ?_⟩ <;> (first | (exfalso; exact absurd (show false = true from hc) (by decide)) | (exfalso; exact absurd (show true = false from hc) (by decide)) | (exfalso; simp at hc; done) | skip))
      | rfl
      | fail)
  | int i =>
    repeat' (first
      | with_reducible apply ac_isi1
      | exact ⟨rfl, kb_int_int⟩
      | exact ⟨rfl, kb_int_bool⟩
      | with_reducible apply as_ret
      | ((with_reducible apply ae_var); · rfl)
      | with_reducible apply ae_ty
      | with_reducible apply aa_nil
      | with_reducible apply aa_cons
      | with_reducible apply ae_cb
      | with_reducible apply ae_andV
      | with_reducible apply ae_notV
      | refine ⟨_, rfl, ?_⟩
      | (refine ⟨fun hc => ?_, fun hc => ?_⟩ <;> (first | (exfalso; exact absurd (show false = true from hc) (by decide)) | (exfalso; exact absurd (show true = false from hc) (by decide)) | (exfalso; simp at hc; done) | skip))
      | rfl
      | fail)
  | str s =>
    repeat' (first
      | with_reducible apply ac_isi1
      | exact ⟨rfl, kb_str_int⟩
      | with_reducible apply as_ret
      | ((with_reducible apply ae_var); · rfl)
      | with_reducible apply ae_ty
      | with_reducible apply aa_nil
      | with_reducible apply aa_cons
      | with_reducible apply ae_cb
      | with_reducible apply ae_andV
      | refine ⟨_, rfl, ?_⟩
      | (refine ⟨fun hc => ?_, fun hc => ?_⟩ <;> (first | (exfalso; exact absurd (show false = true from hc) (by decide)) | (exfalso; exact absurd (show true = false from hc) (by decide)) | (exfalso; simp at hc; done) | skip))
      | rfl
      | fail)
  | ty n =>
    cases hd
  | tup l =>
    repeat' (first
      | with_reducible apply ac_isi1
      | exact ⟨rfl, kb_tuple_int⟩
      | with_reducible apply as_ret
      | ((with_reducible apply ae_var); · rfl)
      | with_reducible apply ae_ty
      | with_reducible apply aa_nil
      | with_reducible apply aa_cons
      | with_reducible apply ae_cb
      | with_reducible apply ae_andV
      | refine ⟨_, rfl, ?_⟩
      | (refine ⟨fun hc => ?_, fun hc => ?_⟩ <;> (first | (exfalso; exact absurd (show false = true from hc) (by decide)) | (exfalso; exact absurd (show true = false from hc) (by decide)) | (exfalso; simp at hc; done) | skip))
      | rfl
      | fail)
  | lst l =>
    repeat' (first
      | with_reducible apply ac_isi1
      | exact ⟨rfl, kb_list_int⟩
      | with_reducible apply as_ret
      | ((with_reducible apply ae_var); · rfl)
      | with_reducible apply ae_ty
      | with_reducible apply aa_nil
      | with_reducible apply aa_cons
      | with_reducible apply ae_cb
      | with_reducible apply ae_andV
      | refine ⟨_, rfl, ?_⟩
      | (refine ⟨fun hc => ?_, fun hc => ?_⟩ <;> (first | (exfalso; exact absurd (show false = true from hc) (by decide)) | (exfalso; exact absurd (show true = false from hc) (by decide)) | (exfalso; simp at hc; done) | skip))
      | rfl
      | fail)
end
end Sh
set_option Elab.async false
set_option linter.all false
set_option maxRecDepth 100000
set_option maxHeartbeats 4000000
namespace Sh
open PySem PySem.Spec PyProof.Rows L2
abbrev s_as_tuples : Stmt := topS 3
abbrev N_as_tuples : List Str := ["thing"]
abbrev p_as_tuples : List Str := ["thing"]
theorem sc_as_tuples : FnScope N_as_tuples p_as_tuples (defScope s_as_tuples) := ⟨rfl, rfl, rfl, by decide +kernel, rfl, by decide +kernel, by decide +kernel⟩
section
variable {P : Program} {w : World} {K : PySem.W.Frag} {mg : Str → Option Value} {base : Heap}
theorem ok_as_tuples (bl : Blts mg) {n k : Nat} {g_as_tuples : Addr} {d_as_tuples : FuncData} (c_as_tuples : Cal P w K mg base k "as_tuples" p_as_tuples (spP K (S_as n)) g_as_tuples d_as_tuples) (hmap : mg "map" = none) {f : Addr} {fd : FuncData} (F : Fun K "as_tuples" "as_tuples" s_as_tuples f fd) : FnOk P w K mg base CX0 (k + 5) f fd p_as_tuples (spP K (S_as (n + 1))) := by
  refine okP F sc_as_tuples (fun ds r h => ?_) (fun cdv A outer s H E hr ds r h => ?_)
  · obtain ⟨d, rfl, hd, rfl⟩ := h
    rfl
  obtain ⟨d, rfl, hd, rfl⟩ := h
  refine ⟨_, (pss_cons (ps_if (pt_val (pe_callB call_isiT rfl bl.isinstance (by decide +kernel) (pa_cons (pv 0) (pa_cons (pe_tup (pa_cons (pe_bltn (v := .ty "list") rfl bl.list (by decide +kernel) rfl) (pa_cons (pe_bltn (v := .ty "tuple") rfl bl.tuple (by decide +kernel) rfl) pa_nil))) pa_nil)))) (pss_one (ps_ret (MpT.pe_tupMap rfl rfl bl.tuple rfl hmap (pf_glob rfl c_as_tuples.mg) (pv 0) (MpT.raw0 c_as_tuples.ok c_as_tuples.bi) hr))) pss_nil)
    (pss_one (ps_ret (pv 0)))), ?_⟩
  change AS K _ [En.da _] _ _
  try simp only [cxOf_K]
  cases d with
  | non =>
    repeat' (first
      | (refine ⟨rfl, false, .inr ⟨kb_NoneType_list, kb_NoneType_tuple⟩, ?_⟩)
      | with_reducible apply as_seq
      | with_reducible apply as_ret
      | with_reducible apply as_next
      | with_reducible apply as_if
      | ((with_reducible apply ae_var); · rfl)
      | with_reducible apply ae_isi2
      | with_reducible apply at_b
      | refine ⟨_, rfl, ?_⟩
      | (refine ⟨fun hc => ?_, fun hc => ?_⟩ <;> (first | (exfalso; exact absurd (show false = true from hc) (by decide)) | (exfalso; exact absurd (show true = false from hc) (by decide)) | (exfalso; simp at hc; done) | skip))
      | rfl
      | fail)
  | bl b =>
    repeat' (first
      | (refine ⟨rfl, false, .inr ⟨kb_bool_list, kb_bool_tuple⟩, ?_⟩)
      | with_reducible apply as_seq
      | with_reducible apply as_ret
      | with_reducible apply as_next
      | with_reducible apply as_if
      | ((with_reducible apply ae_var); · rfl)
      | with_reducible apply ae_isi2
      | with_reducible apply at_b
      | refine ⟨_, rfl, ?_⟩
      | (refine ⟨fun hc => ?_, fun hc => ?_⟩ <;> (first | (exfalso; exact absurd (show false = true from hc) (by decide)) | (exfalso; exact absurd (show true = false from hc) (by decide)) | (exfalso; simp at hc; done) | skip))
      | rfl
      | fail)
  | int i =>
    repeat' (first
      | (refine ⟨rfl, false, .inr ⟨kb_int_list, kb_int_tuple⟩, ?_⟩)
      | with_reducible apply as_seq
      | with_reducible apply as_ret
      | with_reducible apply as_next
      | with_reducible apply as_if
      | ((with_reducible apply ae_var); · rfl)
      | with_reducible apply ae_isi2
      | with_reducible apply at_b
      | refine ⟨_, rfl, ?_⟩
      | (refine ⟨fun hc => ?_, fun hc => ?_⟩ <;> (first | (exfalso; exact absurd (show false = true from hc) (by decide)) | (exfalso; exact absurd (show true = false from hc) (by decide)) | (exfalso; simp at hc; done) | skip))
      | rfl
      | fail)
  | str s =>
    repeat' (first
      | (refine ⟨rfl, false, .inr ⟨kb_str_list, kb_str_tuple⟩, ?_⟩)
      | with_reducible apply as_seq
      | with_reducible apply as_ret
      | with_reducible apply as_next
      | with_reducible apply as_if
      | ((with_reducible apply ae_var); · rfl)
      | with_reducible apply ae_isi2
      | with_reducible apply at_b
      | refine ⟨_, rfl, ?_⟩
      | (refine ⟨fun hc => ?_, fun hc => ?_⟩ <;> (first | (exfalso; exact absurd (show false = true from hc) (by decide)) | (exfalso; exact absurd (show true = false from hc) (by decide)) | (exfalso; simp at hc; done) | skip))
      | rfl
      | fail)
  | ty t =>
    exact hd.elim
  | tup l =>
    repeat' (first
      | (refine ⟨rfl, true, .inr ⟨kb_tuple_list, kb_tuple_tuple⟩, ?_⟩)
      | (refine ae_tupMap ?_)
      | (refine ⟨true, l, rfl, tus l, all2_as hd, ?_⟩)
      | with_reducible apply as_seq
      | with_reducible apply as_ret
      | with_reducible apply as_if
      | ((with_reducible apply ae_var); · rfl)
      | with_reducible apply ae_isi2
      | with_reducible apply at_b
      | refine ⟨_, rfl, ?_⟩
      | (refine ⟨fun hc => ?_, fun hc => ?_⟩ <;> (first | (exfalso; exact absurd (show false = true from hc) (by decide)) | (exfalso; exact absurd (show true = false from hc) (by decide)) | (exfalso; simp at hc; done) | skip))
      | rfl
      | fail)
  | lst l =>
    repeat' (first
      | (refine ⟨rfl, true, .inl ⟨kb_list_list, rfl⟩, ?_⟩)
      | (refine ae_tupMap ?_)
      | (refine ⟨false, l, rfl, tus l, all2_as hd, ?_⟩)
      | with_reducible apply as_seq
      | with_reducible apply as_ret
      | with_reducible apply as_if
      | ((with_reducible apply ae_var); · rfl)
      | with_reducible apply ae_isi2
      | with_reducible apply at_b
      | refine ⟨_, rfl, ?_⟩
      | (refine ⟨fun hc => ?_, fun hc => ?_⟩ <;> (first | (exfalso; exact absurd (show false = true from hc) (by decide)) | (exfalso; exact absurd (show true = false from hc) (by decide)) | (exfalso; simp at hc; done) | skip))
      | rfl
      | fail)
theorem as0 {ps : List Str} {f : Addr} {fd : FuncData} : FnOk P w K mg base CX0 0 f fd ps (spP K (S_as 0)) :=
  ⟨fun vs H Q E h => by obtain ⟨_, _, _, _, _, ⟨_, _, hd, _⟩, _⟩ := h; exact hd.elim, fun A outer s H args us vs Q E _ _ _ _ h => by obtain ⟨_, _, _, _, _, ⟨_, _, hd, _⟩, _⟩ := h; exact hd.elim⟩
theorem all_as (bl : Blts mg) (hmap : mg "map" = none) {f : Addr} {fd : FuncData} (F : Fun K "as_tuples" "as_tuples" s_as_tuples f fd) (b : Binds K fd p_as_tuples []) (m : mg "as_tuples" = some (.ref f)) : ∀ n : Nat, FnOk P w K mg base CX0 (5 * n) f fd p_as_tuples (spP K (S_as n))
  | 0 => as0
  | n + 1 => ok_as_tuples bl ⟨all_as bl hmap F b m n, b, F.kp, m⟩ hmap F
end
end Sh
set_option Elab.async false
set_option linter.all false
set_option maxRecDepth 100000
set_option maxHeartbeats 4000000
namespace Sh
open PySem PySem.Spec PyProof.Rows L2
section
variable {P : Program} {w : World} {K : PySem.W.Frag} {mg : Str → Option Value} {base : Heap}
theorem ok_stretches (bl : Blts mg)   {f : Addr} {fd : FuncData} (F : Fun K "stretches" "stretches" s_stretches f fd) : FnOk P w K mg base CX0 1 f fd p_stretches (spP K (S_str)) := by
  refine okP F sc_stretches (fun ds r h => ?_) (fun cdv A outer s H E hr ds r h => ?_)
  · obtain ⟨cs, rfl, hc, rfl⟩ := h
    rfl
  obtain ⟨cs, rfl, hc, rfl⟩ := h
  refine ⟨_, (pss_one (ps_ret (pe_listZip rfl rfl bl.list rfl bl.zip (pa_cons (pe_lst (pa_cons pe_non (StX.pa_star (pv 0) pa_nil))) (pa_cons (pe_op op_cat (pe_lc (own := [("cut", 1)]) (g := (gName 1)) (te := (tOp (rI0 fun i j => .int (i - j)) (tVar 1) (tC (.int 1)))) (tt := tYes) rfl sc_stretches.nd (pi_tup (pv 0)) (blkOk_by (N := N_stretches) (sc := defScope s_stretches) (by decide +kernel)) (fun _ _ _ _ _ => (pg_name (i := 1) sc_stretches.nd rfl (by first | exact Or.inl rfl | exact Or.inr rfl))) (fun _ _ _ _ _ => pts_nil) (fun _ _ _ _ _ => (pe_op op_sub (pv 1) pe_int))) (pe_lst (pa_cons pe_non pa_nil))) pa_nil))))), ?_⟩
  change AS K _ [En.da _, En.no] _ _
  try simp only [cxOf_K]
  have z9 : 9000 ≤ sizeLine := by decide
  refine as_ret (ae_listZip (aa_cons (ae_lst (aa_cons (ae_non (aa_star (ae_var rfl ⟨true, _, rfl, aa_nil ⟨?_, ?_⟩⟩)))))))
  · show (Dt.non :: (cs.map Dt.int ++ [])).length ≤ sizeLine
    rw [List.append_nil, List.length_cons, List.length_map]
    omega
  refine aa_cons (ae_op (ae_lcMap (fun d => .int (toI d - 1)) (ai_tup (ae_var rfl ⟨_, rfl, ?_, fun d hd => ?_, ?_⟩))))
  · rw [List.length_map]; omega
  · obtain ⟨c, hc, rfl⟩ := List.mem_map.mp hd
    exact agv_name (by simp) (ae_op (ae_var rfl (ae_int (ar_I0i ⟨rfl, rfl⟩))))
  refine ae_lst (aa_cons (ae_non (aa_nil ⟨(by show 1 ≤ sizeLine; omega), ar_catL ?_ (aa_nil ⟨_, _, rfl, ?_, ?_⟩)⟩)))
  · rw [List.length_map, List.length_map]
    show cs.length + 1 ≤ sizeLine
    omega
  · rw [List.append_nil, List.length_cons, List.length_append, List.length_map, List.length_map, List.length_map]
    rfl
  · rw [List.append_nil, List.map_map]
    rfl
end
end Sh
set_option Elab.async false
set_option linter.all false
set_option maxRecDepth 100000
set_option maxHeartbeats 4000000
namespace Sh
open PySem PySem.Spec PyProof.Rows L2
theorem vo_two (lo hi : Option Int) (m r : Int) : voD lo hi m r = .non ∨ ∃ x, voD lo hi m r = .tup x := by
  unfold voD
  split
  · split
    · exact .inr ⟨_, rfl⟩
    · exact .inl rfl
  · split
    · split
      · split
        · exact .inr ⟨_, rfl⟩
        · exact .inl rfl
      · exact .inr ⟨_, rfl⟩
    · exact .inr ⟨_, rfl⟩
section
variable {P : Program} {w : World} {K : PySem.W.Frag} {mg : Str → Option Value} {base : Heap}
theorem ok_is_row (bl : Blts mg) {g_value_of : Addr} {d_value_of : FuncData} (c_value_of : Cal P w K mg base 3 "value_of" p_value_of (spP K S_vo) g_value_of d_value_of)  {f : Addr} {fd : FuncData} (F : Fun K "is_row" "is_row" s_is_row f fd) : FnOk P w K mg base CX0 4 f fd p_is_row (spP K (S_row)) := by
  refine okP F sc_is_row (fun ds r h => ?_) (fun cdv A outer s H E hr ds r h => ?_)
  · obtain ⟨d, lo, hi, m, rfl, hd, hm, rfl⟩ := h
    rfl
  obtain ⟨d, lo, hi, m, rfl, hd, hm, rfl⟩ := h
  refine ⟨_, (pss_cons (ps_if (PW.pt (pw_or (pt_not (pt_val (pe_callB call_isi rfl bl.isinstance (by decide +kernel) (pa_cons (pv 0) (pa_cons (pe_bltn (v := .ty "tuple") rfl bl.tuple (by decide +kernel) rfl) pa_nil))))) (pw_or1 (pt_cmpR op_ne (pe_callB call_len_seq rfl bl.len (by decide +kernel) (pa_cons (pv 0) pa_nil)) (pv 2) (nomark _))))) (pss_one (ps_ret pe_bl)) pss_nil)
    (pss_one (ps_ret (pe_callB (cr_all rfl) rfl bl.all (by decide +kernel) (pa_cons (pe_lc (own := [("r", 3), ("name", 4)]) (g := (gTup K 2 (gCons (gName 3) (gCons (gName 4) gNil)))) (te := (tIf (tTest (tOp (fun x y H Q => y = .non ∧ Q (.bl (decide (x = .non))) H) (tCall (spP K S_vo) [] E0 (tCons (tOp (rIxT K) (tVar 1) (tC (.int 0))) (tCons (tOp (rIxT K) (tVar 1) (tC (.int 1))) (tCons (tVar 2) (tCons (tVar 3) tNil))))) (tC .non))) (tOp (fun x y H Q => y = .non ∧ Q (.bl (decide (x = .non))) H) (tVar 4) (tC .non)) (tCB (rIsi K) (tCons (tVar 4) (tCons (tC (.ty "str")) tNil))))) (tt := tYes) rfl sc_is_row.nd (pi_enT rfl bl.enumerate (pa_cons (pv 0) pa_nil)) (blkOk_by (N := N_is_row) (sc := defScope s_is_row) (by decide +kernel)) (fun _ _ _ _ _ => (pg_tup rfl (pgs_cons (pg_name (i := 3) sc_is_row.nd rfl (by first | exact Or.inl rfl | exact Or.inr rfl)) (pgs_cons (pg_name (i := 4) sc_is_row.nd rfl (by first | exact Or.inl rfl | exact Or.inr rfl)) pgs_nil)))) (fun _ _ _ _ _ => pts_nil) (fun _ _ _ _ _ => (pe_ifExp (pt_cmpR op_isN (pe_call c_value_of.ok (hr.mono (by decide)) rfl c_value_of.mg c_value_of.kp c_value_of.bi .nil pass0 (pa_cons (pe_ix ix_tup (pv 1) pe_int (fun _ _ => rfl)) (pa_cons (pe_ix ix_tup (pv 1) pe_int (fun _ _ => rfl)) (pa_cons (pv 2) (pa_cons (pv 3) pa_nil))))) pe_non (nomark _)) (pe_cmpR op_isN (pv 4) pe_non (nomark _)) (pe_callB call_isi rfl bl.isinstance (by decide +kernel) (pa_cons (pv 4) (pa_cons (pe_bltn (v := .ty "str") rfl bl.str (by decide +kernel) rfl) pa_nil)))))) pa_nil))))), ?_⟩
  change AS K _ [En.da _, En.da _, En.da _, En.no, En.no] _ _
  try simp only [cxOf_K]
  cases d with
  | non =>
    repeat' (first
      | (refine ac_isi1 ⟨rfl, kb_NoneType_tuple⟩ ?_)
      | with_reducible apply as_seq
      | with_reducible apply as_ret
      | with_reducible apply as_if
      | ((with_reducible apply ae_var); · rfl)
      | with_reducible apply ae_bl
      | with_reducible apply ae_ty
      | with_reducible apply aa_nil
      | with_reducible apply aa_cons
      | with_reducible apply ae_cb
      | with_reducible apply at_b
      | with_reducible apply at_or
      | with_reducible apply at_not
      | refine ⟨_, rfl, ?_⟩
      | (refine ⟨fun hc => ?_, fun hc => ?_⟩ <;> (first | (exfalso; exact absurd (show false = true from hc) (by decide)) | (exfalso; exact absurd (show true = false from hc) (by decide)) | (exfalso; simp at hc; done) | skip))
      | rfl
      | fail)
  | bl b =>
    repeat' (first
      | (refine ac_isi1 ⟨rfl, kb_bool_tuple⟩ ?_)
      | with_reducible apply as_seq
      | with_reducible apply as_ret
      | with_reducible apply as_if
      | ((with_reducible apply ae_var); · rfl)
      | with_reducible apply ae_bl
      | with_reducible apply ae_ty
      | with_reducible apply aa_nil
      | with_reducible apply aa_cons
      | with_reducible apply ae_cb
      | with_reducible apply at_b
      | with_reducible apply at_or
      | with_reducible apply at_not
      | refine ⟨_, rfl, ?_⟩
      | (refine ⟨fun hc => ?_, fun hc => ?_⟩ <;> (first | (exfalso; exact absurd (show false = true from hc) (by decide)) | (exfalso; exact absurd (show true = false from hc) (by decide)) | (exfalso; simp at hc; done) | skip))
      | rfl
      | fail)
  | int i =>
    repeat' (first
      | (refine ac_isi1 ⟨rfl, kb_int_tuple⟩ ?_)
      | with_reducible apply as_seq
      | with_reducible apply as_ret
      | with_reducible apply as_if
      | ((with_reducible apply ae_var); · rfl)
      | with_reducible apply ae_bl
      | with_reducible apply ae_ty
      | with_reducible apply aa_nil
      | with_reducible apply aa_cons
      | with_reducible apply ae_cb
      | with_reducible apply at_b
      | with_reducible apply at_or
      | with_reducible apply at_not
      | refine ⟨_, rfl, ?_⟩
      | (refine ⟨fun hc => ?_, fun hc => ?_⟩ <;> (first | (exfalso; exact absurd (show false = true from hc) (by decide)) | (exfalso; exact absurd (show true = false from hc) (by decide)) | (exfalso; simp at hc; done) | skip))
      | rfl
      | fail)
  | str s =>
    repeat' (first
      | (refine ac_isi1 ⟨rfl, kb_str_tuple⟩ ?_)
      | with_reducible apply as_seq
      | with_reducible apply as_ret
      | with_reducible apply as_if
      | ((with_reducible apply ae_var); · rfl)
      | with_reducible apply ae_bl
      | with_reducible apply ae_ty
      | with_reducible apply aa_nil
      | with_reducible apply aa_cons
      | with_reducible apply ae_cb
      | with_reducible apply at_b
      | with_reducible apply at_or
      | with_reducible apply at_not
      | refine ⟨_, rfl, ?_⟩
      | (refine ⟨fun hc => ?_, fun hc => ?_⟩ <;> (first | (exfalso; exact absurd (show false = true from hc) (by decide)) | (exfalso; exact absurd (show true = false from hc) (by decide)) | (exfalso; simp at hc; done) | skip))
      | rfl
      | fail)
  | ty n =>
    cases hd.ok
  | lst l =>
    repeat' (first
      | (refine ac_isi1 ⟨rfl, kb_list_tuple⟩ ?_)
      | with_reducible apply as_seq
      | with_reducible apply as_ret
      | with_reducible apply as_if
      | ((with_reducible apply ae_var); · rfl)
      | with_reducible apply ae_bl
      | with_reducible apply ae_ty
      | with_reducible apply aa_nil
      | with_reducible apply aa_cons
      | with_reducible apply ae_cb
      | with_reducible apply at_b
      | with_reducible apply at_or
      | with_reducible apply at_not
      | refine ⟨_, rfl, ?_⟩
      | (refine ⟨fun hc => ?_, fun hc => ?_⟩ <;> (first | (exfalso; exact absurd (show false = true from hc) (by decide)) | (exfalso; exact absurd (show true = false from hc) (by decide)) | (exfalso; simp at hc; done) | skip))
      | rfl
      | fail)
  | tup l =>
    have h8 : l.length ≤ 830 := ShT.len (k := true) hd
    have z9 : 9000 ≤ sizeLine := by decide
    refine as_seq (as_if (at_or (at_not (at_b (ae_cb (aa_cons (ae_var rfl (aa_cons (ae_ty (aa_nil (ac_isi1 ⟨rfl, kb_tuple_tuple⟩ ⟨true, rfl, fun h => absurd (show false = true from h) (by decide), fun _ => ?_⟩)))))))))))
    refine at_test (ae_op (ae_cb (aa_cons (ae_var rfl (aa_nil (ac_lenT (ae_var rfl (ar_ne3 ⟨rfl, rfl, rfl⟩ ?_))))))))
    by_cases h : (l.length : Int) = m
    · rw [decide_eq_true (show V.int (l.length : Int) = V.int m by rw [h])]
      refine ⟨false, rfl, fun h => absurd (show false = true from h) (by decide), fun _ => as_next ?_⟩
      refine as_ret (ae_cb (aa_cons (ae_lcMap (enF (cellB lo hi m)) (ai_enT (aa_cons (ae_var rfl (aa_nil ⟨_, rfl, ?_, fun d hdm => ?_, ?_⟩)))))))
      · rw [enD_len]; omega
      · obtain ⟨r, hr'⟩ := List.getElem?_of_mem hdm
        have lt : r < l.length := by rw [← enD_len]; exact (List.getElem?_eq_some_iff.mp hr').1
        rw [enD_get (List.getElem?_eq_getElem lt)] at hr'
        cases hr'
        have sh := ShT.mem (k := true) hd (List.getElem_mem lt)
        generalize l[r] = e at sh ⊢
        refine agv_tup rfl (agvs_cons (agv_name (by simp) (agvs_cons (agv_name (by simp) (agvs_nil ?_)))))
        show AE K _ _ fun e' ρ5 => e' = Dt.bl (cellB lo hi m ((r : Nat) : Int).toNat e) ∧ _
        rw [Int.toNat_natCast]
        refine ae_if (at_test (ae_op (ae_call (aa_cons (ae_op (ae_var rfl (ae_int (ar_ixT rfl (aa_cons (ae_op (ae_var rfl (ae_int (ar_ixT rfl (aa_cons (ae_var rfl (aa_cons (ae_var rfl (aa_nil ⟨_, ⟨lo, hi, m, (r : Int), rfl, rfl⟩, ?_⟩))))))))))))))))))

        refine ae_non ?_
        have hv := vo_two lo hi m (r : Int)
        unfold cellB
        generalize voD lo hi m (r : Int) = v at hv ⊢
        rcases hv with rfl | ⟨x, rfl⟩
        · refine ar_isN ⟨true, rfl, fun _ => ?_, (fun h => absurd (show true = false from h) (by decide))⟩
          show AE K _ _ fun e' ρ5 => e' = Dt.bl (nonB e) ∧ _
          cases e
          all_goals
            first
              | (cases sh.ok; done)
              | (refine ae_op (ae_var rfl (ae_non (ar_isN ⟨rfl, rfl⟩))))
        · refine ar_isN ⟨false, rfl, (fun h => absurd (show false = true from h) (by decide)), fun _ => ?_⟩
          show AE K _ _ fun e' ρ5 => e' = Dt.bl (strB e) ∧ _
          cases e
          all_goals
            first
              | (cases sh.ok; done)
              | (refine ae_cb (aa_cons (ae_var rfl (aa_cons (ae_ty (aa_nil (ac_isi1 ⟨rfl, (by first | exact kb_NoneType_str | exact kb_bool_str | exact kb_int_str | exact kb_str_str | exact kb_tuple_str | exact kb_list_str)⟩ ⟨rfl, rfl⟩)))))))
      · rw [enD_cons']
        refine aa_nil (ac_all ?_)
        rw [cells_all0]
        show Dt.bl _ = Dt.bl (decide ((l.length : Int) = m) && cellsB lo hi m 0 l)
        rw [decide_eq_true h, Bool.true_and]
    · rw [decide_eq_false (fun z => h (by injection z))]
      refine ⟨true, rfl, fun _ => as_ret (ae_bl ?_), fun h => absurd (show true = false from h) (by decide)⟩
      show Dt.bl false = Dt.bl (decide ((l.length : Int) = m) && cellsB lo hi m 0 l)
      rw [decide_eq_false h]
      rfl
end
end Sh
set_option Elab.async false
set_option linter.all false
set_option maxRecDepth 100000
set_option maxHeartbeats 4000000
namespace Sh
open PySem PySem.Spec PyProof.Rows L2
section
variable {P : Program} {w : World} {K : PySem.W.Frag} {mg : Str → Option Value} {base : Heap}
theorem ok_has_naming_form (bl : Blts mg) {g_is_whole : Addr} {d_is_whole : FuncData} (c_is_whole : Cal P w K mg base 1 "is_whole" p_is_whole (spP K S_wh) g_is_whole d_is_whole) {g_stretches : Addr} {d_stretches : FuncData} (c_stretches : Cal P w K mg base 1 "stretches" p_stretches (spP K S_str) g_stretches d_stretches) {g_is_row : Addr} {d_is_row : FuncData} (c_is_row : Cal P w K mg base 4 "is_row" p_is_row (spP K S_row) g_is_row d_is_row)  {f : Addr} {fd : FuncData} (F : Fun K "has_naming_form" "has_naming_form" s_has_naming_form f fd) : FnOk P w K mg base CX0 5 f fd p_has_naming_form (spP K (S_nam)) := by
  refine okP F sc_has_naming_form (fun ds r h => ?_) (fun cdv A outer s H E hr ds r h => ?_)
  · obtain ⟨d, rfl, hd, rfl⟩ := h
    rfl
  obtain ⟨d, rfl, hd, rfl⟩ := h
  refine ⟨_, (pss_cons (ps_if (PW.pt (pw_or (pt_not (pt_val (pe_callB call_isi rfl bl.isinstance (by decide +kernel) (pa_cons (pv 0) (pa_cons (pe_bltn (v := .ty "tuple") rfl bl.tuple (by decide +kernel) rfl) pa_nil))))) (pw_or1 (pt_cmpR op_ne (pe_callB call_len_seq rfl bl.len (by decide +kernel) (pa_cons (pv 0) pa_nil)) pe_int (nomark _))))) (pss_one (ps_ret pe_bl)) pss_nil)
    (pss_cons (ps_asg (pv 0) (pg_tup rfl (pgs_cons (pg_name (i := 1) sc_has_naming_form.nd rfl (by first | exact Or.inl rfl | exact Or.inr rfl)) (pgs_cons (pg_name (i := 2) sc_has_naming_form.nd rfl (by first | exact Or.inl rfl | exact Or.inr rfl)) (pgs_cons (pg_name (i := 3) sc_has_naming_form.nd rfl (by first | exact Or.inl rfl | exact Or.inr rfl)) pgs_nil)))))
    (pss_cons (ps_if (PW.pt (pw_or (pt_not (pt_val (pe_callB call_isi rfl bl.isinstance (by decide +kernel) (pa_cons (pv 1) (pa_cons (pe_bltn (v := .ty "tuple") rfl bl.tuple (by decide +kernel) rfl) pa_nil))))) (pw_or1 (pt_not (pt_val (pe_callB (cr_all rfl) rfl bl.all (by decide +kernel) (pa_cons (pe_lc (own := [("cut", 6)]) (g := (gName 6)) (te := (tCall (spP K S_wh) [] E0 (tCons (tVar 6) tNil))) (tt := tYes) rfl sc_has_naming_form.nd (pi_tup (pv 1)) (blkOk_by (N := N_has_naming_form) (sc := defScope s_has_naming_form) (by decide +kernel)) (fun _ _ _ _ _ => (pg_name (i := 6) sc_has_naming_form.nd rfl (by first | exact Or.inl rfl | exact Or.inr rfl))) (fun _ _ _ _ _ => pts_nil) (fun _ _ _ _ _ => (pe_call c_is_whole.ok (hr.mono (by decide)) rfl c_is_whole.mg c_is_whole.kp c_is_whole.bi .nil pass0 (pa_cons (pv 6) pa_nil)))) pa_nil))))))) (pss_one (ps_ret pe_bl)) pss_nil)
    (pss_cons (ps_if (PW.pt (pw_or (pt_not (pt_val (pe_callB (cr_all rfl) rfl bl.all (by decide +kernel) (pa_cons (pe_lc (own := [("ahead", 7), ("cut", 6)]) (g := (gTup K 2 (gCons (gName 7) (gCons (gName 6) gNil)))) (te := (tOp (rI0 fun i j => .bl (decide (i < j))) (tVar 7) (tVar 6))) (tt := tYes) rfl sc_has_naming_form.nd (pi_zipK rfl bl.zip (pa_cons (pv 1) (pa_cons (pe_slice sl_tupA (pv 1) (po_some pe_int) po_none) pa_nil))) (blkOk_by (N := N_has_naming_form) (sc := defScope s_has_naming_form) (by decide +kernel)) (fun _ _ _ _ _ => (pg_tup rfl (pgs_cons (pg_name (i := 7) sc_has_naming_form.nd rfl (by first | exact Or.inl rfl | exact Or.inr rfl)) (pgs_cons (pg_name (i := 6) sc_has_naming_form.nd rfl (by first | exact Or.inl rfl | exact Or.inr rfl)) pgs_nil)))) (fun _ _ _ _ _ => pts_nil) (fun _ _ _ _ _ => (pe_cmpR op_lt (pv 7) (pv 6) (nomark _)))) pa_nil)))) (pw_or (pt_not (pt_val (pe_call c_is_whole.ok (hr.mono (by decide)) rfl c_is_whole.mg c_is_whole.kp c_is_whole.bi .nil pass0 (pa_cons (pv 2) pa_nil)))) (pw_or1 (pt_cmpR op_lt (pv 2) pe_int (nomark _)))))) (pss_one (ps_ret pe_bl)) pss_nil)
    (pss_cons (ps_if (PW.pt (pw_or (pt_not (pt_val (pe_callB call_isi rfl bl.isinstance (by decide +kernel) (pa_cons (pv 3) (pa_cons (pe_bltn (v := .ty "tuple") rfl bl.tuple (by decide +kernel) rfl) pa_nil))))) (pw_or1 (pt_cmpR op_ne (pe_callB call_len_seq rfl bl.len (by decide +kernel) (pa_cons (pv 3) pa_nil)) (pe_op op_add (pe_callB call_len_seq rfl bl.len (by decide +kernel) (pa_cons (pv 1) pa_nil)) pe_int) (nomark _))))) (pss_one (ps_ret pe_bl)) pss_nil)
    (pss_one (ps_ret (pe_callB (cr_all rfl) rfl bl.all (by decide +kernel) (pa_cons (pe_lc (own := [("row", 4), ("span", 5)]) (g := (gTup K 2 (gCons (gName 4) (gCons (gName 5) gNil)))) (te := (tCall (spP K S_row) [] E0 (tCons (tVar 4) (tCons (tVar 5) (tCons (tVar 2) tNil))))) (tt := tYes) rfl sc_has_naming_form.nd (pi_zipK rfl bl.zip (pa_cons (pv 3) (pa_cons (pe_call c_stretches.ok (hr.mono (by decide)) rfl c_stretches.mg c_stretches.kp c_stretches.bi .nil pass0 (pa_cons (pv 1) pa_nil)) pa_nil))) (blkOk_by (N := N_has_naming_form) (sc := defScope s_has_naming_form) (by decide +kernel)) (fun _ _ _ _ _ => (pg_tup rfl (pgs_cons (pg_name (i := 4) sc_has_naming_form.nd rfl (by first | exact Or.inl rfl | exact Or.inr rfl)) (pgs_cons (pg_name (i := 5) sc_has_naming_form.nd rfl (by first | exact Or.inl rfl | exact Or.inr rfl)) pgs_nil)))) (fun _ _ _ _ _ => pts_nil) (fun _ _ _ _ _ => (pe_call c_is_row.ok (hr.mono (by decide)) rfl c_is_row.mg c_is_row.kp c_is_row.bi .nil pass0 (pa_cons (pv 4) (pa_cons (pv 5) (pa_cons (pv 2) pa_nil)))))) pa_nil))))))))), ?_⟩
  change AS K _ [En.da _, En.no, En.no, En.no, En.no, En.no, En.no, En.no] _ _
  try simp only [cxOf_K]
  have z9 : 9000 ≤ sizeLine := by decide
  cases d with
  | non =>
    repeat' (first
      | (refine ac_isi1 ⟨rfl, kb_NoneType_tuple⟩ ?_)
      | with_reducible apply as_seq
      | with_reducible apply as_ret
      | with_reducible apply as_if
      | ((with_reducible apply ae_var); · rfl)
      | with_reducible apply ae_bl
      | with_reducible apply ae_ty
      | with_reducible apply aa_nil
      | with_reducible apply aa_cons
      | with_reducible apply ae_cb
      | with_reducible apply at_b
      | with_reducible apply at_or
      | with_reducible apply at_not
      | refine ⟨_, rfl, ?_⟩
      | (refine ⟨fun hc => ?_, fun hc => ?_⟩ <;> (first | (exfalso; exact absurd (show false = true from hc) (by decide)) | (exfalso; exact absurd (show true = false from hc) (by decide)) | (exfalso; simp at hc; done) | skip))
      | rfl
      | fail)
  | bl b =>
    repeat' (first
      | (refine ac_isi1 ⟨rfl, kb_bool_tuple⟩ ?_)
      | with_reducible apply as_seq
      | with_reducible apply as_ret
      | with_reducible apply as_if
      | ((with_reducible apply ae_var); · rfl)
      | with_reducible apply ae_bl
      | with_reducible apply ae_ty
      | with_reducible apply aa_nil
      | with_reducible apply aa_cons
      | with_reducible apply ae_cb
      | with_reducible apply at_b
      | with_reducible apply at_or
      | with_reducible apply at_not
      | refine ⟨_, rfl, ?_⟩
      | (refine ⟨fun hc => ?_, fun hc => ?_⟩ <;> (first | (exfalso; exact absurd (show false = true from hc) (by decide)) | (exfalso; exact absurd (show true = false from hc) (by decide)) | (exfalso; simp at hc; done) | skip))
      | rfl
      | fail)
  | int i =>
    repeat' (first
      | (refine ac_isi1 ⟨rfl, kb_int_tuple⟩ ?_)
      | with_reducible apply as_seq
      | with_reducible apply as_ret
      | with_reducible apply as_if
      | ((with_reducible apply ae_var); · rfl)
      | with_reducible apply ae_bl
      | with_reducible apply ae_ty
      | with_reducible apply aa_nil
      | with_reducible apply aa_cons
      | with_reducible apply ae_cb
      | with_reducible apply at_b
      | with_reducible apply at_or
      | with_reducible apply at_not
      | refine ⟨_, rfl, ?_⟩
      | (refine ⟨fun hc => ?_, fun hc => ?_⟩ <;> (first | (exfalso; exact absurd (show false = true from hc) (by decide)) | (exfalso; exact absurd (show true = false from hc) (by decide)) | (exfalso; simp at hc; done) | skip))
      | rfl
      | fail)
  | str s =>
    repeat' (first
      | (refine ac_isi1 ⟨rfl, kb_str_tuple⟩ ?_)
      | with_reducible apply as_seq
      | with_reducible apply as_ret
      | with_reducible apply as_if
      | ((with_reducible apply ae_var); · rfl)
      | with_reducible apply ae_bl
      | with_reducible apply ae_ty
      | with_reducible apply aa_nil
      | with_reducible apply aa_cons
      | with_reducible apply ae_cb
      | with_reducible apply at_b
      | with_reducible apply at_or
      | with_reducible apply at_not
      | refine ⟨_, rfl, ?_⟩
      | (refine ⟨fun hc => ?_, fun hc => ?_⟩ <;> (first | (exfalso; exact absurd (show false = true from hc) (by decide)) | (exfalso; exact absurd (show true = false from hc) (by decide)) | (exfalso; simp at hc; done) | skip))
      | rfl
      | fail)
  | ty n =>
    cases hd.ok
  | lst l =>
    repeat' (first
      | (refine ac_isi1 ⟨rfl, kb_list_tuple⟩ ?_)
      | with_reducible apply as_seq
      | with_reducible apply as_ret
      | with_reducible apply as_if
      | ((with_reducible apply ae_var); · rfl)
      | with_reducible apply ae_bl
      | with_reducible apply ae_ty
      | with_reducible apply aa_nil
      | with_reducible apply aa_cons
      | with_reducible apply ae_cb
      | with_reducible apply at_b
      | with_reducible apply at_or
      | with_reducible apply at_not
      | refine ⟨_, rfl, ?_⟩
      | (refine ⟨fun hc => ?_, fun hc => ?_⟩ <;> (first | (exfalso; exact absurd (show false = true from hc) (by decide)) | (exfalso; exact absurd (show true = false from hc) (by decide)) | (exfalso; simp at hc; done) | skip))
      | rfl
      | fail)
  | tup l =>
    have h8 : l.length ≤ 830 := ShT.len (k := true) hd
    refine as_seq (as_if (at_or (at_not (at_b (ae_cb (aa_cons (ae_var rfl (aa_cons (ae_ty (aa_nil (ac_isi1 ⟨rfl, kb_tuple_tuple⟩ ⟨true, rfl, (fun h => absurd (show false = true from h) (by decide)), fun _ => ?_⟩)))))))))))
    refine at_test (ae_op (ae_cb (aa_cons (ae_var rfl (aa_nil (ac_lenT (ae_int (ar_ne3 ⟨rfl, rfl, rfl⟩ ?_))))))))
    by_cases h : l.length = 3
    · obtain ⟨c, mm, n, rfl⟩ : ∃ c mm n, l = [c, mm, n] := by
        match l, h with
        | [c, mm, n], _ => exact ⟨c, mm, n, rfl⟩
      have sc := ShT.mem (k := true) hd (d := c) (by simp)
      have sm := ShT.mem (k := true) hd (d := mm) (by simp)
      have sn := ShT.mem (k := true) hd (d := n) (by simp)
      rw [decide_eq_true (show V.int (([c, mm, n].length : Nat) : Int) = V.int 3 from rfl)]
      refine ⟨false, rfl, (fun h => absurd (show false = true from h) (by decide)), fun _ => as_next ?_⟩
      refine as_seq (as_asg (ae_var rfl ?_))
      refine ag_tup rfl (ags_cons (ag_name (ags_cons (ag_name (ags_cons (ag_name (ags_nil ?_)))))))
      show AS K _ [.da (.tup [c, mm, n]), .da c, .da mm, .da n, .no, .no, .no, .no] _ fun d _ => d = Dt.bl (nam3 c mm n)
      cases c with
      | non =>
        repeat' (first
          | (refine ac_isi1 ⟨rfl, kb_NoneType_tuple⟩ ?_)
          | with_reducible apply as_seq
          | with_reducible apply as_ret
          | with_reducible apply as_if
          | ((with_reducible apply ae_var); · rfl)
          | with_reducible apply ae_bl
          | with_reducible apply ae_ty
          | with_reducible apply aa_nil
          | with_reducible apply aa_cons
          | with_reducible apply ae_cb
          | with_reducible apply at_b
          | with_reducible apply at_or
          | with_reducible apply at_not
          | refine ⟨_, rfl, ?_⟩
          | (refine ⟨fun hc => ?_, fun hc => ?_⟩ <;> (first | (exfalso; exact absurd (show false = true from hc) (by decide)) | (exfalso; exact absurd (show true = false from hc) (by decide)) | (exfalso; simp at hc; done) | skip))
          | rfl
          | fail)
      | bl b =>
        repeat' (first
          | (refine ac_isi1 ⟨rfl, kb_bool_tuple⟩ ?_)
          | with_reducible apply as_seq
          | with_reducible apply as_ret
          | with_reducible apply as_if
          | ((with_reducible apply ae_var); · rfl)
          | with_reducible apply ae_bl
          | with_reducible apply ae_ty
          | with_reducible apply aa_nil
          | with_reducible apply aa_cons
          | with_reducible apply ae_cb
          | with_reducible apply at_b
          | with_reducible apply at_or
          | with_reducible apply at_not
          | refine ⟨_, rfl, ?_⟩
          | (refine ⟨fun hc => ?_, fun hc => ?_⟩ <;> (first | (exfalso; exact absurd (show false = true from hc) (by decide)) | (exfalso; exact absurd (show true = false from hc) (by decide)) | (exfalso; simp at hc; done) | skip))
          | rfl
          | fail)
      | int i =>
        repeat' (first
          | (refine ac_isi1 ⟨rfl, kb_int_tuple⟩ ?_)
          | with_reducible apply as_seq
          | with_reducible apply as_ret
          | with_reducible apply as_if
          | ((with_reducible apply ae_var); · rfl)
          | with_reducible apply ae_bl
          | with_reducible apply ae_ty
          | with_reducible apply aa_nil
          | with_reducible apply aa_cons
          | with_reducible apply ae_cb
          | with_reducible apply at_b
          | with_reducible apply at_or
          | with_reducible apply at_not
          | refine ⟨_, rfl, ?_⟩
          | (refine ⟨fun hc => ?_, fun hc => ?_⟩ <;> (first | (exfalso; exact absurd (show false = true from hc) (by decide)) | (exfalso; exact absurd (show true = false from hc) (by decide)) | (exfalso; simp at hc; done) | skip))
          | rfl
          | fail)
      | str s =>
        repeat' (first
          | (refine ac_isi1 ⟨rfl, kb_str_tuple⟩ ?_)
          | with_reducible apply as_seq
          | with_reducible apply as_ret
          | with_reducible apply as_if
          | ((with_reducible apply ae_var); · rfl)
          | with_reducible apply ae_bl
          | with_reducible apply ae_ty
          | with_reducible apply aa_nil
          | with_reducible apply aa_cons
          | with_reducible apply ae_cb
          | with_reducible apply at_b
          | with_reducible apply at_or
          | with_reducible apply at_not
          | refine ⟨_, rfl, ?_⟩
          | (refine ⟨fun hc => ?_, fun hc => ?_⟩ <;> (first | (exfalso; exact absurd (show false = true from hc) (by decide)) | (exfalso; exact absurd (show true = false from hc) (by decide)) | (exfalso; simp at hc; done) | skip))
          | rfl
          | fail)
      | ty n =>
        cases sc.ok
      | lst l =>
        repeat' (first
          | (refine ac_isi1 ⟨rfl, kb_list_tuple⟩ ?_)
          | with_reducible apply as_seq
          | with_reducible apply as_ret
          | with_reducible apply as_if
          | ((with_reducible apply ae_var); · rfl)
          | with_reducible apply ae_bl
          | with_reducible apply ae_ty
          | with_reducible apply aa_nil
          | with_reducible apply aa_cons
          | with_reducible apply ae_cb
          | with_reducible apply at_b
          | with_reducible apply at_or
          | with_reducible apply at_not
          | refine ⟨_, rfl, ?_⟩
          | (refine ⟨fun hc => ?_, fun hc => ?_⟩ <;> (first | (exfalso; exact absurd (show false = true from hc) (by decide)) | (exfalso; exact absurd (show true = false from hc) (by decide)) | (exfalso; simp at hc; done) | skip))
          | rfl
          | fail)
      | tup cs =>
        have c8 : cs.length ≤ 830 := ShT.len (k := true) sc
        refine as_seq (as_if (at_or (at_not (at_b (ae_cb (aa_cons (ae_var rfl (aa_cons (ae_ty (aa_nil (ac_isi1 ⟨rfl, kb_tuple_tuple⟩ ⟨true, rfl, (fun h => absurd (show false = true from h) (by decide)), fun _ => ?_⟩)))))))))))
        refine at_not (at_b (ae_cb (aa_cons (ae_lcMap (fun d => .bl (wholeB d)) (ai_tup (ae_var rfl ⟨_, rfl, by omega, fun d hdm => ?_, ?_⟩))))))
        · exact agv_name (by simp) (ae_call (aa_cons (ae_var rfl (aa_nil ⟨_, ⟨d, rfl, (ShT.mem (k := true) sc hdm).ok, rfl⟩, rfl, rfl⟩))))
        rw [show cs.map (fun d => Dt.bl (wholeB d)) = (cs.map wholeB).map Dt.bl by rw [List.map_map]; rfl]
        refine aa_nil (ac_all ?_)
        rw [show (cs.map wholeB).all id = cs.all wholeB by rw [List.all_map]; rfl]
        cases hw : cs.all wholeB with
        | false =>
          refine ⟨false, rfl, fun _ => as_ret (ae_bl ?_), (fun h => absurd (show true = false from h) (by decide))⟩
          show Dt.bl false = Dt.bl (true && (cs.all wholeB && _))
          rw [hw]
          rfl
        | true =>
          refine ⟨true, rfl, (fun h => absurd (show false = true from h) (by decide)), fun _ => as_next ?_⟩
          obtain ⟨xs, rfl⟩ : ∃ xs : List Int, cs = xs.map Dt.int := ⟨_, all_whole hw⟩
          rw [List.length_map] at c8
          have e3 : nam3 (.tup (xs.map Dt.int)) mm n = (ascB xs && (wholeB mm && (decide (1 ≤ toI mm) && (tupB n && (decide ((tupL n).length = xs.length + 1) && rowsB xs (toI mm) 0 (tupL n)))))) := by
            show (true && ((xs.map Dt.int).all wholeB && (ascB ((xs.map Dt.int).map toI) && (wholeB mm && (decide (1 ≤ toI mm) && (tupB n && (decide ((tupL n).length = (xs.map Dt.int).length + 1) && rowsB ((xs.map Dt.int).map toI) (toI mm) 0 (tupL n)))))))) = _
            rw [hw, toI_ints, List.length_map]
            rfl
          rw [e3]
          refine as_seq (as_if (at_or (at_not (at_b (ae_cb (aa_cons (ae_lcMap ltF (ai_zipK (aa_cons (ae_var rfl (aa_cons (ae_slT (ae_var rfl ⟨_, rfl, ao_some (ae_int ⟨_, rfl, ao_none (aa_nil ⟨true, true, _, _, rfl, ?_, fun d hdm => ?_, ?_⟩)⟩)⟩)))))))))))))
          · rw [zpD_len, List.length_map]; omega
          · rw [cut_1, ← List.map_drop] at hdm
            obtain ⟨i, hi⟩ := List.getElem?_of_mem hdm
            have lt := (List.getElem?_eq_some_iff.mp hi).1
            rw [zpD_len, List.length_map, List.length_map] at lt
            rw [zpD_get (d := .int xs[i]) (e := .int (xs.drop 1)[i]) (by rw [List.getElem?_map, List.getElem?_eq_getElem (by omega)]; rfl) (by rw [List.getElem?_map, List.getElem?_eq_getElem (by omega)]; rfl)] at hi
            cases hi
            exact agv_tup rfl (agvs_cons (agv_name (by simp) (agvs_cons (agv_name (by simp) (agvs_nil (ae_op (ae_var rfl (ae_var rfl (ar_I0b ⟨rfl, rfl⟩)))))))))
          rw [cut_1, ← List.map_drop, asc_zip]
          refine aa_nil (ac_all ?_)
          rw [asc_all]
          cases ha : ascB xs with
          | false => exact ⟨false, rfl, fun _ => ⟨fun _ => as_ret (ae_bl rfl), (fun h => absurd (show true = false from h) (by decide))⟩, (fun h => absurd (show true = false from h) (by decide))⟩
          | true =>
            refine ⟨true, rfl, (fun h => absurd (show false = true from h) (by decide)), fun _ => ?_⟩
            refine at_or (at_not (at_b (ae_call (aa_cons (ae_var rfl (aa_nil ⟨_, ⟨mm, rfl, sm.ok, rfl⟩, ?_⟩))))))
            rw [Bool.true_and]
            cases hmw : wholeB mm with
            | false => exact ⟨false, rfl, fun _ => ⟨fun _ => as_ret (ae_bl rfl), (fun h => absurd (show true = false from h) (by decide))⟩, (fun h => absurd (show true = false from h) (by decide))⟩
            | true =>
              obtain ⟨m, rfl⟩ : ∃ m : Int, mm = .int m := by
                cases mm with
                | int m => exact ⟨m, rfl⟩
                | _ => cases hmw
              refine ⟨true, rfl, (fun h => absurd (show false = true from h) (by decide)), fun _ => ?_⟩
              refine at_test (ae_op (ae_var rfl (ae_int (ar_I0b ?_))))
              rw [Bool.true_and]
              show ∃ b, Dt.bl (decide (m < 1)) = .bl b ∧ _
              by_cases h1 : m < 1
              · rw [decide_eq_true h1]
                refine ⟨true, rfl, fun _ => as_ret (ae_bl ?_), (fun h => absurd (show true = false from h) (by decide))⟩
                show Dt.bl false = Dt.bl (decide (1 ≤ m) && _)
                rw [decide_eq_false (by omega)]
                rfl
              · rw [decide_eq_false h1]
                refine ⟨false, rfl, (fun h => absurd (show false = true from h) (by decide)), fun _ => as_next ?_⟩
                show AS K _ _ _ fun d _ => d = Dt.bl (decide (1 ≤ m) && (tupB n && (decide ((tupL n).length = xs.length + 1) && rowsB xs m 0 (tupL n))))
                rw [decide_eq_true (by omega : 1 ≤ m), Bool.true_and]
                cases n with
                | non =>
                  repeat' (first
                    | (refine ac_isi1 ⟨rfl, kb_NoneType_tuple⟩ ?_)
                    | with_reducible apply as_seq
                    | with_reducible apply as_ret
                    | with_reducible apply as_if
                    | ((with_reducible apply ae_var); · rfl)
                    | with_reducible apply ae_bl
                    | with_reducible apply ae_ty
                    | with_reducible apply aa_nil
                    | with_reducible apply aa_cons
                    | with_reducible apply ae_cb
                    | with_reducible apply at_b
                    | with_reducible apply at_or
                    | with_reducible apply at_not
                    | refine ⟨_, rfl, ?_⟩
                    | (refine ⟨fun hc => ?_, fun hc => ?_⟩ <;> (first | (exfalso; exact absurd (show false = true from hc) (by decide)) | (exfalso; exact absurd (show true = false from hc) (by decide)) | (exfalso; simp at hc; done) | skip))
                    | rfl
                    | fail)
                | bl b =>
                  repeat' (first
                    | (refine ac_isi1 ⟨rfl, kb_bool_tuple⟩ ?_)
                    | with_reducible apply as_seq
                    | with_reducible apply as_ret
                    | with_reducible apply as_if
                    | ((with_reducible apply ae_var); · rfl)
                    | with_reducible apply ae_bl
                    | with_reducible apply ae_ty
                    | with_reducible apply aa_nil
                    | with_reducible apply aa_cons
                    | with_reducible apply ae_cb
                    | with_reducible apply at_b
                    | with_reducible apply at_or
                    | with_reducible apply at_not
                    | refine ⟨_, rfl, ?_⟩
                    | (refine ⟨fun hc => ?_, fun hc => ?_⟩ <;> (first | (exfalso; exact absurd (show false = true from hc) (by decide)) | (exfalso; exact absurd (show true = false from hc) (by decide)) | (exfalso; simp at hc; done) | skip))
                    | rfl
                    | fail)
                | int i =>
                  repeat' (first
                    | (refine ac_isi1 ⟨rfl, kb_int_tuple⟩ ?_)
                    | with_reducible apply as_seq
                    | with_reducible apply as_ret
                    | with_reducible apply as_if
                    | ((with_reducible apply ae_var); · rfl)
                    | with_reducible apply ae_bl
                    | with_reducible apply ae_ty
                    | with_reducible apply aa_nil
                    | with_reducible apply aa_cons
                    | with_reducible apply ae_cb
                    | with_reducible apply at_b
                    | with_reducible apply at_or
                    | with_reducible apply at_not
                    | refine ⟨_, rfl, ?_⟩
                    | (refine ⟨fun hc => ?_, fun hc => ?_⟩ <;> (first | (exfalso; exact absurd (show false = true from hc) (by decide)) | (exfalso; exact absurd (show true = false from hc) (by decide)) | (exfalso; simp at hc; done) | skip))
                    | rfl
                    | fail)
                | str s =>
                  repeat' (first
                    | (refine ac_isi1 ⟨rfl, kb_str_tuple⟩ ?_)
                    | with_reducible apply as_seq
                    | with_reducible apply as_ret
                    | with_reducible apply as_if
                    | ((with_reducible apply ae_var); · rfl)
                    | with_reducible apply ae_bl
                    | with_reducible apply ae_ty
                    | with_reducible apply aa_nil
                    | with_reducible apply aa_cons
                    | with_reducible apply ae_cb
                    | with_reducible apply at_b
                    | with_reducible apply at_or
                    | with_reducible apply at_not
                    | refine ⟨_, rfl, ?_⟩
                    | (refine ⟨fun hc => ?_, fun hc => ?_⟩ <;> (first | (exfalso; exact absurd (show false = true from hc) (by decide)) | (exfalso; exact absurd (show true = false from hc) (by decide)) | (exfalso; simp at hc; done) | skip))
                    | rfl
                    | fail)
                | ty n =>
                  cases sn.ok
                | lst l =>
                  repeat' (first
                    | (refine ac_isi1 ⟨rfl, kb_list_tuple⟩ ?_)
                    | with_reducible apply as_seq
                    | with_reducible apply as_ret
                    | with_reducible apply as_if
                    | ((with_reducible apply ae_var); · rfl)
                    | with_reducible apply ae_bl
                    | with_reducible apply ae_ty
                    | with_reducible apply aa_nil
                    | with_reducible apply aa_cons
                    | with_reducible apply ae_cb
                    | with_reducible apply at_b
                    | with_reducible apply at_or
                    | with_reducible apply at_not
                    | refine ⟨_, rfl, ?_⟩
                    | (refine ⟨fun hc => ?_, fun hc => ?_⟩ <;> (first | (exfalso; exact absurd (show false = true from hc) (by decide)) | (exfalso; exact absurd (show true = false from hc) (by decide)) | (exfalso; simp at hc; done) | skip))
                    | rfl
                    | fail)
                | tup rows =>
                  have r8 : rows.length ≤ 830 := ShT.len (k := true) sn
                  refine as_seq (as_if (at_or (at_not (at_b (ae_cb (aa_cons (ae_var rfl (aa_cons (ae_ty (aa_nil (ac_isi1 ⟨rfl, kb_tuple_tuple⟩ ⟨true, rfl, (fun h => absurd (show false = true from h) (by decide)), fun _ => ?_⟩)))))))))))
                  refine at_test (ae_op (ae_cb (aa_cons (ae_var rfl (aa_nil (ac_lenT (ae_op (ae_cb (aa_cons (ae_var rfl (aa_nil (ac_lenT (ae_int (ar_I0i (ar_ne3 ⟨rfl, rfl, rfl⟩ ?_)))))))))))))))
                  rw [List.length_map]
                  show ∃ b, Dt.bl (!decide (V.int ((rows.length : Nat) : Int) = V.int (((xs.length : Nat) : Int) + 1))) = .bl b ∧ _
                  show _
                  by_cases hl : rows.length = xs.length + 1
                  · rw [decide_eq_true (show V.int ((rows.length : Nat) : Int) = V.int (((xs.length : Nat) : Int) + 1) by rw [hl]; rfl)]
                    refine ⟨false, rfl, (fun h => absurd (show false = true from h) (by decide)), fun _ => as_next ?_⟩
                    show AS K _ _ _ fun d _ => d = Dt.bl (true && (decide (rows.length = xs.length + 1) && rowsB xs m 0 rows))
                    rw [decide_eq_true hl, Bool.true_and, Bool.true_and]
                    refine as_ret (ae_cb (aa_cons (ae_lcMap (rwF m) (ai_zipK (aa_cons (ae_var rfl (aa_cons (ae_call (aa_cons (ae_var rfl (aa_nil ⟨_, ⟨xs, rfl, c8, rfl⟩, aa_nil ⟨true, false, _, _, rfl, ?_, fun d hdm => ?_, ?_⟩⟩)))))))))))
                    · rw [zpD_len]; omega
                    · obtain ⟨i, hi⟩ := List.getElem?_of_mem hdm
                      have lt := (List.getElem?_eq_some_iff.mp hi).1
                      rw [zpD_len, strL_len] at lt
                      rw [zpD_get (d := rows[i]'(by omega)) (List.getElem?_eq_getElem (by omega)) (strL_get (by omega))] at hi
                      cases hi
                      refine agv_tup rfl (agvs_cons (agv_name (by simp) (agvs_cons (agv_name (by simp) (agvs_nil ?_)))))
                      refine ae_call (aa_cons (ae_var rfl (aa_cons (ae_var rfl (aa_cons (ae_var rfl (aa_nil ⟨_, ⟨_, loC xs i, hiC xs i, m, rfl, ShT.mem (k := true) sn (List.getElem_mem _), by omega, rfl⟩, ?_, rfl⟩)))))))
                      show Dt.bl (rowB (loC xs i) (hiC xs i) m _) = Dt.bl (rowB (toO (oD (loC xs i))) (toO (oD (hiC xs i))) m _)
                      rw [toO_oD, toO_oD]
                    · rw [rows_map xs m rows hl]
                      refine aa_nil (ac_all ?_)
                      rw [rows_all0]
                  · rw [decide_eq_false (fun z => hl (by injection z with z; omega))]
                    refine ⟨true, rfl, fun _ => as_ret (ae_bl ?_), (fun h => absurd (show true = false from h) (by decide))⟩
                    show Dt.bl false = Dt.bl (true && (decide (rows.length = xs.length + 1) && _))
                    rw [decide_eq_false hl]
                    rfl
    · rw [decide_eq_false (fun z => h (by injection z with z; omega))]
      refine ⟨true, rfl, fun _ => as_ret (ae_bl ?_), (fun h => absurd (show true = false from h) (by decide))⟩
      match l, h with
      | [], _ => rfl
      | [_], _ => rfl
      | [_, _], _ => rfl
      | [_, _, _], h => exact absurd rfl h
      | _ :: _ :: _ :: _ :: _, _ => rfl
theorem ok_is_naming (bl : Blts mg) {g_has_naming_form : Addr} {d_has_naming_form : FuncData} (c_has_naming_form : Cal P w K mg base 5 "has_naming_form" p_has_naming_form (spP K S_nam) g_has_naming_form d_has_naming_form)  {f : Addr} {fd : FuncData} (F : Fun K "is_naming" "is_naming" s_is_naming f fd) : FnOk P w K mg base CX0 6 f fd p_is_naming (spP K (S_nam)) := by
  refine okP F sc_is_naming (fun ds r h => ?_) (fun cdv A outer s H E hr ds r h => ?_)
  · obtain ⟨d, rfl, hd, rfl⟩ := h
    rfl
  obtain ⟨d, rfl, hd, rfl⟩ := h
  refine ⟨_, (pss_one (ps_ret (pe_call c_has_naming_form.ok (hr.mono (by decide)) rfl c_has_naming_form.mg c_has_naming_form.kp c_has_naming_form.bi .nil pass0 (pa_cons (pv 0) pa_nil)))), ?_⟩
  change AS K _ [En.da _] _ _
  try simp only [cxOf_K]
  refine as_ret (ae_call (aa_cons (ae_var rfl (aa_nil ⟨_, ⟨d, rfl, hd, rfl⟩, rfl⟩))))
end
end Sh
set_option Elab.async false
set_option linter.all false
set_option maxRecDepth 100000
set_option maxHeartbeats 4000000
namespace Sh
open PySem PySem.Spec PyProof.Rows L2
section
variable {K : PySem.W.Frag} {ρ : List En}
/-- [e for .. in .. for .. in .. if ..] -/
theorem ae_lc2Fil {Ψ : Dt → List En → Prop} {wi wi1 : TI} {g g1 : TG} {tt1 : TT} {te : TE} {vs vs1 : List Nat} (f : Dt → Dt → Option Dt) (L1 : Dt → List Dt) (hv : ∀ i ∈ vs1, i ∈ vs)
    (h : AI K wi ρ fun l ρ1 => (l.flatMap L1).length < sizeLine ∧ (∀ d ∈ l, AGv K vs g d (wipeE ρ1 vs) fun ρ3 => AI K wi1 ρ3 fun l1 ρ4 => l1 = L1 d ∧ wipeE (wipeE ρ4 vs1) vs = wipeE ρ1 vs ∧ ∀ d1 ∈ L1 d, AGv K vs1 g1 d1 (wipeE ρ4 vs1) fun ρ5 => AT K tt1 ρ5 fun b ρ6 => (b = true → AE K te ρ6 fun e ρ7 => f d d1 = some e ∧ wipeE ρ7 vs1 = wipeE ρ4 vs1) ∧ (b = false → f d d1 = none ∧ wipeE ρ6 vs1 = wipeE ρ4 vs1)) ∧ Ψ (.lst (l.flatMap fun d => (L1 d).filterMap (f d))) (wipeE ρ1 vs)) : AE K (tLc2 wi g tYes wi1 g1 tt1 te vs vs1) ρ Ψ := by
  refine ae_lc2 hv (fun B σ G H m R q => h B σ G H m R fun J l ρ1 G1 H1 m1 s1 t1 w ⟨h1, h2, h3⟩ => q J l ρ1 G1 H1 m1 s1 t1 w ⟨fun i acc ρ2 => i ≤ l.length ∧ acc = ((l.take i).flatMap fun d => (L1 d).filterMap (f d)) ∧ ρ2 = wipeE ρ1 vs, ⟨Nat.zero_le _, rfl, rfl⟩, ?_, ?_⟩)
  · rintro i d acc ρ2 hd ⟨hi, rfl, rfl⟩
    have lt := (List.getElem?_eq_some_iff.mp hd).1
    have hm := List.mem_of_getElem? hd
    have few : ∀ j, ((l.take i).flatMap fun d => (L1 d).filterMap (f d)).length + (((L1 d).take j).filterMap (f d)).length ≤ (l.flatMap L1).length := fun j => by
      have e : l = l.take i ++ d :: l.drop (i + 1) := by
        have e1 := (List.getElem?_eq_some_iff.mp hd).2
        rw [← e1, ← List.drop_eq_getElem_cons lt, List.take_append_drop]
      have a1 : ((l.take i).flatMap fun d => (L1 d).filterMap (f d)).length ≤ ((l.take i).flatMap L1).length := by
        rw [List.length_flatMap, List.length_flatMap]
        generalize l.take i = xs
        induction xs with
        | nil => exact Nat.le_refl _
        | cons x xs ih =>
          rw [List.map_cons, List.map_cons, List.sum_cons, List.sum_cons]
          exact Nat.add_le_add (List.length_filterMap_le _ _) ih
      have a2 : (((L1 d).take j).filterMap (f d)).length ≤ (L1 d).length := Nat.le_trans (List.length_filterMap_le _ _) (by rw [List.length_take]; exact Nat.min_le_right _ _)
      have a3 : (l.flatMap L1).length = ((l.take i).flatMap L1).length + ((L1 d).length + ((l.drop (i + 1)).flatMap L1).length) := by
        conv => lhs; rw [e, List.flatMap_append, List.flatMap_cons, List.length_append, List.length_append]
      omega
    intro B σ G H m v r Q q
    refine h2 d hm B σ G H m v r Q fun σ' ρ' G' H' m' s t o p => q σ' ρ' G' H' m' s t o (at_yes ⟨fun _ => ?_, fun z => nomatch z⟩)
    intro B2 σ2 G2 H2 m2 R2 q2
    refine p B2 σ2 G2 H2 m2 R2 fun J1 l1 ρ4 G4 H4 m4 s4 t4 w4 ⟨e1, e2, k⟩ => q2 J1 l1 ρ4 G4 H4 m4 s4 t4 w4 ?_
    subst e1
    refine ⟨fun j acc1 ρ6 => j ≤ (L1 d).length ∧ acc1 = ((l.take i).flatMap fun d => (L1 d).filterMap (f d)) ++ ((L1 d).take j).filterMap (f d) ∧ ρ6 = wipeE ρ4 vs1, ⟨Nat.zero_le _, by simp, rfl⟩, ?_, ?_⟩
    · rintro j d1 acc1 ρ6 hd1 ⟨hj, rfl, rfl⟩
      have lt1 := (List.getElem?_eq_some_iff.mp hd1).1
      have hm1 := List.mem_of_getElem? hd1
      intro B5 σ5 G5 H5 m5 v5 r5 Q5 q5
      refine k d1 hm1 B5 σ5 G5 H5 m5 v5 r5 Q5 fun σ' ρ' G' H' m' s t o p => q5 σ' ρ' G' H' m' s t o (at_mono p fun b ρ8 ⟨y, n⟩ => ⟨fun hb => ae_mono (y hb) fun e ρ9 ⟨z1, z2⟩ => ⟨?_, lt1, ?_, z2⟩, fun hb => ⟨lt1, ?_, (n hb).2⟩⟩)
      · rw [List.length_append]
        exact Nat.lt_of_le_of_lt (few j) h1
      · rw [List.take_succ, hd1, List.filterMap_append, List.append_assoc]; simp [z1]
      · rw [List.take_succ, hd1, List.filterMap_append]; simp [(n hb).1]
    · rintro acc1 ρ6 ⟨_, rfl, rfl⟩
      refine ⟨lt, ?_, e2⟩
      rw [List.take_length, List.take_succ, hd, List.flatMap_append]
      simp
  · rintro acc ρ2 ⟨_, rfl, rfl⟩
    refine ⟨fun i hi lt => wipe_no hi (by rw [wipeE_len] at lt; exact lt), ?_⟩
    rw [List.take_length]; exact h3
end
end Sh
set_option Elab.async false
set_option linter.all false
set_option maxRecDepth 100000
set_option maxHeartbeats 4000000
/-! the namings that are drawn, as data -/
namespace Sh
open PySem PySem.Spec PyProof.Rows L2
def insS (x : Str) : List Str → List Str
  | [] => [x]
  | y :: l => if x.cps.toList < y.cps.toList then x :: y :: l else if x = y then y :: l else y :: insS x l
theorem insS_mem (x : Str) : ∀ (l : List Str) (z : Str), z ∈ insS x l ↔ z = x ∨ z ∈ l
  | [], z => by simp [insS]
  | y :: l, z => by
    unfold insS
    split
    · simp
    · split
      · rename_i e
        subst e
        simp
      · rw [List.mem_cons, insS_mem x l z, List.mem_cons]
        exact ⟨fun h => h.elim (fun e => .inr (.inl e)) fun h => h.elim .inl fun h => .inr (.inr h), fun h => h.elim (fun e => .inr (.inl e)) fun h => h.elim .inl fun h => .inr (.inr h)⟩
theorem insS_up (x : Str) : ∀ l : List Str, UpS l → UpS (insS x l)
  | [], _ => List.pairwise_singleton _ _
  | y :: l, h => by
    obtain ⟨h1, h2⟩ := List.pairwise_cons.mp h
    unfold insS
    split
    · rename_i lt
      refine List.pairwise_cons.mpr ⟨fun z hz => ?_, h⟩
      rcases List.mem_cons.mp hz with rfl | hz
      · exact lt
      · exact List.lt_trans lt (h1 z hz)
    · split
      · exact h
      · rename_i n1 n2
        refine List.pairwise_cons.mpr ⟨fun z hz => ?_, insS_up x l h2⟩
        rcases (insS_mem x l z).mp hz with rfl | hz
        · apply Classical.byContradiction
          intro n
          exact n2 (str_ext (List.le_antisymm (List.not_lt.mp n) (List.not_lt.mp n1)))
        · exact h1 z hz
def srtS : List Str → List Str
  | [] => []
  | x :: l => insS x (srtS l)
theorem srtS_canon : ∀ xs : List Str, Canon (srtS xs) xs
  | [] => ⟨List.Pairwise.nil, fun _ => Iff.rfl⟩
  | x :: xs => by
    obtain ⟨h1, h2⟩ := srtS_canon xs
    refine ⟨insS_up x _ h1, fun z => ?_⟩
    show z ∈ insS x (srtS xs) ↔ _
    rw [insS_mem, h2 z, List.mem_cons]
structure Nmg where
  cs : List Int
  m : Nat
  rows : List (List (Option Str))
def cD : Option Str → Dt
  | none => .non
  | some s => .str s
def Nmg.d (N : Nmg) (k : Bool) : Dt := sq k [sq k (N.cs.map Dt.int), .int (N.m : Int), sq k (N.rows.map fun r => sq k (r.map cD))]
def Nmg.names (N : Nmg) : List Str := N.rows.flatMap fun r => r.filterMap id
def wordsL : List Str := ["a", "b", "c", "neg", "zero", "even", ""]
/-- a place of which no integer is -/
def Nmg.no (N : Nmg) (i r : Nat) : Bool := nonB (voD (loC N.cs i) (hiC N.cs i) (N.m : Int) (r : Int))
structure Nmg.Ok (N : Nmg) : Prop where
  asc : ascB N.cs = true
  cl : N.cs.length ≤ 6
  m1 : 1 ≤ N.m
  m6 : N.m ≤ 6
  rl : N.rows.length = N.cs.length + 1
  rm : ∀ r, r ∈ N.rows → r.length = N.m
  ce : ∀ i r c row, N.rows[i]? = some row → row[r]? = some c → (c = none ↔ N.no i r = true)
  wo : ∀ r c, r ∈ N.rows → c ∈ r → ∀ s, c = some s → s ∈ wordsL
  sm : ∀ c, c ∈ N.cs → -100 ≤ c ∧ c ≤ 200
theorem tu_ints : ∀ xs : List Int, tus (xs.map Dt.int) = xs.map Dt.int
  | [] => rfl
  | x :: xs => by show Dt.int x :: tus (xs.map Dt.int) = _; rw [tu_ints xs]; rfl
theorem tu_cells : ∀ r : List (Option Str), tus (r.map cD) = r.map cD
  | [] => rfl
  | none :: r => by show Dt.non :: tus (r.map cD) = _; rw [tu_cells r]; rfl
  | some s :: r => by show Dt.str s :: tus (r.map cD) = _; rw [tu_cells r]; rfl
theorem tu_sq (k : Bool) (l : List Dt) : (sq k l).tu = .tup (tus l) := by cases k <;> rfl
theorem tu_rows (k : Bool) : ∀ rs : List (List (Option Str)), tus (rs.map fun r => sq k (r.map cD)) = rs.map fun r => .tup (r.map cD)
  | [] => rfl
  | r :: rs => by
    show (sq k (r.map cD)).tu :: tus (rs.map fun r => sq k (r.map cD)) = _
    rw [tu_sq, tu_cells, tu_rows k rs]
    rfl
theorem Nmg.tu (N : Nmg) (k : Bool) : (N.d k).tu = N.d true := by
  unfold Nmg.d
  rw [tu_sq]
  show Dt.tup [(sq k (N.cs.map Dt.int)).tu, .int (N.m : Int), (sq k (N.rows.map fun r => sq k (r.map cD))).tu] = _
  rw [tu_sq, tu_sq, tu_ints, tu_rows]
  rfl
theorem asN_sq {k : Bool} {n : Nat} {l : List Dt} (h : ∀ d, d ∈ l → AsN n d) : AsN (n + 1) (sq k l) := by cases k <;> exact h
theorem Nmg.as (N : Nmg) (k : Bool) : AsN 4 (N.d k) := by
  refine asN_sq fun d hd => ?_
  simp only [List.mem_cons, List.not_mem_nil, or_false] at hd
  rcases hd with rfl | rfl | rfl
  · refine asN_sq fun d hd => ?_
    obtain ⟨c, _, rfl⟩ := List.mem_map.mp hd
    trivial
  · trivial
  · refine asN_sq fun d hd => ?_
    obtain ⟨r, _, rfl⟩ := List.mem_map.mp hd
    refine asN_sq fun d hd => ?_
    obtain ⟨c, _, rfl⟩ := List.mem_map.mp hd
    cases c <;> trivial
def namF (_ d : Dt) : Option Dt := if nonB d then none else some d
theorem namF_row (r : List (Option Str)) (d : Dt) : (r.map cD).filterMap (namF d) = (r.filterMap id).map Dt.str := by
  induction r with
  | nil => rfl
  | cons c r ih =>
    cases c with
    | none => exact ih
    | some s => exact congrArg (Dt.str s :: ·) ih
theorem namF_rows (rs : List (List (Option Str))) : ((rs.map fun r => Dt.tup (r.map cD)).flatMap fun d => (tupL d).filterMap (namF d)) = (rs.flatMap fun r => r.filterMap id).map Dt.str := by
  induction rs with
  | nil => rfl
  | cons r rs ih =>
    rw [List.map_cons, List.flatMap_cons, List.flatMap_cons, List.map_append, ih]
    exact congrArg (· ++ _) (namF_row r _)
theorem flat_len {l : List (List (Option Str))} {a : Nat} (h : ∀ r, r ∈ l → r.length ≤ a) : ((l.map fun r => Dt.tup (r.map cD)).flatMap tupL).length ≤ l.length * a := by
  induction l with
  | nil => exact Nat.zero_le _
  | cons r l ih =>
    have h1 := h r List.mem_cons_self
    have h2 := ih fun r hr => h r (List.mem_cons_of_mem _ hr)
    rw [List.map_cons, List.flatMap_cons, List.length_append, List.length_cons, Nat.succ_mul]
    have e : (tupL (Dt.tup (r.map cD))).length = r.length := List.length_map _
    omega
theorem Nmg.Ok.nl {N : Nmg} (h : N.Ok) : N.names.length ≤ 42 := by
  have e : N.names.length = ((N.rows.flatMap fun r => r.filterMap id).map Dt.str).length := (List.length_map _).symm
  rw [e, ← namF_rows]
  have a := flat_len (l := N.rows) (a := 6) fun r hr => by rw [h.rm r hr]; exact h.m6
  have b : ((N.rows.map fun r => Dt.tup (r.map cD)).flatMap fun d => (tupL d).filterMap (namF d)).length ≤ ((N.rows.map fun r => Dt.tup (r.map cD)).flatMap tupL).length := by
    rw [List.length_flatMap, List.length_flatMap]
    generalize (N.rows.map fun r => Dt.tup (r.map cD)) = xs
    induction xs with
    | nil => exact Nat.le_refl _
    | cons x xs ih =>
      rw [List.map_cons, List.map_cons, List.sum_cons, List.sum_cons]
      exact Nat.add_le_add (List.length_filterMap_le _ _) ih
  have := h.rl
  have := h.cl
  omega
end Sh
set_option Elab.async false
set_option linter.all false
set_option maxRecDepth 100000
set_option maxHeartbeats 4000000
namespace Sh
open PySem PySem.Spec PyProof.Rows L2
abbrev s_classes : Stmt := topS 18
abbrev N_classes : List Str := ["naming", "row", "name"]
abbrev p_classes : List Str := ["naming"]
theorem sc_classes : FnScope N_classes p_classes (defScope s_classes) := ⟨rfl, rfl, rfl, by decide +kernel, rfl, by decide +kernel, by decide +kernel⟩
def S_cls (ds : List Dt) (res : Dt) : Prop := ∃ k N, ds = [Nmg.d N k] ∧ N.Ok ∧ res = .lst ((srtS N.names).map Dt.str)
section
variable {P : Program} {w : World} {K : PySem.W.Frag} {mg : Str → Option Value} {base : Heap}
theorem ok_classes (bl : Blts mg) {g_as_tuples : Addr} {d_as_tuples : FuncData} (c_as_tuples : Cal P w K mg base 20 "as_tuples" p_as_tuples (spP K (S_as 4)) g_as_tuples d_as_tuples)  {f : Addr} {fd : FuncData} (F : Fun K "classes" "classes" s_classes f fd) : FnOk P w K mg base CX0 21 f fd p_classes (spP K (S_cls)) := by
  refine okP F sc_classes (fun ds r h => ?_) (fun cdv A outer s H E hr ds r h => ?_)
  · obtain ⟨k, N, rfl, hN, rfl⟩ := h
    rfl
  obtain ⟨k, N, rfl, hN, rfl⟩ := h
  refine ⟨_, (pss_one (ps_ret (pe_callB (cr_sortedSetT rfl) rfl bl.sorted (by decide +kernel) (pa_cons (pe_callTy (cr_setT rfl) rfl bl.set (by decide +kernel) (pa_cons (pe_lc2 (own := [("row", 1), ("name", 2)]) (vs1 := [2]) (g := (gName 1)) (g1 := (gName 2)) (tt := tYes) (tt1 := (tTest (tOp (fun x y H Q => y = .non ∧ Q (.bl (!decide (x = .non))) H) (tVar 2) (tC .non)))) (te := (tVar 2)) (wi1 := (iTup K (tVar 1))) rfl sc_classes.nd (pi_tup (pe_ix ix_tup (pe_call c_as_tuples.ok (hr.mono (by decide)) rfl c_as_tuples.mg c_as_tuples.kp c_as_tuples.bi .nil pass0 (pa_cons (pv 0) pa_nil)) pe_int (fun _ _ => rfl))) (blkOk_by (N := N_classes) (sc := defScope s_classes) (by decide +kernel)) (by decide) (fun _ _ _ _ _ => (pg_name (i := 1) sc_classes.nd rfl (by first | exact Or.inl rfl | exact Or.inr rfl))) (fun _ _ _ _ _ => pts_nil) (fun _ _ _ _ _ => (pi_tup (pv 1))) (fun _ _ _ _ _ => (pg_name (i := 2) sc_classes.nd rfl (by first | exact Or.inl rfl | exact Or.inr rfl))) (fun _ _ _ _ _ => (pts_one (pt_cmpR op_notN (pv 2) pe_non (nomark _)))) (fun _ _ _ _ _ => (pv 2))) pa_nil)) pa_nil)))), ?_⟩
  change AS K _ [En.da _, En.no, En.no] _ _
  try simp only [cxOf_K]
  have z9 : 9000 ≤ sizeLine := by decide
  refine as_ret (ae_sortedSetT (aa_cons (ae_lc2Fil namF tupL (by decide) (ai_tup (ae_op (ae_call (aa_cons (ae_var rfl (aa_nil ⟨_, ⟨_, rfl, N.as k, rfl⟩, ae_int ?_⟩)))))))))
  rw [N.tu]
  refine ar_ixT rfl ⟨_, rfl, ?_, fun d hd => ?_, ?_⟩
  · have a := flat_len (l := N.rows) (a := 6) fun r hr => by rw [hN.rm r hr]; exact hN.m6
    have := hN.rl
    have := hN.cl
    show ((N.rows.map fun r => Dt.tup (r.map cD)).flatMap tupL).length < sizeLine
    omega
  · obtain ⟨r, hr, rfl⟩ := List.mem_map.mp (show d ∈ N.rows.map fun r => Dt.tup (r.map cD) from hd)
    refine agv_name (by simp) (ai_tup (ae_var rfl ⟨_, rfl, rfl, rfl, fun d1 h1 => ?_⟩))
    obtain ⟨c, hc, rfl⟩ := List.mem_map.mp h1
    refine agv_name (by simp) (at_test (ae_op (ae_var rfl (ae_non (ar_notN ?_)))))
    cases c with
    | none => exact ⟨false, rfl, (fun h => absurd (show false = true from h) (by decide)), fun _ => ⟨rfl, rfl⟩⟩
    | some s => exact ⟨true, rfl, fun _ => ae_var rfl ⟨rfl, rfl⟩, (fun h => absurd (show true = false from h) (by decide))⟩
  · refine aa_nil ⟨N.names, ?_, ?_, fun ys hy _ => ?_⟩
    · show [Dt.lst ((N.rows.map fun r => Dt.tup (r.map cD)).flatMap fun d => (tupL d).filterMap (namF d))] = _
      rw [namF_rows]
      rfl
    · have := hN.nl
      omega
    · rw [hy.one (srtS_canon N.names)]
end
end Sh
set_option Elab.async false
set_option linter.all false
set_option maxRecDepth 100000
set_option maxHeartbeats 4000000
/-! what the law looks through for a place of a naming -/
namespace Sh
open PySem PySem.Spec PyProof.Rows L2
def baseL (cs : List Int) (m i : Nat) : List Int :=
  match cs with
  | [] => N37.upL 0 m
  | c :: _ => if i = 0 then N37.dnL (c - 1) m else N37.upL (cs.getD (i - 1) 0) m
def midL (cs : List Int) (m i : Nat) : List Int := if 0 < i ∧ i < cs.length then (baseL cs m i).filter (fun x => decide (x < cs.getD i 0)) else baseL cs m i
def kindL (cs : List Int) (m i r : Nat) : List Int := (midL cs m i).filter fun x => decide (x.fmod (m : Int) = (r : Int))
theorem voD_none {lo hi : Option Int} {m r : Int} (hm : 0 < m) : nonB (voD lo hi m r) = true ↔ ∃ a b, lo = some a ∧ hi = some b ∧ N37.lst b m r < N37.fst a m r := by
  have ne : m ≠ 0 := by omega
  have e : ∀ x : Int, x.fmod m = x % m := fun x => Int.fmod_eq_emod_of_nonneg x (by omega)
  unfold voD
  rw [if_neg ne]
  cases lo with
  | none =>
    refine ⟨fun h => ?_, fun ⟨a, b, h, _⟩ => nomatch h⟩
    cases hi <;> cases h
  | some a =>
    cases hi with
    | none =>
      refine ⟨fun h => (nomatch h), fun ⟨_, b, _, h, _⟩ => (nomatch h)⟩
    | some b =>
      show nonB (if dnR r m b ≤ upR r m a then (if upR r m a = dnR r m b then _ else .non) else _) = true ↔ _
      have e1 : upR r m a = N37.fst a m r := by unfold upR N37.fst; rw [e]
      have e2 : dnR r m b = N37.lst b m r := by unfold dnR N37.lst; rw [e]
      rw [e1, e2]
      by_cases c1 : N37.lst b m r ≤ N37.fst a m r
      · rw [if_pos c1]
        by_cases c2 : N37.fst a m r = N37.lst b m r
        · rw [if_pos c2]
          refine ⟨fun h => (by cases h), fun ⟨x, y, h1, h2, h3⟩ => ?_⟩
          cases h1
          cases h2
          omega
        · rw [if_neg c2]
          exact ⟨fun _ => ⟨a, b, rfl, rfl, by omega⟩, fun _ => rfl⟩
      · rw [if_neg c1]
        refine ⟨fun h => (by cases h), fun ⟨x, y, h1, h2, h3⟩ => ?_⟩
        cases h1
        cases h2
        omega
theorem kind_iff {cs : List Int} {m i r : Nat} (hr : r < m) (hi : i ≤ cs.length) : kindL cs m i r = [] ↔ nonB (voD (loC cs i) (hiC cs i) (m : Int) (r : Int)) = true := by
  have hm : 0 < (m : Int) := by omega
  have e : ∀ x : Int, x.fmod (m : Int) = x % (m : Int) := fun x => Int.fmod_eq_emod_of_nonneg x (by omega)
  rw [voD_none hm]
  have some_of : ∀ l : List Int, (l.filter fun x => decide (x.fmod (m : Int) = (r : Int))) = [] ↔ ¬ ∃ x, x ∈ l ∧ x % (m : Int) = (r : Int) := fun l => by
    rw [List.filter_eq_nil_iff]
    refine ⟨fun h ⟨x, hx, q⟩ => h x hx (decide_eq_true (by rw [e]; exact q)), fun h x hx q => h ⟨x, hx, by rw [← e]; exact of_decide_eq_true q⟩⟩
  unfold kindL
  rw [some_of]
  have r0 : 0 ≤ (r : Int) := by omega
  have r1 : (r : Int) < (m : Int) := by omega
  unfold midL
  by_cases c : 0 < i ∧ i < cs.length
  · rw [if_pos c]
    obtain ⟨c1, c2⟩ := c
    have e1 : baseL cs m i = N37.upL (cs.getD (i - 1) 0) m := by
      cases cs with
      | nil => exact absurd c2 (Nat.not_lt_zero _)
      | cons x xs =>
        show (if i = 0 then _ else _) = _
        rw [if_neg (by omega)]
    have e2 : loC cs i = some (cs.getD (i - 1) 0) := by
      unfold loC
      rw [if_neg (by omega), List.getD_eq_getElem?_getD, List.getElem?_eq_getElem (by omega)]
      rfl
    have e3 : hiC cs i = some (cs.getD i 0 - 1) := by
      unfold hiC
      rw [List.getD_eq_getElem?_getD, List.getElem?_eq_getElem c2]
      rfl
    rw [e1, e2, e3]
    have k := N37.mid_iff (lo := cs.getD (i - 1) 0) (cut := cs.getD i 0) r0 r1
    have q : (∃ x, x ∈ (N37.upL (cs.getD (i - 1) 0) m).filter (fun x => decide (x < cs.getD i 0)) ∧ x % (m : Int) = (r : Int)) ↔ (∃ x, x ∈ N37.upL (cs.getD (i - 1) 0) m ∧ x < cs.getD i 0 ∧ x % (m : Int) = (r : Int)) := by
      refine exists_congr fun x => ?_
      rw [List.mem_filter, decide_eq_true_eq, and_assoc]
    rw [q, k]
    refine ⟨fun h => ⟨_, _, rfl, rfl, by omega⟩, fun ⟨a, b, h1, h2, h3⟩ h4 => ?_⟩
    cases h1
    cases h2
    omega
  · rw [if_neg c]
    have no : ¬ ∃ a b, loC cs i = some a ∧ hiC cs i = some b ∧ N37.lst b (m : Int) (r : Int) < N37.fst a (m : Int) (r : Int) := fun ⟨a, b, h1, h2, _⟩ => by
      by_cases z : i = 0
      · unfold loC at h1
        rw [if_pos z] at h1
        cases h1
      · have : i = cs.length := by omega
        unfold hiC at h2
        rw [List.getElem?_eq_none (by omega)] at h2
        cases h2
    have yes : ∃ x, x ∈ baseL cs m i ∧ x % (m : Int) = (r : Int) := by
      cases cs with
      | nil => exact N37.up_some r0 r1
      | cons x xs =>
        show ∃ y, y ∈ (if i = 0 then _ else _) ∧ _
        by_cases z : i = 0
        · rw [if_pos z]; exact N37.dn_some r0 r1
        · rw [if_neg z]; exact N37.up_some r0 r1
    exact ⟨fun h => absurd yes h, fun h => absurd h no⟩
theorem up_len (lo : Int) (m : Nat) : (N37.upL lo m).length = m := by unfold N37.upL; rw [List.length_map, List.length_range]
theorem dn_len (lo : Int) (m : Nat) : (N37.dnL lo m).length = m := by unfold N37.dnL; rw [List.length_map, List.length_range]
theorem base_len (cs : List Int) (m i : Nat) : (baseL cs m i).length = m := by
  cases cs with
  | nil => exact up_len 0 m
  | cons x xs =>
    show (if i = 0 then _ else _ : List Int).length = m
    split
    · exact dn_len _ m
    · exact up_len _ m
theorem mid_len (cs : List Int) (m i : Nat) : (midL cs m i).length ≤ m := by
  unfold midL
  split
  · exact Nat.le_trans (List.length_filter_le _ _) (Nat.le_of_eq (base_len cs m i))
  · exact Nat.le_of_eq (base_len cs m i)
end Sh
set_option Elab.async false
set_option linter.all false
set_option maxRecDepth 100000
set_option maxHeartbeats 4000000
namespace Sh
open PySem PySem.Spec PyProof.Rows L2
section
variable {P : Program} {w : World} {K : PySem.W.Frag} {mg : Str → Option Value} {base : Heap}
mutual
def Dt.dep : Dt → Nat
  | .tup l => deps l + 1 | .lst l => deps l + 1 | _ => 1
def deps : List Dt → Nat
  | [] => 0
  | d :: l => max d.dep (deps l)
end
mutual
/-- no classes, short -/
def Dt.fit : Dt → Bool
  | .ty _ => false
  | .tup l => decide (l.length ≤ 9000) && fits l
  | .lst l => decide (l.length ≤ 9000) && fits l
  | _ => true
def fits : List Dt → Bool
  | [] => true
  | d :: l => d.fit && fits l
end
theorem deps_mem : ∀ {l : List Dt} {d : Dt}, d ∈ l → d.dep ≤ deps l
  | e :: l, d, h => by
    unfold deps
    rcases List.mem_cons.mp h with rfl | h
    · omega
    · have := deps_mem h; omega
theorem fits_mem : ∀ {l : List Dt} {d : Dt}, fits l = true → d ∈ l → d.fit = true
  | e :: l, d, f, h => by
    unfold fits at f
    rw [Bool.and_eq_true] at f
    rcases List.mem_cons.mp h with rfl | h
    · exact f.1
    · exact fits_mem f.2 h
def S_same (n : Nat) (ds : List Dt) (r : Dt) : Prop := ∃ d, ds = [d, d] ∧ d.dep ≤ n ∧ d.fit = true ∧ r = .bl true
theorem zp_self : ∀ {l : List Dt} {d : Dt}, d ∈ zpD l l → ∃ e, e ∈ l ∧ d = .tup [e, e]
  | [], d, h => by simp [zpD] at h
  | a :: l, d, h => by
    rcases List.mem_cons.mp (show d ∈ Dt.tup [a, a] :: zpD l l from h) with rfl | h
    · exact ⟨a, List.mem_cons_self, rfl⟩
    · obtain ⟨e, h1, h2⟩ := zp_self h
      exact ⟨e, List.mem_cons_of_mem _ h1, h2⟩
theorem none0 {ps : List Str} {f : Addr} {fd : FuncData} {sp : Sp} (no : ∀ vs H Q E, ¬ sp vs H Q E) : FnOk P w K mg base CX0 0 f fd ps sp :=
  ⟨fun vs H Q E h => absurd h (no vs H Q E), fun A outer s H args us vs Q E _ _ _ _ h => absurd h (no vs H Q E)⟩
theorem dep_pos (d : Dt) : 1 ≤ d.dep := by cases d <;> simp [Dt.dep]
theorem map_true {l : List Dt} : (l.map fun _ => Dt.bl true) = (List.replicate l.length true).map Dt.bl := by rw [List.map_const', List.map_replicate]
theorem all_true (n : Nat) : (List.replicate n true).all id = true := by simp
abbrev s_l_same : Stmt := topS 25
abbrev N_l_same : List Str := ["_law_found", "_law_due", "_law_mine", "_law_its"]
abbrev p_l_same : List Str := ["_law_found", "_law_due"]
theorem sc_l_same : FnScope N_l_same p_l_same (defScope s_l_same) := ⟨rfl, rfl, rfl, by decide +kernel, rfl, by decide +kernel, by decide +kernel⟩
theorem ok_l_same (bl : Blts mg) {n : Nat} {g_l_same : Addr} {d_l_same : FuncData} (c_l_same : Cal P w K mg base n "_law_same" p_l_same (spP K (S_same n)) g_l_same d_l_same) {f : Addr} {fd : FuncData} (F : Fun K "_law_same" "_law_same" s_l_same f fd) : FnOk P w K mg base CX0 (n + 1) f fd p_l_same (spP K (S_same (n + 1))) := by
  refine okP F sc_l_same (fun ds r h => ?_) (fun cdv A outer s H E hr ds r h => ?_)
  · obtain ⟨d, rfl, n1, f1, rfl⟩ := h
    rfl
  obtain ⟨d, rfl, n1, f1, rfl⟩ := h
  refine ⟨_, (pss_cons (ps_if (pt_val (pe_callB call_isiT rfl bl.isinstance (by decide +kernel) (pa_cons (pv 1) (pa_cons (pe_tup (pa_cons (pe_bltn (v := .ty "list") rfl bl.list (by decide +kernel) rfl) (pa_cons (pe_bltn (v := .ty "tuple") rfl bl.tuple (by decide +kernel) rfl) pa_nil))) pa_nil)))) (pss_cons (ps_if (PW.pt (pw_or (pt_cmpR op_ne (pe_callB call_isi rfl bl.isinstance (by decide +kernel) (pa_cons (pv 0) (pa_cons (pe_bltn (v := .ty "list") rfl bl.list (by decide +kernel) rfl) pa_nil))) (pe_callB call_isi rfl bl.isinstance (by decide +kernel) (pa_cons (pv 1) (pa_cons (pe_bltn (v := .ty "list") rfl bl.list (by decide +kernel) rfl) pa_nil))) (nomark _)) (pw_or1 (pt_cmpR op_ne (pe_callB call_isi rfl bl.isinstance (by decide +kernel) (pa_cons (pv 0) (pa_cons (pe_bltn (v := .ty "tuple") rfl bl.tuple (by decide +kernel) rfl) pa_nil))) (pe_callB call_isi rfl bl.isinstance (by decide +kernel) (pa_cons (pv 1) (pa_cons (pe_bltn (v := .ty "tuple") rfl bl.tuple (by decide +kernel) rfl) pa_nil))) (nomark _))))) (pss_one (ps_ret pe_bl)) pss_nil)
    (pss_one (ps_ret (pe_and (pe_cmpR op_eq (pe_callB call_len_seq rfl bl.len (by decide +kernel) (pa_cons (pv 0) pa_nil)) (pe_callB call_len_seq rfl bl.len (by decide +kernel) (pa_cons (pv 1) pa_nil)) (nomark _)) (pe_one (pe_callB (cr_all rfl) rfl bl.all (by decide +kernel) (pa_cons (pe_lc (own := [("_law_mine", 2), ("_law_its", 3)]) (g := (gTup K 2 (gCons (gName 2) (gCons (gName 3) gNil)))) (tt := tYes) rfl sc_l_same.nd (RZ.pi_zipA rfl bl.zip (pa_cons (pv 0) (pa_cons (pv 1) pa_nil))) (blkOk_by (N := N_l_same) (sc := defScope s_l_same) (by decide +kernel)) (fun _ _ _ _ _ => (pg_tup rfl (pgs_cons (pg_name (i := 2) sc_l_same.nd rfl (by first | exact Or.inl rfl | exact Or.inr rfl)) (pgs_cons (pg_name (i := 3) sc_l_same.nd rfl (by first | exact Or.inl rfl | exact Or.inr rfl)) pgs_nil)))) (fun _ _ _ _ _ => pts_nil) (fun _ _ _ _ _ => (pe_call c_l_same.ok hr rfl c_l_same.mg c_l_same.kp c_l_same.bi .nil pass0 (pa_cons (pv 2) (pa_cons (pv 3) pa_nil))))) pa_nil))))))) pss_nil)
    (pss_cons (ps_if (PW.pt (pw_or (pt_cmpR op_isN (pv 1) pe_non (nomark _)) (pw_or1 (pt_val (pe_callB call_isiT rfl bl.isinstance (by decide +kernel) (pa_cons (pv 1) (pa_cons (pe_tup (pa_cons (pe_bltn (v := .ty "bool") rfl bl.bool (by decide +kernel) rfl) (pa_cons (pe_bltn (v := .ty "str") rfl bl.str (by decide +kernel) rfl) pa_nil))) pa_nil))))))) (pss_one (ps_ret (pe_and (pe_cmpR op_eq (pv 0) (pv 1) (nomark _)) (pe_and (pe_cmpR op_eq (pe_callB call_isi rfl bl.isinstance (by decide +kernel) (pa_cons (pv 0) (pa_cons (pe_bltn (v := .ty "bool") rfl bl.bool (by decide +kernel) rfl) pa_nil))) (pe_callB call_isi rfl bl.isinstance (by decide +kernel) (pa_cons (pv 1) (pa_cons (pe_bltn (v := .ty "bool") rfl bl.bool (by decide +kernel) rfl) pa_nil))) (nomark _)) (pe_one (pe_cmpR op_eq (pe_cmpR op_isN (pv 0) pe_non (nomark _)) (pe_cmpR op_isN (pv 1) pe_non (nomark _)) (nomark _))))))) pss_nil)
    (pss_one (ps_ret (pe_and (pe_callB call_isi rfl bl.isinstance (by decide +kernel) (pa_cons (pv 0) (pa_cons (pe_bltn (v := .ty "int") rfl bl.int (by decide +kernel) rfl) pa_nil))) (pe_and (pe_not (pe_callB call_isi rfl bl.isinstance (by decide +kernel) (pa_cons (pv 0) (pa_cons (pe_bltn (v := .ty "bool") rfl bl.bool (by decide +kernel) rfl) pa_nil)))) (pe_one (pe_cmpR op_eq (pv 0) (pv 1) (nomark _))))))))), ?_⟩
  change AS K _ [En.da _, En.da _, En.no, En.no] _ _
  try simp only [cxOf_K]
  cases d with
  | non =>
    repeat' (first
      | ((with_reducible apply ac_isi1); · first | exact ⟨rfl, kb_NoneType_list⟩ | exact ⟨rfl, kb_NoneType_tuple⟩ | exact ⟨rfl, kb_NoneType_bool⟩ | exact ⟨rfl, kb_NoneType_int⟩ | exact ⟨rfl, kb_NoneType_str⟩)
      | (first | refine ⟨rfl, false, .inr ⟨kb_NoneType_list, kb_NoneType_tuple⟩, ?_⟩ | refine ⟨rfl, false, .inr ⟨kb_NoneType_bool, kb_NoneType_str⟩, ?_⟩)
      | with_reducible apply as_seq
      | with_reducible apply as_ret
      | with_reducible apply as_next
      | with_reducible apply as_if
      | with_reducible apply as_set
      | with_reducible apply as_par
      | with_reducible apply as_par3
      | with_reducible apply as_asg
      | ((with_reducible apply ae_var); · rfl)
      | with_reducible apply ae_int
      | with_reducible apply ae_non
      | with_reducible apply ae_bl
      | with_reducible apply ae_str
      | with_reducible apply ae_ty
      | with_reducible apply ae_isi2
      | with_reducible apply ae_op
      | with_reducible apply ae_un
      | with_reducible apply aa_nil
      | with_reducible apply aa_cons
      | with_reducible apply ae_cb
      | with_reducible apply ae_tup
      | with_reducible apply ae_lst
      | with_reducible apply ae_if
      | with_reducible apply at_test
      | with_reducible apply at_b
      | with_reducible apply at_and
      | with_reducible apply at_or
      | with_reducible apply at_not
      | with_reducible apply at_yes
      | with_reducible apply ae_andV
      | with_reducible apply ae_orV
      | with_reducible apply ae_notV
      | with_reducible apply ar_I0i
      | with_reducible apply ar_I0b
      | with_reducible apply ar_isN
      | with_reducible apply ar_notN
      | with_reducible apply au_Ui
      | ((with_reducible apply ar_ixTs); · rfl)
      | ((with_reducible apply ar_ixLs); · rfl)
      | ((with_reducible apply ar_ix); · rfl)
      | ((with_reducible apply ar_ixT); · rfl)
      | ((with_reducible apply ar_ixL); · rfl)
      | with_reducible apply ac_abs
      | with_reducible apply ac_max2
      | with_reducible apply ac_min2
      | with_reducible apply ac_lenT
      | with_reducible apply ac_lenL
      | with_reducible apply ac_listT
      | with_reducible apply ac_listL
      | with_reducible apply ac_tupL
      | with_reducible apply ac_tupT
      | with_reducible apply ac_int
      | with_reducible apply ac_intB
      | ((with_reducible apply ar_eq3); · exact ⟨rfl, rfl, rfl⟩)
      | ((with_reducible apply ar_ne3); · exact ⟨rfl, rfl, rfl⟩)
      | with_reducible apply ag_name
      | with_reducible apply ags_nil
      | with_reducible apply ags_cons
      | ((with_reducible apply ag_tup); · rfl)
      | refine ⟨sz60 (Nat.le_of_ble_eq_true rfl), ?_⟩
      | refine ⟨_, rfl, ?_⟩
      | refine ⟨_, _, rfl, ?_⟩
      | refine ⟨_, _, _, rfl, ?_⟩
      | (refine ⟨fun hc => ?_, fun hc => ?_⟩ <;> (first | (exfalso; exact absurd (show false = true from hc) (by decide)) | (exfalso; exact absurd (show true = false from hc) (by decide)) | (exfalso; simp at hc; done) | skip))
      | rfl
      | exact trivial
      | simp only [oD_some, oD_none])
  | bl b =>
    repeat' (first
      | ((with_reducible apply ac_isi1); · first | exact ⟨rfl, kb_bool_list⟩ | exact ⟨rfl, kb_bool_tuple⟩ | exact ⟨rfl, kb_bool_bool⟩ | exact ⟨rfl, kb_bool_int⟩ | exact ⟨rfl, kb_bool_str⟩)
      | (first | refine ⟨rfl, false, .inr ⟨kb_bool_list, kb_bool_tuple⟩, ?_⟩ | refine ⟨rfl, true, .inl ⟨kb_bool_bool, rfl⟩, ?_⟩)
      | with_reducible apply as_seq
      | with_reducible apply as_ret
      | with_reducible apply as_next
      | with_reducible apply as_if
      | with_reducible apply as_set
      | with_reducible apply as_par
      | with_reducible apply as_par3
      | with_reducible apply as_asg
      | ((with_reducible apply ae_var); · rfl)
      | with_reducible apply ae_int
      | with_reducible apply ae_non
      | with_reducible apply ae_bl
      | with_reducible apply ae_str
      | with_reducible apply ae_ty
      | with_reducible apply ae_isi2
      | with_reducible apply ae_op
      | with_reducible apply ae_un
      | with_reducible apply aa_nil
      | with_reducible apply aa_cons
      | with_reducible apply ae_cb
      | with_reducible apply ae_tup
      | with_reducible apply ae_lst
      | with_reducible apply ae_if
      | with_reducible apply at_test
      | with_reducible apply at_b
      | with_reducible apply at_and
      | with_reducible apply at_or
      | with_reducible apply at_not
      | with_reducible apply at_yes
      | with_reducible apply ae_andV
      | with_reducible apply ae_orV
      | with_reducible apply ae_notV
      | with_reducible apply ar_I0i
      | with_reducible apply ar_I0b
      | with_reducible apply ar_isN
      | with_reducible apply ar_notN
      | with_reducible apply au_Ui
      | ((with_reducible apply ar_ixTs); · rfl)
      | ((with_reducible apply ar_ixLs); · rfl)
      | ((with_reducible apply ar_ix); · rfl)
      | ((with_reducible apply ar_ixT); · rfl)
      | ((with_reducible apply ar_ixL); · rfl)
      | with_reducible apply ac_abs
      | with_reducible apply ac_max2
      | with_reducible apply ac_min2
      | with_reducible apply ac_lenT
      | with_reducible apply ac_lenL
      | with_reducible apply ac_listT
      | with_reducible apply ac_listL
      | with_reducible apply ac_tupL
      | with_reducible apply ac_tupT
      | with_reducible apply ac_int
      | with_reducible apply ac_intB
      | ((with_reducible apply ar_eq3); · exact ⟨rfl, rfl, rfl⟩)
      | ((with_reducible apply ar_ne3); · exact ⟨rfl, rfl, rfl⟩)
      | with_reducible apply ag_name
      | with_reducible apply ags_nil
      | with_reducible apply ags_cons
      | ((with_reducible apply ag_tup); · rfl)
      | refine ⟨sz60 (Nat.le_of_ble_eq_true rfl), ?_⟩
      | refine ⟨_, rfl, ?_⟩
      | refine ⟨_, _, rfl, ?_⟩
      | refine ⟨_, _, _, rfl, ?_⟩
      | (refine ⟨fun hc => ?_, fun hc => ?_⟩ <;> (first | (exfalso; exact absurd (show false = true from hc) (by decide)) | (exfalso; exact absurd (show true = false from hc) (by decide)) | (exfalso; simp at hc; done) | skip))
      | rfl
      | exact trivial
      | simp only [oD_some, oD_none])
  | int i =>
    repeat' (first
      | ((with_reducible apply ac_isi1); · first | exact ⟨rfl, kb_int_list⟩ | exact ⟨rfl, kb_int_tuple⟩ | exact ⟨rfl, kb_int_bool⟩ | exact ⟨rfl, kb_int_int⟩ | exact ⟨rfl, kb_int_str⟩)
      | (first | refine ⟨rfl, false, .inr ⟨kb_int_list, kb_int_tuple⟩, ?_⟩ | refine ⟨rfl, false, .inr ⟨kb_int_bool, kb_int_str⟩, ?_⟩)
      | with_reducible apply as_seq
      | with_reducible apply as_ret
      | with_reducible apply as_next
      | with_reducible apply as_if
      | with_reducible apply as_set
      | with_reducible apply as_par
      | with_reducible apply as_par3
      | with_reducible apply as_asg
      | ((with_reducible apply ae_var); · rfl)
      | with_reducible apply ae_int
      | with_reducible apply ae_non
      | with_reducible apply ae_bl
      | with_reducible apply ae_str
      | with_reducible apply ae_ty
      | with_reducible apply ae_isi2
      | with_reducible apply ae_op
      | with_reducible apply ae_un
      | with_reducible apply aa_nil
      | with_reducible apply aa_cons
      | with_reducible apply ae_cb
      | with_reducible apply ae_tup
      | with_reducible apply ae_lst
      | with_reducible apply ae_if
      | with_reducible apply at_test
      | with_reducible apply at_b
      | with_reducible apply at_and
      | with_reducible apply at_or
      | with_reducible apply at_not
      | with_reducible apply at_yes
      | with_reducible apply ae_andV
      | with_reducible apply ae_orV
      | with_reducible apply ae_notV
      | with_reducible apply ar_I0i
      | with_reducible apply ar_I0b
      | with_reducible apply ar_isN
      | with_reducible apply ar_notN
      | with_reducible apply au_Ui
      | ((with_reducible apply ar_ixTs); · rfl)
      | ((with_reducible apply ar_ixLs); · rfl)
      | ((with_reducible apply ar_ix); · rfl)
      | ((with_reducible apply ar_ixT); · rfl)
      | ((with_reducible apply ar_ixL); · rfl)
      | with_reducible apply ac_abs
      | with_reducible apply ac_max2
      | with_reducible apply ac_min2
      | with_reducible apply ac_lenT
      | with_reducible apply ac_lenL
      | with_reducible apply ac_listT
      | with_reducible apply ac_listL
      | with_reducible apply ac_tupL
      | with_reducible apply ac_tupT
      | with_reducible apply ac_int
      | with_reducible apply ac_intB
      | ((with_reducible apply ar_eq3); · exact ⟨rfl, rfl, rfl⟩)
      | ((with_reducible apply ar_ne3); · exact ⟨rfl, rfl, rfl⟩)
      | with_reducible apply ag_name
      | with_reducible apply ags_nil
      | with_reducible apply ags_cons
      | ((with_reducible apply ag_tup); · rfl)
      | refine ⟨sz60 (Nat.le_of_ble_eq_true rfl), ?_⟩
      | refine ⟨_, rfl, ?_⟩
      | refine ⟨_, _, rfl, ?_⟩
      | refine ⟨_, _, _, rfl, ?_⟩
      | (refine ⟨fun hc => ?_, fun hc => ?_⟩ <;> (first | (exfalso; exact absurd (show false = true from hc) (by decide)) | (exfalso; exact absurd (show true = false from hc) (by decide)) | (exfalso; simp at hc; done) | skip))
      | rfl
      | exact trivial
      | simp only [oD_some, oD_none])
  | str z =>
    repeat' (first
      | ((with_reducible apply ac_isi1); · first | exact ⟨rfl, kb_str_list⟩ | exact ⟨rfl, kb_str_tuple⟩ | exact ⟨rfl, kb_str_bool⟩ | exact ⟨rfl, kb_str_int⟩ | exact ⟨rfl, kb_str_str⟩)
      | (first | refine ⟨rfl, false, .inr ⟨kb_str_list, kb_str_tuple⟩, ?_⟩ | refine ⟨rfl, true, .inr ⟨kb_str_bool, kb_str_str⟩, ?_⟩)
      | with_reducible apply as_seq
      | with_reducible apply as_ret
      | with_reducible apply as_next
      | with_reducible apply as_if
      | with_reducible apply as_set
      | with_reducible apply as_par
      | with_reducible apply as_par3
      | with_reducible apply as_asg
      | ((with_reducible apply ae_var); · rfl)
      | with_reducible apply ae_int
      | with_reducible apply ae_non
      | with_reducible apply ae_bl
      | with_reducible apply ae_str
      | with_reducible apply ae_ty
      | with_reducible apply ae_isi2
      | with_reducible apply ae_op
      | with_reducible apply ae_un
      | with_reducible apply aa_nil
      | with_reducible apply aa_cons
      | with_reducible apply ae_cb
      | with_reducible apply ae_tup
      | with_reducible apply ae_lst
      | with_reducible apply ae_if
      | with_reducible apply at_test
      | with_reducible apply at_b
      | with_reducible apply at_and
      | with_reducible apply at_or
      | with_reducible apply at_not
      | with_reducible apply at_yes
      | with_reducible apply ae_andV
      | with_reducible apply ae_orV
      | with_reducible apply ae_notV
      | with_reducible apply ar_I0i
      | with_reducible apply ar_I0b
      | with_reducible apply ar_isN
      | with_reducible apply ar_notN
      | with_reducible apply au_Ui
      | ((with_reducible apply ar_ixTs); · rfl)
      | ((with_reducible apply ar_ixLs); · rfl)
      | ((with_reducible apply ar_ix); · rfl)
      | ((with_reducible apply ar_ixT); · rfl)
      | ((with_reducible apply ar_ixL); · rfl)
      | with_reducible apply ac_abs
      | with_reducible apply ac_max2
      | with_reducible apply ac_min2
      | with_reducible apply ac_lenT
      | with_reducible apply ac_lenL
      | with_reducible apply ac_listT
      | with_reducible apply ac_listL
      | with_reducible apply ac_tupL
      | with_reducible apply ac_tupT
      | with_reducible apply ac_int
      | with_reducible apply ac_intB
      | ((with_reducible apply ar_eq3); · exact ⟨rfl, rfl, rfl⟩)
      | ((with_reducible apply ar_ne3); · exact ⟨rfl, rfl, rfl⟩)
      | with_reducible apply ag_name
      | with_reducible apply ags_nil
      | with_reducible apply ags_cons
      | ((with_reducible apply ag_tup); · rfl)
      | refine ⟨sz60 (Nat.le_of_ble_eq_true rfl), ?_⟩
      | refine ⟨_, rfl, ?_⟩
      | refine ⟨_, _, rfl, ?_⟩
      | refine ⟨_, _, _, rfl, ?_⟩
      | (refine ⟨fun hc => ?_, fun hc => ?_⟩ <;> (first | (exfalso; exact absurd (show false = true from hc) (by decide)) | (exfalso; exact absurd (show true = false from hc) (by decide)) | (exfalso; simp at hc; done) | skip))
      | rfl
      | exact trivial
      | simp only [oD_some, oD_none])
  | ty T => exact absurd f1 (fun z => nomatch z)
  | tup l =>
    have hl : l.length ≤ 9000 := by
      have f2 : (decide (l.length ≤ 9000) && fits l) = true := f1
      rw [Bool.and_eq_true] at f2; exact of_decide_eq_true f2.1
    have hf : fits l = true := by
      have f2 : (decide (l.length ≤ 9000) && fits l) = true := f1
      rw [Bool.and_eq_true] at f2; exact f2.2
    have hd : deps l ≤ n := Nat.le_of_succ_le_succ (show deps l + 1 ≤ n + 1 from n1)
    repeat' (first
      | ((with_reducible apply ac_isi1); · first | exact ⟨rfl, kb_tuple_list⟩ | exact ⟨rfl, kb_tuple_tuple⟩ | exact ⟨rfl, kb_tuple_bool⟩ | exact ⟨rfl, kb_tuple_int⟩ | exact ⟨rfl, kb_tuple_str⟩)
      | (first | refine ⟨rfl, true, .inr ⟨kb_tuple_list, kb_tuple_tuple⟩, ?_⟩ | refine ⟨rfl, false, .inr ⟨kb_tuple_bool, kb_tuple_str⟩, ?_⟩)
      | with_reducible apply as_seq
      | with_reducible apply as_ret
      | with_reducible apply as_next
      | with_reducible apply as_if
      | with_reducible apply as_set
      | with_reducible apply as_par
      | with_reducible apply as_par3
      | with_reducible apply as_asg
      | ((with_reducible apply ae_var); · rfl)
      | with_reducible apply ae_int
      | with_reducible apply ae_non
      | with_reducible apply ae_bl
      | with_reducible apply ae_str
      | with_reducible apply ae_ty
      | with_reducible apply ae_isi2
      | with_reducible apply ae_op
      | with_reducible apply ae_un
      | with_reducible apply aa_nil
      | with_reducible apply aa_cons
      | with_reducible apply ae_cb
      | with_reducible apply ae_tup
      | with_reducible apply ae_lst
      | with_reducible apply ae_if
      | with_reducible apply at_test
      | with_reducible apply at_b
      | with_reducible apply at_and
      | with_reducible apply at_or
      | with_reducible apply at_not
      | with_reducible apply at_yes
      | with_reducible apply ae_andV
      | with_reducible apply ae_orV
      | with_reducible apply ae_notV
      | with_reducible apply ar_I0i
      | with_reducible apply ar_I0b
      | with_reducible apply ar_isN
      | with_reducible apply ar_notN
      | with_reducible apply au_Ui
      | ((with_reducible apply ar_ixTs); · rfl)
      | ((with_reducible apply ar_ixLs); · rfl)
      | ((with_reducible apply ar_ix); · rfl)
      | ((with_reducible apply ar_ixT); · rfl)
      | ((with_reducible apply ar_ixL); · rfl)
      | with_reducible apply ac_abs
      | with_reducible apply ac_max2
      | with_reducible apply ac_min2
      | with_reducible apply ac_lenT
      | with_reducible apply ac_lenL
      | with_reducible apply ac_listT
      | with_reducible apply ac_listL
      | with_reducible apply ac_tupL
      | with_reducible apply ac_tupT
      | with_reducible apply ac_int
      | with_reducible apply ac_intB
      | ((with_reducible apply ar_eq3); · exact ⟨rfl, rfl, rfl⟩)
      | ((with_reducible apply ar_ne3); · exact ⟨rfl, rfl, rfl⟩)
      | with_reducible apply ag_name
      | with_reducible apply ags_nil
      | with_reducible apply ags_cons
      | ((with_reducible apply ag_tup); · rfl)
      | refine ⟨sz60 (Nat.le_of_ble_eq_true rfl), ?_⟩
      | refine ⟨_, rfl, ?_⟩
      | refine ⟨_, _, rfl, ?_⟩
      | refine ⟨_, _, _, rfl, ?_⟩
      | (refine ⟨fun hc => ?_, fun hc => ?_⟩ <;> (first | (exfalso; exact absurd (show false = true from hc) (by decide)) | (exfalso; exact absurd (show true = false from hc) (by decide)) | (exfalso; simp at hc; done) | skip))
      | rfl
      | exact trivial
      | simp only [oD_some, oD_none])
    refine ae_lcMap (fun _ => .bl true) ?_
    refine ai_zipT ?_
    repeat' (first | (with_reducible apply aa_cons) | ((with_reducible apply ae_var); · rfl) | (with_reducible apply aa_nil))
    refine ⟨l, l, rfl, ?_, fun d hm => ?_, ?_⟩
    · rw [zpD_len, Nat.min_self]; exact Nat.lt_of_le_of_lt hl (by decide)
    · obtain ⟨e, he, rfl⟩ := zp_self hm
      refine agv_tup rfl (agvs_cons (agv_name (by decide) (agvs_cons (agv_name (by decide) (agvs_nil ?_)))))
      refine ae_call ?_
      repeat' (first | (with_reducible apply aa_cons) | ((with_reducible apply ae_var); · rfl) | (with_reducible apply aa_nil))
      exact ⟨.bl true, ⟨e, rfl, Nat.le_trans (deps_mem he) hd, fits_mem hf he, rfl⟩, rfl, rfl⟩
    · refine aa_nil ?_
      rw [map_true]
      refine ac_all ?_
      rw [all_true]
  | lst l =>
    have hl : l.length ≤ 9000 := by
      have f2 : (decide (l.length ≤ 9000) && fits l) = true := f1
      rw [Bool.and_eq_true] at f2; exact of_decide_eq_true f2.1
    have hf : fits l = true := by
      have f2 : (decide (l.length ≤ 9000) && fits l) = true := f1
      rw [Bool.and_eq_true] at f2; exact f2.2
    have hd : deps l ≤ n := Nat.le_of_succ_le_succ (show deps l + 1 ≤ n + 1 from n1)
    repeat' (first
      | ((with_reducible apply ac_isi1); · first | exact ⟨rfl, kb_list_list⟩ | exact ⟨rfl, kb_list_tuple⟩ | exact ⟨rfl, kb_list_bool⟩ | exact ⟨rfl, kb_list_int⟩ | exact ⟨rfl, kb_list_str⟩)
      | (first | refine ⟨rfl, true, .inl ⟨kb_list_list, rfl⟩, ?_⟩ | refine ⟨rfl, false, .inr ⟨kb_list_bool, kb_list_str⟩, ?_⟩)
      | with_reducible apply as_seq
      | with_reducible apply as_ret
      | with_reducible apply as_next
      | with_reducible apply as_if
      | with_reducible apply as_set
      | with_reducible apply as_par
      | with_reducible apply as_par3
      | with_reducible apply as_asg
      | ((with_reducible apply ae_var); · rfl)
      | with_reducible apply ae_int
      | with_reducible apply ae_non
      | with_reducible apply ae_bl
      | with_reducible apply ae_str
      | with_reducible apply ae_ty
      | with_reducible apply ae_isi2
      | with_reducible apply ae_op
      | with_reducible apply ae_un
      | with_reducible apply aa_nil
      | with_reducible apply aa_cons
      | with_reducible apply ae_cb
      | with_reducible apply ae_tup
      | with_reducible apply ae_lst
      | with_reducible apply ae_if
      | with_reducible apply at_test
      | with_reducible apply at_b
      | with_reducible apply at_and
      | with_reducible apply at_or
      | with_reducible apply at_not
      | with_reducible apply at_yes
      | with_reducible apply ae_andV
      | with_reducible apply ae_orV
      | with_reducible apply ae_notV
      | with_reducible apply ar_I0i
      | with_reducible apply ar_I0b
      | with_reducible apply ar_isN
      | with_reducible apply ar_notN
      | with_reducible apply au_Ui
      | ((with_reducible apply ar_ixTs); · rfl)
      | ((with_reducible apply ar_ixLs); · rfl)
      | ((with_reducible apply ar_ix); · rfl)
      | ((with_reducible apply ar_ixT); · rfl)
      | ((with_reducible apply ar_ixL); · rfl)
      | with_reducible apply ac_abs
      | with_reducible apply ac_max2
      | with_reducible apply ac_min2
      | with_reducible apply ac_lenT
      | with_reducible apply ac_lenL
      | with_reducible apply ac_listT
      | with_reducible apply ac_listL
      | with_reducible apply ac_tupL
      | with_reducible apply ac_tupT
      | with_reducible apply ac_int
      | with_reducible apply ac_intB
      | ((with_reducible apply ar_eq3); · exact ⟨rfl, rfl, rfl⟩)
      | ((with_reducible apply ar_ne3); · exact ⟨rfl, rfl, rfl⟩)
      | with_reducible apply ag_name
      | with_reducible apply ags_nil
      | with_reducible apply ags_cons
      | ((with_reducible apply ag_tup); · rfl)
      | refine ⟨sz60 (Nat.le_of_ble_eq_true rfl), ?_⟩
      | refine ⟨_, rfl, ?_⟩
      | refine ⟨_, _, rfl, ?_⟩
      | refine ⟨_, _, _, rfl, ?_⟩
      | (refine ⟨fun hc => ?_, fun hc => ?_⟩ <;> (first | (exfalso; exact absurd (show false = true from hc) (by decide)) | (exfalso; exact absurd (show true = false from hc) (by decide)) | (exfalso; simp at hc; done) | skip))
      | rfl
      | exact trivial
      | simp only [oD_some, oD_none])
    refine ae_lcMap (fun _ => .bl true) ?_
    refine ai_zipL ?_
    repeat' (first | (with_reducible apply aa_cons) | ((with_reducible apply ae_var); · rfl) | (with_reducible apply aa_nil))
    refine ⟨l, l, rfl, ?_, fun d hm => ?_, ?_⟩
    · rw [zpD_len, Nat.min_self]; exact Nat.lt_of_le_of_lt hl (by decide)
    · obtain ⟨e, he, rfl⟩ := zp_self hm
      refine agv_tup rfl (agvs_cons (agv_name (by decide) (agvs_cons (agv_name (by decide) (agvs_nil ?_)))))
      refine ae_call ?_
      repeat' (first | (with_reducible apply aa_cons) | ((with_reducible apply ae_var); · rfl) | (with_reducible apply aa_nil))
      exact ⟨.bl true, ⟨e, rfl, Nat.le_trans (deps_mem he) hd, fits_mem hf he, rfl⟩, rfl, rfl⟩
    · refine aa_nil ?_
      rw [map_true]
      refine ac_all ?_
      rw [all_true]
theorem all_same (bl : Blts mg) {f : Addr} {fd : FuncData} (F : Fun K "_law_same" "_law_same" s_l_same f fd) (bG : Binds K fd p_l_same []) (mG : mg "_law_same" = some (.ref f)) : ∀ n : Nat, FnOk P w K mg base CX0 n f fd p_l_same (spP K (S_same n))
  | 0 => none0 fun vs H Q E h => by
    obtain ⟨G, ds, r, _, _, ⟨d, _, h1, _⟩, _⟩ := h
    have := dep_pos d
    omega
  | n + 1 => ok_l_same bl ⟨all_same bl F bG mG n, bG, F.kp, mG⟩ F
end
end Sh
set_option Elab.async false
set_option linter.all false
set_option maxRecDepth 100000
set_option maxHeartbeats 4000000
namespace Sh
open PySem PySem.Spec PyProof.Rows L2
abbrev s_l_kind : Stmt := topS 26
abbrev N_l_kind : List Str := ["_law_cuts_so", "_law_size", "_law_place", "_law_left", "_law_found", "_law_spot", "_law_k"]
abbrev p_l_kind : List Str := ["_law_cuts_so", "_law_size", "_law_place", "_law_left"]
theorem sc_l_kind : FnScope N_l_kind p_l_kind (defScope s_l_kind) := ⟨rfl, rfl, rfl, by decide +kernel, rfl, by decide +kernel, by decide +kernel⟩
abbrev s_l_whole : Stmt := topS 28
abbrev N_l_whole : List Str := ["_law_matter"]
abbrev p_l_whole : List Str := ["_law_matter"]
theorem sc_l_whole : FnScope N_l_whole p_l_whole (defScope s_l_whole) := ⟨rfl, rfl, rfl, by decide +kernel, rfl, by decide +kernel, by decide +kernel⟩
theorem ae_lstRg1 {K : PySem.W.Frag} {ρ : List En} {Ψ : Dt → List En → Prop} {ta : TE} (h : AE K ta ρ fun d ρ1 => ∃ j : Int, d = .int j ∧ RgOk 0 j ∧ Ψ (.lst (rgD 0 j.toNat)) ρ1) : AE K (tLstRg (tRg1 ta)) ρ Ψ := fun B σ G H m Q q =>
  h B σ G H m _ fun x d ρ1 G1 H1 m1 s1 t1 r1 ⟨j, e1, ok, p⟩ => by
    subst e1
    refine ⟨j, r1, ok, fun p' hp => ?_⟩
    have n := Nw.new (o := .lst (((List.range (j - 0).toNat).map fun (k : Nat) => V.int (0 + (k : Int))))) m1.sub hp
    have e : (j - 0).toNat = j.toNat := by rw [Int.sub_zero]
    have rr : RDs K (upd G1 p' (.lst ((List.range (j - 0).toNat).map fun (k : Nat) => V.int (0 + (k : Int))))) (rgD 0 j.toNat) ((List.range (j - 0).toNat).map fun (k : Nat) => V.int (0 + (k : Int))) := by
      rw [e]
      have : ∀ l : List Nat, RDs K (upd G1 p' (.lst ((List.range j.toNat).map fun (k : Nat) => V.int (0 + (k : Int))))) (l.map fun (k : Nat) => Dt.int (0 + (k : Int))) (l.map fun (k : Nat) => V.int (0 + (k : Int))) := fun l => by
        induction l with
        | nil => exact rfl
        | cons a l ih => exact ⟨_, _, rfl, rfl, ih⟩
      exact this _
    exact q _ (.lst (rgD 0 j.toNat)) ρ1 _ _ (m1.nw n) (s1.trans n.g) (t1.trans (Tr.same n.h)) ⟨p', _, rfl, upd_same, rr⟩ p
def pF (p : Int → Bool) (d : Dt) : Option Dt := if p (toI d) = true then some d else none
theorem fil_ints (p : Int → Bool) (xs : List Int) : (xs.map Dt.int).filterMap (pF p) = (xs.filter p).map Dt.int := by
  induction xs with
  | nil => rfl
  | cons x xs h =>
    have e : pF p (Dt.int x) = if p x = true then some (Dt.int x) else none := rfl
    rw [List.map_cons, List.filterMap_cons, List.filter_cons, e]
    by_cases c : p x = true
    · rw [if_pos c, if_pos c, List.map_cons, ← h]
    · rw [if_neg c, if_neg c, ← h]
theorem as_monoN {K : PySem.W.Frag} {ρ : List En} {N N' : List En → Prop} {R : Dt → List En → Prop} {t : TS} (h : AS K t ρ N R) (f : ∀ ρ', N ρ' → N' ρ') : AS K t ρ N' R := fun B σ G H m D qn qr => h B σ G H m D (fun σ' ρ' G' H' m' s t n => qn σ' ρ' G' H' m' s t (f ρ' n)) qr
def S_kind (ds : List Dt) (res : Dt) : Prop := ∃ (cs : List Int) (m i r : Nat), ds = [.tup (cs.map Dt.int), .int (m : Int), .int (i : Int), .int (r : Int)] ∧ cs.length ≤ 830 ∧ 1 ≤ m ∧ m ≤ 830 ∧ i ≤ cs.length ∧ res = .lst ((kindL cs m i r).map Dt.int)
theorem pl_ints : ∀ xs : List Int, pls (xs.map Dt.int) = true
  | [] => rfl
  | x :: xs => pl_ints xs
theorem cl_ints : ∀ xs : List Int, PyData.canLayAll0 (pds (xs.map Dt.int)) = true ∧ PyData.depthAll (pds (xs.map Dt.int)) = 0
  | [] => ⟨rfl, rfl⟩
  | x :: xs => by
    obtain ⟨a, b⟩ := cl_ints xs
    refine ⟨?_, ?_⟩
    · show (true && PyData.canLayAll0 (pds (xs.map Dt.int))) = true
      rw [a]; rfl
    · show max 0 (PyData.depthAll (pds (xs.map Dt.int))) = 0
      rw [b]; rfl
theorem sh_ints (xs : List Int) : (Dt.tup (xs.map Dt.int)).pl = true ∧ SeqAt.shaped (Dt.tup (xs.map Dt.int)).pd = true := by
  obtain ⟨a, b⟩ := cl_ints xs
  refine ⟨pl_ints xs, ?_⟩
  show (PyData.canLayAll0 (pds (xs.map Dt.int)) && decide (PyData.depthAll (pds (xs.map Dt.int)) + 1 ≤ 64)) = true
  rw [a, b]; rfl
theorem at_ints {xs : List Int} {i : Nat} (h : i < xs.length) : atI (xs.map Dt.int) (i : Int) = some (.int (xs.getD i 0)) := by
  refine atI_nat ?_
  rw [List.getElem?_map, List.getD_eq_getElem?_getD, List.getElem?_eq_getElem h]
  rfl
section
variable {P : Program} {w : World} {K : PySem.W.Frag} {mg : Str → Option Value} {base : Heap}
theorem ok_l_kind (bl : Blts mg)   {f : Addr} {fd : FuncData} (F : Fun K "_law_kind" "_law_kind" s_l_kind f fd) : FnOk P w K mg base CX0 1 f fd p_l_kind (spP K (S_kind)) := by
  refine okP F sc_l_kind (fun ds r h => ?_) (fun cdv A outer s H E hr ds r h => ?_)
  · obtain ⟨cs, m, i, r, rfl, hc, hm, hm8, hi, rfl⟩ := h
    rfl
  obtain ⟨cs, m, i, r, rfl, hc, hm, hm8, hi, rfl⟩ := h
  refine ⟨_, (pss_cons (ps_if (pt_cmpR (op_eqD hr.units) (pv 0) (pe_tup pa_nil) (nomark _)) (pss_one (ps_set (i := 4) sc_l_kind.nd rfl (by first | exact Or.inl rfl | exact Or.inr rfl) (pe_listRg rfl rfl bl.list (prg_1 rfl bl.range (pv 1))))) (pss_one (ps_if (pt_cmpR op_eq (pv 2) pe_int (nomark _)) (pss_one (ps_setLc (i := 4) (own := [("_law_k", 6)]) (g := (gName 6)) (te := (tOp (rI0 fun i j => .int (i - j)) (tOp (rI0 fun i j => .int (i - j)) (tOp (rIxT K) (tVar 0) (tC (.int 0))) (tC (.int 1))) (tVar 6))) (tt := tYes) rfl sc_l_kind.nd rfl rfl (sw_true rfl rfl rfl (by decide +kernel)) (pi_range1 rfl bl.range (pa_cons (pv 1) pa_nil)) (blkOk_by (N := N_l_kind) (sc := defScope s_l_kind) (by decide +kernel)) (fun _ _ _ _ _ => (pg_name (i := 6) sc_l_kind.nd rfl (by first | exact Or.inl rfl | exact Or.inr rfl))) (fun _ _ _ _ _ => pts_nil) (fun _ _ _ _ _ => (pe_op op_sub (pe_op op_sub (pe_ix ix_tup (pv 0) pe_int (fun _ _ => rfl)) pe_int) (pv 6))))) (pss_one (ps_setLc (i := 4) (own := [("_law_k", 6)]) (g := (gName 6)) (te := (tOp (rI0 fun i j => .int (i + j)) (tOp (rIxT K) (tVar 0) (tOp (rI0 fun i j => .int (i - j)) (tVar 2) (tC (.int 1)))) (tVar 6))) (tt := tYes) rfl sc_l_kind.nd rfl rfl (sw_true rfl rfl rfl (by decide +kernel)) (pi_range1 rfl bl.range (pa_cons (pv 1) pa_nil)) (blkOk_by (N := N_l_kind) (sc := defScope s_l_kind) (by decide +kernel)) (fun _ _ _ _ _ => (pg_name (i := 6) sc_l_kind.nd rfl (by first | exact Or.inl rfl | exact Or.inr rfl))) (fun _ _ _ _ _ => pts_nil) (fun _ _ _ _ _ => (pe_op op_add (pe_ix ix_tup (pv 0) (pe_op op_sub (pv 2) pe_int) (fun _ _ => rfl)) (pv 6))))))))
    (pss_cons (ps_if (pt_chain op_lt op_lt pe_int (pv 2) (pe_callB call_len_seq rfl bl.len (by decide +kernel) (pa_cons (pv 0) pa_nil))) (pss_one (ps_setLc (i := 4) (own := [("_law_spot", 5)]) (g := (gName 5)) (te := (tVar 5)) (tt := (tTest (tOp (rI0 fun i j => .bl (decide (i < j))) (tVar 5) (tOp (rIxT K) (tVar 0) (tVar 2))))) rfl sc_l_kind.nd rfl rfl (sw_true rfl rfl rfl (by decide +kernel)) (pi_list (pv 4)) (blkOk_by (N := N_l_kind) (sc := defScope s_l_kind) (by decide +kernel)) (fun _ _ _ _ _ => (pg_name (i := 5) sc_l_kind.nd rfl (by first | exact Or.inl rfl | exact Or.inr rfl))) (fun _ _ _ _ _ => (pts_one (pt_cmpR op_lt (pv 5) (pe_ix ix_tup (pv 0) (pv 2) (fun _ _ => rfl)) (nomark _)))) (fun _ _ _ _ _ => (pv 5)))) pss_nil)
    (pss_one (ps_ret (pe_lc (own := [("_law_spot", 5)]) (g := (gName 5)) (te := (tVar 5)) (tt := (tTest (tOp rEq (tOp (rI (fun _ j => j ≠ 0) fun i j => .int (i.fmod j)) (tVar 5) (tVar 1)) (tVar 3)))) rfl sc_l_kind.nd (pi_list (pv 4)) (blkOk_by (N := N_l_kind) (sc := defScope s_l_kind) (by decide +kernel)) (fun _ _ _ _ _ => (pg_name (i := 5) sc_l_kind.nd rfl (by first | exact Or.inl rfl | exact Or.inr rfl))) (fun _ _ _ _ _ => (pts_one (pt_cmpR op_eq (pe_op op_modN (pv 5) (pv 1)) (pv 3) (nomark _)))) (fun _ _ _ _ _ => (pv 5))))))), ?_⟩
  change AS K _ [En.da _, En.da _, En.da _, En.da _, En.no, En.no, En.no] _ _
  try simp only [cxOf_K]
  have z9 : 9000 ≤ sizeLine := by decide
  have rg : ∀ k : Nat, (rgD 0 ((k : Nat) : Int).toNat) = (List.range k).map fun i => Dt.int ((i : Nat) : Int) := fun k => by
    unfold rgD
    rw [Int.toNat_natCast]
    exact List.map_congr_left fun i _ => by rw [Int.zero_add]
  have rl : ∀ k : Nat, ((List.range k).map fun i => Dt.int ((i : Nat) : Int)).length = k := fun k => by rw [List.length_map, List.length_range]
  have up : ∀ lo : Int, ((List.range m).map fun k => Dt.int ((k : Nat) : Int)).map (fun d => Dt.int (lo + toI d)) = (N37.upL lo m).map Dt.int := fun lo => by
    unfold N37.upL
    rw [List.map_map, List.map_map]
    rfl
  have dn : ∀ hi : Int, ((List.range m).map fun k => Dt.int ((k : Nat) : Int)).map (fun d => Dt.int (hi - toI d)) = (N37.dnL hi m).map Dt.int := fun hi => by
    unfold N37.dnL
    rw [List.map_map, List.map_map]
    rfl
  have e0 : (0 : Int) = ((0 : Nat) : Int) := rfl
  have bl0 := base_len cs m i
  have ml0 := mid_len cs m i
  refine as_seq (as_monoN (N := fun ρ => ∃ e5 e6, ρ = [.da (.tup (cs.map Dt.int)), .da (.int (m : Int)), .da (.int (i : Int)), .da (.int (r : Int)), .da (.lst ((baseL cs m i).map Dt.int)), e5, e6]) ?_ ?_)
  · cases cs with
    | nil =>
      refine as_if (at_test (ae_op (ae_var rfl (ae_tup (aa_nil ⟨Nat.zero_le _, ar_eqS (sh_ints []) ⟨true, rfl, fun _ => ?_, (fun h => absurd (show true = false from h) (by decide))⟩⟩)))))
      refine as_set (ae_lstRg1 (ae_var rfl ⟨_, rfl, ⟨by decide, by decide, by omega, by omega⟩, ?_⟩))
      rw [rg]
      exact ⟨.no, .no, by
        rw [show baseL [] m i = N37.upL 0 m from rfl, ← up 0, List.map_map]
        exact congrArg (fun x => [En.da (.tup []), .da (.int (m : Int)), .da (.int (i : Int)), .da (.int (r : Int)), .da (.lst x), .no, .no]) (List.map_congr_left fun k _ => by show Dt.int (k : Int) = Dt.int (0 + (k : Int)); rw [Int.zero_add])⟩
    | cons x xs =>
      refine as_if (at_test (ae_op (ae_var rfl (ae_tup (aa_nil ⟨Nat.zero_le _, ar_eqD (sh_ints (x :: xs)).1 (sh_ints []).1 (sh_ints (x :: xs)).2 (sh_ints []).2 ⟨false, rfl, (fun h => absurd (show false = true from h) (by decide)), fun _ => ?_⟩⟩)))))
      refine as_if (at_test (ae_op (ae_var rfl (ae_int (ar_eq3 ⟨rfl, rfl, rfl⟩ ?_)))))
      by_cases c : i = 0
      · subst c
        refine ⟨true, rfl, fun _ => ?_, (fun h => absurd (show true = false from h) (by decide))⟩
        refine as_set (ae_lcMap (fun d => .int (x - 1 - toI d)) (ai_rng1 (aa_cons (ae_var rfl (aa_nil ⟨_, rfl, by omega, by omega, ?_⟩)))))
        rw [rg]
        refine ⟨by rw [rl]; omega, fun d hd => ?_, ?_⟩
        · obtain ⟨k, hk, rfl⟩ := List.mem_map.mp hd
          refine agv_name (by simp) (ae_op (ae_op (ae_op (ae_var rfl (ae_int (ar_ixT (show atI ((x :: xs).map Dt.int) (0 : Int) = some (.int x) from atI_nat (j := 0) rfl) (ae_int (ar_I0i (ae_var rfl (ar_I0i ⟨rfl, rfl⟩))))))))))
        · rw [dn]
          exact ⟨.no, .no, rfl⟩
      · rw [decide_eq_false (fun z => c (by injection z with z; omega))]
        refine ⟨false, rfl, (fun h => absurd (show false = true from h) (by decide)), fun _ => ?_⟩
        refine as_set (ae_lcMap (fun d => .int ((x :: xs).getD (i - 1) 0 + toI d)) (ai_rng1 (aa_cons (ae_var rfl (aa_nil ⟨_, rfl, by omega, by omega, ?_⟩)))))
        rw [rg]
        refine ⟨by rw [rl]; omega, fun d hd => ?_, ?_⟩
        · obtain ⟨k, hk, rfl⟩ := List.mem_map.mp hd
          refine agv_name (by simp) (ae_op (ae_op (ae_var rfl (ae_op (ae_var rfl (ae_int (ar_I0i ?_)))))))
          rw [show (i : Int) - 1 = ((i - 1 : Nat) : Int) by omega]
          exact ar_ixT (at_ints (by omega)) (ae_var rfl (ar_I0i ⟨rfl, rfl⟩))
        · rw [up]
          refine ⟨.no, .no, ?_⟩
          rw [show baseL (x :: xs) m i = N37.upL ((x :: xs).getD (i - 1) 0) m by show (if i = 0 then _ else _) = _; rw [if_neg c]]
          rfl
  · rintro ρ ⟨e5, e6, rfl⟩
    refine as_seq (as_monoN (N := fun ρ => ∃ e5 e6, ρ = [.da (.tup (cs.map Dt.int)), .da (.int (m : Int)), .da (.int (i : Int)), .da (.int (r : Int)), .da (.lst ((midL cs m i).map Dt.int)), e5, e6]) ?_ ?_)
    · refine as_if (at_test (ae_chain (ae_int (ae_var rfl (ar_I0b ?_)))))
      by_cases c1 : 0 < i
      · rw [decide_eq_true (by omega : (0 : Int) < (i : Int))]
        refine ⟨true, rfl, fun _ => ?_, (fun h => absurd (show true = false from h) (by decide))⟩
        refine ae_cb (aa_cons (ae_var rfl (aa_nil (ac_lenT (ar_I0b ?_)))))
        rw [List.length_map]
        by_cases c2 : i < cs.length
        · rw [decide_eq_true (by omega : (i : Int) < (cs.length : Int))]
          refine ⟨true, rfl, fun _ => ?_, (fun h => absurd (show true = false from h) (by decide))⟩
          refine as_set (ae_lcFil (pF fun x => decide (x < cs.getD i 0)) (ai_list (ae_var rfl ⟨_, rfl, by rw [List.length_map]; omega, fun d hd => ?_, ?_⟩)))
          · obtain ⟨z, hz, rfl⟩ := List.mem_map.mp hd
            refine agv_name (by simp) (at_test (ae_op (ae_var rfl (ae_op (ae_var rfl (ae_var rfl (ar_ixT (at_ints c2) (ar_I0b ⟨_, rfl, fun h => ?_, fun h => ?_⟩))))))))
            · refine ae_var rfl ⟨?_, rfl⟩
              show (if decide (z < cs.getD i 0) = true then _ else _) = _
              rw [if_pos h]
            · refine ⟨?_, rfl⟩
              show (if decide (z < cs.getD i 0) = true then _ else _) = _
              rw [if_neg (by rw [h]; decide)]
          · refine ⟨.no, e6, ?_⟩
            have q : ((baseL cs m i).map Dt.int).filterMap (pF fun x => decide (x < cs.getD i 0)) = (midL cs m i).map Dt.int := by
              unfold midL
              rw [if_pos ⟨c1, c2⟩]
              exact fil_ints _ _
            rw [q]
            rfl
        · rw [decide_eq_false (by omega : ¬ (i : Int) < (cs.length : Int))]
          refine ⟨false, rfl, (fun h => absurd (show false = true from h) (by decide)), fun _ => as_next ⟨e5, e6, ?_⟩⟩
          rw [show midL cs m i = baseL cs m i by unfold midL; rw [if_neg (fun h => c2 h.2)]]
      · rw [decide_eq_false (by omega : ¬ (0 : Int) < (i : Int))]
        refine ⟨false, rfl, (fun h => absurd (show false = true from h) (by decide)), fun _ => ⟨false, rfl, (fun h => absurd (show false = true from h) (by decide)), fun _ => as_next ⟨e5, e6, ?_⟩⟩⟩
        rw [show midL cs m i = baseL cs m i by unfold midL; rw [if_neg (fun h => c1 h.1)]]
    · rintro ρ ⟨e5, e6, rfl⟩
      refine as_ret (ae_lcFil (pF fun x => decide (x.fmod (m : Int) = (r : Int))) (ai_list (ae_var rfl ⟨_, rfl, by rw [List.length_map]; omega, fun d hd => ?_, ?_⟩)))
      · obtain ⟨z, hz, rfl⟩ := List.mem_map.mp hd
        refine agv_name (by simp) (at_test (ae_op (ae_op (ae_var rfl (ae_var rfl (ar_Ii (by omega) (ae_var rfl (ar_eq3 ⟨rfl, rfl, rfl⟩ ⟨_, rfl, fun h => ?_, fun h => ?_⟩))))))))
        · refine ae_var rfl ⟨?_, rfl⟩
          have h : z.fmod (m : Int) = (r : Int) := by
            have := of_decide_eq_true h
            injection this
          show (if decide (z.fmod (m : Int) = (r : Int)) = true then _ else _) = _
          rw [decide_eq_true h]
          rfl
        · refine ⟨?_, rfl⟩
          have h : ¬ z.fmod (m : Int) = (r : Int) := fun q => by
            have := of_decide_eq_false h
            exact this (by rw [q])
          show (if decide (z.fmod (m : Int) = (r : Int)) = true then _ else _) = _
          rw [decide_eq_false h]
          rfl
      · exact congrArg Dt.lst (fil_ints (fun x => decide (x.fmod (m : Int) = (r : Int))) _)
end
end Sh
set_option Elab.async false
set_option linter.all false
set_option maxRecDepth 100000
set_option maxHeartbeats 4000000
/-! a naming place by place; ascending cuts beside sorted(set(cuts)) -/
namespace Sh
open PySem PySem.Spec PyProof.Rows L2
theorem asc_pw : ∀ xs : List Int, ascB xs = true ↔ xs.Pairwise (· < ·)
  | [] => ⟨fun _ => List.Pairwise.nil, fun _ => rfl⟩
  | [a] => ⟨fun _ => List.pairwise_singleton _ _, fun _ => rfl⟩
  | a :: b :: l => by
    have ih := asc_pw (b :: l)
    have e : ascB (a :: b :: l) = (decide (a < b) && ascB (b :: l)) := rfl
    rw [e, Bool.and_eq_true, decide_eq_true_eq, ih]
    refine ⟨fun ⟨h1, h2⟩ => List.pairwise_cons.mpr ⟨fun x hx => ?_, h2⟩, fun h => ?_⟩
    · rcases List.mem_cons.mp hx with rfl | hx
      · exact h1
      · have := (List.pairwise_cons.mp h2).1 x hx
        omega
    · obtain ⟨h1, h2⟩ := List.pairwise_cons.mp h
      exact ⟨h1 b List.mem_cons_self, h2⟩
theorem pw_one : ∀ {xs ys : List Int}, xs.Pairwise (· < ·) → ys.Pairwise (· < ·) → (∀ k, k ∈ xs ↔ k ∈ ys) → xs = ys
  | [], [], _, _, _ => rfl
  | [], y :: ys, _, _, h => nomatch (h y).mpr List.mem_cons_self
  | x :: xs, [], _, _, h => nomatch (h x).mp List.mem_cons_self
  | x :: xs, y :: ys, h1, h2, h => by
    obtain ⟨a1, a2⟩ := List.pairwise_cons.mp h1
    obtain ⟨b1, b2⟩ := List.pairwise_cons.mp h2
    have e : x = y := by
      rcases List.mem_cons.mp ((h x).mp List.mem_cons_self) with z | z
      · exact z
      rcases List.mem_cons.mp ((h y).mpr List.mem_cons_self) with w | w
      · exact w.symm
      · have := a1 y w
        have := b1 x z
        omega
    subst e
    refine congrArg _ (pw_one a2 b2 fun z => ⟨fun w => ?_, fun w => ?_⟩)
    · rcases List.mem_cons.mp ((h z).mp (List.mem_cons_of_mem _ w)) with e | e
      · have := a1 z w
        omega
      · exact e
    · rcases List.mem_cons.mp ((h z).mpr (List.mem_cons_of_mem _ w)) with e | e
      · have := b1 z w
        omega
      · exact e
theorem eqv_ints : ∀ xs ys : List Int, PyData.eqvAll (pds (xs.map Dt.int)) (pds (ys.map Dt.int)) = decide (xs = ys)
  | [], [] => rfl
  | [], _ :: _ => rfl
  | _ :: _, [] => rfl
  | x :: xs, y :: ys => by
    show ((x == y) && PyData.eqvAll (pds (xs.map Dt.int)) (pds (ys.map Dt.int))) = _
    rw [eqv_ints xs ys]
    by_cases a : x = y
    · subst a
      by_cases b : xs = ys
      · subst b
        simp
      · simp [b]
    · simp [a]
theorem cells_iff (lo hi : Option Int) (m : Int) : ∀ (l : List Dt) (k : Nat), cellsB lo hi m k l = true ↔ ∀ j d, l[j]? = some d → cellB lo hi m (k + j) d = true
  | [], _ => ⟨fun _ j d h => by simp at h, fun _ => rfl⟩
  | e :: l, k => by
    show (cellB lo hi m k e && cellsB lo hi m (k + 1) l) = true ↔ _
    rw [Bool.and_eq_true, cells_iff lo hi m l (k + 1)]
    refine ⟨fun ⟨h1, h2⟩ j d h => ?_, fun h => ⟨h 0 e rfl, fun j d hd => ?_⟩⟩
    · cases j with
      | zero => cases h; exact h1
      | succ j =>
        have := h2 j d (by simpa using h)
        rwa [show k + 1 + j = k + (j + 1) by omega] at this
    · have := h (j + 1) d (by simpa using hd)
      rwa [show k + (j + 1) = k + 1 + j by omega] at this
theorem rows_iff (cs : List Int) (m : Int) : ∀ (l : List Dt) (k : Nat), rowsB cs m k l = true ↔ ∀ j d, l[j]? = some d → rowB (loC cs (k + j)) (hiC cs (k + j)) m d = true
  | [], _ => ⟨fun _ j d h => by simp at h, fun _ => rfl⟩
  | e :: l, k => by
    show (rowB (loC cs k) (hiC cs k) m e && rowsB cs m (k + 1) l) = true ↔ _
    rw [Bool.and_eq_true, rows_iff cs m l (k + 1)]
    refine ⟨fun ⟨h1, h2⟩ j d h => ?_, fun h => ⟨h 0 e rfl, fun j d hd => ?_⟩⟩
    · cases j with
      | zero => cases h; exact h1
      | succ j =>
        have := h2 j d (by simpa using h)
        rwa [show k + 1 + j = k + (j + 1) by omega] at this
    · have := h (j + 1) d (by simpa using hd)
      rwa [show k + (j + 1) = k + 1 + j by omega] at this
theorem rows_no {cs : List Int} {m : Int} {rows : List Dt} {i : Nat} {d : Dt} (h : rows[i]? = some d) (n : rowB (loC cs i) (hiC cs i) m d = false) : rowsB cs m 0 rows = false := by
  cases e : rowsB cs m 0 rows with
  | false => rfl
  | true =>
    have := (rows_iff cs m rows 0).mp e i d h
    rw [Nat.zero_add, n] at this
    cases this
theorem cells_no {lo hi : Option Int} {m : Int} {l : List Dt} {j : Nat} {d : Dt} (h : l[j]? = some d) (n : cellB lo hi m j d = false) : cellsB lo hi m 0 l = false := by
  cases e : cellsB lo hi m 0 l with
  | false => rfl
  | true =>
    have := (cells_iff lo hi m l 0).mp e j d h
    rw [Nat.zero_add, n] at this
    cases this
theorem rows_all' {cs : List Int} {m : Int} {rows : List Dt} (h : ∀ j d, rows[j]? = some d → rowB (loC cs j) (hiC cs j) m d = true) : rowsB cs m 0 rows = true := (rows_iff cs m rows 0).mpr fun j d e => by rw [Nat.zero_add]; exact h j d e
theorem cells_all' {lo hi : Option Int} {m : Int} {l : List Dt} (h : ∀ j d, l[j]? = some d → cellB lo hi m j d = true) : cellsB lo hi m 0 l = true := (cells_iff lo hi m l 0).mpr fun j d e => by rw [Nat.zero_add]; exact h j d e
end Sh
set_option Elab.async false
set_option linter.all false
set_option maxRecDepth 100000
set_option maxHeartbeats 4000000
/-! sorted(set(t)), t a tuple of whole numbers -/
namespace Sh
open PySem PySem.Spec PyProof.Rows L2
section
variable {X : Cx}
def rSetIT (K : PySem.W.Frag) (w : World) : List V → Hp → VK → Prop := fun vs H Q => ∃ (a : Addr) (ns : List Int), vs = [.ref a] ∧ SqT K H a (ns.map V.int) ∧ ns.length + 1 < scanBound ∧
  ∀ p c, H p = none → c ≤ ns.length → Q (.ref p) (upd H p (SetO w p (fun j => decide (j ∈ ns)) c))
theorem cr_setIT (hc : X.calm = true) : CallR X (.type "set") (rSetIT X.K X.w) := by
  intro pins s σ H vs us Q I r h
  obtain ⟨a, ns, rfl, hs, hb, q⟩ := h
  obtain ⟨its, rv, hl, _⟩ := I.tuple hs
  rw [Vals.ref1 r]
  refine call_set_tupI ns (I.ok.hd hc) hl (by simpa using rv.ints) hb fun g tk c hS hle hk => ?_
  exact ⟨.ref _, _, I.laid (t' := tk) hk (Nat.le_refl _) (setO_new hS), rfl, q _ c (I.hok.fresh (Nat.le_refl _)) hle⟩
end
section
variable {K : PySem.W.Frag} {ρ : List En} {Ψ : Dt → List En → Prop}
theorem ae_sortedSetIT {w : World} {ta : TA} (h : AA K ta ρ fun ds ρ1 => ∃ ns : List Int, ds = [.tup (ns.map Dt.int)] ∧ ns.length ≤ 4000 ∧ ∀ ms : List Int, ms.Pairwise (· < ·) → (∀ k, k ∈ ms ↔ k ∈ ns) → ms.length ≤ ns.length → Ψ (.lst (ms.map Dt.int)) ρ1) :
    AE K (tCB (rSortedSetB w) (tCons (tCB (rSetIT K w) ta) tNil)) ρ Ψ := fun B σ G H m Q q =>
  h B σ G H m _ fun vs ds ρ1 G1 H1 m1 s1 t1 r1 ⟨ns, e, hn, p⟩ => by
    subst e
    obtain ⟨x, rfl, a, xs, rfl, ha, hx⟩ := r1.one
    cases hx.ints
    refine ⟨a, ns, rfl, same_sqT m1.sub ha, Nat.lt_of_le_of_lt (Nat.succ_le_succ hn) (by decide), fun p' c np hc => ?_⟩
    have mg := (m1.guard (o := SetO w p' (fun j => decide (j ∈ ns)) c) np).less (B' := B) fun a b => .inl b
    refine ⟨p', _, c, rfl, upd_same, by omega, fun ms l hs hm hl nl => ?_⟩
    have nw := Nw.new (o := .lst (ms.map V.int)) mg.sub nl
    have rd : ∀ zs : List Int, RDs K (upd G1 l (.lst (ms.map V.int))) (zs.map Dt.int) (zs.map V.int) := fun zs => by
      induction zs with
      | nil => rfl
      | cons z zs ih => exact ⟨_, _, rfl, rfl, ih⟩
    exact q _ (.lst (ms.map Dt.int)) ρ1 _ _ (mg.nw nw) (s1.trans nw.g) ((t1.trans (Tr.same (same_up np))).trans (Tr.same nw.h)) ⟨l, _, rfl, upd_same, rd ms⟩ (p ms hs (fun k => by rw [hm k]; simp) (by omega))
end
end Sh
set_option Elab.async false
set_option linter.all false
set_option maxRecDepth 100000
set_option maxHeartbeats 4000000
namespace Sh
open PySem PySem.Spec PyProof.Rows L2
abbrev s_l_is_naming : Stmt := topS 29
abbrev N_l_is_naming : List Str := ["_law_matter", "_law_place", "_law_row", "_law_left", "_law_word", "_law_is_there", "_law_part"]
abbrev p_l_is_naming : List Str := ["_law_matter"]
theorem sc_l_is_naming : FnScope N_l_is_naming p_l_is_naming (defScope s_l_is_naming) := ⟨rfl, rfl, rfl, by decide +kernel, rfl, by decide +kernel, by decide +kernel⟩
theorem shl_ints (xs : List Int) : (Dt.lst (xs.map Dt.int)).pl = true ∧ SeqAt.shaped (Dt.lst (xs.map Dt.int)).pd = true := sh_ints xs
section
variable {P : Program} {w : World} {K : PySem.W.Frag} {mg : Str → Option Value} {base : Heap}
theorem ok_l_whole (bl : Blts mg)   {f : Addr} {fd : FuncData} (F : Fun K "_law_whole" "_law_whole" s_l_whole f fd) : FnOk P w K mg base CX0 1 f fd p_l_whole (spP K (S_wh)) := by
  refine okP F sc_l_whole (fun ds r h => ?_) (fun cdv A outer s H E hr ds r h => ?_)
  · obtain ⟨d, rfl, hd, rfl⟩ := h
    rfl
  obtain ⟨d, rfl, hd, rfl⟩ := h
  refine ⟨_, (pss_one (ps_ret (pe_and (pe_callB call_isi rfl bl.isinstance (by decide +kernel) (pa_cons (pv 0) (pa_cons (pe_bltn (v := .ty "int") rfl bl.int (by decide +kernel) rfl) pa_nil))) (pe_one (pe_not (pe_callB call_isi rfl bl.isinstance (by decide +kernel) (pa_cons (pv 0) (pa_cons (pe_bltn (v := .ty "bool") rfl bl.bool (by decide +kernel) rfl) pa_nil)))))))), ?_⟩
  change AS K _ [En.da _] _ _
  try simp only [cxOf_K]
  cases d with
  | non =>
    repeat' (first
      | with_reducible apply ac_isi1
      | exact ⟨rfl, kb_NoneType_int⟩
      | with_reducible apply as_ret
      | ((with_reducible apply ae_var); · rfl)
      | with_reducible apply ae_ty
      | with_reducible apply aa_nil
      | with_reducible apply aa_cons
      | with_reducible apply ae_cb
      | with_reducible apply ae_andV
      | refine ⟨_, rfl, ?_⟩
      | (refine ⟨fun hc => ?_, fun hc => ?_⟩ <;> (first | (exfalso; exact absurd (show false = true from hc) (by decide)) | (exfalso; exact absurd (show true = false from hc) (by decide)) | (exfalso; simp at hc; done) | skip))
      | rfl
      | fail)
  | bl b =>
    repeat' (first
      | with_reducible apply ac_isi1
      | exact ⟨rfl, kb_bool_int⟩
      | with_reducible apply as_ret
      | ((with_reducible apply ae_var); · rfl)
      | with_reducible apply ae_ty
      | with_reducible apply aa_nil
      | with_reducible apply aa_cons
      | with_reducible apply ae_cb
      | with_reducible apply ae_andV
      | with_reducible apply ae_notV
      | refine ⟨_, rfl, ?_⟩
      | (refine ⟨fun hc => ?_, fun hc => ?_⟩ <;> (first | (exfalso; exact absurd (show false = true from hc) (by decide)) | (exfalso; exact absurd (show true = false from hc) (by decide)) | (exfalso; simp at hc; done) | skip))
      | rfl
      | fail)
  | int i =>
    repeat' (first
      | with_reducible apply ac_isi1
      | exact ⟨rfl, kb_int_int⟩
      | exact ⟨rfl, kb_int_bool⟩
      | with_reducible apply as_ret
      | ((with_reducible apply ae_var); · rfl)
      | with_reducible apply ae_ty
      | with_reducible apply aa_nil
      | with_reducible apply aa_cons
      | with_reducible apply ae_cb
      | with_reducible apply ae_andV
      | with_reducible apply ae_notV
      | refine ⟨_, rfl, ?_⟩
      | (refine ⟨fun hc => ?_, fun hc => ?_⟩ <;> (first | (exfalso; exact absurd (show false = true from hc) (by decide)) | (exfalso; exact absurd (show true = false from hc) (by decide)) | (exfalso; simp at hc; done) | skip))
      | rfl
      | fail)
  | str s =>
    repeat' (first
      | with_reducible apply ac_isi1
      | exact ⟨rfl, kb_str_int⟩
      | with_reducible apply as_ret
      | ((with_reducible apply ae_var); · rfl)
      | with_reducible apply ae_ty
      | with_reducible apply aa_nil
      | with_reducible apply aa_cons
      | with_reducible apply ae_cb
      | with_reducible apply ae_andV
      | refine ⟨_, rfl, ?_⟩
      | (refine ⟨fun hc => ?_, fun hc => ?_⟩ <;> (first | (exfalso; exact absurd (show false = true from hc) (by decide)) | (exfalso; exact absurd (show true = false from hc) (by decide)) | (exfalso; simp at hc; done) | skip))
      | rfl
      | fail)
  | ty n =>
    cases hd
  | tup l =>
    repeat' (first
      | with_reducible apply ac_isi1
      | exact ⟨rfl, kb_tuple_int⟩
      | with_reducible apply as_ret
      | ((with_reducible apply ae_var); · rfl)
      | with_reducible apply ae_ty
      | with_reducible apply aa_nil
      | with_reducible apply aa_cons
      | with_reducible apply ae_cb
      | with_reducible apply ae_andV
      | refine ⟨_, rfl, ?_⟩
      | (refine ⟨fun hc => ?_, fun hc => ?_⟩ <;> (first | (exfalso; exact absurd (show false = true from hc) (by decide)) | (exfalso; exact absurd (show true = false from hc) (by decide)) | (exfalso; simp at hc; done) | skip))
      | rfl
      | fail)
  | lst l =>
    repeat' (first
      | with_reducible apply ac_isi1
      | exact ⟨rfl, kb_list_int⟩
      | with_reducible apply as_ret
      | ((with_reducible apply ae_var); · rfl)
      | with_reducible apply ae_ty
      | with_reducible apply aa_nil
      | with_reducible apply aa_cons
      | with_reducible apply ae_cb
      | with_reducible apply ae_andV
      | refine ⟨_, rfl, ?_⟩
      | (refine ⟨fun hc => ?_, fun hc => ?_⟩ <;> (first | (exfalso; exact absurd (show false = true from hc) (by decide)) | (exfalso; exact absurd (show true = false from hc) (by decide)) | (exfalso; simp at hc; done) | skip))
      | rfl
      | fail)
theorem ok_l_is_naming (bl : Blts mg) {g_l_whole : Addr} {d_l_whole : FuncData} (c_l_whole : Cal P w K mg base 1 "_law_whole" p_l_whole (spP K S_wh) g_l_whole d_l_whole) {g_l_kind : Addr} {d_l_kind : FuncData} (c_l_kind : Cal P w K mg base 1 "_law_kind" p_l_kind (spP K S_kind) g_l_kind d_l_kind)  {f : Addr} {fd : FuncData} (F : Fun K "_law_is_naming" "_law_is_naming" s_l_is_naming f fd) : FnOk P w K mg base CX0 2 f fd p_l_is_naming (spP K (S_nam)) := by
  refine okP F sc_l_is_naming (fun ds r h => ?_) (fun cdv A outer s H E hr ds r h => ?_)
  · obtain ⟨d, rfl, hd, rfl⟩ := h
    rfl
  obtain ⟨d, rfl, hd, rfl⟩ := h
  refine ⟨_, (pss_cons (ps_if (PW.pt (pw_or (pt_not (pt_val (pe_callB call_isi rfl bl.isinstance (by decide +kernel) (pa_cons (pv 0) (pa_cons (pe_bltn (v := .ty "tuple") rfl bl.tuple (by decide +kernel) rfl) pa_nil))))) (pw_or (pt_cmpR op_ne (pe_callB call_len_seq rfl bl.len (by decide +kernel) (pa_cons (pv 0) pa_nil)) pe_int (nomark _)) (pw_or1 (pt_not (pt_val (pe_callB call_isi rfl bl.isinstance (by decide +kernel) (pa_cons (pe_ix ix_tup (pv 0) pe_int (fun _ _ => rfl)) (pa_cons (pe_bltn (v := .ty "tuple") rfl bl.tuple (by decide +kernel) rfl) pa_nil))))))))) (pss_one (ps_ret pe_bl)) pss_nil)
    (pss_cons (ps_if (PW.pt (pw_or (pt_not (pt_val (pe_callB (cr_all rfl) rfl bl.all (by decide +kernel) (pa_cons (pe_lc (own := [("_law_part", 6)]) (g := (gName 6)) (te := (tCall (spP K S_wh) [] E0 (tCons (tVar 6) tNil))) (tt := tYes) rfl sc_l_is_naming.nd (pi_tup (pe_ix ix_tup (pv 0) pe_int (fun _ _ => rfl))) (blkOk_by (N := N_l_is_naming) (sc := defScope s_l_is_naming) (by decide +kernel)) (fun _ _ _ _ _ => (pg_name (i := 6) sc_l_is_naming.nd rfl (by first | exact Or.inl rfl | exact Or.inr rfl))) (fun _ _ _ _ _ => pts_nil) (fun _ _ _ _ _ => (pe_call c_l_whole.ok (hr.mono (by decide)) rfl c_l_whole.mg c_l_whole.kp c_l_whole.bi .nil pass0 (pa_cons (pv 6) pa_nil)))) pa_nil)))) (pw_or1 (pt_cmpR (op_neD hr.units) (pe_callTy call_list_of rfl bl.list (by decide +kernel) (pa_cons (pe_ix ix_tup (pv 0) pe_int (fun _ _ => rfl)) pa_nil)) (pe_callB (cr_sortedSetB rfl) rfl bl.sorted (by decide +kernel) (pa_cons (pe_callTy (cr_setIT rfl) rfl bl.set (by decide +kernel) (pa_cons (pe_ix ix_tup (pv 0) pe_int (fun _ _ => rfl)) pa_nil)) pa_nil)) (nomark _))))) (pss_one (ps_ret pe_bl)) pss_nil)
    (pss_cons (ps_if (PW.pt (pw_or (pt_not (pt_val (pe_call c_l_whole.ok (hr.mono (by decide)) rfl c_l_whole.mg c_l_whole.kp c_l_whole.bi .nil pass0 (pa_cons (pe_ix ix_tup (pv 0) pe_int (fun _ _ => rfl)) pa_nil)))) (pw_or (pt_cmpR op_lt (pe_ix ix_tup (pv 0) pe_int (fun _ _ => rfl)) pe_int (nomark _)) (pw_or1 (pt_not (pt_val (pe_callB call_isi rfl bl.isinstance (by decide +kernel) (pa_cons (pe_ix ix_tup (pv 0) pe_int (fun _ _ => rfl)) (pa_cons (pe_bltn (v := .ty "tuple") rfl bl.tuple (by decide +kernel) rfl) pa_nil))))))))) (pss_one (ps_ret pe_bl)) pss_nil)
    (pss_cons (ps_if (pt_cmpR op_ne (pe_callB call_len_seq rfl bl.len (by decide +kernel) (pa_cons (pe_ix ix_tup (pv 0) pe_int (fun _ _ => rfl)) pa_nil)) (pe_op op_add (pe_callB call_len_seq rfl bl.len (by decide +kernel) (pa_cons (pe_ix ix_tup (pv 0) pe_int (fun _ _ => rfl)) pa_nil)) pe_int) (nomark _)) (pss_one (ps_ret pe_bl)) pss_nil)
    (pss_cons (ps_for PassesOwn.never rfl (pi_enT rfl bl.enumerate (pa_cons (pe_ix ix_tup (pv 0) pe_int (fun _ _ => rfl)) pa_nil)) (pg_tup rfl (pgs_cons (pg_name (i := 1) sc_l_is_naming.nd rfl (by first | exact Or.inl rfl | exact Or.inr rfl)) (pgs_cons (pg_name (i := 2) sc_l_is_naming.nd rfl (by first | exact Or.inl rfl | exact Or.inr rfl)) pgs_nil))) (pss_cons (ps_if (PW.pt (pw_or (pt_not (pt_val (pe_callB call_isi rfl bl.isinstance (by decide +kernel) (pa_cons (pv 2) (pa_cons (pe_bltn (v := .ty "tuple") rfl bl.tuple (by decide +kernel) rfl) pa_nil))))) (pw_or1 (pt_cmpR op_ne (pe_callB call_len_seq rfl bl.len (by decide +kernel) (pa_cons (pv 2) pa_nil)) (pe_ix ix_tup (pv 0) pe_int (fun _ _ => rfl)) (nomark _))))) (pss_one (ps_ret pe_bl)) pss_nil)
    (pss_one (ps_for PassesOwn.never rfl (pi_enT rfl bl.enumerate (pa_cons (pv 2) pa_nil)) (pg_tup rfl (pgs_cons (pg_name (i := 3) sc_l_is_naming.nd rfl (by first | exact Or.inl rfl | exact Or.inr rfl)) (pgs_cons (pg_name (i := 4) sc_l_is_naming.nd rfl (by first | exact Or.inl rfl | exact Or.inr rfl)) pgs_nil))) (pss_cons (ps_set (i := 5) sc_l_is_naming.nd rfl (by first | exact Or.inl rfl | exact Or.inr rfl) (pe_cmpR (op_neD hr.units) (pe_call c_l_kind.ok (hr.mono (by decide)) rfl c_l_kind.mg c_l_kind.kp c_l_kind.bi .nil pass0 (pa_cons (pe_ix ix_tup (pv 0) pe_int (fun _ _ => rfl)) (pa_cons (pe_ix ix_tup (pv 0) pe_int (fun _ _ => rfl)) (pa_cons (pv 1) (pa_cons (pv 3) pa_nil))))) (pe_lst pa_nil) (nomark _)))
    (pss_one (ps_if (PW.pt (pw_or (PW.pt (pw_and (pt_val (pv 5)) (pw_and1 (pt_not (pt_val (pe_callB call_isi rfl bl.isinstance (by decide +kernel) (pa_cons (pv 4) (pa_cons (pe_bltn (v := .ty "str") rfl bl.str (by decide +kernel) rfl) pa_nil)))))))) (pw_or1 (PW.pt (pw_and (pt_not (pt_val (pv 5))) (pw_and1 (pt_cmpR op_notN (pv 4) pe_non (nomark _)))))))) (pss_one (ps_ret pe_bl)) pss_nil)))))))
    (pss_one (ps_ret pe_bl))))))), ?_⟩
  change AS K _ [En.da _, En.no, En.no, En.no, En.no, En.no, En.no] _ _
  try simp only [cxOf_K]
  have z9 : 9000 ≤ sizeLine := by decide
  cases d with
  | non =>
    repeat' (first
      | (refine ac_isi1 ⟨rfl, kb_NoneType_tuple⟩ ?_)
      | with_reducible apply as_seq
      | with_reducible apply as_ret
      | with_reducible apply as_if
      | ((with_reducible apply ae_var); · rfl)
      | with_reducible apply ae_bl
      | with_reducible apply ae_ty
      | with_reducible apply aa_nil
      | with_reducible apply aa_cons
      | with_reducible apply ae_cb
      | with_reducible apply at_b
      | with_reducible apply at_or
      | with_reducible apply at_not
      | refine ⟨_, rfl, ?_⟩
      | (refine ⟨fun hc => ?_, fun hc => ?_⟩ <;> (first | (exfalso; exact absurd (show false = true from hc) (by decide)) | (exfalso; exact absurd (show true = false from hc) (by decide)) | (exfalso; simp at hc; done) | skip))
      | rfl
      | fail)
  | bl b =>
    repeat' (first
      | (refine ac_isi1 ⟨rfl, kb_bool_tuple⟩ ?_)
      | with_reducible apply as_seq
      | with_reducible apply as_ret
      | with_reducible apply as_if
      | ((with_reducible apply ae_var); · rfl)
      | with_reducible apply ae_bl
      | with_reducible apply ae_ty
      | with_reducible apply aa_nil
      | with_reducible apply aa_cons
      | with_reducible apply ae_cb
      | with_reducible apply at_b
      | with_reducible apply at_or
      | with_reducible apply at_not
      | refine ⟨_, rfl, ?_⟩
      | (refine ⟨fun hc => ?_, fun hc => ?_⟩ <;> (first | (exfalso; exact absurd (show false = true from hc) (by decide)) | (exfalso; exact absurd (show true = false from hc) (by decide)) | (exfalso; simp at hc; done) | skip))
      | rfl
      | fail)
  | int i =>
    repeat' (first
      | (refine ac_isi1 ⟨rfl, kb_int_tuple⟩ ?_)
      | with_reducible apply as_seq
      | with_reducible apply as_ret
      | with_reducible apply as_if
      | ((with_reducible apply ae_var); · rfl)
      | with_reducible apply ae_bl
      | with_reducible apply ae_ty
      | with_reducible apply aa_nil
      | with_reducible apply aa_cons
      | with_reducible apply ae_cb
      | with_reducible apply at_b
      | with_reducible apply at_or
      | with_reducible apply at_not
      | refine ⟨_, rfl, ?_⟩
      | (refine ⟨fun hc => ?_, fun hc => ?_⟩ <;> (first | (exfalso; exact absurd (show false = true from hc) (by decide)) | (exfalso; exact absurd (show true = false from hc) (by decide)) | (exfalso; simp at hc; done) | skip))
      | rfl
      | fail)
  | str s =>
    repeat' (first
      | (refine ac_isi1 ⟨rfl, kb_str_tuple⟩ ?_)
      | with_reducible apply as_seq
      | with_reducible apply as_ret
      | with_reducible apply as_if
      | ((with_reducible apply ae_var); · rfl)
      | with_reducible apply ae_bl
      | with_reducible apply ae_ty
      | with_reducible apply aa_nil
      | with_reducible apply aa_cons
      | with_reducible apply ae_cb
      | with_reducible apply at_b
      | with_reducible apply at_or
      | with_reducible apply at_not
      | refine ⟨_, rfl, ?_⟩
      | (refine ⟨fun hc => ?_, fun hc => ?_⟩ <;> (first | (exfalso; exact absurd (show false = true from hc) (by decide)) | (exfalso; exact absurd (show true = false from hc) (by decide)) | (exfalso; simp at hc; done) | skip))
      | rfl
      | fail)
  | ty n =>
    cases hd.ok
  | lst l =>
    repeat' (first
      | (refine ac_isi1 ⟨rfl, kb_list_tuple⟩ ?_)
      | with_reducible apply as_seq
      | with_reducible apply as_ret
      | with_reducible apply as_if
      | ((with_reducible apply ae_var); · rfl)
      | with_reducible apply ae_bl
      | with_reducible apply ae_ty
      | with_reducible apply aa_nil
      | with_reducible apply aa_cons
      | with_reducible apply ae_cb
      | with_reducible apply at_b
      | with_reducible apply at_or
      | with_reducible apply at_not
      | refine ⟨_, rfl, ?_⟩
      | (refine ⟨fun hc => ?_, fun hc => ?_⟩ <;> (first | (exfalso; exact absurd (show false = true from hc) (by decide)) | (exfalso; exact absurd (show true = false from hc) (by decide)) | (exfalso; simp at hc; done) | skip))
      | rfl
      | fail)
  | tup l =>
    have h8 : l.length ≤ 830 := ShT.len (k := true) hd
    refine as_seq (as_if (at_or (at_not (at_b (ae_cb (aa_cons (ae_var rfl (aa_cons (ae_ty (aa_nil (ac_isi1 ⟨rfl, kb_tuple_tuple⟩ ⟨true, rfl, (fun h => absurd (show false = true from h) (by decide)), fun _ => ?_⟩)))))))))))
    refine at_or (at_test (ae_op (ae_cb (aa_cons (ae_var rfl (aa_nil (ac_lenT (ae_int (ar_ne3 ⟨rfl, rfl, rfl⟩ ?_)))))))))
    by_cases h : l.length = 3
    · obtain ⟨c, mm, n, rfl⟩ : ∃ c mm n, l = [c, mm, n] := by
        match l, h with
        | [c, mm, n], _ => exact ⟨c, mm, n, rfl⟩
      have sc := ShT.mem (k := true) hd (d := c) (by simp)
      have sm := ShT.mem (k := true) hd (d := mm) (by simp)
      have sn := ShT.mem (k := true) hd (d := n) (by simp)
      rw [decide_eq_true (show V.int (([c, mm, n].length : Nat) : Int) = V.int 3 from rfl)]
      refine ⟨false, rfl, (fun h => absurd (show false = true from h) (by decide)), fun _ => ?_⟩
      show AT K _ _ _
      have fin : ∀ D, D = Dt.bl (nam3 c mm n) → D = Dt.bl (namB (.tup [c, mm, n])) := fun D h => h
      cases c with
      | non =>
        repeat' (first
          | (refine ac_isi1 ⟨rfl, kb_NoneType_tuple⟩ ?_)
          | with_reducible apply as_ret
          | ((with_reducible apply ae_var); · rfl)
          | with_reducible apply ae_int
          | with_reducible apply ae_bl
          | with_reducible apply ae_ty
          | with_reducible apply ae_op
          | with_reducible apply aa_nil
          | with_reducible apply aa_cons
          | with_reducible apply ae_cb
          | with_reducible apply at_b
          | with_reducible apply at_not
          | ((with_reducible apply ar_ixT); · rfl)
          | refine ⟨_, rfl, ?_⟩
          | (refine ⟨fun hc => ?_, fun hc => ?_⟩ <;> (first | (exfalso; exact absurd (show false = true from hc) (by decide)) | (exfalso; exact absurd (show true = false from hc) (by decide)) | (exfalso; simp at hc; done) | skip))
          | rfl
          | fail)
      | bl zb =>
        repeat' (first
          | (refine ac_isi1 ⟨rfl, kb_bool_tuple⟩ ?_)
          | with_reducible apply as_ret
          | ((with_reducible apply ae_var); · rfl)
          | with_reducible apply ae_int
          | with_reducible apply ae_bl
          | with_reducible apply ae_ty
          | with_reducible apply ae_op
          | with_reducible apply aa_nil
          | with_reducible apply aa_cons
          | with_reducible apply ae_cb
          | with_reducible apply at_b
          | with_reducible apply at_not
          | ((with_reducible apply ar_ixT); · rfl)
          | refine ⟨_, rfl, ?_⟩
          | (refine ⟨fun hc => ?_, fun hc => ?_⟩ <;> (first | (exfalso; exact absurd (show false = true from hc) (by decide)) | (exfalso; exact absurd (show true = false from hc) (by decide)) | (exfalso; simp at hc; done) | skip))
          | rfl
          | fail)
      | int zi =>
        repeat' (first
          | (refine ac_isi1 ⟨rfl, kb_int_tuple⟩ ?_)
          | with_reducible apply as_ret
          | ((with_reducible apply ae_var); · rfl)
          | with_reducible apply ae_int
          | with_reducible apply ae_bl
          | with_reducible apply ae_ty
          | with_reducible apply ae_op
          | with_reducible apply aa_nil
          | with_reducible apply aa_cons
          | with_reducible apply ae_cb
          | with_reducible apply at_b
          | with_reducible apply at_not
          | ((with_reducible apply ar_ixT); · rfl)
          | refine ⟨_, rfl, ?_⟩
          | (refine ⟨fun hc => ?_, fun hc => ?_⟩ <;> (first | (exfalso; exact absurd (show false = true from hc) (by decide)) | (exfalso; exact absurd (show true = false from hc) (by decide)) | (exfalso; simp at hc; done) | skip))
          | rfl
          | fail)
      | str zs =>
        repeat' (first
          | (refine ac_isi1 ⟨rfl, kb_str_tuple⟩ ?_)
          | with_reducible apply as_ret
          | ((with_reducible apply ae_var); · rfl)
          | with_reducible apply ae_int
          | with_reducible apply ae_bl
          | with_reducible apply ae_ty
          | with_reducible apply ae_op
          | with_reducible apply aa_nil
          | with_reducible apply aa_cons
          | with_reducible apply ae_cb
          | with_reducible apply at_b
          | with_reducible apply at_not
          | ((with_reducible apply ar_ixT); · rfl)
          | refine ⟨_, rfl, ?_⟩
          | (refine ⟨fun hc => ?_, fun hc => ?_⟩ <;> (first | (exfalso; exact absurd (show false = true from hc) (by decide)) | (exfalso; exact absurd (show true = false from hc) (by decide)) | (exfalso; simp at hc; done) | skip))
          | rfl
          | fail)
      | ty zn =>
        cases sc.ok
      | lst zl =>
        repeat' (first
          | (refine ac_isi1 ⟨rfl, kb_list_tuple⟩ ?_)
          | with_reducible apply as_ret
          | ((with_reducible apply ae_var); · rfl)
          | with_reducible apply ae_int
          | with_reducible apply ae_bl
          | with_reducible apply ae_ty
          | with_reducible apply ae_op
          | with_reducible apply aa_nil
          | with_reducible apply aa_cons
          | with_reducible apply ae_cb
          | with_reducible apply at_b
          | with_reducible apply at_not
          | ((with_reducible apply ar_ixT); · rfl)
          | refine ⟨_, rfl, ?_⟩
          | (refine ⟨fun hc => ?_, fun hc => ?_⟩ <;> (first | (exfalso; exact absurd (show false = true from hc) (by decide)) | (exfalso; exact absurd (show true = false from hc) (by decide)) | (exfalso; simp at hc; done) | skip))
          | rfl
          | fail)
      | tup cs =>
        have c8 : cs.length ≤ 830 := ShT.len (k := true) sc
        refine at_not (at_b (ae_cb (aa_cons (ae_op (ae_var rfl (ae_int (ar_ixT rfl (aa_cons (ae_ty (aa_nil (ac_isi1 ⟨rfl, kb_tuple_tuple⟩ ⟨true, rfl, (fun h => absurd (show false = true from h) (by decide)), fun _ => as_next ?_⟩)))))))))))
        refine as_seq (as_if (at_or (at_not (at_b (ae_cb (aa_cons (ae_lcMap (fun d => .bl (wholeB d)) (ai_tup (ae_op (ae_var rfl (ae_int (ar_ixT rfl ⟨_, rfl, by omega, fun d hdm => ?_, ?_⟩))))))))))))
        · exact agv_name (by simp) (ae_call (aa_cons (ae_var rfl (aa_nil ⟨_, ⟨d, rfl, (ShT.mem (k := true) sc hdm).ok, rfl⟩, rfl, rfl⟩))))
        rw [show cs.map (fun d => Dt.bl (wholeB d)) = (cs.map wholeB).map Dt.bl by rw [List.map_map]; rfl]
        refine aa_nil (ac_all ?_)
        rw [show (cs.map wholeB).all id = cs.all wholeB by rw [List.all_map]; rfl]
        cases hw : cs.all wholeB with
        | false =>
          refine ⟨false, rfl, fun _ => ⟨fun _ => as_ret (ae_bl ?_), (fun h => absurd (show true = false from h) (by decide))⟩, (fun h => absurd (show true = false from h) (by decide))⟩
          show Dt.bl false = Dt.bl (true && (cs.all wholeB && _))
          rw [hw]
          rfl
        | true =>
          refine ⟨true, rfl, (fun h => absurd (show false = true from h) (by decide)), fun _ => ?_⟩
          obtain ⟨xs, rfl⟩ : ∃ xs : List Int, cs = xs.map Dt.int := ⟨_, all_whole hw⟩
          rw [List.length_map] at c8
          have e3 : nam3 (.tup (xs.map Dt.int)) mm n = (ascB xs && (wholeB mm && (decide (1 ≤ toI mm) && (tupB n && (decide ((tupL n).length = xs.length + 1) && rowsB xs (toI mm) 0 (tupL n)))))) := by
            show (true && ((xs.map Dt.int).all wholeB && (ascB ((xs.map Dt.int).map toI) && (wholeB mm && (decide (1 ≤ toI mm) && (tupB n && (decide ((tupL n).length = (xs.map Dt.int).length + 1) && rowsB ((xs.map Dt.int).map toI) (toI mm) 0 (tupL n)))))))) = _
            rw [hw, toI_ints, List.length_map]
            rfl
          have fin2 : ∀ D, D = Dt.bl (ascB xs && (wholeB mm && (decide (1 ≤ toI mm) && (tupB n && (decide ((tupL n).length = xs.length + 1) && rowsB xs (toI mm) 0 (tupL n)))))) → D = Dt.bl (namB (.tup [.tup (xs.map Dt.int), mm, n])) := fun D h => by
            show D = Dt.bl (nam3 (.tup (xs.map Dt.int)) mm n)
            rw [e3]
            exact h
          refine at_test (ae_op (ae_cb (aa_cons (ae_op (ae_var rfl (ae_int (ar_ixT rfl (aa_nil (ac_listT (ae_sortedSetIT (aa_cons (ae_op (ae_var rfl (ae_int (ar_ixT rfl (aa_nil ⟨xs, rfl, by omega, fun ms p1 p2 p3 => ?_⟩))))))))))))))))
          refine ar_neD (shl_ints xs).1 (shl_ints ms).1 (shl_ints xs).2 (shl_ints ms).2 ?_
          rw [show PyData.eqv (Dt.lst (xs.map Dt.int)).pd (Dt.lst (ms.map Dt.int)).pd = decide (xs = ms) from eqv_ints xs ms]
          cases ha : ascB xs with
          | false =>
            rw [decide_eq_false (fun z => by rw [z, (asc_pw ms).mpr p1] at ha; cases ha)]
            refine ⟨true, rfl, fun _ => as_ret (ae_bl (fin2 _ ?_)), (fun h => absurd (show true = false from h) (by decide))⟩
            rw [ha]
            rfl
          | true =>
            rw [decide_eq_true (pw_one ((asc_pw xs).mp ha) p1 fun k => (p2 k).symm)]
            refine ⟨false, rfl, (fun h => absurd (show false = true from h) (by decide)), fun _ => as_next ?_⟩
            have fin3 : ∀ D, D = Dt.bl (wholeB mm && (decide (1 ≤ toI mm) && (tupB n && (decide ((tupL n).length = xs.length + 1) && rowsB xs (toI mm) 0 (tupL n))))) → D = Dt.bl (namB (.tup [.tup (xs.map Dt.int), mm, n])) := fun D h => fin2 D (by rw [ha, Bool.true_and]; exact h)
            show AS K _ [.da (.tup [.tup (xs.map Dt.int), mm, n]), .no, .no, .no, .no, .no, .no] _ _
            refine as_seq (as_if (at_or (at_not (at_b (ae_call (aa_cons (ae_op (ae_var rfl (ae_int (ar_ixT rfl (aa_nil ⟨_, ⟨mm, rfl, sm.ok, rfl⟩, ?_⟩)))))))))))
            cases hmw : wholeB mm with
            | false =>
              refine ⟨false, rfl, fun _ => ⟨fun _ => as_ret (ae_bl (fin3 _ ?_)), (fun h => absurd (show true = false from h) (by decide))⟩, (fun h => absurd (show true = false from h) (by decide))⟩
              rw [hmw]
              rfl
            | true =>
              obtain ⟨m, rfl⟩ : ∃ m : Int, mm = .int m := by
                cases mm with
                | int m => exact ⟨m, rfl⟩
                | _ => cases hmw
              refine ⟨true, rfl, (fun h => absurd (show false = true from h) (by decide)), fun _ => ?_⟩
              refine at_or (at_test (ae_op (ae_op (ae_var rfl (ae_int (ar_ixT rfl (ae_int (ar_I0b ?_))))))))
              by_cases h1 : m < 1
              · rw [decide_eq_true h1]
                refine ⟨true, rfl, fun _ => ⟨fun _ => as_ret (ae_bl (fin3 _ ?_)), (fun h => absurd (show true = false from h) (by decide))⟩, (fun h => absurd (show true = false from h) (by decide))⟩
                show Dt.bl false = Dt.bl (true && (decide (1 ≤ m) && _))
                rw [decide_eq_false (by omega : ¬ 1 ≤ m)]
                rfl
              · rw [decide_eq_false h1]
                refine ⟨false, rfl, (fun h => absurd (show false = true from h) (by decide)), fun _ => ?_⟩
                have fin4 : ∀ D, D = Dt.bl (tupB n && (decide ((tupL n).length = xs.length + 1) && rowsB xs m 0 (tupL n))) → D = Dt.bl (namB (.tup [.tup (xs.map Dt.int), .int m, n])) := fun D h => fin3 D (by
                  show D = Dt.bl (true && (decide (1 ≤ m) && _))
                  rw [decide_eq_true (by omega : 1 ≤ m)]
                  exact h)
                cases n with
                | non =>
                  repeat' (first
                    | (refine ac_isi1 ⟨rfl, kb_NoneType_tuple⟩ ?_)
                    | exact fin4 _ rfl
                    | with_reducible apply as_ret
                    | ((with_reducible apply ae_var); · rfl)
                    | with_reducible apply ae_int
                    | with_reducible apply ae_bl
                    | with_reducible apply ae_ty
                    | with_reducible apply ae_op
                    | with_reducible apply aa_nil
                    | with_reducible apply aa_cons
                    | with_reducible apply ae_cb
                    | with_reducible apply at_b
                    | with_reducible apply at_not
                    | ((with_reducible apply ar_ixT); · rfl)
                    | refine ⟨_, rfl, ?_⟩
                    | (refine ⟨fun hc => ?_, fun hc => ?_⟩ <;> (first | (exfalso; exact absurd (show false = true from hc) (by decide)) | (exfalso; exact absurd (show true = false from hc) (by decide)) | (exfalso; simp at hc; done) | skip))
                    | fail)
                | bl zb =>
                  repeat' (first
                    | (refine ac_isi1 ⟨rfl, kb_bool_tuple⟩ ?_)
                    | exact fin4 _ rfl
                    | with_reducible apply as_ret
                    | ((with_reducible apply ae_var); · rfl)
                    | with_reducible apply ae_int
                    | with_reducible apply ae_bl
                    | with_reducible apply ae_ty
                    | with_reducible apply ae_op
                    | with_reducible apply aa_nil
                    | with_reducible apply aa_cons
                    | with_reducible apply ae_cb
                    | with_reducible apply at_b
                    | with_reducible apply at_not
                    | ((with_reducible apply ar_ixT); · rfl)
                    | refine ⟨_, rfl, ?_⟩
                    | (refine ⟨fun hc => ?_, fun hc => ?_⟩ <;> (first | (exfalso; exact absurd (show false = true from hc) (by decide)) | (exfalso; exact absurd (show true = false from hc) (by decide)) | (exfalso; simp at hc; done) | skip))
                    | fail)
                | int zi =>
                  repeat' (first
                    | (refine ac_isi1 ⟨rfl, kb_int_tuple⟩ ?_)
                    | exact fin4 _ rfl
                    | with_reducible apply as_ret
                    | ((with_reducible apply ae_var); · rfl)
                    | with_reducible apply ae_int
                    | with_reducible apply ae_bl
                    | with_reducible apply ae_ty
                    | with_reducible apply ae_op
                    | with_reducible apply aa_nil
                    | with_reducible apply aa_cons
                    | with_reducible apply ae_cb
                    | with_reducible apply at_b
                    | with_reducible apply at_not
                    | ((with_reducible apply ar_ixT); · rfl)
                    | refine ⟨_, rfl, ?_⟩
                    | (refine ⟨fun hc => ?_, fun hc => ?_⟩ <;> (first | (exfalso; exact absurd (show false = true from hc) (by decide)) | (exfalso; exact absurd (show true = false from hc) (by decide)) | (exfalso; simp at hc; done) | skip))
                    | fail)
                | str zs =>
                  repeat' (first
                    | (refine ac_isi1 ⟨rfl, kb_str_tuple⟩ ?_)
                    | exact fin4 _ rfl
                    | with_reducible apply as_ret
                    | ((with_reducible apply ae_var); · rfl)
                    | with_reducible apply ae_int
                    | with_reducible apply ae_bl
                    | with_reducible apply ae_ty
                    | with_reducible apply ae_op
                    | with_reducible apply aa_nil
                    | with_reducible apply aa_cons
                    | with_reducible apply ae_cb
                    | with_reducible apply at_b
                    | with_reducible apply at_not
                    | ((with_reducible apply ar_ixT); · rfl)
                    | refine ⟨_, rfl, ?_⟩
                    | (refine ⟨fun hc => ?_, fun hc => ?_⟩ <;> (first | (exfalso; exact absurd (show false = true from hc) (by decide)) | (exfalso; exact absurd (show true = false from hc) (by decide)) | (exfalso; simp at hc; done) | skip))
                    | fail)
                | ty zn =>
                  cases sn.ok
                | lst zl =>
                  repeat' (first
                    | (refine ac_isi1 ⟨rfl, kb_list_tuple⟩ ?_)
                    | exact fin4 _ rfl
                    | with_reducible apply as_ret
                    | ((with_reducible apply ae_var); · rfl)
                    | with_reducible apply ae_int
                    | with_reducible apply ae_bl
                    | with_reducible apply ae_ty
                    | with_reducible apply ae_op
                    | with_reducible apply aa_nil
                    | with_reducible apply aa_cons
                    | with_reducible apply ae_cb
                    | with_reducible apply at_b
                    | with_reducible apply at_not
                    | ((with_reducible apply ar_ixT); · rfl)
                    | refine ⟨_, rfl, ?_⟩
                    | (refine ⟨fun hc => ?_, fun hc => ?_⟩ <;> (first | (exfalso; exact absurd (show false = true from hc) (by decide)) | (exfalso; exact absurd (show true = false from hc) (by decide)) | (exfalso; simp at hc; done) | skip))
                    | fail)
                | tup rows =>
                  have r8 : rows.length ≤ 830 := ShT.len (k := true) sn
                  refine at_not (at_b (ae_cb (aa_cons (ae_op (ae_var rfl (ae_int (ar_ixT rfl (aa_cons (ae_ty (aa_nil (ac_isi1 ⟨rfl, kb_tuple_tuple⟩ ⟨true, rfl, (fun h => absurd (show false = true from h) (by decide)), fun _ => as_next ?_⟩)))))))))))
                  refine as_seq (as_if (at_test (ae_op (ae_cb (aa_cons (ae_op (ae_var rfl (ae_int (ar_ixT rfl (aa_nil (ac_lenT (ae_op (ae_cb (aa_cons (ae_op (ae_var rfl (ae_int (ar_ixT rfl (aa_nil (ac_lenT (ae_int (ar_I0i (ar_ne3 ⟨rfl, rfl, rfl⟩ ?_)))))))))))))))))))))))
                  rw [List.length_map]
                  by_cases hl : rows.length = xs.length + 1
                  · rw [decide_eq_true (show V.int ((rows.length : Nat) : Int) = V.int (((xs.length : Nat) : Int) + 1) by rw [hl]; rfl)]
                    refine ⟨false, rfl, (fun h => absurd (show false = true from h) (by decide)), fun _ => as_next ?_⟩
                    have fin5 : ∀ b, b = rowsB xs m 0 rows → Dt.bl b = Dt.bl (namB (.tup [.tup (xs.map Dt.int), .int m, .tup rows])) := fun b h => fin4 _ (by
                      show Dt.bl b = Dt.bl (true && (decide (rows.length = xs.length + 1) && rowsB xs m 0 rows))
                      rw [decide_eq_true hl, h]
                      rfl)
                    clear fin fin2 fin3 fin4
                    have bad : ∀ i d, rows[i]? = some d → rowB (loC xs i) (hiC xs i) m d = false → Dt.bl false = Dt.bl (namB (.tup [.tup (xs.map Dt.int), .int m, .tup rows])) := fun i d h n => fin5 false (rows_no h n).symm
                    refine as_seq (as_for (ai_enT (aa_cons (ae_op (ae_var rfl (ae_int (ar_ixT rfl (aa_nil ⟨rows, rfl, fun i ρ => (∀ j d, j < i → rows[j]? = some d → rowB (loC xs j) (hiC xs j) m d = true) ∧ ∃ e1 e2 e3 e4 e5 e6, ρ = [.da (.tup [.tup (xs.map Dt.int), .int m, .tup rows]), e1, e2, e3, e4, e5, e6], ⟨fun j d h => absurd h (Nat.not_lt_zero _), .no, .no, .no, .no, .no, .no, rfl⟩, ?_, ?_⟩))))))))
                    · rintro i d ρ hd ⟨hall, e1, e2, e3, e4, e5, e6, rfl⟩
                      have lt : i < rows.length := by rw [← enD_len]; exact (List.getElem?_eq_some_iff.mp hd).1
                      rw [enD_get (List.getElem?_eq_getElem lt)] at hd
                      cases hd
                      have hrow : rows[i]? = some rows[i] := List.getElem?_eq_getElem lt
                      have sr := ShT.mem (k := true) sn (List.getElem_mem lt)
                      generalize rows[i] = row at hrow sr ⊢
                      refine ag_tup rfl (ags_cons (ag_name (ags_cons (ag_name (ags_nil ?_)))))
                      show AS K _ [.da (.tup [.tup (xs.map Dt.int), .int m, .tup rows]), .da (.int (i : Int)), .da row, e3, e4, e5, e6] _ _
                      cases row with
                      | non =>
                        repeat' (first
                          | (refine ac_isi1 ⟨rfl, kb_NoneType_tuple⟩ ?_)
                          | exact bad i _ hrow rfl
                          | with_reducible apply as_seq
                          | with_reducible apply as_ret
                          | with_reducible apply as_if
                          | ((with_reducible apply ae_var); · rfl)
                          | with_reducible apply ae_bl
                          | with_reducible apply ae_ty
                          | with_reducible apply aa_nil
                          | with_reducible apply aa_cons
                          | with_reducible apply ae_cb
                          | with_reducible apply at_b
                          | with_reducible apply at_or
                          | with_reducible apply at_not
                          | refine ⟨_, rfl, ?_⟩
                          | (refine ⟨fun hc => ?_, fun hc => ?_⟩ <;> (first | (exfalso; exact absurd (show false = true from hc) (by decide)) | (exfalso; exact absurd (show true = false from hc) (by decide)) | (exfalso; simp at hc; done) | skip))
                          | fail)
                      | bl zb =>
                        repeat' (first
                          | (refine ac_isi1 ⟨rfl, kb_bool_tuple⟩ ?_)
                          | exact bad i _ hrow rfl
                          | with_reducible apply as_seq
                          | with_reducible apply as_ret
                          | with_reducible apply as_if
                          | ((with_reducible apply ae_var); · rfl)
                          | with_reducible apply ae_bl
                          | with_reducible apply ae_ty
                          | with_reducible apply aa_nil
                          | with_reducible apply aa_cons
                          | with_reducible apply ae_cb
                          | with_reducible apply at_b
                          | with_reducible apply at_or
                          | with_reducible apply at_not
                          | refine ⟨_, rfl, ?_⟩
                          | (refine ⟨fun hc => ?_, fun hc => ?_⟩ <;> (first | (exfalso; exact absurd (show false = true from hc) (by decide)) | (exfalso; exact absurd (show true = false from hc) (by decide)) | (exfalso; simp at hc; done) | skip))
                          | fail)
                      | int zi =>
                        repeat' (first
                          | (refine ac_isi1 ⟨rfl, kb_int_tuple⟩ ?_)
                          | exact bad i _ hrow rfl
                          | with_reducible apply as_seq
                          | with_reducible apply as_ret
                          | with_reducible apply as_if
                          | ((with_reducible apply ae_var); · rfl)
                          | with_reducible apply ae_bl
                          | with_reducible apply ae_ty
                          | with_reducible apply aa_nil
                          | with_reducible apply aa_cons
                          | with_reducible apply ae_cb
                          | with_reducible apply at_b
                          | with_reducible apply at_or
                          | with_reducible apply at_not
                          | refine ⟨_, rfl, ?_⟩
                          | (refine ⟨fun hc => ?_, fun hc => ?_⟩ <;> (first | (exfalso; exact absurd (show false = true from hc) (by decide)) | (exfalso; exact absurd (show true = false from hc) (by decide)) | (exfalso; simp at hc; done) | skip))
                          | fail)
                      | str zs =>
                        repeat' (first
                          | (refine ac_isi1 ⟨rfl, kb_str_tuple⟩ ?_)
                          | exact bad i _ hrow rfl
                          | with_reducible apply as_seq
                          | with_reducible apply as_ret
                          | with_reducible apply as_if
                          | ((with_reducible apply ae_var); · rfl)
                          | with_reducible apply ae_bl
                          | with_reducible apply ae_ty
                          | with_reducible apply aa_nil
                          | with_reducible apply aa_cons
                          | with_reducible apply ae_cb
                          | with_reducible apply at_b
                          | with_reducible apply at_or
                          | with_reducible apply at_not
                          | refine ⟨_, rfl, ?_⟩
                          | (refine ⟨fun hc => ?_, fun hc => ?_⟩ <;> (first | (exfalso; exact absurd (show false = true from hc) (by decide)) | (exfalso; exact absurd (show true = false from hc) (by decide)) | (exfalso; simp at hc; done) | skip))
                          | fail)
                      | ty zn =>
                        cases sr.ok
                      | lst zl =>
                        repeat' (first
                          | (refine ac_isi1 ⟨rfl, kb_list_tuple⟩ ?_)
                          | exact bad i _ hrow rfl
                          | with_reducible apply as_seq
                          | with_reducible apply as_ret
                          | with_reducible apply as_if
                          | ((with_reducible apply ae_var); · rfl)
                          | with_reducible apply ae_bl
                          | with_reducible apply ae_ty
                          | with_reducible apply aa_nil
                          | with_reducible apply aa_cons
                          | with_reducible apply ae_cb
                          | with_reducible apply at_b
                          | with_reducible apply at_or
                          | with_reducible apply at_not
                          | refine ⟨_, rfl, ?_⟩
                          | (refine ⟨fun hc => ?_, fun hc => ?_⟩ <;> (first | (exfalso; exact absurd (show false = true from hc) (by decide)) | (exfalso; exact absurd (show true = false from hc) (by decide)) | (exfalso; simp at hc; done) | skip))
                          | fail)
                      | tup l =>
                        have l8 : l.length ≤ 830 := ShT.len (k := true) sr
                        refine as_seq (as_if (at_or (at_not (at_b (ae_cb (aa_cons (ae_var rfl (aa_cons (ae_ty (aa_nil (ac_isi1 ⟨rfl, kb_tuple_tuple⟩ ⟨true, rfl, (fun h => absurd (show false = true from h) (by decide)), fun _ => ?_⟩)))))))))))
                        refine at_test (ae_op (ae_cb (aa_cons (ae_var rfl (aa_nil (ac_lenT (ae_op (ae_var rfl (ae_int (ar_ixT rfl (ar_ne3 ⟨rfl, rfl, rfl⟩ ?_)))))))))))
                        by_cases hm : (l.length : Int) = m
                        · rw [decide_eq_true (show V.int ((l.length : Nat) : Int) = V.int m by rw [hm])]
                          refine ⟨false, rfl, (fun h => absurd (show false = true from h) (by decide)), fun _ => as_next ?_⟩
                          subst hm
                          have rowe : rowB (loC xs i) (hiC xs i) (l.length : Int) (.tup l) = cellsB (loC xs i) (hiC xs i) (l.length : Int) 0 l := by
                            show (decide _ && _) = _
                            rw [decide_eq_true rfl, Bool.true_and]
                          refine as_for (ai_enT (aa_cons (ae_var rfl (aa_nil ⟨l, rfl, fun j ρ => (∀ k d, k < j → l[k]? = some d → cellB (loC xs i) (hiC xs i) (l.length : Int) k d = true) ∧ ∃ e3 e4 e5 e6, ρ = [.da (.tup [.tup (xs.map Dt.int), .int (l.length : Int), .tup rows]), .da (.int (i : Int)), .da (.tup l), e3, e4, e5, e6], ⟨fun j d h => absurd h (Nat.not_lt_zero _), _, _, _, _, rfl⟩, ?_, ?_⟩))))
                          · rintro j d ρ hd ⟨hcell, e3, e4, e5, e6, rfl⟩
                            have lt2 : j < l.length := by rw [← enD_len]; exact (List.getElem?_eq_some_iff.mp hd).1
                            rw [enD_get (List.getElem?_eq_getElem lt2)] at hd
                            cases hd
                            have hw : l[j]? = some l[j] := List.getElem?_eq_getElem lt2
                            have sw := ShT.mem (k := true) sr (List.getElem_mem lt2)
                            generalize l[j] = wd at hw sw ⊢
                            have badc : cellB (loC xs i) (hiC xs i) (l.length : Int) j wd = false → Dt.bl false = Dt.bl (namB (.tup [.tup (xs.map Dt.int), .int (l.length : Int), .tup rows])) := fun n => bad i _ hrow (by rw [rowe]; exact cells_no hw n)
                            have goodc : cellB (loC xs i) (hiC xs i) (l.length : Int) j wd = true → ∀ k d, k < j + 1 → l[k]? = some d → cellB (loC xs i) (hiC xs i) (l.length : Int) k d = true := fun y k d hk e => by
                              rcases (by omega : k < j ∨ k = j) with q | q
                              · exact hcell k d q e
                              · subst q
                                rw [hw] at e
                                cases e
                                exact y
                            refine ag_tup rfl (ags_cons (ag_name (ags_cons (ag_name (ags_nil ?_)))))
                            show AS K _ [.da (.tup [.tup (xs.map Dt.int), .int (l.length : Int), .tup rows]), .da (.int (i : Int)), .da (.tup l), .da (.int (j : Int)), .da wd, e5, e6] _ _
                            refine as_seq (as_set (ae_op (ae_call (aa_cons (ae_op (ae_var rfl (ae_int (ar_ixT rfl (aa_cons (ae_op (ae_var rfl (ae_int (ar_ixT rfl (aa_cons (ae_var rfl (aa_cons (ae_var rfl (aa_nil ⟨_, ⟨xs, l.length, i, j, rfl, c8, by omega, l8, by omega, rfl⟩, ?_⟩))))))))))))))))))
                            have ki := kind_iff (cs := xs) (m := l.length) (i := i) (r := j) lt2 (by omega)
                            refine ae_lst (aa_nil ⟨Nat.zero_le _, ?_⟩)
                            cases hk : kindL xs l.length i j with
                            | nil =>
                              have hq : cellB (loC xs i) (hiC xs i) (l.length : Int) j wd = nonB wd := by
                                unfold cellB
                                rw [if_pos (ki.mp hk)]
                              refine ar_neS (shl_ints []) ?_
                              cases wd
                              all_goals
                                first
                                  | (cases sw.ok; done)
                                  | skip
                              repeat' (first
                                | with_reducible apply as_ret
                                | with_reducible apply as_next
                                | with_reducible apply as_if
                                | ((with_reducible apply ae_var); · rfl)
                                | with_reducible apply ae_non
                                | with_reducible apply ae_bl
                                | with_reducible apply ae_op
                                | with_reducible apply at_test
                                | with_reducible apply at_b
                                | with_reducible apply at_and
                                | with_reducible apply at_or
                                | with_reducible apply at_not
                                | with_reducible apply ar_notN
                                | refine ⟨_, rfl, ?_⟩
                                | (refine ⟨fun hc => ?_, fun hc => ?_⟩ <;> (first | (exfalso; exact absurd (show false = true from hc) (by decide)) | (exfalso; exact absurd (show true = false from hc) (by decide)) | (exfalso; simp at hc; done) | skip))
                                | simp only [oD_some, oD_none]
                                | fail)
                              all_goals first | exact badc hq | exact ⟨goodc hq, _, _, _, _, rfl⟩
                            | cons y ys =>
                              have hq : cellB (loC xs i) (hiC xs i) (l.length : Int) j wd = strB wd := by
                                unfold cellB
                                rw [if_neg (fun z => by rw [ki.mpr z] at hk; cases hk)]
                              refine ar_neD (shl_ints (y :: ys)).1 (shl_ints []).1 (shl_ints (y :: ys)).2 (shl_ints []).2 ?_
                              show AS K _ [.da (.tup [.tup (xs.map Dt.int), .int (l.length : Int), .tup rows]), .da (.int (i : Int)), .da (.tup l), .da (.int (j : Int)), .da wd, .da (.bl true), e6] _ _
                              cases wd
                              all_goals
                                first
                                  | (cases sw.ok; done)
                                  | skip
                              repeat' (first
                                | (refine ac_isi1 ⟨rfl, by first | exact kb_NoneType_str | exact kb_bool_str | exact kb_int_str | exact kb_str_str | exact kb_tuple_str | exact kb_list_str⟩ ?_)
                                | with_reducible apply as_ret
                                | with_reducible apply as_next
                                | with_reducible apply as_if
                                | ((with_reducible apply ae_var); · rfl)
                                | with_reducible apply ae_bl
                                | with_reducible apply ae_ty
                                | with_reducible apply aa_nil
                                | with_reducible apply aa_cons
                                | with_reducible apply ae_cb
                                | with_reducible apply at_b
                                | with_reducible apply at_and
                                | with_reducible apply at_or
                                | with_reducible apply at_not
                                | refine ⟨_, rfl, ?_⟩
                                | (refine ⟨fun hc => ?_, fun hc => ?_⟩ <;> (first | (exfalso; exact absurd (show false = true from hc) (by decide)) | (exfalso; exact absurd (show true = false from hc) (by decide)) | (exfalso; simp at hc; done) | skip))
                                | simp only [oD_some, oD_none]
                                | fail)
                              all_goals first | exact badc hq | exact ⟨goodc hq, _, _, _, _, rfl⟩
                          · rintro ρ ⟨hcell, e3, e4, e5, e6, rfl⟩
                            refine ⟨fun j d hj e => ?_, _, _, _, _, _, _, rfl⟩
                            rcases (by omega : j < i ∨ j = i) with q | q
                            · exact hall j d q e
                            · subst q
                              rw [hrow] at e
                              cases e
                              rw [rowe]
                              exact cells_all' fun k d e => hcell k d (by rw [enD_len]; exact (List.getElem?_eq_some_iff.mp e).1) e
                        · rw [decide_eq_false (fun z => hm (by injection z))]
                          refine ⟨true, rfl, fun _ => as_ret (ae_bl (bad i _ hrow ?_)), (fun h => absurd (show true = false from h) (by decide))⟩
                          show (decide ((l.length : Int) = m) && _) = false
                          rw [decide_eq_false hm]
                          rfl
                    · rintro ρ ⟨hall, e1, e2, e3, e4, e5, e6, rfl⟩
                      rw [enD_len] at hall
                      exact as_ret (ae_bl (fin5 true (rows_all' fun j d e => hall j d (List.getElem?_eq_some_iff.mp e).1 e).symm))
                  · rw [decide_eq_false (fun z => hl (by injection z with z; omega))]
                    refine ⟨true, rfl, fun _ => as_ret (ae_bl (fin4 _ ?_)), (fun h => absurd (show true = false from h) (by decide))⟩
                    show Dt.bl false = Dt.bl (true && (decide (rows.length = xs.length + 1) && _))
                    rw [decide_eq_false hl]
                    rfl
    · rw [decide_eq_false (fun z => h (by injection z with z; omega))]
      refine ⟨true, rfl, fun _ => ⟨fun _ => as_ret (ae_bl ?_), (fun h => absurd (show true = false from h) (by decide))⟩, (fun h => absurd (show true = false from h) (by decide))⟩
      match l, h with
      | [], _ => rfl
      | [_], _ => rfl
      | [_, _], _ => rfl
      | [_, _, _], h => exact absurd rfl h
      | _ :: _ :: _ :: _ :: _, _ => rfl
end
end Sh
set_option Elab.async false
set_option linter.all false
set_option maxRecDepth 100000
set_option maxHeartbeats 4000000
/-! x, y = [], e and the like: a new list that is guarded while the rest is told, then owned -/
namespace Sh
open PySem PySem.Spec PyProof.Rows L2
section
variable {K : PySem.W.Frag} {ρ : List En} {N : List En → Prop} {R : Dt → List En → Prop}
theorem Mt.adopt {B : Addr → Prop} {σ : L2.St} {G H : Hp} {p : Addr} {xs : List V} {l : List Dt} (m : Mt K (fun a => B a ∨ a = p) ρ σ G H) (nb : ¬ B p) (i : Nat) (e : H p = some (.lst xs)) (r : RDs K G l xs) : Mt K B (ρ.set i (.own l)) (σ.set i (some (.ref p))) G H where
  sub := m.sub
  pro := fun a b => m.pro a (.inl b)
  len := by rw [List.length_set, List.length_set]; exact m.len
  da := fun j d h => by
    rcases get_set h with ⟨rfl, z, lt⟩ | ⟨ne, z⟩
    · cases z
    · rw [set_off ne]; exact m.da j d z
  own := fun j k h => by
    rcases get_set h with ⟨rfl, z, lt⟩ | ⟨ne, z⟩
    · cases z
      exact ⟨p, xs, set_at (by rw [m.len]; exact lt), e, r, (m.pro p (.inr rfl)).1, nb⟩
    · rw [set_off ne]
      obtain ⟨q, ys, z1, z2, z3, z4, z5⟩ := m.own j k z
      exact ⟨q, ys, z1, z2, z3, z4, fun b => z5 (.inl b)⟩
  bx := fun j b f h => by
    rcases get_set h with ⟨rfl, z, lt⟩ | ⟨ne, z⟩
    · cases z
    · rw [set_off ne]
      obtain ⟨y, c, z1, z2, z3, z4, z5, z6⟩ := m.bx j b f z
      exact ⟨y, c, z1, z2, z3, z4, z5, fun b => z6 (.inl b)⟩
  dis := fun j k e1 e2 a h1 h2 o1 o2 ne s1 s2 => by
    have there : ∀ (j : Nat) (e : En), ρ[j]? = some e → e.isOwn → σ[j]? = some (some (V.ref a)) → a ≠ p := fun j e h o s z => by
      cases e with
      | no => exact o.elim
      | da d => exact o.elim
      | own l => obtain ⟨q, ys, z1, _, _, _, z5⟩ := m.own j l h; rw [z1] at s; cases s; exact z5 (.inr z)
      | bx b f => obtain ⟨y, c, z1, _, _, _, _, z6⟩ := m.bx j b f h; rw [z1] at s; cases s; exact z6 (.inr z)
    rcases get_set h1 with ⟨rfl, z, lt⟩ | ⟨n1, z1⟩
    · rcases get_set h2 with ⟨w, z', lt'⟩ | ⟨n2, z2⟩
      · exact ne w
      · rw [set_at (by rw [m.len]; exact lt)] at s1
        cases s1
        rw [set_off n2] at s2
        exact there k e2 z2 o2 s2 rfl
    · rcases get_set h2 with ⟨rfl, z, lt⟩ | ⟨n2, z2⟩
      · rw [set_at (by rw [m.len]; exact lt)] at s2
        cases s2
        rw [set_off n1] at s1
        exact there j e1 z1 o1 s1 rfl
      · rw [set_off n1] at s1; rw [set_off n2] at s2; exact m.dis j k e1 e2 a z1 z2 o1 o2 ne s1 s2
/-- x, y = [], e -/
theorem as_parOF {te : TE} {i j : Nat} (hij : i ≠ j) (h : AE K te ρ fun d ρ1 => N ((ρ1.set i (.own [])).set j (.da d))) : AS K (tPar i j (tCons (tLst tNil) (tCons te tNil))) ρ N R := fun B σ G H m D qn qr =>
  ⟨Nat.zero_le _, fun p hp => by
    have nb : ¬ B p := fun b => (m.pro p b).2 hp
    refine h _ σ G _ (m.guard (o := .lst []) hp) _ fun v d ρ1 G1 H1 m1 s1 t1 r1 n => ?_
    have e1 := t1 p _ (.inr rfl) upd_same
    refine ⟨.ref p, v, rfl, ?_⟩
    exact qn _ _ G1 H1 ((m1.adopt (l := []) nb i e1 rfl).set j r1) s1 ((Tr.same (same_up hp)).trans fun a o b z => t1 a o (.inl b) z) n⟩
/-- x, y = list(e), e2 -/
theorem as_parLF {te te2 : TE} {i j : Nat} (h : AE K te ρ fun d ρ1 => ∃ k l, d = sq k l ∧ AE K te2 ρ1 fun e ρ2 => N ((ρ2.set i (.own l)).set j (.da e))) : AS K (tPar i j (tCons (tCB (fun xs H Q => ∃ p ys, xs = [.ref p] ∧ (SqL K H p ys ∨ SqT K H p ys) ∧ ∀ l, H l = none → Q (.ref l) (upd H l (.lst ys))) (tCons te tNil)) (tCons te2 tNil))) ρ N R := fun B σ G H m D qn qr =>
  h B σ G H m _ fun v d ρ1 G1 H1 m1 s1 t1 r1 ⟨k, l, ed, h2⟩ => by
    subst ed
    obtain ⟨a, xs, rfl, g1, g2⟩ := sqK_of m1.sub r1
    refine ⟨a, xs, rfl, ?_, fun p hp => ?_⟩
    · have := same_sqK m1.sub g1
      cases k
      · exact .inl this
      · exact .inr this
    have nb : ¬ B p := fun b => (m1.pro p b).2 hp
    refine h2 _ σ G1 _ (m1.guard (o := .lst xs) hp) _ fun w e ρ2 G2 H2 m2 s2 t2 r2 n => ?_
    have e1 := t2 p _ (.inr rfl) upd_same
    refine ⟨.ref p, w, rfl, ?_⟩
    exact qn _ _ G2 H2 ((m2.adopt nb i e1 (g2.same s2)).set j r2) (s1.trans s2) (t1.trans ((Tr.same (same_up hp)).trans fun a o b z => t2 a o (.inl b) z)) n
/-- x, y, z = e, e2, [] -/
theorem as_par3O {te te2 : TE} {i j l : Nat} (h : AE K te ρ fun d ρ1 => AE K te2 ρ1 fun e ρ2 => N (((ρ2.set i (.da d)).set j (.da e)).set l (.own []))) : AS K (tPar3 i j l (tCons te (tCons te2 (tCons (tLst tNil) tNil)))) ρ N R := fun B σ G H m D qn qr =>
  h B σ G H m _ fun v d ρ1 G1 H1 m1 s1 t1 r1 h2 => h2 B σ G1 H1 m1 _ fun w e ρ2 G2 H2 m2 s2 t2 r2 n =>
    ⟨Nat.zero_le _, fun p hp => ⟨v, w, .ref p, rfl, qn _ _ G2 _ (((m2.set i (r1.same s2)).set j r2).setOwn (l := []) (xs := []) l hp rfl) (s1.trans s2) ((t1.trans t2).trans (Tr.same (same_up hp))) n⟩⟩
end
end Sh
set_option Elab.async false
set_option linter.all false
set_option maxRecDepth 100000
set_option maxHeartbeats 4000000
namespace Sh
open PySem PySem.Spec PyProof.Rows L2
abbrev s_l_naming : Stmt := topS 27
abbrev N_l_naming : List Str := ["_law_box_here", "_law_turn", "_law_words", "_law_place", "_law_cuts_so", "_law_spot", "_law_size", "_law_names_so", "_law_row", "_law_left"]
abbrev p_l_naming : List Str := ["_law_box_here"]
theorem sc_l_naming : FnScope N_l_naming p_l_naming (defScope s_l_naming) := ⟨rfl, rfl, rfl, by decide +kernel, rfl, by decide +kernel, by decide +kernel⟩
theorem rg_at {n i : Nat} {f : Nat → Dt} {d : Dt} (h : ((List.range n).map f)[i]? = some d) : i < n ∧ d = f i := by
  have l := (List.getElem?_eq_some_iff.mp h).1
  rw [List.length_map, List.length_range] at l
  rw [List.getElem?_map, List.getElem?_range l] at h
  exact ⟨l, by cases h; rfl⟩
/-- one row of a naming, as far as it stands -/
structure RowOk (N : Nmg) (p : Nat) (row : List (Option Str)) : Prop where
  ce : ∀ r c, row[r]? = some c → (c = none ↔ N.no p r = true)
  wo : ∀ c, c ∈ row → ∀ s, c = some s → s ∈ wordsL
theorem RowOk.nil {N : Nmg} {p : Nat} : RowOk N p [] := ⟨fun r c h => by simp at h, fun c h => by cases h⟩
theorem RowOk.gap {N : Nmg} {p r : Nat} {row : List (Option Str)} (h : RowOk N p row) (e : row.length = r) (n : N.no p r = true) : RowOk N p (row ++ [none]) := by
  refine ⟨fun r' c q => ?_, fun c q s z => ?_⟩
  · rcases Nat.lt_or_ge r' row.length with lt | ge
    · rw [List.getElem?_append_left lt] at q
      exact h.ce r' c q
    · have hr : r' = row.length := by
        have := (List.getElem?_eq_some_iff.mp q).1
        rw [List.length_append] at this
        have e1 : ([none] : List (Option Str)).length = 1 := rfl
        omega
      subst hr
      rw [List.getElem?_append_right (Nat.le_refl _), Nat.sub_self] at q
      cases q
      rw [e]
      exact ⟨fun _ => n, fun _ => rfl⟩
  · rcases List.mem_append.mp q with q | q
    · exact h.wo c q s z
    · rw [List.mem_singleton.mp q] at z
      cases z
theorem RowOk.nam {N : Nmg} {p r : Nat} {row : List (Option Str)} {s : Str} (h : RowOk N p row) (e : row.length = r) (hs : s ∈ wordsL) (n : ¬ N.no p r = true) : RowOk N p (row ++ [some s]) := by
  refine ⟨fun r' c q => ?_, fun c q s' z => ?_⟩
  · rcases Nat.lt_or_ge r' row.length with lt | ge
    · rw [List.getElem?_append_left lt] at q
      exact h.ce r' c q
    · have hr : r' = row.length := by
        have := (List.getElem?_eq_some_iff.mp q).1
        rw [List.length_append] at this
        have e1 : ([some s] : List (Option Str)).length = 1 := rfl
        omega
      subst hr
      rw [List.getElem?_append_right (Nat.le_refl _), Nat.sub_self] at q
      cases q
      rw [e]
      exact ⟨fun w => (by cases w), fun w => absurd w n⟩
  · rcases List.mem_append.mp q with q | q
    · exact h.wo c q s' z
    · rw [List.mem_singleton.mp q] at z
      cases z
      exact hs
def RowsOk (N : Nmg) : Prop := (∀ r, r ∈ N.rows → r.length = N.m) ∧ (∀ i r c row, N.rows[i]? = some row → row[r]? = some c → (c = none ↔ N.no i r = true)) ∧ ∀ r c, r ∈ N.rows → c ∈ r → ∀ s, c = some s → s ∈ wordsL
theorem RowsOk.nil {cs : List Int} {m : Nat} : RowsOk ⟨cs, m, []⟩ := ⟨fun r h => (by cases h), fun i r c row h => by simp at h, fun r c h => (by cases h)⟩
theorem RowsOk.more {cs : List Int} {m p : Nat} {rws : List (List (Option Str))} {row : List (Option Str)} (h : RowsOk ⟨cs, m, rws⟩) (o : RowOk ⟨cs, m, rws⟩ p row) (l : row.length = m) (e : rws.length = p) : RowsOk ⟨cs, m, rws ++ [row]⟩ := by
  refine ⟨fun r q => ?_, fun i r c w q1 q2 => ?_, fun r c q1 q2 => ?_⟩
  · rcases List.mem_append.mp q with q | q
    · exact h.1 r q
    · rw [List.mem_singleton.mp q]; exact l
  · have q1 : (rws ++ [row])[i]? = some w := q1
    rcases Nat.lt_or_ge i rws.length with lt | ge
    · rw [List.getElem?_append_left lt] at q1
      exact h.2.1 i r c w q1 q2
    · have hr : i = rws.length := by
        have := (List.getElem?_eq_some_iff.mp q1).1
        rw [List.length_append] at this
        have e1 : ([row] : List (List (Option Str))).length = 1 := rfl
        omega
      subst hr
      rw [List.getElem?_append_right (Nat.le_refl _), Nat.sub_self] at q1
      cases q1
      subst e
      exact o.ce r c q2
  · rcases List.mem_append.mp q1 with q1 | q1
    · exact h.2.2 r c q1 q2
    · rw [List.mem_singleton.mp q1] at q2
      exact o.wo c q2
def domNm (ds : List Dt) : Prop := ds = []
def postNm (ds : List Dt) (d : Dt) : Prop := ∃ N : Nmg, d = N.d true ∧ N.Ok
section
variable {P : Program} {w : World} {K : PySem.W.Frag} {mg : Str → Option Value} {base : Heap}
theorem ok_l_naming (bl : Blts mg) {g_l_take : Addr} {d_l_take : FuncData} (c_l_take : Cal P w K mg base 2 "_law_take" p_l_take (spB K 1 domT postT) g_l_take d_l_take) {g_l_of : Addr} {d_l_of : FuncData} (c_l_of : Cal P w K mg base 3 "_law_of" p_l_of (spB K 1 domO postO) g_l_of d_l_of) {g_l_kind : Addr} {d_l_kind : FuncData} (c_l_kind : Cal P w K mg base 1 "_law_kind" p_l_kind (spP K S_kind) g_l_kind d_l_kind)  {f : Addr} {fd : FuncData} (F : Fun K "_law_naming" "_law_naming" s_l_naming f fd) : FnOk P w K mg base CX0 4 f fd p_l_naming (spB K 57 (domNm) (postNm)) := by
  refine okB F sc_l_naming (fun ds h => ?_) (fun cdv A outer s H E hr ds h => ?_)
  · obtain ⟨rfl⟩ := h
    rfl
  obtain ⟨rfl⟩ := h
  refine ⟨_, (pss_cons (ps_par (i := 4) (j := 5) (by rfl) sc_l_naming.nd rfl rfl (by decide) rfl rfl (pa_cons (pe_lst pa_nil) (pa_cons (pe_op op_sub (pe_call c_l_take.ok (hr.mono (by decide)) rfl c_l_take.mg c_l_take.kp c_l_take.bi .nil pass0 (pa_cons (pv 0) (pa_cons pe_int pa_nil))) pe_int) pa_nil)) (by rfl))
    (pss_cons (ps_for PassesOwn.never rfl (pi_range1 rfl bl.range (pa_cons (pe_call c_l_take.ok (hr.mono (by decide)) rfl c_l_take.mg c_l_take.kp c_l_take.bi .nil pass0 (pa_cons (pv 0) (pa_cons pe_int pa_nil))) pa_nil)) (pg_name (i := 1) sc_l_naming.nd rfl (by first | exact Or.inl rfl | exact Or.inr rfl)) (pss_cons (ps_expr (pe_bm PySem.F.plainAttrs_list PySem.F.slot_list_append PySem.F.type_list_append mt_append (pv 4) (pa_cons (pv 5) pa_nil)))
    (pss_one (ps_set (i := 5) sc_l_naming.nd rfl (by first | exact Or.inl rfl | exact Or.inr rfl) (pe_op op_add (pe_op op_add (pv 5) pe_int) (pe_call c_l_of.ok (hr.mono (by decide)) rfl c_l_of.mg c_l_of.kp c_l_of.bi .nil pass0 (pa_cons (pv 0) (pa_cons (pe_lst (pa_cons pe_int (pa_cons pe_int (pa_cons pe_int (pa_cons (pe_call c_l_take.ok (hr.mono (by decide)) rfl c_l_take.mg c_l_take.kp c_l_take.bi .nil pass0 (pa_cons (pv 0) (pa_cons pe_int pa_nil))) pa_nil))))) pa_nil))))))))
    (pss_cons (ps_par3 (i := 4) (j := 6) (l := 7) (by rfl) sc_l_naming.nd rfl rfl rfl (by decide) (by decide) (by decide) rfl rfl rfl (pa_cons (pe_callTy call_tuple_of rfl bl.tuple (by decide +kernel) (pa_cons (pv 4) pa_nil)) (pa_cons (pe_op op_add pe_int (pe_call c_l_take.ok (hr.mono (by decide)) rfl c_l_take.mg c_l_take.kp c_l_take.bi .nil pass0 (pa_cons (pv 0) (pa_cons pe_int pa_nil)))) (pa_cons (pe_lst pa_nil) pa_nil))) (by rfl))
    (pss_cons (ps_set (i := 2) sc_l_naming.nd rfl (by first | exact Or.inl rfl | exact Or.inr rfl) (pe_lst (pa_cons pe_str (pa_cons pe_str (pa_cons pe_str (pa_cons pe_str (pa_cons pe_str (pa_cons pe_str (pa_cons pe_str pa_nil)))))))))
    (pss_cons (ps_for PassesOwn.never rfl (pi_range1 rfl bl.range (pa_cons (pe_op op_add (pe_callB call_len_seq rfl bl.len (by decide +kernel) (pa_cons (pv 4) pa_nil)) pe_int) pa_nil)) (pg_name (i := 3) sc_l_naming.nd rfl (by first | exact Or.inl rfl | exact Or.inr rfl)) (pss_cons (ps_set (i := 8) sc_l_naming.nd rfl (by first | exact Or.inl rfl | exact Or.inr rfl) (pe_lst pa_nil))
    (pss_cons (ps_for PassesOwn.never rfl (pi_range1 rfl bl.range (pa_cons (pv 6) pa_nil)) (pg_name (i := 9) sc_l_naming.nd rfl (by first | exact Or.inl rfl | exact Or.inr rfl)) (pss_one (ps_expr (pe_bm PySem.F.plainAttrs_list PySem.F.slot_list_append PySem.F.type_list_append mt_append (pv 8) (pa_cons (pe_ifExp (pt_cmpR (op_neD hr.units) (pe_call c_l_kind.ok (hr.mono (by decide)) rfl c_l_kind.mg c_l_kind.kp c_l_kind.bi .nil pass0 (pa_cons (pv 4) (pa_cons (pv 6) (pa_cons (pv 3) (pa_cons (pv 9) pa_nil))))) (pe_lst pa_nil) (nomark _)) (pe_call c_l_of.ok (hr.mono (by decide)) rfl c_l_of.mg c_l_of.kp c_l_of.bi .nil pass0 (pa_cons (pv 0) (pa_cons (pv 2) pa_nil))) pe_non) pa_nil)))))
    (pss_one (ps_expr (pe_bm PySem.F.plainAttrs_list PySem.F.slot_list_append PySem.F.type_list_append mt_append (pv 7) (pa_cons (pe_callTy call_tuple_of rfl bl.tuple (by decide +kernel) (pa_cons (pv 8) pa_nil)) pa_nil)))))))
    (pss_one (ps_ret (pe_tup (pa_cons (pv 4) (pa_cons (pv 6) (pa_cons (pe_callTy call_tuple_of rfl bl.tuple (by decide +kernel) (pa_cons (pv 7) pa_nil)) pa_nil))))))))))), fun b F => ?_⟩
  change AS K _ [En.bx _ _, En.no, En.no, En.no, En.no, En.no, En.no, En.no, En.no, En.no] _ _
  try simp only [cxOf_K, cxOf_w]
  have z9 : 9000 ≤ sizeLine := by decide
  have rg : ∀ k : Nat, (rgD 0 ((k : Nat) : Int).toNat) = (List.range k).map fun i => Dt.int ((i : Nat) : Int) := fun k => by
    unfold rgD
    rw [Int.toNat_natCast]
    exact List.map_congr_left fun i _ => by rw [Int.zero_add]
  have rl : ∀ k : Nat, ((List.range k).map fun i => Dt.int ((i : Nat) : Int)).length = k := fun k => by rw [List.length_map, List.length_range]
  refine as_seq (as_parOF (by decide) (ae_op (ae_take rfl (ae_int ⟨_, rfl, by decide, by decide, F + 56, rfl, fun v v0 v1 => ?_⟩))))
  refine ae_int (ar_I0i ?_)
  show AS K _ [.bx b (F + 56), .no, .no, .no, .own [], .da (.int (v - 30)), .no, .no, .no, .no] _ _
  refine as_seq (as_for (ai_rng1 (aa_cons (ae_take rfl (ae_int ⟨_, rfl, by decide, by decide, F + 55, rfl, fun k k0 k1 => ?_⟩)))))
  obtain ⟨n, rfl⟩ : ∃ n : Nat, k = (n : Int) := ⟨k.toNat, by omega⟩
  have n6 : n ≤ 6 := by omega
  clear k0 k1
  refine aa_nil ⟨_, rfl, by omega, by omega, ?_⟩
  rw [rg]
  refine ⟨fun t ρ => ∃ (f : Nat) (cs : List Int) (sp : Int) (e1 : En), ρ = [.bx b f, e1, .no, .no, .own (cs.map Dt.int), .da (.int sp), .no, .no, .no, .no] ∧ F + 43 + 2 * (6 - t) ≤ f ∧ cs.length = t ∧ cs.Pairwise (· < ·) ∧ (∀ c, c ∈ cs → c < sp ∧ -30 ≤ c) ∧ -30 ≤ sp ∧ sp ≤ 9 * (t : Int), ⟨F + 55, [], v - 30, .no, rfl, by omega, rfl, List.Pairwise.nil, fun c h => (by cases h), by omega, by omega⟩, ?_, ?_⟩
  · rintro t d ρ hd ⟨f, cs, sp, e1, rfl, hf, hl, hp, hc, s1, s2⟩
    obtain ⟨lt, rfl⟩ := rg_at hd
    obtain ⟨f2, rfl⟩ : ∃ f2, f = f2 + 2 := ⟨f - 2, by omega⟩
    refine ag_name (as_seq (as_append ?_ ⟨_, rfl⟩))
    refine ae_var rfl ⟨_, rfl, ?_, ?_⟩
    · rw [List.length_map]; omega
    refine as_set (ae_op (ae_op (ae_var rfl (ae_int (ar_I0i (ae_ofL rfl (ae_lst (aa_cons (ae_int (aa_cons (ae_int (aa_cons (ae_int (aa_cons (ae_take rfl (ae_int ⟨_, rfl, by decide, by decide, f2 + 1, rfl, fun w w0 w1 => aa_nil ⟨by show 4 ≤ sizeLine; omega, _, rfl, (by show 1 ≤ 4; decide), (by show 4 ≤ 1000; decide), f2, rfl, fun d hd2 => ?_⟩⟩))))))))))))))))
    obtain ⟨x, rfl, x0, x8⟩ : ∃ x : Int, d = .int x ∧ 0 ≤ x ∧ x ≤ 8 := by
      have hd2 : d ∈ [Dt.int 0, Dt.int 0, Dt.int 1, Dt.int w] := hd2
      simp only [List.mem_cons, List.not_mem_nil, or_false] at hd2
      rcases hd2 with rfl | rfl | rfl | rfl
      · exact ⟨0, rfl, by decide, by decide⟩
      · exact ⟨0, rfl, by decide, by decide⟩
      · exact ⟨1, rfl, by decide, by decide⟩
      · exact ⟨w, rfl, w0, by omega⟩
    refine ar_I0i ⟨f2, cs ++ [sp], sp + 1 + x, .da (.int ((t : Nat) : Int)), ?_, by omega, by rw [List.length_append, hl]; rfl, ?_, fun c h => ?_, by omega, by omega⟩
    · rw [List.map_append]
      rfl
    · refine List.pairwise_append.mpr ⟨hp, List.pairwise_singleton _ _, fun y hy z hz => ?_⟩
      rw [List.mem_singleton.mp hz]
      exact (hc y hy).1
    · rcases List.mem_append.mp h with h | h
      · have := hc c h
        omega
      · rw [List.mem_singleton.mp h]
        omega
  rintro ρ ⟨f, cs, sp, e1, rfl, hf, hl, hp, hc, s1, s2⟩
  rw [rl] at hf hl s2
  have c6 : cs.length ≤ 6 := by omega
  obtain ⟨f1, rfl⟩ : ∃ f1, f = f1 + 1 := ⟨f - 1, by omega⟩
  have hf1 : F + 42 ≤ f1 := by omega
  clear hf
  refine as_seq (as_par3O (ae_frz (i := 4) rfl (ae_cb (aa_cons (ae_var rfl (aa_nil (ac_tupL ?_)))))))
  refine ae_op (ae_int (ae_take rfl (ae_int ⟨_, rfl, by decide, by decide, f1, rfl, fun k k0 k1 => ar_I0i ?_⟩)))
  obtain ⟨m, hm⟩ : ∃ m : Nat, 1 + k = (m : Int) := ⟨(1 + k).toNat, by omega⟩
  rw [hm]
  have m1 : 1 ≤ m := by omega
  have m6 : m ≤ 6 := by omega
  clear hm k0 k1
  show AS K _ [.bx b f1, e1, .no, .no, .da (.tup (cs.map Dt.int)), .da (.int sp), .da (.int (m : Int)), .own [], .no, .no] _ _
  refine as_seq (as_set (ae_lst (aa_cons (ae_str (aa_cons (ae_str (aa_cons (ae_str (aa_cons (ae_str (aa_cons (ae_str (aa_cons (ae_str (aa_cons (ae_str (aa_nil ⟨by show 7 ≤ sizeLine; omega, ?_⟩)))))))))))))))))
  show AS K _ [.bx b f1, e1, .da (.lst (wordsL.map Dt.str)), .no, .da (.tup (cs.map Dt.int)), .da (.int sp), .da (.int (m : Int)), .own [], .no, .no] _ _
  refine as_seq (as_for (ai_rng1 (aa_cons (ae_op (ae_cb (aa_cons (ae_var rfl (aa_nil (ac_lenT (ae_int (ar_I0i ?_)))))))))))
  rw [List.length_map, show ((cs.length : Nat) : Int) + 1 = ((cs.length + 1 : Nat) : Int) by omega]
  refine aa_nil ⟨_, rfl, by omega, by omega, ?_⟩
  rw [rg]
  refine ⟨fun p ρ => ∃ (f : Nat) (rws : List (List (Option Str))) (e1 e3 e8 e9 : En), ρ = [.bx b f, e1, .da (.lst (wordsL.map Dt.str)), e3, .da (.tup (cs.map Dt.int)), .da (.int sp), .da (.int (m : Int)), .own (rws.map fun r => .tup (r.map cD)), e8, e9] ∧ F + 6 * (cs.length + 1 - p) ≤ f ∧ rws.length = p ∧ RowsOk ⟨cs, m, rws⟩, ⟨f1, [], e1, .no, .no, .no, rfl, by omega, rfl, RowsOk.nil⟩, ?_, ?_⟩
  · rintro p d ρ hd ⟨f, rws, e1, e3, e8, e9, rfl, hf, hpl, hr⟩
    obtain ⟨lt, rfl⟩ := rg_at hd
    obtain ⟨f2, rfl⟩ : ∃ f2, f = f2 + 6 := ⟨f - 6, by omega⟩
    have hf2 : F + 6 * (cs.length + 1 - (p + 1)) ≤ f2 := by omega
    clear hf hd
    refine ag_name (as_seq (as_own (aa_nil ⟨Nat.zero_le _, ?_⟩)))
    show AS K _ [.bx b (f2 + 6), e1, .da (.lst (wordsL.map Dt.str)), .da (.int ((p : Nat) : Int)), .da (.tup (cs.map Dt.int)), .da (.int sp), .da (.int (m : Int)), .own (rws.map fun r => .tup (r.map cD)), .own [], e9] _ _
    refine as_seq (as_for (ai_rng1 (aa_cons (ae_var rfl (aa_nil ⟨_, rfl, by omega, by omega, ?_⟩)))))
    rw [rg]
    refine ⟨fun r ρ => ∃ (f : Nat) (row : List (Option Str)) (e9 : En), ρ = [.bx b f, e1, .da (.lst (wordsL.map Dt.str)), .da (.int ((p : Nat) : Int)), .da (.tup (cs.map Dt.int)), .da (.int sp), .da (.int (m : Int)), .own (rws.map fun r => .tup (r.map cD)), .own (row.map cD), e9] ∧ f2 + (6 - r) ≤ f ∧ row.length = r ∧ RowOk ⟨cs, m, rws⟩ p row, ⟨f2 + 6, [], e9, rfl, Nat.le_refl _, rfl, RowOk.nil⟩, ?_, ?_⟩
    · rintro r d ρ hd ⟨f, row, e9, rfl, hf, hrl, ho⟩
      obtain ⟨lt2, rfl⟩ := rg_at hd
      obtain ⟨f3, rfl⟩ : ∃ f3, f = f3 + 1 := ⟨f - 1, by omega⟩
      have ki := kind_iff (cs := cs) (m := m) (i := p) (r := r) lt2 (by omega)
      refine ag_name (as_append ?_ ⟨_, rfl⟩)
      refine ae_if (at_test (ae_op (ae_call (aa_cons (ae_var rfl (aa_cons (ae_var rfl (aa_cons (ae_var rfl (aa_cons (ae_var rfl (aa_nil ⟨_, ⟨cs, m, p, r, rfl, by omega, m1, by omega, by omega, rfl⟩, ?_⟩))))))))))))
      refine ae_lst (aa_nil ⟨Nat.zero_le _, ?_⟩)
      cases hk : kindL cs m p r with
      | nil =>
        refine ar_neS (shl_ints []) ⟨false, rfl, (fun h => absurd (show false = true from h) (by decide)), fun _ => ?_⟩
        refine ae_non ⟨_, rfl, by rw [List.length_map]; omega, f3 + 1, row ++ [none], .da (.int ((r : Nat) : Int)), ?_, by omega, by rw [List.length_append, hrl]; rfl, ho.gap hrl (ki.mp hk)⟩
        rw [List.map_append]
        rfl
      | cons y ys =>
        refine ar_neD (shl_ints (y :: ys)).1 (shl_ints []).1 (shl_ints (y :: ys)).2 (shl_ints []).2 ⟨true, rfl, fun _ => ?_, (fun h => absurd (show true = false from h) (by decide))⟩
        refine ae_ofL rfl (ae_var rfl ⟨_, rfl, (by decide), (by decide), f3, rfl, fun d hd2 => ?_⟩)
        obtain ⟨s, hs, rfl⟩ := List.mem_map.mp hd2
        refine ⟨_, rfl, by rw [List.length_map]; omega, f3, row ++ [some s], .da (.int ((r : Nat) : Int)), ?_, by omega, by rw [List.length_append, hrl]; rfl, ho.nam hrl hs (fun z => by rw [ki.mpr z] at hk; cases hk)⟩
        rw [List.map_append]
        rfl
    · rintro ρ ⟨f, row, e9, rfl, hf, hrl, ho⟩
      rw [rl] at hrl hf
      refine as_append ?_ ⟨_, rfl⟩
      refine ae_frz (i := 8) rfl (ae_cb (aa_cons (ae_var rfl (aa_nil (ac_tupL ?_)))))
      refine ⟨_, rfl, by rw [List.length_map]; omega, f, rws ++ [row], e1, .da (.int ((p : Nat) : Int)), .da (.lst (row.map cD)), e9, ?_, by omega, by rw [List.length_append, hpl]; rfl, hr.more ho hrl hpl⟩
      rw [List.map_append]
      rfl
  rintro ρ ⟨f, rws, e1, e3, e8, e9, rfl, hf, hpl, hr⟩
  rw [rl] at hf hpl
  refine as_ret (ae_tup (aa_cons (ae_var rfl (aa_cons (ae_var rfl (aa_cons (ae_frz (i := 7) rfl (ae_cb (aa_cons (ae_var rfl (aa_nil (ac_tupL ?_))))))))))))
  refine aa_nil ⟨by show 3 ≤ sizeLine; omega, ⟨⟨cs, m, rws⟩, rfl, (asc_pw cs).mpr hp, c6, m1, m6, hpl, hr.1, hr.2.1, hr.2.2, fun c h => ?_⟩, f, rfl, by omega⟩
  have := hc c h
  show -100 ≤ c ∧ c ≤ 200
  omega
end
end Sh
set_option Elab.async false
set_option linter.all false
set_option maxRecDepth 100000
set_option maxHeartbeats 4000000
/-! bent namings: how great they may get -/
namespace Sh
open PySem PySem.Spec PyProof.Rows L2
theorem txt_ok0 : ∀ n : Fin 801, PyData.strOk (tS ((n : Nat) - 400 : Int)) = true := by decide +kernel
theorem txt_ok {i : Int} (h : i.natAbs ≤ 400) : PyData.strOk (tS i) = true := by
  have := txt_ok0 ⟨(i + 400).toNat, by omega⟩
  rw [show (((⟨(i + 400).toNat, by omega⟩ : Fin 801) : Nat) - 400 : Int) = i by show (((i + 400).toNat : Nat) : Int) - 400 = i; omega] at this
  exact this
theorem log_400 {i : Int} (h : i.natAbs ≤ 400) : i.natAbs.log2 < 1920 := by
  have h2 : i.natAbs.log2 ≤ i.natAbs := by
    by_cases z : i.natAbs = 0
    · rw [z]; decide
    · exact Nat.le_of_lt (Nat.lt_of_lt_of_le Nat.lt_two_pow_self (Nat.log2_self_le z))
  omega
mutual
def Dt.bnd (B : Nat) : Dt → Bool
  | .non => true | .bl _ => true
  | .int i => decide (i.natAbs ≤ B)
  | .str s => PyData.strOk s && decide (s.length ≤ 1925)
  | .tup l => bnds B l | .lst l => bnds B l
  | .ty _ => false
def bnds (B : Nat) : List Dt → Bool
  | [] => true
  | d :: l => d.bnd B && bnds B l
end
mutual
theorem bnd_up {B B' : Nat} (h : B ≤ B') : ∀ d : Dt, d.bnd B = true → d.bnd B' = true
  | .non, _ => rfl
  | .bl _, _ => rfl
  | .int i, q => decide_eq_true (Nat.le_trans (of_decide_eq_true q) h)
  | .str _, q => q
  | .tup l, q => bnds_up h l q
  | .lst l, q => bnds_up h l q
theorem bnds_up {B B' : Nat} (h : B ≤ B') : ∀ l : List Dt, bnds B l = true → bnds B' l = true
  | [], _ => rfl
  | d :: l, q => by
    obtain ⟨a, b⟩ := Bool.and_eq_true_iff.mp (show (d.bnd B && bnds B l) = true from q)
    show (d.bnd B' && bnds B' l) = true
    rw [bnd_up h d a, bnds_up h l b]
    rfl
end
mutual
theorem bnd_okT {B : Nat} (h : B ≤ 400) : ∀ d : Dt, d.bnd B = true → d.okT = true
  | .non, _ => rfl
  | .bl _, _ => rfl
  | .int i, q => decide_eq_true (log_400 (Nat.le_trans (of_decide_eq_true q) h))
  | .str _, q => q
  | .tup l, q => bnds_okT h l q
  | .lst l, q => bnds_okT h l q
theorem bnds_okT {B : Nat} (h : B ≤ 400) : ∀ l : List Dt, bnds B l = true → okTs l = true
  | [], _ => rfl
  | d :: l, q => by
    obtain ⟨a, b⟩ := Bool.and_eq_true_iff.mp (show (d.bnd B && bnds B l) = true from q)
    show (d.okT && okTs l) = true
    rw [bnd_okT h d a, bnds_okT h l b]
    rfl
end
theorem bnds_iff {B : Nat} : ∀ {l : List Dt}, bnds B l = true ↔ ∀ d, d ∈ l → d.bnd B = true
  | [] => ⟨fun _ d h => (by cases h), fun _ => rfl⟩
  | e :: l => by
    show (e.bnd B && bnds B l) = true ↔ _
    rw [Bool.and_eq_true, bnds_iff (l := l)]
    exact ⟨fun ⟨a, b⟩ d h => (List.mem_cons.mp h).elim (fun z => z ▸ a) (b d), fun h => ⟨h e List.mem_cons_self, fun d q => h d (List.mem_cons_of_mem _ q)⟩⟩
theorem hgts_le {n : Nat} : ∀ {l : List Dt}, hgts l ≤ n ↔ ∀ d, d ∈ l → d.hgt ≤ n
  | [] => ⟨fun _ d h => (by cases h), fun _ => Nat.zero_le _⟩
  | e :: l => by
    show max e.hgt (hgts l) ≤ n ↔ _
    rw [Nat.max_le, hgts_le (l := l)]
    exact ⟨fun ⟨a, b⟩ d h => (List.mem_cons.mp h).elim (fun z => z ▸ a) (b d), fun h => ⟨h e List.mem_cons_self, fun d q => h d (List.mem_cons_of_mem _ q)⟩⟩
theorem tls_app : ∀ (l m : List Dt), tls (l ++ m) = tls l + tls m
  | [], m => by show tls m = 0 + tls m; omega
  | d :: l, m => by
    show d.tl + 2 + tls (l ++ m) = d.tl + 2 + tls l + tls m
    rw [tls_app l m]
    omega
theorem tls_cut (l : List Dt) (s : Nat) : tls l = tls (l.take s) + tls (l.drop s) := by rw [← tls_app, List.take_append_drop]
theorem tls_at {l : List Dt} {s : Nat} {x : Dt} (h : l[s]? = some x) : tls (l.drop s) = x.tl + 2 + tls (l.drop (s + 1)) := by
  have hs := (List.getElem?_eq_some_iff.mp h).1
  have e := (List.getElem?_eq_some_iff.mp h).2
  rw [List.drop_eq_getElem_cons hs, e]
  rfl
/-- how a bent thing stands to what it was -/
structure Bent (d r : Dt) : Prop where
  hg : r.hgt ≤ d.hgt + 1
  ln : r.tl ≤ 2 * d.tl + 60000
  bn : ∀ B, d.bnd B = true → r.bnd (B + 1) = true
theorem sq_tl (k : Bool) (l : List Dt) : (sq k l).tl = tls l + 19255 := by cases k <;> rfl
theorem sq_hg (k : Bool) (l : List Dt) : (sq k l).hgt = hgts l + 1 := by cases k <;> rfl
theorem sq_bn (k : Bool) (l : List Dt) (B : Nat) : (sq k l).bnd B = bnds B l := by cases k <;> rfl
theorem Bent.low {d r : Dt} (h : r.hgt ≤ 1) (t : r.tl ≤ 60000) (b : ∀ B, r.bnd (B + 1) = true) : Bent d r := ⟨by omega, by omega, fun B _ => b B⟩
theorem Bent.same {k k' : Bool} {l : List Dt} : Bent (sq k l) (sq k' l) := ⟨by rw [sq_hg, sq_hg]; omega, by rw [sq_tl, sq_tl]; omega, fun B h => by rw [sq_bn] at h ⊢; exact bnds_up (Nat.le_succ B) l h⟩
theorem Bent.cut {k k' : Bool} {l m : List Dt} (hm : ∀ d, d ∈ m → d ∈ l) (t : tls m ≤ 2 * tls l) : Bent (sq k l) (sq k' m) := by
  refine ⟨?_, by rw [sq_tl, sq_tl]; omega, fun B h => ?_⟩
  · rw [sq_hg, sq_hg]
    have : hgts m ≤ hgts l := hgts_le.mpr fun d hd => hgts_mem (hm d hd)
    omega
  · rw [sq_bn] at h ⊢
    exact bnds_iff.mpr fun d hd => bnd_up (Nat.le_succ B) d (bnds_iff.mp h d (hm d hd))
theorem Bent.drop1 {k k' : Bool} {l : List Dt} {s : Nat} : Bent (sq k l) (sq k' (l.take s ++ l.drop (s + 1))) := by
  refine Bent.cut (fun d h => ?_) ?_
  · rcases List.mem_append.mp h with h | h
    · exact List.mem_of_mem_take h
    · exact List.mem_of_mem_drop h
  · rw [tls_app]
    have a := tls_cut l s
    have b := tls_cut l (s + 1)
    omega
theorem Bent.twice {k k' : Bool} {l : List Dt} {s : Nat} : Bent (sq k l) (sq k' (l.take (s + 1) ++ l.drop s)) := by
  refine Bent.cut (fun d h => ?_) ?_
  · rcases List.mem_append.mp h with h | h
    · exact List.mem_of_mem_take h
    · exact List.mem_of_mem_drop h
  · rw [tls_app]
    have a := tls_cut l s
    have b := tls_cut l (s + 1)
    omega
theorem tls_set {l : List Dt} {s : Nat} {x r : Dt} (h : l[s]? = some x) : tls (l.set s r) + x.tl = tls l + r.tl := by
  have hs := (List.getElem?_eq_some_iff.mp h).1
  have a := tls_cut l s
  have b := tls_at h
  have e : l.set s r = l.take s ++ r :: l.drop (s + 1) := by
    rw [List.set_eq_take_append_cons_drop, if_pos hs]
  rw [e, tls_app]
  show tls (l.take s) + (r.tl + 2 + tls (l.drop (s + 1))) + x.tl = _
  omega
theorem Bent.put {k k' : Bool} {l : List Dt} {s : Nat} {x r : Dt} (h : l[s]? = some x) (b : Bent x r) : Bent (sq k l) (sq k' (l.set s r)) := by
  have hx := List.mem_of_getElem? h
  refine ⟨?_, ?_, fun B q => ?_⟩
  · rw [sq_hg, sq_hg]
    have : hgts (l.set s r) ≤ hgts l + 1 := hgts_le.mpr fun d hd => by
      rcases List.mem_or_eq_of_mem_set hd with hd | rfl
      · exact Nat.le_succ_of_le (hgts_mem hd)
      · exact Nat.le_trans b.hg (Nat.succ_le_succ (hgts_mem hx))
    omega
  · rw [sq_tl, sq_tl]
    have a := tls_set (r := r) h
    have c := tls_mem hx
    have := b.ln
    omega
  · rw [sq_bn] at q ⊢
    have q := bnds_iff.mp q
    exact bnds_iff.mpr fun d hd => by
      rcases List.mem_or_eq_of_mem_set hd with hd | rfl
      · exact bnd_up (Nat.le_succ B) d (q d hd)
      · exact b.bn B (q x hx)
theorem cutT {l : List Dt} {n : Nat} : cutD l none (some (n : Int)) = l.take n := by
  unfold cutD
  rw [HT.sIx_none, HT.sIx_nat, List.drop_zero, Nat.sub_zero]
  rcases Nat.le_total n l.length with h | h
  · rw [Nat.min_eq_left h]
  · rw [Nat.min_eq_right h, List.take_of_length_le (Nat.le_refl _), List.take_of_length_le h]
theorem cutF {l : List Dt} {n : Nat} (h : n ≤ l.length) : cutD l (some (n : Int)) none = l.drop n := by
  unfold cutD
  rw [HT.sIx_none, HT.sIx_nat, Nat.min_eq_left h, List.take_of_length_le (by rw [List.length_drop]; exact Nat.le_refl _)]
def constL : List Dt := [.non, .bl true, .int 0, .int 1, .str "a", .str "", .tup [], .lst [], .tup [.non], .tup [.str "a"], .int (-1)]
theorem const_bent {d r : Dt} (h : r ∈ constL) : Bent d r := by
  unfold constL at h
  simp only [List.mem_cons, List.not_mem_nil, or_false] at h
  have one : ∀ B : Nat, (Dt.int 1).bnd (B + 1) = true := fun B => by
    show decide ((1 : Int).natAbs ≤ B + 1) = true
    exact decide_eq_true (by show 1 ≤ B + 1; omega)
  have neg : ∀ B : Nat, (Dt.int (-1)).bnd (B + 1) = true := fun B => by
    show decide ((-1 : Int).natAbs ≤ B + 1) = true
    exact decide_eq_true (by show 1 ≤ B + 1; omega)
  rcases h with rfl | rfl | rfl | rfl | rfl | rfl | rfl | rfl | rfl | rfl | rfl
  · exact Bent.low (by decide) (by decide) fun _ => rfl
  · exact Bent.low (by decide) (by decide) fun _ => rfl
  · exact Bent.low (by decide) (by decide) fun B => by
      show decide ((0 : Int).natAbs ≤ B + 1) = true
      exact decide_eq_true (Nat.zero_le _)
  · exact Bent.low (by decide) (by decide) one
  · exact Bent.low (by decide) (by decide) fun _ => (by decide +kernel : (PyData.strOk "a" && decide (("a" : Str).length ≤ 1925)) = true)
  · exact Bent.low (by decide) (by decide) fun _ => (by decide +kernel : (PyData.strOk "" && decide (("" : Str).length ≤ 1925)) = true)
  · exact Bent.low (by decide) (by decide) fun _ => rfl
  · exact Bent.low (by decide) (by decide) fun _ => rfl
  · exact Bent.low (by decide) (by decide) fun _ => rfl
  · exact Bent.low (by decide) (by decide) fun B => by
      show ((Dt.str "a").bnd (B + 1) && true) = true
      rw [Bool.and_true]
      exact (by decide +kernel : (PyData.strOk "a" && decide (("a" : Str).length ≤ 1925)) = true)
  · exact Bent.low (by decide) (by decide) neg
end Sh
set_option Elab.async false
set_option linter.all false
set_option maxRecDepth 100000
set_option maxHeartbeats 4000000
namespace Sh
open PySem PySem.Spec PyProof.Rows L2
/-! a list backwards: xs[::-1] -/
section
variable {K : PySem.W.Frag} {ρ : List En} {Ψ : Dt → List En → Prop} {Φ : Dt → Prop}
theorem RDs.reverse {G : Hp} : ∀ {l : List Dt} {xs : List V}, RDs K G l xs → RDs K G l.reverse xs.reverse
  | [], _, h => by rw [show _ = [] from h]; rfl
  | d :: l, _, ⟨x, r, e, h1, h2⟩ => by
    subst e
    rw [List.reverse_cons, List.reverse_cons]
    exact (RDs.reverse h2).snoc h1
end
end Sh
set_option Elab.async false
set_option linter.all false
set_option maxRecDepth 100000
set_option maxHeartbeats 4000000
namespace Sh
open PySem PySem.Spec PyProof.Rows L2
abbrev s_l_bent : Stmt := topS 30
abbrev N_l_bent : List Str := ["_law_box_here", "_law_matter", "_law_way", "_law_some", "_law_spot"]
abbrev p_l_bent : List Str := ["_law_box_here", "_law_matter"]
theorem sc_l_bent : FnScope N_l_bent p_l_bent (defScope s_l_bent) := ⟨rfl, rfl, rfl, by decide +kernel, rfl, by decide +kernel, by decide +kernel⟩
def domBn (k : Nat) (ds : List Dt) : Prop := ∃ d, ds = [d] ∧ ShT d ∧ d.bnd 300 = true ∧ d.hgt < k
def postBn (ds : List Dt) (r : Dt) : Prop := ∀ d, ds = [d] → Bent d r
section
variable {P : Program} {w : World} {K : PySem.W.Frag} {mg : Str → Option Value} {base : Heap}
theorem ok_l_bent (bl : Blts mg) {g_l_take : Addr} {d_l_take : FuncData} (c_l_take : Cal P w K mg base 2 "_law_take" p_l_take (spB K 1 domT postT) g_l_take d_l_take) {g_l_of : Addr} {d_l_of : FuncData} (c_l_of : Cal P w K mg base 3 "_law_of" p_l_of (spB K 1 domO postO) g_l_of d_l_of) {g_l_whole : Addr} {d_l_whole : FuncData} (c_l_whole : Cal P w K mg base 1 "_law_whole" p_l_whole (spP K S_wh) g_l_whole d_l_whole) {n : Nat} {g_l_bent : Addr} {d_l_bent : FuncData} (c_l_bent : Cal P w K mg base (n + 4) "_law_bent" p_l_bent (spB K (3 * n) (domBn n) postBn) g_l_bent d_l_bent)  {f : Addr} {fd : FuncData} (F : Fun K "_law_bent" "_law_bent" s_l_bent f fd) : FnOk P w K mg base CX0 (n + 5) f fd p_l_bent (spB K (3 * (n + 1)) (domBn (n + 1)) (postBn)) := by
  refine okB F sc_l_bent (fun ds h => ?_) (fun cdv A outer s H E hr ds h => ?_)
  · obtain ⟨d, rfl, hd, hb, hk⟩ := h
    rfl
  obtain ⟨d, rfl, hd, hb, hk⟩ := h
  refine ⟨_, (pss_cons (ps_set (i := 2) sc_l_bent.nd rfl (by first | exact Or.inl rfl | exact Or.inr rfl) (pe_call c_l_take.ok (hr.mono (by omega)) rfl c_l_take.mg c_l_take.kp c_l_take.bi .nil pass0 (pa_cons (pv 0) (pa_cons pe_int pa_nil))))
    (pss_cons (ps_if (PW.pt (pw_and (pt_val (pe_call c_l_whole.ok (hr.mono (by omega)) rfl c_l_whole.mg c_l_whole.kp c_l_whole.bi .nil pass0 (pa_cons (pv 1) pa_nil))) (pw_and1 (pt_cmpR op_lt (pv 2) pe_int (nomark _))))) (pss_one (ps_ret (pe_ix ix_list (pe_lst (pa_cons (pe_op op_add (pv 1) pe_int) (pa_cons (pe_op op_sub (pv 1) pe_int) (pa_cons pe_int (pa_cons (pe_callTy call_str_int rfl bl.str (by decide +kernel) (pa_cons (pv 1) pa_nil)) (pa_cons pe_non (pa_cons (pe_cmpR op_eq (pv 1) pe_int (nomark _)) pa_nil))))))) (pv 2) (fun _ _ => rfl)))) pss_nil)
    (pss_cons (ps_if (PW.pt (pw_or (pt_not (pt_val (pe_callB call_isiT rfl bl.isinstance (by decide +kernel) (pa_cons (pv 1) (pa_cons (pe_tup (pa_cons (pe_bltn (v := .ty "list") rfl bl.list (by decide +kernel) rfl) (pa_cons (pe_bltn (v := .ty "tuple") rfl bl.tuple (by decide +kernel) rfl) pa_nil))) pa_nil))))) (pw_or (pt_cmpR op_eq (pe_callB call_len_seq rfl bl.len (by decide +kernel) (pa_cons (pv 1) pa_nil)) pe_int (nomark _)) (pw_or1 (pt_cmpR op_eq (pv 2) pe_int (nomark _)))))) (pss_one (ps_ret (pe_call c_l_of.ok (hr.mono (by omega)) rfl c_l_of.mg c_l_of.kp c_l_of.bi .nil pass0 (pa_cons (pv 0) (pa_cons (pe_lst (pa_cons pe_non (pa_cons pe_bl (pa_cons pe_int (pa_cons pe_int (pa_cons pe_str (pa_cons pe_str (pa_cons (pe_tup pa_nil) (pa_cons (pe_lst pa_nil) (pa_cons (pe_tup (pa_cons pe_non pa_nil)) (pa_cons (pe_tup (pa_cons pe_str pa_nil)) (pa_cons (pe_op op_sub pe_int pe_int) pa_nil)))))))))))) pa_nil))))) pss_nil)
    (pss_cons (ps_par (i := 3) (j := 4) (by rfl) sc_l_bent.nd rfl rfl (by decide) rfl rfl (pa_cons (pe_callTy call_list_of rfl bl.list (by decide +kernel) (pa_cons (pv 1) pa_nil)) (pa_cons (pe_call c_l_take.ok (hr.mono (by omega)) rfl c_l_take.mg c_l_take.kp c_l_take.bi .nil pass0 (pa_cons (pv 0) (pa_cons (pe_callB call_len_seq rfl bl.len (by decide +kernel) (pa_cons (pv 1) pa_nil)) pa_nil))) pa_nil)) (by rfl))
    (pss_cons (ps_if (pt_cmpR op_eq (pv 2) pe_int (nomark _)) (pss_one (ps_ret (pe_ifExp (pt_val (pe_callB call_isi rfl bl.isinstance (by decide +kernel) (pa_cons (pv 1) (pa_cons (pe_bltn (v := .ty "list") rfl bl.list (by decide +kernel) rfl) pa_nil)))) (pe_callTy call_tuple_of rfl bl.tuple (by decide +kernel) (pa_cons (pv 3) pa_nil)) (pv 3)))) pss_nil)
    (pss_cons (ps_if (pt_cmpR op_eq (pv 2) pe_int (nomark _)) (pss_one (ps_set (i := 3) sc_l_bent.nd rfl (by first | exact Or.inl rfl | exact Or.inr rfl) (pe_op op_cat (pe_slice sl_list (pv 3) po_none (po_some (pv 4))) (pe_slice sl_list (pv 3) (po_some (pe_op op_add (pv 4) pe_int)) po_none)))) (pss_one (ps_if (pt_cmpR op_eq (pv 2) pe_int (nomark _)) (pss_one (ps_set (i := 3) sc_l_bent.nd rfl (by first | exact Or.inl rfl | exact Or.inr rfl) (pe_op op_cat (pe_slice sl_list (pv 3) po_none (po_some (pe_op op_add (pv 4) pe_int))) (pe_slice sl_list (pv 3) (po_some (pv 4)) po_none)))) (pss_one (ps_asg (pe_call c_l_bent.ok (hr.mono (by omega)) rfl c_l_bent.mg c_l_bent.kp c_l_bent.bi .nil pass0 (pa_cons (pv 0) (pa_cons (pe_ix ix_list (pv 3) (pv 4) (fun _ _ => rfl)) pa_nil))) (pg_sub (pv 3) (pv 4) set_list))))))
    (pss_one (ps_ret (pe_ifExp (pt_val (pe_callB call_isi rfl bl.isinstance (by decide +kernel) (pa_cons (pv 1) (pa_cons (pe_bltn (v := .ty "tuple") rfl bl.tuple (by decide +kernel) rfl) pa_nil)))) (pe_callTy call_tuple_of rfl bl.tuple (by decide +kernel) (pa_cons (pv 3) pa_nil)) (pv 3)))))))))), fun b F => ?_⟩
  change AS K _ [En.bx _ _, En.da _, En.no, En.no, En.no] _ _
  try simp only [cxOf_K, cxOf_w]
  have z9 : 9000 ≤ sizeLine := by decide
  rw [show F + 3 * (n + 1) = F + 3 * n + 2 + 1 by omega]
  refine as_seq (as_set (ae_take rfl (ae_int ⟨_, rfl, by decide, by decide, F + 3 * n + 2, rfl, fun v v0 v1 => ?_⟩)))
  show AS K _ [.bx b (F + 3 * n + 2), .da d, .da (.int v), .no, .no] _ _
  refine as_seq (as_monoN (N := fun ρ => ρ = [.bx b (F + 3 * n + 2), .da d, .da (.int v), .no, .no]) ?_ ?_)
  · refine as_if (at_and (at_b (ae_call (aa_cons (ae_var rfl (aa_nil ⟨_, ⟨d, rfl, hd.ok, rfl⟩, ?_⟩))))))
    cases hw : wholeB d with
    | false => exact ⟨false, rfl, (fun h => absurd (show false = true from h) (by decide)), fun _ => ⟨(fun h => absurd (show false = true from h) (by decide)), fun _ => as_next rfl⟩⟩
    | true =>
      obtain ⟨i, rfl⟩ : ∃ i : Int, d = .int i := by
        cases d with
        | int i => exact ⟨i, rfl⟩
        | _ => cases hw
      have hi : i.natAbs ≤ 300 := of_decide_eq_true hb
      refine ⟨true, rfl, fun _ => ?_, (fun h => absurd (show true = false from h) (by decide))⟩
      refine at_test (ae_op (ae_var rfl (ae_int (ar_I0b ?_))))
      by_cases c : v < 6
      · rw [decide_eq_true c]
        refine ⟨true, rfl, fun _ => ?_, (fun h => absurd (show true = false from h) (by decide))⟩
        refine as_ret (ae_op (ae_lst (aa_cons (ae_op (ae_var rfl (ae_int (ar_I0i (aa_cons (ae_op (ae_var rfl (ae_int (ar_I0i (aa_cons (ae_int (aa_cons (ae_cb (aa_cons (ae_var rfl (aa_nil (ac_strI (log_400 (by omega)) (aa_cons (ae_non (aa_cons (ae_op (ae_var rfl (ae_int (ar_eq3 ⟨rfl, rfl, rfl⟩ (aa_nil ⟨(by show 6 ≤ sizeLine; omega), ?_⟩))))))))))))))))))))))))))))
        obtain ⟨w, rfl⟩ : ∃ w : Nat, v = (w : Int) := ⟨v.toNat, by omega⟩
        have w6 : w < 6 := by omega
        have all : ∀ r, r ∈ [Dt.int (i + 1), .int (i - 1), .int 0, .str (tS i), .non, .bl (decide (V.int i = V.int 1))] → Bent (.int i) r := fun r hr => by
          have near : ∀ j : Int, (j - i).natAbs ≤ 1 → Bent (.int i) (.int j) := fun j hj => ⟨Nat.le_add_left _ _, by show 19255 ≤ 2 * 19255 + 60000; omega, fun B q => by
            have q : i.natAbs ≤ B := of_decide_eq_true q
            show decide (j.natAbs ≤ B + 1) = true
            exact decide_eq_true (by omega)⟩
          simp only [List.mem_cons, List.not_mem_nil, or_false] at hr
          rcases hr with rfl | rfl | rfl | rfl | rfl | rfl
          · exact near _ (by omega)
          · exact near _ (by omega)
          · exact const_bent (by unfold constL; simp)
          · refine Bent.low (Nat.zero_le _) (by show 19255 ≤ 60000; omega) fun B => ?_
            show (PyData.strOk (tS i) && decide ((tS i).length ≤ 1925)) = true
            rw [txt_ok (by omega), decide_eq_true (Nat.le_trans (int_text_len_1921 (log_400 (by omega))) (by decide))]
            rfl
          · exact const_bent (by unfold constL; simp)
          · exact Bent.low (Nat.zero_le _) (by show 19255 ≤ 60000; omega) fun B => rfl
        have lt : w < [Dt.int (i + 1), .int (i - 1), .int 0, .str (tS i), .non, .bl (decide (V.int i = V.int 1))].length := w6
        refine ae_var rfl (ar_ixL (atI_nat (List.getElem?_eq_getElem lt)) ⟨fun d' e => ?_, _, rfl, by omega⟩)
        cases e
        exact all _ (List.getElem_mem lt)
      · rw [decide_eq_false c]
        exact ⟨false, rfl, (fun h => absurd (show false = true from h) (by decide)), fun _ => as_next rfl⟩
  · rintro ρ rfl
    refine as_seq (as_monoN (N := fun ρ => ρ = [.bx b (F + 3 * n + 2), .da d, .da (.int v), .no, .no] ∧ ∃ k l, d = sq k l ∧ 1 ≤ l.length ∧ 0 < v) ?_ ?_)
    · cases d with
      | non =>
        refine as_if (at_or (at_not (at_b (ae_isi2 (ae_var rfl ⟨rfl, false, .inr ⟨kb_NoneType_list, kb_NoneType_tuple⟩, ?_⟩)))))
        refine ⟨false, rfl, fun _ => ⟨fun _ => ?_, (fun h => absurd (show true = false from h) (by decide))⟩, (fun h => absurd (show true = false from h) (by decide))⟩
        refine as_ret (ae_ofL rfl (ae_lst (aa_cons (ae_non (aa_cons (ae_bl (aa_cons (ae_int (aa_cons (ae_int (aa_cons (ae_str (aa_cons (ae_str (aa_cons (ae_tup (aa_nil ⟨Nat.zero_le _, aa_cons (ae_lst (aa_nil ⟨Nat.zero_le _, ?_⟩))⟩)))))))))))))))))
        refine aa_cons (ae_tup (aa_cons (ae_non (aa_nil ⟨(by show 1 ≤ sizeLine; omega), aa_cons (ae_tup (aa_cons (ae_str (aa_nil ⟨(by show 1 ≤ sizeLine; omega), ?_⟩))))⟩))))
        refine aa_cons (ae_op (ae_int (ae_int (ar_I0i (aa_nil ⟨(by show 11 ≤ sizeLine; omega), _, rfl, (by show 1 ≤ 11; decide), (by show 11 ≤ 1000; decide), F + 3 * n + 1, rfl, fun r hr => ⟨fun d' e => ?_, _, rfl, by omega⟩⟩)))))
        cases e
        exact const_bent hr
      | bl z =>
        refine as_if (at_or (at_not (at_b (ae_isi2 (ae_var rfl ⟨rfl, false, .inr ⟨kb_bool_list, kb_bool_tuple⟩, ?_⟩)))))
        refine ⟨false, rfl, fun _ => ⟨fun _ => ?_, (fun h => absurd (show true = false from h) (by decide))⟩, (fun h => absurd (show true = false from h) (by decide))⟩
        refine as_ret (ae_ofL rfl (ae_lst (aa_cons (ae_non (aa_cons (ae_bl (aa_cons (ae_int (aa_cons (ae_int (aa_cons (ae_str (aa_cons (ae_str (aa_cons (ae_tup (aa_nil ⟨Nat.zero_le _, aa_cons (ae_lst (aa_nil ⟨Nat.zero_le _, ?_⟩))⟩)))))))))))))))))
        refine aa_cons (ae_tup (aa_cons (ae_non (aa_nil ⟨(by show 1 ≤ sizeLine; omega), aa_cons (ae_tup (aa_cons (ae_str (aa_nil ⟨(by show 1 ≤ sizeLine; omega), ?_⟩))))⟩))))
        refine aa_cons (ae_op (ae_int (ae_int (ar_I0i (aa_nil ⟨(by show 11 ≤ sizeLine; omega), _, rfl, (by show 1 ≤ 11; decide), (by show 11 ≤ 1000; decide), F + 3 * n + 1, rfl, fun r hr => ⟨fun d' e => ?_, _, rfl, by omega⟩⟩)))))
        cases e
        exact const_bent hr
      | int z =>
        refine as_if (at_or (at_not (at_b (ae_isi2 (ae_var rfl ⟨rfl, false, .inr ⟨kb_int_list, kb_int_tuple⟩, ?_⟩)))))
        refine ⟨false, rfl, fun _ => ⟨fun _ => ?_, (fun h => absurd (show true = false from h) (by decide))⟩, (fun h => absurd (show true = false from h) (by decide))⟩
        refine as_ret (ae_ofL rfl (ae_lst (aa_cons (ae_non (aa_cons (ae_bl (aa_cons (ae_int (aa_cons (ae_int (aa_cons (ae_str (aa_cons (ae_str (aa_cons (ae_tup (aa_nil ⟨Nat.zero_le _, aa_cons (ae_lst (aa_nil ⟨Nat.zero_le _, ?_⟩))⟩)))))))))))))))))
        refine aa_cons (ae_tup (aa_cons (ae_non (aa_nil ⟨(by show 1 ≤ sizeLine; omega), aa_cons (ae_tup (aa_cons (ae_str (aa_nil ⟨(by show 1 ≤ sizeLine; omega), ?_⟩))))⟩))))
        refine aa_cons (ae_op (ae_int (ae_int (ar_I0i (aa_nil ⟨(by show 11 ≤ sizeLine; omega), _, rfl, (by show 1 ≤ 11; decide), (by show 11 ≤ 1000; decide), F + 3 * n + 1, rfl, fun r hr => ⟨fun d' e => ?_, _, rfl, by omega⟩⟩)))))
        cases e
        exact const_bent hr
      | str z =>
        refine as_if (at_or (at_not (at_b (ae_isi2 (ae_var rfl ⟨rfl, false, .inr ⟨kb_str_list, kb_str_tuple⟩, ?_⟩)))))
        refine ⟨false, rfl, fun _ => ⟨fun _ => ?_, (fun h => absurd (show true = false from h) (by decide))⟩, (fun h => absurd (show true = false from h) (by decide))⟩
        refine as_ret (ae_ofL rfl (ae_lst (aa_cons (ae_non (aa_cons (ae_bl (aa_cons (ae_int (aa_cons (ae_int (aa_cons (ae_str (aa_cons (ae_str (aa_cons (ae_tup (aa_nil ⟨Nat.zero_le _, aa_cons (ae_lst (aa_nil ⟨Nat.zero_le _, ?_⟩))⟩)))))))))))))))))
        refine aa_cons (ae_tup (aa_cons (ae_non (aa_nil ⟨(by show 1 ≤ sizeLine; omega), aa_cons (ae_tup (aa_cons (ae_str (aa_nil ⟨(by show 1 ≤ sizeLine; omega), ?_⟩))))⟩))))
        refine aa_cons (ae_op (ae_int (ae_int (ar_I0i (aa_nil ⟨(by show 11 ≤ sizeLine; omega), _, rfl, (by show 1 ≤ 11; decide), (by show 11 ≤ 1000; decide), F + 3 * n + 1, rfl, fun r hr => ⟨fun d' e => ?_, _, rfl, by omega⟩⟩)))))
        cases e
        exact const_bent hr
      | ty z => cases hd.ok
      | tup l =>
        refine as_if (at_or (at_not (at_b (ae_isi2 (ae_var rfl ⟨rfl, true, .inr ⟨kb_tuple_list, kb_tuple_tuple⟩, ?_⟩)))))
        refine ⟨true, rfl, (fun h => absurd (show false = true from h) (by decide)), fun _ => ?_⟩
        refine at_or (at_test (ae_op (ae_cb (aa_cons (ae_var rfl (aa_nil (ac_lenT (ae_int (ar_eq3 ⟨rfl, rfl, rfl⟩ ?_)))))))))
        by_cases hl : l.length = 0
        · rw [decide_eq_true (show V.int ((l.length : Nat) : Int) = V.int 0 by rw [hl]; rfl)]
          refine ⟨true, rfl, fun _ => ⟨fun _ => ?_, (fun h => absurd (show true = false from h) (by decide))⟩, (fun h => absurd (show true = false from h) (by decide))⟩
          refine as_ret (ae_ofL rfl (ae_lst (aa_cons (ae_non (aa_cons (ae_bl (aa_cons (ae_int (aa_cons (ae_int (aa_cons (ae_str (aa_cons (ae_str (aa_cons (ae_tup (aa_nil ⟨Nat.zero_le _, aa_cons (ae_lst (aa_nil ⟨Nat.zero_le _, ?_⟩))⟩)))))))))))))))))
          refine aa_cons (ae_tup (aa_cons (ae_non (aa_nil ⟨(by show 1 ≤ sizeLine; omega), aa_cons (ae_tup (aa_cons (ae_str (aa_nil ⟨(by show 1 ≤ sizeLine; omega), ?_⟩))))⟩))))
          refine aa_cons (ae_op (ae_int (ae_int (ar_I0i (aa_nil ⟨(by show 11 ≤ sizeLine; omega), _, rfl, (by show 1 ≤ 11; decide), (by show 11 ≤ 1000; decide), F + 3 * n + 1, rfl, fun r hr => ⟨fun d' e => ?_, _, rfl, by omega⟩⟩)))))
          cases e
          exact const_bent hr
        · rw [decide_eq_false (fun z => hl (by injection z with z; omega))]
          refine ⟨false, rfl, (fun h => absurd (show false = true from h) (by decide)), fun _ => ?_⟩
          refine at_test (ae_op (ae_var rfl (ae_int (ar_eq3 ⟨rfl, rfl, rfl⟩ ?_))))
          by_cases hv : v = 0
          · rw [decide_eq_true (show V.int v = V.int 0 by rw [hv])]
            refine ⟨true, rfl, fun _ => ?_, (fun h => absurd (show true = false from h) (by decide))⟩
            refine as_ret (ae_ofL rfl (ae_lst (aa_cons (ae_non (aa_cons (ae_bl (aa_cons (ae_int (aa_cons (ae_int (aa_cons (ae_str (aa_cons (ae_str (aa_cons (ae_tup (aa_nil ⟨Nat.zero_le _, aa_cons (ae_lst (aa_nil ⟨Nat.zero_le _, ?_⟩))⟩)))))))))))))))))
            refine aa_cons (ae_tup (aa_cons (ae_non (aa_nil ⟨(by show 1 ≤ sizeLine; omega), aa_cons (ae_tup (aa_cons (ae_str (aa_nil ⟨(by show 1 ≤ sizeLine; omega), ?_⟩))))⟩))))
            refine aa_cons (ae_op (ae_int (ae_int (ar_I0i (aa_nil ⟨(by show 11 ≤ sizeLine; omega), _, rfl, (by show 1 ≤ 11; decide), (by show 11 ≤ 1000; decide), F + 3 * n + 1, rfl, fun r hr => ⟨fun d' e => ?_, _, rfl, by omega⟩⟩)))))
            cases e
            exact const_bent hr
          · rw [decide_eq_false (fun z => hv (by injection z))]
            exact ⟨false, rfl, (fun h => absurd (show false = true from h) (by decide)), fun _ => as_next ⟨rfl, true, l, rfl, by omega, by omega⟩⟩
      | lst l =>
        refine as_if (at_or (at_not (at_b (ae_isi2 (ae_var rfl ⟨rfl, true, .inl ⟨kb_list_list, rfl⟩, ?_⟩)))))
        refine ⟨true, rfl, (fun h => absurd (show false = true from h) (by decide)), fun _ => ?_⟩
        refine at_or (at_test (ae_op (ae_cb (aa_cons (ae_var rfl (aa_nil (ac_lenL (ae_int (ar_eq3 ⟨rfl, rfl, rfl⟩ ?_)))))))))
        by_cases hl : l.length = 0
        · rw [decide_eq_true (show V.int ((l.length : Nat) : Int) = V.int 0 by rw [hl]; rfl)]
          refine ⟨true, rfl, fun _ => ⟨fun _ => ?_, (fun h => absurd (show true = false from h) (by decide))⟩, (fun h => absurd (show true = false from h) (by decide))⟩
          refine as_ret (ae_ofL rfl (ae_lst (aa_cons (ae_non (aa_cons (ae_bl (aa_cons (ae_int (aa_cons (ae_int (aa_cons (ae_str (aa_cons (ae_str (aa_cons (ae_tup (aa_nil ⟨Nat.zero_le _, aa_cons (ae_lst (aa_nil ⟨Nat.zero_le _, ?_⟩))⟩)))))))))))))))))
          refine aa_cons (ae_tup (aa_cons (ae_non (aa_nil ⟨(by show 1 ≤ sizeLine; omega), aa_cons (ae_tup (aa_cons (ae_str (aa_nil ⟨(by show 1 ≤ sizeLine; omega), ?_⟩))))⟩))))
          refine aa_cons (ae_op (ae_int (ae_int (ar_I0i (aa_nil ⟨(by show 11 ≤ sizeLine; omega), _, rfl, (by show 1 ≤ 11; decide), (by show 11 ≤ 1000; decide), F + 3 * n + 1, rfl, fun r hr => ⟨fun d' e => ?_, _, rfl, by omega⟩⟩)))))
          cases e
          exact const_bent hr
        · rw [decide_eq_false (fun z => hl (by injection z with z; omega))]
          refine ⟨false, rfl, (fun h => absurd (show false = true from h) (by decide)), fun _ => ?_⟩
          refine at_test (ae_op (ae_var rfl (ae_int (ar_eq3 ⟨rfl, rfl, rfl⟩ ?_))))
          by_cases hv : v = 0
          · rw [decide_eq_true (show V.int v = V.int 0 by rw [hv])]
            refine ⟨true, rfl, fun _ => ?_, (fun h => absurd (show true = false from h) (by decide))⟩
            refine as_ret (ae_ofL rfl (ae_lst (aa_cons (ae_non (aa_cons (ae_bl (aa_cons (ae_int (aa_cons (ae_int (aa_cons (ae_str (aa_cons (ae_str (aa_cons (ae_tup (aa_nil ⟨Nat.zero_le _, aa_cons (ae_lst (aa_nil ⟨Nat.zero_le _, ?_⟩))⟩)))))))))))))))))
            refine aa_cons (ae_tup (aa_cons (ae_non (aa_nil ⟨(by show 1 ≤ sizeLine; omega), aa_cons (ae_tup (aa_cons (ae_str (aa_nil ⟨(by show 1 ≤ sizeLine; omega), ?_⟩))))⟩))))
            refine aa_cons (ae_op (ae_int (ae_int (ar_I0i (aa_nil ⟨(by show 11 ≤ sizeLine; omega), _, rfl, (by show 1 ≤ 11; decide), (by show 11 ≤ 1000; decide), F + 3 * n + 1, rfl, fun r hr => ⟨fun d' e => ?_, _, rfl, by omega⟩⟩)))))
            cases e
            exact const_bent hr
          · rw [decide_eq_false (fun z => hv (by injection z))]
            exact ⟨false, rfl, (fun h => absurd (show false = true from h) (by decide)), fun _ => as_next ⟨rfl, false, l, rfl, by omega, by omega⟩⟩
    · rintro ρ ⟨rfl, k, l, rfl, hl, hv⟩
      have h8 : l.length ≤ 830 := hd.len
      refine as_seq (as_parLF (ae_var rfl ⟨k, l, rfl, ?_⟩))
      refine ae_take rfl (ae_cb (aa_cons (ae_var rfl (aa_nil (ac_len ⟨_, rfl, by omega, by omega, F + 3 * n + 1, rfl, fun s s0 s1 => ?_⟩)))))
      obtain ⟨t, rfl⟩ : ∃ t : Nat, s = (t : Int) := ⟨s.toNat, by omega⟩
      have lt : t < l.length := by omega
      show AS K _ [.bx b (F + 3 * n + 1), .da (sq k l), .da (.int v), .own l, .da (.int (t : Int))] _ _
      refine as_seq (as_if (at_test (ae_op (ae_var rfl (ae_int (ar_eq3 ⟨rfl, rfl, rfl⟩ ?_))))))
      by_cases c1 : v = 1
      · rw [decide_eq_true (show V.int v = V.int 1 by rw [c1])]
        refine ⟨true, rfl, fun _ => ?_, (fun h => absurd (show true = false from h) (by decide))⟩
        refine as_ret (ae_frz (i := 3) rfl ?_)
        cases k with
        | false =>
          refine ae_if (at_b (ae_cb (aa_cons (ae_var rfl (aa_cons (ae_ty (aa_nil (ac_isi1 ⟨rfl, kb_list_list⟩ ⟨true, rfl, fun _ => ?_, (fun h => absurd (show true = false from h) (by decide))⟩))))))))
          refine ae_cb (aa_cons (ae_var rfl (aa_nil (ac_tupL ⟨fun d' e => ?_, _, rfl, by omega⟩))))
          cases e
          exact Bent.same (k := false) (k' := true)
        | true =>
          refine ae_if (at_b (ae_cb (aa_cons (ae_var rfl (aa_cons (ae_ty (aa_nil (ac_isi1 ⟨rfl, kb_tuple_list⟩ ⟨false, rfl, (fun h => absurd (show false = true from h) (by decide)), fun _ => ?_⟩))))))))
          refine ae_var rfl ⟨fun d' e => ?_, _, rfl, by omega⟩
          cases e
          exact Bent.same (k := true) (k' := false)
      rw [decide_eq_false (fun z => c1 (by injection z))]
      refine ⟨false, rfl, (fun h => absurd (show false = true from h) (by decide)), fun _ => as_next ?_⟩
      refine as_seq (as_monoN (N := fun ρ => ∃ (f : Nat) (m : List Dt) (e3 : En), ρ = [.bx b f, .da (sq k l), .da (.int v), e3, .da (.int (t : Int))] ∧ F ≤ f ∧ (e3 = .da (.lst m) ∨ e3 = .own m) ∧ ∀ k', Bent (sq k l) (sq k' m)) ?_ ?_)
      · refine as_if (at_test (ae_op (ae_var rfl (ae_int (ar_eq3 ⟨rfl, rfl, rfl⟩ ?_)))))
        by_cases c2 : v = 2
        · rw [decide_eq_true (show V.int v = V.int 2 by rw [c2])]
          refine ⟨true, rfl, fun _ => ?_, (fun h => absurd (show true = false from h) (by decide))⟩
          refine as_set (ae_frz (i := 3) rfl (ae_op (ae_slD (ae_var rfl ⟨_, rfl, ao_none (ao_some (ae_var rfl ⟨_, rfl, ?_⟩))⟩))))
          refine ae_slD (ae_var rfl ⟨_, rfl, ao_some (ae_op (ae_var rfl (ae_int (ar_I0i ⟨_, rfl, ao_none ?_⟩))))⟩)
          rw [cutT, show ((t : Nat) : Int) + 1 = ((t + 1 : Nat) : Int) by omega, cutF (by omega)]
          refine ar_catL (by rw [List.length_take, List.length_drop]; omega) ⟨F + 3 * n + 1, l.take t ++ l.drop (t + 1), _, rfl, by omega, .inl rfl, fun k' => Bent.drop1⟩
        · rw [decide_eq_false (fun z => c2 (by injection z))]
          refine ⟨false, rfl, (fun h => absurd (show false = true from h) (by decide)), fun _ => ?_⟩
          refine as_if (at_test (ae_op (ae_var rfl (ae_int (ar_eq3 ⟨rfl, rfl, rfl⟩ ?_)))))
          by_cases c3 : v = 3
          · rw [decide_eq_true (show V.int v = V.int 3 by rw [c3])]
            refine ⟨true, rfl, fun _ => ?_, (fun h => absurd (show true = false from h) (by decide))⟩
            refine as_set (ae_frz (i := 3) rfl (ae_op (ae_slD (ae_var rfl ⟨_, rfl, ao_none (ao_some (ae_op (ae_var rfl (ae_int (ar_I0i ⟨_, rfl, ?_⟩)))))⟩))))
            refine ae_slD (ae_var rfl ⟨_, rfl, ao_some (ae_var rfl ⟨_, rfl, ao_none ?_⟩)⟩)
            rw [show ((t : Nat) : Int) + 1 = ((t + 1 : Nat) : Int) by omega, cutT, cutF (by omega)]
            refine ar_catL (by rw [List.length_take, List.length_drop]; omega) ⟨F + 3 * n + 1, l.take (t + 1) ++ l.drop t, _, rfl, by omega, .inl rfl, fun k' => Bent.twice⟩
          · rw [decide_eq_false (fun z => c3 (by injection z))]
            refine ⟨false, rfl, (fun h => absurd (show false = true from h) (by decide)), fun _ => ?_⟩
            have hx : l[t]? = some l[t] := List.getElem?_eq_getElem lt
            have mx : l[t] ∈ l := List.getElem_mem lt
            generalize l[t] = x at hx mx
            have bx : x.bnd 300 = true := bnds_iff.mp (by rw [sq_bn] at hb; exact hb) x mx
            have hgx : x.hgt < n := by
              have := hgts_mem mx
              rw [sq_hg] at hk
              omega
            refine as_setAt (ae_draw rfl (aa_cons (ae_ixOwn ⟨_, rfl⟩ (ae_var rfl ⟨l, (t : Int), x, rfl, rfl, atI_nat hx, aa_nil ⟨⟨x, rfl, hd.mem mx, bx, hgx⟩, F + 1, ?_, fun r hr => ⟨⟨_, rfl⟩, ae_var rfl ⟨l, t, rfl, rfl, lt, ?_⟩⟩⟩⟩))))
            · show some (En.bx b (F + 3 * n + 1)) = some (En.bx b (F + 1 + 3 * n))
              rw [show F + 3 * n + 1 = F + 1 + 3 * n by omega]
            · exact ⟨F + 1, l.set t r, _, rfl, by omega, .inr rfl, fun k' => Bent.put hx (hr x rfl)⟩
      · rintro ρ ⟨f, m, e3, rfl, hf, he, hB⟩
        cases k
        all_goals rcases he with rfl | rfl
        · refine as_ret (ae_if (at_b (ae_cb (aa_cons (ae_var rfl (aa_cons (ae_ty (aa_nil (ac_isi1 ⟨rfl, kb_list_tuple⟩ ⟨false, rfl, (fun h => absurd (show false = true from h) (by decide)), fun _ => ?_⟩)))))))))
          refine ae_var rfl ⟨fun d' e => ?_, _, rfl, hf⟩
          cases e
          exact hB false
        · refine as_ret (ae_frz (i := 3) rfl (ae_if (at_b (ae_cb (aa_cons (ae_var rfl (aa_cons (ae_ty (aa_nil (ac_isi1 ⟨rfl, kb_list_tuple⟩ ⟨false, rfl, (fun h => absurd (show false = true from h) (by decide)), fun _ => ?_⟩))))))))))
          refine ae_var rfl ⟨fun d' e => ?_, _, rfl, hf⟩
          cases e
          exact hB false
        · refine as_ret (ae_if (at_b (ae_cb (aa_cons (ae_var rfl (aa_cons (ae_ty (aa_nil (ac_isi1 ⟨rfl, kb_tuple_tuple⟩ ⟨true, rfl, fun _ => ?_, (fun h => absurd (show true = false from h) (by decide))⟩)))))))))
          refine ae_cb (aa_cons (ae_var rfl (aa_nil (ac_tupL ⟨fun d' e => ?_, _, rfl, hf⟩))))
          cases e
          exact hB true
        · refine as_ret (ae_frz (i := 3) rfl (ae_if (at_b (ae_cb (aa_cons (ae_var rfl (aa_cons (ae_ty (aa_nil (ac_isi1 ⟨rfl, kb_tuple_tuple⟩ ⟨true, rfl, fun _ => ?_, (fun h => absurd (show true = false from h) (by decide))⟩))))))))))
          refine ae_cb (aa_cons (ae_var rfl (aa_nil (ac_tupL ⟨fun d' e => ?_, _, rfl, hf⟩))))
          cases e
          exact hB true
theorem all_bent (bl : Blts mg) {g_l_take : Addr} {d_l_take : FuncData} (c_l_take : Cal P w K mg base 2 "_law_take" p_l_take (spB K 1 domT postT) g_l_take d_l_take) {g_l_of : Addr} {d_l_of : FuncData} (c_l_of : Cal P w K mg base 3 "_law_of" p_l_of (spB K 1 domO postO) g_l_of d_l_of) {g_l_whole : Addr} {d_l_whole : FuncData} (c_l_whole : Cal P w K mg base 1 "_law_whole" p_l_whole (spP K S_wh) g_l_whole d_l_whole) {f : Addr} {fd : FuncData} (F : Fun K "_law_bent" "_law_bent" s_l_bent f fd) (bG : Binds K fd p_l_bent []) (mG : mg "_law_bent" = some (.ref f)) : ∀ n : Nat, FnOk P w K mg base CX0 (n + 4) f fd p_l_bent (spB K (3 * n) (domBn n) postBn)
  | 0 => (none0 fun vs H Q E h => by
      obtain ⟨_, _, _, _, _, _, _, _, _, _, _, _, _, _, ⟨_, _, _, _, hk⟩, _⟩ := h
      exact Nat.not_lt_zero _ hk).mono (Nat.zero_le _)
  | n + 1 => ok_l_bent bl c_l_take c_l_of c_l_whole ⟨all_bent bl c_l_take c_l_of c_l_whole F bG mG n, bG, F.kp, mG⟩ F
end
end Sh
set_option Elab.async false
set_option linter.all false
set_option maxRecDepth 100000
set_option maxHeartbeats 4000000
namespace Sh
open PySem PySem.Spec PyProof.Rows L2
abbrev s_l_lists : Stmt := topS 31
abbrev N_l_lists : List Str := ["_law_matter", "_law_part"]
abbrev p_l_lists : List Str := ["_law_matter"]
theorem sc_l_lists : FnScope N_l_lists p_l_lists (defScope s_l_lists) := ⟨rfl, rfl, rfl, by decide +kernel, rfl, by decide +kernel, by decide +kernel⟩
mutual
def Dt.li : Dt → Dt
  | .tup l => .lst (lis l)
  | .lst l => .lst l
  | .non => .non | .bl b => .bl b | .int i => .int i | .str s => .str s | .ty n => .ty n
def lis : List Dt → List Dt
  | [] => []
  | d :: l => d.li :: lis l
end
theorem lis_map : ∀ l : List Dt, lis l = l.map Dt.li
  | [] => rfl
  | d :: l => by show d.li :: lis l = _; rw [lis_map l]; rfl
def S_ll (n : Nat) (ds : List Dt) (r : Dt) : Prop := ∃ d, ds = [d] ∧ ShT d ∧ d.hgt < n ∧ r = d.li
theorem Nmg.soft (N : Nmg) : (N.d true).li = N.d false := by
  have e1 : lis (N.cs.map Dt.int) = N.cs.map Dt.int := by rw [lis_map, List.map_map]; rfl
  have e2 : lis (N.rows.map fun r => Dt.tup (r.map cD)) = N.rows.map fun r => Dt.lst (r.map cD) := by
    rw [lis_map, List.map_map]
    refine List.map_congr_left fun r _ => ?_
    show Dt.lst (lis (r.map cD)) = _
    rw [lis_map, List.map_map]
    exact congrArg Dt.lst (List.map_congr_left fun c _ => by cases c <;> rfl)
  show Dt.lst [.lst (lis (N.cs.map Dt.int)), .int (N.m : Int), .lst (lis (N.rows.map fun r => Dt.tup (r.map cD)))] = _
  rw [e1, e2]
  rfl
section
variable {P : Program} {w : World} {K : PySem.W.Frag} {mg : Str → Option Value} {base : Heap}
theorem ok_l_lists (bl : Blts mg) {n : Nat} {g_l_lists : Addr} {d_l_lists : FuncData} (c_l_lists : Cal P w K mg base n "_law_lists" p_l_lists (spP K (S_ll n)) g_l_lists d_l_lists)  {f : Addr} {fd : FuncData} (F : Fun K "_law_lists" "_law_lists" s_l_lists f fd) : FnOk P w K mg base CX0 (n + 1) f fd p_l_lists (spP K (S_ll (n + 1))) := by
  refine okP F sc_l_lists (fun ds r h => ?_) (fun cdv A outer s H E hr ds r h => ?_)
  · obtain ⟨d, rfl, hd, hn, rfl⟩ := h
    rfl
  obtain ⟨d, rfl, hd, hn, rfl⟩ := h
  refine ⟨_, (pss_one (ps_ret (pe_ifExp (pt_val (pe_callB call_isi rfl bl.isinstance (by decide +kernel) (pa_cons (pv 0) (pa_cons (pe_bltn (v := .ty "tuple") rfl bl.tuple (by decide +kernel) rfl) pa_nil)))) (pe_lc (own := [("_law_part", 1)]) (g := (gName 1)) (te := (tCall (spP K (S_ll n)) [] E0 (tCons (tVar 1) tNil))) (tt := tYes) rfl sc_l_lists.nd (pi_tup (pv 0)) (blkOk_by (N := N_l_lists) (sc := defScope s_l_lists) (by decide +kernel)) (fun _ _ _ _ _ => (pg_name (i := 1) sc_l_lists.nd rfl (by first | exact Or.inl rfl | exact Or.inr rfl))) (fun _ _ _ _ _ => pts_nil) (fun _ _ _ _ _ => (pe_call c_l_lists.ok (hr.mono (by omega)) rfl c_l_lists.mg c_l_lists.kp c_l_lists.bi .nil pass0 (pa_cons (pv 1) pa_nil)))) (pv 0)))), ?_⟩
  change AS K _ [En.da _, En.no] _ _
  try simp only [cxOf_K]
  cases d with
  | non =>
    refine as_ret (ae_if (at_b (ae_cb (aa_cons (ae_var rfl (aa_cons (ae_ty (aa_nil (ac_isi1 ⟨rfl, kb_NoneType_tuple⟩ ⟨false, rfl, (fun h => absurd (show false = true from h) (by decide)), fun _ => ae_var rfl rfl⟩)))))))))
  | bl z =>
    refine as_ret (ae_if (at_b (ae_cb (aa_cons (ae_var rfl (aa_cons (ae_ty (aa_nil (ac_isi1 ⟨rfl, kb_bool_tuple⟩ ⟨false, rfl, (fun h => absurd (show false = true from h) (by decide)), fun _ => ae_var rfl rfl⟩)))))))))
  | int z =>
    refine as_ret (ae_if (at_b (ae_cb (aa_cons (ae_var rfl (aa_cons (ae_ty (aa_nil (ac_isi1 ⟨rfl, kb_int_tuple⟩ ⟨false, rfl, (fun h => absurd (show false = true from h) (by decide)), fun _ => ae_var rfl rfl⟩)))))))))
  | str z =>
    refine as_ret (ae_if (at_b (ae_cb (aa_cons (ae_var rfl (aa_cons (ae_ty (aa_nil (ac_isi1 ⟨rfl, kb_str_tuple⟩ ⟨false, rfl, (fun h => absurd (show false = true from h) (by decide)), fun _ => ae_var rfl rfl⟩)))))))))
  | ty z =>
    cases hd.ok
  | lst l =>
    refine as_ret (ae_if (at_b (ae_cb (aa_cons (ae_var rfl (aa_cons (ae_ty (aa_nil (ac_isi1 ⟨rfl, kb_list_tuple⟩ ⟨false, rfl, (fun h => absurd (show false = true from h) (by decide)), fun _ => ae_var rfl rfl⟩)))))))))
  | tup l =>
    have h8 : l.length ≤ 830 := ShT.len (k := true) hd
    have z9 : 9000 ≤ sizeLine := by decide
    refine as_ret (ae_if (at_b (ae_cb (aa_cons (ae_var rfl (aa_cons (ae_ty (aa_nil (ac_isi1 ⟨rfl, kb_tuple_tuple⟩ ⟨true, rfl, fun _ => ?_, (fun h => absurd (show true = false from h) (by decide))⟩)))))))))
    refine ae_lcMap Dt.li (ai_tup (ae_var rfl ⟨_, rfl, by omega, fun d hdm => ?_, ?_⟩))
    · refine agv_name (by simp) (ae_call (aa_cons (ae_var rfl (aa_nil ⟨_, ⟨d, rfl, ShT.mem (k := true) hd hdm, ?_, rfl⟩, rfl, rfl⟩))))
      have := hgts_mem hdm
      have hn : hgts l + 1 < n + 1 := hn
      omega
    · rw [← lis_map]
      rfl
theorem all_lists (bl : Blts mg) {f : Addr} {fd : FuncData} (F : Fun K "_law_lists" "_law_lists" s_l_lists f fd) (bG : Binds K fd p_l_lists []) (mG : mg "_law_lists" = some (.ref f)) : ∀ n : Nat, FnOk P w K mg base CX0 n f fd p_l_lists (spP K (S_ll n))
  | 0 => none0 fun vs H Q E h => by
      obtain ⟨_, _, _, _, _, ⟨_, _, _, hk, _⟩, _⟩ := h
      exact Nat.not_lt_zero _ hk
  | n + 1 => ok_l_lists bl ⟨all_lists bl F bG mG n, bG, F.kp, mG⟩ F
end
end Sh
set_option Elab.async false
set_option linter.all false
set_option maxRecDepth 100000
set_option maxHeartbeats 4000000
/-! what holds of the namings that are drawn -/
namespace Sh
open PySem PySem.Spec PyProof.Rows L2
theorem words_ok : ∀ s, s ∈ wordsL → (PyData.strOk s && decide (s.length ≤ 1925)) = true := by
  have h : (wordsL.all fun s => PyData.strOk s && decide (s.length ≤ 1925)) = true := by decide +kernel
  intro s hs
  exact List.all_eq_true.mp h s hs
theorem tls_leaf {l : List Dt} {a : Nat} (h : ∀ d, d ∈ l → d.tl ≤ a) : tls l ≤ l.length * (a + 2) := by
  induction l with
  | nil => exact Nat.zero_le _
  | cons d l ih =>
    have h1 := h d List.mem_cons_self
    have h2 := ih fun d hd => h d (List.mem_cons_of_mem _ hd)
    show d.tl + 2 + tls l ≤ (l.length + 1) * (a + 2)
    rw [Nat.succ_mul]
    omega
theorem cD_tl (c : Option Str) : (cD c).tl = 19255 := by cases c <;> rfl
theorem cD_hg (c : Option Str) : (cD c).hgt = 0 := by cases c <;> rfl
theorem Nmg.Ok.tl {N : Nmg} (h : N.Ok) (k : Bool) : (N.d k).tl ≤ 1300000 := by
  have hc := h.cl
  have hr := h.rl
  have a1 : tls (N.cs.map Dt.int) ≤ N.cs.length * 19257 := by
    have := tls_leaf (l := N.cs.map Dt.int) (a := 19255) fun d hd => by
      obtain ⟨c, _, rfl⟩ := List.mem_map.mp hd
      exact Nat.le_refl _
    rwa [List.length_map] at this
  have a2 : tls (N.rows.map fun r => sq k (r.map cD)) ≤ N.rows.length * 134799 := by
    have := tls_leaf (l := N.rows.map fun r => sq k (r.map cD)) (a := 134797) fun d hd => by
      obtain ⟨r, hr, rfl⟩ := List.mem_map.mp hd
      rw [sq_tl]
      have b := tls_leaf (l := r.map cD) (a := 19255) fun d hd => by
        obtain ⟨c, _, rfl⟩ := List.mem_map.mp hd
        rw [cD_tl]
        exact Nat.le_refl _
      rw [List.length_map, h.rm r hr] at b
      have := h.m6
      have : N.m * (19255 + 2) ≤ 6 * (19255 + 2) := Nat.mul_le_mul_right _ h.m6
      omega
    rwa [List.length_map] at this
  unfold Nmg.d
  rw [sq_tl]
  show ((sq k (N.cs.map Dt.int)).tl + 2 + (19255 + 2 + ((sq k (N.rows.map fun r => sq k (r.map cD))).tl + 2 + 0))) + 19255 ≤ _
  rw [sq_tl, sq_tl]
  have b1 : N.cs.length * 19257 ≤ 6 * 19257 := Nat.mul_le_mul_right _ hc
  have b2 : N.rows.length * 134799 ≤ 7 * 134799 := Nat.mul_le_mul_right _ (by omega)
  omega
theorem Nmg.Ok.hg {N : Nmg} (h : N.Ok) (k : Bool) : (N.d k).hgt ≤ 3 := by
  unfold Nmg.d
  rw [sq_hg]
  refine Nat.succ_le_succ (hgts_le.mpr fun d hd => ?_)
  simp only [List.mem_cons, List.not_mem_nil, or_false] at hd
  rcases hd with rfl | rfl | rfl
  · rw [sq_hg]
    refine Nat.succ_le_succ (hgts_le.mpr fun d hd => ?_)
    obtain ⟨c, _, rfl⟩ := List.mem_map.mp hd
    exact Nat.zero_le _
  · exact Nat.zero_le _
  · rw [sq_hg]
    refine Nat.succ_le_succ (hgts_le.mpr fun d hd => ?_)
    obtain ⟨r, _, rfl⟩ := List.mem_map.mp hd
    rw [sq_hg]
    refine Nat.succ_le_succ (hgts_le.mpr fun d hd => ?_)
    obtain ⟨c, _, rfl⟩ := List.mem_map.mp hd
    rw [cD_hg]
    exact Nat.le_refl _
theorem Nmg.Ok.bn {N : Nmg} (h : N.Ok) (k : Bool) : (N.d k).bnd 200 = true := by
  unfold Nmg.d
  rw [sq_bn]
  refine bnds_iff.mpr fun d hd => ?_
  simp only [List.mem_cons, List.not_mem_nil, or_false] at hd
  rcases hd with rfl | rfl | rfl
  · rw [sq_bn]
    refine bnds_iff.mpr fun d hd => ?_
    obtain ⟨c, hc, rfl⟩ := List.mem_map.mp hd
    have := h.sm c hc
    show decide (c.natAbs ≤ 200) = true
    exact decide_eq_true (by omega)
  · have := h.m6
    show decide (((N.m : Nat) : Int).natAbs ≤ 200) = true
    exact decide_eq_true (by omega)
  · rw [sq_bn]
    refine bnds_iff.mpr fun d hd => ?_
    obtain ⟨r, hr, rfl⟩ := List.mem_map.mp hd
    rw [sq_bn]
    refine bnds_iff.mpr fun d hd => ?_
    obtain ⟨c, hc, rfl⟩ := List.mem_map.mp hd
    cases c with
    | none => rfl
    | some s => exact words_ok s (h.wo r _ hr hc s rfl)
theorem sh_bnd {B : Nat} {d : Dt} (hB : B ≤ 400) (b : d.bnd B = true) (g : d.hgt ≤ 64) (t : d.tl ≤ 16000000) : ShT d := ⟨bnd_okT hB d b, g, t⟩
theorem Nmg.Ok.sh {N : Nmg} (h : N.Ok) (k : Bool) : ShT (N.d k) := sh_bnd (by decide) (h.bn k) (Nat.le_trans (h.hg k) (by decide)) (Nat.le_trans (h.tl k) (by decide))
theorem Nmg.Ok.nam {N : Nmg} (h : N.Ok) : namB (N.d true) = true := by
  have m1 := h.m1
  have e1 : (N.cs.map Dt.int).all wholeB = true := by
    rw [List.all_map]
    exact List.all_eq_true.mpr fun _ _ => rfl
  show nam3 (.tup (N.cs.map Dt.int)) (.int (N.m : Int)) (.tup (N.rows.map fun r => Dt.tup (r.map cD))) = true
  have e2 : rowsB N.cs (N.m : Int) 0 (N.rows.map fun r => Dt.tup (r.map cD)) = true := ?rows
  · have e3 : nam3 (.tup (N.cs.map Dt.int)) (.int (N.m : Int)) (.tup (N.rows.map fun r => Dt.tup (r.map cD))) = (true && ((N.cs.map Dt.int).all wholeB && (ascB ((N.cs.map Dt.int).map toI) && (true && (decide (1 ≤ (N.m : Int)) && (true && (decide ((N.rows.map fun r => Dt.tup (r.map cD)).length = (N.cs.map Dt.int).length + 1) && rowsB ((N.cs.map Dt.int).map toI) (N.m : Int) 0 (N.rows.map fun r => Dt.tup (r.map cD))))))))) := rfl
    rw [e3, e1, toI_ints, h.asc, e2, List.length_map, List.length_map, decide_eq_true h.rl, decide_eq_true (by omega : 1 ≤ (N.m : Int))]
    rfl
  refine rows_all' fun j d hd => ?_
  rw [List.getElem?_map] at hd
  cases hrow : N.rows[j]? with
  | none => rw [hrow] at hd; cases hd
  | some row =>
    rw [hrow] at hd
    cases hd
    have hl := h.rm row (List.mem_of_getElem? hrow)
    show (decide (((row.map cD).length : Int) = (N.m : Int)) && cellsB _ _ _ 0 (row.map cD)) = true
    rw [List.length_map, hl, decide_eq_true rfl, Bool.true_and]
    refine cells_all' fun r d hd => ?_
    rw [List.getElem?_map] at hd
    cases hc : row[r]? with
    | none => rw [hc] at hd; cases hd
    | some c =>
      rw [hc] at hd
      cases hd
      have q : c = none ↔ nonB (voD (loC N.cs j) (hiC N.cs j) (N.m : Int) (r : Int)) = true := h.ce j r c row hrow hc
      unfold cellB
      cases c with
      | none => rw [if_pos (q.mp rfl)]; rfl
      | some s => rw [if_neg (fun z => nomatch q.mpr z)]; rfl
theorem Nmg.Ok.due {N : Nmg} (h : N.Ok) (n : Int) : ∃ row c, N.rows[(N.cs.filter fun c => decide (c ≤ n)).length]? = some row ∧ row[(n.fmod (N.m : Int)).toNat]? = some c := by
  have hp : (N.cs.filter fun c => decide (c ≤ n)).length ≤ N.cs.length := List.length_filter_le _ _
  have m1 := h.m1
  have hr := h.rl
  have e : N.rows[(N.cs.filter fun c => decide (c ≤ n)).length]? = some N.rows[(N.cs.filter fun c => decide (c ≤ n)).length] := List.getElem?_eq_getElem (by omega)
  have f0 := Int.fmod_nonneg_of_pos n (show 0 < (N.m : Int) by omega)
  have f1 := Int.fmod_lt_of_pos n (show 0 < (N.m : Int) by omega)
  have hl := h.rm _ (List.getElem_mem (show (N.cs.filter fun c => decide (c ≤ n)).length < N.rows.length by omega))
  exact ⟨_, _, e, List.getElem?_eq_getElem (by omega)⟩
/-- the matters that the law gives besides -/
def moreL : List Dt := [.tup [], .non, .int 0, .str "a", .tup [.tup [], .int 1, .tup [.tup [.str "a"]]], .tup [.tup [], .int 0, .tup [.tup []]], .tup [.tup [], .bl true, .tup [.tup [.str "a"]]],
  .tup [.lst [], .int 1, .tup [.tup [.str "a"]]], .tup [.tup [.int 0, .int 0], .int 1, .tup [.tup [.str "a"], .tup [.non], .tup [.str "b"]]], .tup [.tup [.int 1, .int 0], .int 1, .tup [.tup [.str "a"], .tup [.str "b"], .tup [.str "c"]]]]
theorem more_sh : ∀ d, d ∈ moreL → ShT d := by
  have h : (moreL.all fun d => d.bnd 300 && (decide (d.hgt ≤ 64) && decide (d.tl ≤ 16000000))) = true := by decide +kernel
  intro d hd
  have := List.all_eq_true.mp h d hd
  rw [Bool.and_eq_true, Bool.and_eq_true] at this
  exact sh_bnd (by decide) this.1 (of_decide_eq_true this.2.1) (of_decide_eq_true this.2.2)
end Sh
set_option Elab.async false
set_option linter.all false
set_option maxRecDepth 100000
set_option maxHeartbeats 4000000
namespace Sh
open PySem PySem.Spec PyProof.Rows L2
abbrev mC (j : Nat) : Stmt := inClass (topS 12) j
theorem scCi : FnScope ["self", "naming", "low", "high", "row", "r", "name"] ["self", "naming"] (defScope (mC 0)) := ⟨rfl, rfl, rfl, by decide +kernel, rfl, by decide +kernel, by decide +kernel⟩
theorem scCm : FnScope ["self", "n", "cut"] ["self", "n"] (defScope (mC 1)) := ⟨rfl, rfl, rfl, by decide +kernel, rfl, by decide +kernel, by decide +kernel⟩
structure CT (K : PySem.W.Frag) (C : Addr) : Prop where
  cl : Cls K C
  n1 : NoAttr K C "cuts"
  n2 : NoAttr K C "m"
  n3 : NoAttr K C "names"
  n4 : NoAttr K C "pairs"
  n5 : NoAttr K C "wholes"
  n6 : NoAttr K C "results"
/-- what a class of cells keeps -/
structure FsOk (fs : List (Str × V)) (xc xn : V) (m : Int) : Prop where
  c : fs.lookup ("cuts" : Str) = some xc
  m : fs.lookup ("m" : Str) = some (V.int m)
  n : fs.lookup ("names" : Str) = some xn
  k : fs.lookup ("class_of" : Str) = none
theorem FsOk.put {fs : List (Str × V)} {xc xn : V} {m : Int} (h : FsOk fs xc xn m) {f : Str} {v : V} (e : (("cuts" : Str) ≠ f ∧ ("m" : Str) ≠ f ∧ ("names" : Str) ≠ f ∧ ("class_of" : Str) ≠ f)) : FsOk (putF f v fs) xc xn m := by
  obtain ⟨a, b, c, d⟩ := e
  exact ⟨by rw [lookup_putF, if_neg a]; exact h.c, by rw [lookup_putF, if_neg b]; exact h.m, by rw [lookup_putF, if_neg c]; exact h.n, by rw [lookup_putF, if_neg d]; exact h.k⟩
/-- in the loops only the list of pairs grows -/
structure LI (G H3 : Hp) (o lp : Addr) (ob : HO) (H4 : Hp) (n : Nat) : Prop where
  sm : Same G H4
  ob : H4 o = some ob
  ls : ∃ ys, H4 lp = some (.lst ys) ∧ ys.length ≤ n
  old : ∀ a v, a ≠ lp → H3 a = some v → H4 a = some v
theorem LI.on {G H3 H4 H5 : Hp} {o lp : Addr} {ob : HO} {n : Nat} (l : LI G H3 o lp ob H4 n) (s : Same H4 H5) : LI G H3 o lp ob H5 n := by
  obtain ⟨ys, e, h⟩ := l.ls
  exact ⟨l.sm.trans s, s _ _ l.ob, ⟨ys, s _ _ e, h⟩, fun a v ne z => s _ _ (l.old a v ne z)⟩
theorem LI.more {G H3 H4 : Hp} {o lp : Addr} {ob : HO} {n : Nat} {ys : List V} {y : V} (l : LI G H3 o lp ob H4 n) (gl : G lp = none) (ne : lp ≠ o) (e : H4 lp = some (.lst ys)) : LI G H3 o lp ob (upd H4 lp (.lst (ys ++ [y]))) (n + 1) := by
  obtain ⟨ys', e', h⟩ := l.ls
  rw [e] at e'
  cases e'
  refine ⟨fun a v z => ?_, by rw [upd_ne ne.symm]; exact l.ob, ⟨_, upd_same, by rw [List.length_append]; exact Nat.succ_le_succ h⟩, fun a v n z => by rw [upd_ne n]; exact l.old a v n z⟩
  rw [upd_ne (fun w => by rw [w, gl] at z; cases z)]
  exact l.sm _ _ z
theorem LI.up {G H3 H4 : Hp} {o lp : Addr} {ob : HO} {n m : Nat} (l : LI G H3 o lp ob H4 n) (h : n ≤ m) : LI G H3 o lp ob H4 m := by
  obtain ⟨ys, e, h'⟩ := l.ls
  exact ⟨l.sm, l.ob, ⟨ys, e, Nat.le_trans h' h⟩, l.old⟩
def spCi (K : PySem.W.Frag) (C : Addr) : Sp := fun vs H Q _ => ∃ (o dx : Addr) (x : V) (N : Nmg) (G : Hp), vs = [.ref o, x] ∧ H o = some (.ins C dx []) ∧ Same G H ∧ G o = none ∧ RD K G (N.d true) x ∧ N.Ok ∧
  ∀ H' fs xc xn, (∀ a v, a ≠ o → H a = some v → H' a = some v) → H' o = some (.ins C dx fs) → FsOk fs xc xn (N.m : Int) → RD K G (.tup (N.cs.map Dt.int)) xc → RD K G (.tup (N.rows.map fun r => .tup (r.map cD))) xn → Q .non H'
section
variable {P : Program} {w : World} {K : PySem.W.Frag} {mg : Str → Option Value} {base : Heap}
variable {C : Addr}
theorem ok_Ci (bl : Blts mg) {g_stretches : Addr} {d_stretches : FuncData} (c_stretches : Cal P w K mg base 1 "stretches" p_stretches (spP K S_str) g_stretches d_stretches) {g_value_of : Addr} {d_value_of : FuncData} (c_value_of : Cal P w K mg base 3 "value_of" p_value_of (spP K S_vo) g_value_of d_value_of) {f : Addr} {fd : FuncData} (F : Fun K "__init__" "Cells.__init__" (mC 0) f fd) (t : CT K C) : FnOk P w K mg base CX0 4 f fd ["self", "naming"] (spCi K C) := by
  refine F.ok (k := 3) scCi (fun vs H Q E h => ?_) (fun cdv A outer s H vs Q E hr h => ?_)
  · obtain ⟨o, dx, x, N, G, rfl, _⟩ := h
    rfl
  obtain ⟨o, dx, x, N, G, rfl, ho, sm, go, rx, hN, q⟩ := h
  refine ⟨_, (pss_cons (ps_asg (pv 1) (pg_tup rfl (pgs_cons (pg_fld (pv 0)) (pgs_cons (pg_fld (pv 0)) (pgs_cons (pg_fld (pv 0)) pgs_nil)))))
    (pss_cons (ps_fld (pv 0) (pe_lst pa_nil) rfl)
    (pss_cons (ps_for PassesOwn.never rfl (pi_zipK rfl bl.zip (pa_cons (pe_call c_stretches.ok (hr.mono (by decide)) rfl c_stretches.mg c_stretches.kp c_stretches.bi .nil pass0 (pa_cons (pe_fld (pv 0) rfl) pa_nil)) (pa_cons (pe_fld (pv 0) rfl) pa_nil))) (pg_tup rfl (pgs_cons (pg_tup rfl (pgs_cons (pg_name (i := 2) scCi.nd rfl (by first | exact Or.inl rfl | exact Or.inr rfl)) (pgs_cons (pg_name (i := 3) scCi.nd rfl (by first | exact Or.inl rfl | exact Or.inr rfl)) pgs_nil))) (pgs_cons (pg_name (i := 4) scCi.nd rfl (by first | exact Or.inl rfl | exact Or.inr rfl)) pgs_nil))) (pss_one (ps_for PassesOwn.never rfl (pi_enT rfl bl.enumerate (pa_cons (pv 4) pa_nil)) (pg_tup rfl (pgs_cons (pg_name (i := 5) scCi.nd rfl (by first | exact Or.inl rfl | exact Or.inr rfl)) (pgs_cons (pg_name (i := 6) scCi.nd rfl (by first | exact Or.inl rfl | exact Or.inr rfl)) pgs_nil))) (pss_one (ps_if (pt_cmpR op_notN (pv 6) pe_non (nomark _)) (pss_one (ps_expr (pe_bm PySem.F.plainAttrs_list PySem.F.slot_list_append PySem.F.type_list_append mt_append (pe_fld (pv 0) rfl) (pa_cons (pe_tup (pa_cons (pe_call c_value_of.ok (hr.mono (by decide)) rfl c_value_of.mg c_value_of.kp c_value_of.bi .nil pass0 (pa_cons (pv 2) (pa_cons (pv 3) (pa_cons (pe_fld (pv 0) rfl) (pa_cons (pv 5) pa_nil))))) (pa_cons (pv 6) pa_nil))) pa_nil)))) pss_nil)))))
    (pss_cons (ps_fld (pv 0) pe_dnewK rfl)
    (pss_one (ps_fld (pv 0) pe_dnewK rfl)))))), ?_⟩
  obtain ⟨a, _, rfl, ha, xc, _, rfl, rc, xm, _, rfl, rm, xn, _, rfl, rn, rz⟩ := rx
  cases rz
  cases rm
  have hm6 := hN.m6
  have hcl := hN.cl
  have hrl := hN.rl
  have nG : ∀ {p : Addr} {v : HO}, G p = some v → p ≠ o := fun e z => by rw [z, go] at e; cases e
  refine ⟨_, rfl, a, _, rfl, same_sqT sm ha, rfl, ?_⟩
  refine ⟨_, _, rfl, _, rfl, o, C, dx, _, rfl, ho, t.cl, t.n1, (by show 0 < 1000; decide), ?_⟩
  have z1 := length_putF "cuts" xc []
  refine ⟨_, _, rfl, _, rfl, o, C, dx, _, rfl, upd_same, t.cl, t.n2, (Nat.lt_of_le_of_lt z1 (by decide)), ?_⟩
  have z2 := length_putF "m" (V.int (N.m : Int)) (putF "cuts" xc [])
  refine ⟨_, _, rfl, _, rfl, o, C, dx, _, rfl, upd_same, t.cl, t.n3, (by have : ([] : List (Str × V)).length = 0 := rfl; omega), rfl, ?_⟩
  have z3 := length_putF "names" xn (putF "m" (V.int (N.m : Int)) (putF "cuts" xc []))
  have f3 : FsOk (putF "names" xn (putF "m" (V.int (N.m : Int)) (putF "cuts" xc []))) xc xn (N.m : Int) := by
    have a1 : ¬ ("cuts" : Str) = "names" := by decide +kernel
    have a2 : ¬ ("cuts" : Str) = "m" := by decide +kernel
    have a3 : ¬ ("m" : Str) = "names" := by decide +kernel
    have a4 : ¬ ("class_of" : Str) = "names" := by decide +kernel
    have a5 : ¬ ("class_of" : Str) = "m" := by decide +kernel
    have a6 : ¬ ("class_of" : Str) = "cuts" := by decide +kernel
    refine ⟨?_, ?_, ?_, ?_⟩
    · rw [lookup_putF, if_neg a1, lookup_putF, if_neg a2, lookup_putF, if_pos rfl]
    · rw [lookup_putF, if_neg a3, lookup_putF, if_pos rfl]
    · rw [lookup_putF, if_pos rfl]
    · rw [lookup_putF, if_neg a4, lookup_putF, if_neg a5, lookup_putF, if_neg a6]
      rfl
  have l3 : (putF "names" xn (putF "m" (V.int (N.m : Int)) (putF "cuts" xc []))).length ≤ 3 := by have : ([] : List (Str × V)).length = 0 := rfl; omega
  generalize putF "names" xn (putF "m" (V.int (N.m : Int)) (putF "cuts" xc [])) = fs3 at f3 l3 ⊢
  clear z1 z2 z3
  have h1 : (upd (upd (upd H o (.ins C dx (putF "cuts" xc []))) o (.ins C dx (putF "m" (V.int (N.m : Int)) (putF "cuts" xc [])))) o (.ins C dx fs3)) o = some (.ins C dx fs3) := upd_same
  have k1 : ∀ p, p ≠ o → (upd (upd (upd H o (.ins C dx (putF "cuts" xc []))) o (.ins C dx (putF "m" (V.int (N.m : Int)) (putF "cuts" xc [])))) o (.ins C dx fs3)) p = H p := fun p n => by rw [upd_ne n, upd_ne n, upd_ne n]
  generalize (upd (upd (upd H o (.ins C dx (putF "cuts" xc []))) o (.ins C dx (putF "m" (V.int (N.m : Int)) (putF "cuts" xc [])))) o (.ins C dx fs3)) = H1 at h1 k1 ⊢
  refine ⟨Nat.zero_le _, fun lp hlp => ?_⟩
  have nlp : lp ≠ o := fun z => by rw [z, h1] at hlp; cases hlp
  have hlp0 : H lp = none := by rw [← k1 lp nlp]; exact hlp
  refine ⟨_, rfl, o, C, dx, _, rfl, Eq.trans (upd_ne nlp.symm) h1, t.cl, t.n4, (by omega), ?_⟩
  have f4 : FsOk (putF "pairs" (.ref lp) fs3) xc xn (N.m : Int) := f3.put ⟨by decide +kernel, by decide +kernel, by decide +kernel, by decide +kernel⟩
  have p4 : (putF "pairs" (.ref lp) fs3).lookup ("pairs" : Str) = some (.ref lp) := by rw [lookup_putF, if_pos rfl]
  have l4 : (putF "pairs" (.ref lp) fs3).length ≤ 4 := by have := length_putF "pairs" (.ref lp) fs3; omega
  generalize putF "pairs" (.ref lp) fs3 = fs4 at f4 p4 l4 ⊢
  have h2 : (upd (upd H1 lp (.lst [])) o (.ins C dx fs4)) o = some (.ins C dx fs4) := upd_same
  have g2 : (upd (upd H1 lp (.lst [])) o (.ins C dx fs4)) lp = some (.lst []) := by rw [upd_ne nlp]; exact upd_same
  have k2 : ∀ p v, p ≠ o → H p = some v → (upd (upd H1 lp (.lst [])) o (.ins C dx fs4)) p = some v := fun p v n e => by
    rw [upd_ne n, upd_ne (ne_of_none e hlp0), k1 p n]
    exact e
  generalize (upd (upd H1 lp (.lst [])) o (.ins C dx fs4)) = H2 at h2 g2 k2 ⊢
  have gl : G lp = none := by
    cases e : G lp with
    | none => rfl
    | some v => rw [sm _ _ e] at hlp0; cases hlp0
  have sm2 : Same G H2 := fun p v e => k2 p v (nG e) (sm _ _ e)
  refine ⟨_, rfl, o, C, dx, fs4, xc, rfl, h2, t.cl, t.n1, f4.c, ?_⟩
  refine ⟨G, [.tup (N.cs.map Dt.int)], _, sm2, ⟨xc, [], rfl, rc, rfl⟩, ⟨N.cs, rfl, by omega, rfl⟩, fun v G1 H3 nw rv => ?_⟩
  have h3 := nw.h _ _ h2
  have g3 := nw.h _ _ g2
  have go1 : G1 o = none := nw.f o go (some_ne h2)
  have gl1 : G1 lp = none := nw.f lp gl (some_ne g2)
  refine ⟨_, rfl, o, C, dx, fs4, xn, rfl, h3, t.cl, t.n3, f4.n, ?_⟩
  obtain ⟨b, ys, rfl, hb, rys⟩ := rv
  have rn1 := RD.same nw.g rn
  obtain ⟨b2, ys2, e2, hb2, rys2⟩ := rn1
  subst e2
  refine ⟨b, b2, ys, ys2, false, true, rfl, SqL.of (nw.s _ _ hb), same_sqT nw.s hb2, ?_⟩
  have wj : Wj K (ItzK K false true b b2) (zpD (strL N.cs) (N.rows.map fun r => Dt.tup (r.map cD))) G1 := wj_zipK (K := K) (k1 := false) (k2 := true) (SqL.of hb) hb2 rys rys2
  have zl : (zpD (strL N.cs) (N.rows.map fun r => Dt.tup (r.map cD))).length = N.cs.length + 1 := by
    rw [zpD_len, strL_len, List.length_map, hrl, Nat.min_self]
  refine for_it wj.walk (fun i σ2 H4 => ∃ e2 e3 e4 e5 e6, σ2 = [some (.ref o), some (.ref a), e2, e3, e4, e5, e6] ∧ LI G1 H3 o lp (.ins C dx fs4) H4 (6 * i)) ⟨_, _, _, _, _, rfl, nw.s, h3, ⟨[], g3, Nat.zero_le _⟩, fun _ _ _ z => z⟩ (fun i σ2 H4 _ ⟨_, _, _, _, _, _, l⟩ => l.sm) ?_ ?_
  · rintro i y σ2 H4 H5 hi ⟨e2, e3, e4, e5, e6, rfl, l⟩ yl
    obtain ⟨G5, d, n5, hd, rd⟩ := yl G1 (Same.refl _) l.sm
    have hi2 : i ≤ N.cs.length := by omega
    obtain ⟨row, hrow⟩ : ∃ row, N.rows[i]? = some row := ⟨_, List.getElem?_eq_getElem (by omega)⟩
    rw [zpD_get (strL_get hi2) (show (N.rows.map fun r => Dt.tup (r.map cD))[i]? = some (.tup (row.map cD)) by rw [List.getElem?_map, hrow]; rfl)] at hd
    cases hd
    have hrm : row.length ≤ 6 := by rw [hN.rm row (List.mem_of_getElem? hrow)]; exact hm6
    generalize loC N.cs i = lo at rd
    generalize hiC N.cs i = hi at rd
    obtain ⟨a5, _, rfl, ha5, x1, _, rfl, ⟨a6, _, rfl, ha6, xl, _, rfl, rl, xh, _, rfl, rh, rz⟩, x2, _, rfl, ⟨a7, rs, rfl, ha7, rrs⟩, rz2⟩ := rd
    cases rz
    cases rz2
    have l5 := l.on n5.h
    have g05 : G5 o = none := n5.f o go1 (some_ne l.ob)
    have gl5 : G5 lp = none := by
      obtain ⟨zs, e, _⟩ := l.ls
      exact n5.f lp gl1 (some_ne e)
    refine ⟨a5, _, rfl, same_sqT n5.s ha5, rfl, _, _, rfl, a6, _, rfl, same_sqT n5.s ha6, rfl, _, _, rfl, ?_⟩
    refine ⟨_, _, rfl, rfl, _, _, rfl, rfl, ?_⟩
    refine ⟨_, rfl, a7, rs, rfl, same_sqT n5.s ha7, ?_⟩
    have wj5 : Wj K (ItT K a7) (enD (row.map cD)) G5 := wj_enT (K := K) ha7 rrs
    have el : (enD (row.map cD)).length = row.length := by rw [enD_len, List.length_map]
    refine for_it wj5.walk (fun j σ3 H6 => ∃ e5 e6, σ3 = [some (.ref o), some (.ref a), some xl, some xh, some (.ref a7), e5, e6] ∧ LI G5 H3 o lp (.ins C dx fs4) H6 (6 * i + j)) ⟨_, _, rfl, n5.s, l5.ob, l5.ls, l5.old⟩ (fun j σ3 H6 _ ⟨_, _, _, l⟩ => l.sm) ?_ ?_
    · rintro j z σ3 H6 H7 hj ⟨e5, e6, rfl, l6⟩ yl6
      obtain ⟨G7, d7, n7, hd7, rd7⟩ := yl6 G5 (Same.refl _) l6.sm
      obtain ⟨c, hc⟩ : ∃ c, row[j]? = some c := ⟨_, List.getElem?_eq_getElem (by omega)⟩
      rw [enD_get (show (row.map cD)[j]? = some (cD c) by rw [List.getElem?_map, hc]; rfl)] at hd7
      cases hd7
      obtain ⟨a8, _, rfl, ha8, xr, _, rfl, rr, xq, _, rfl, rq, rz⟩ := rd7
      cases rz
      cases rr
      have l7 := l6.on n7.h
      refine ⟨a8, _, rfl, same_sqT n7.s ha8, rfl, _, _, rfl, _, _, rfl, rfl, ?_⟩
      refine ⟨_, rfl, rfl, _, rfl, ?_⟩
      cases c with
      | none =>
        cases (show xq = .non from rq)
        rw [if_neg (by simp)]
        exact ⟨_, _, rfl, l7.up (by omega)⟩
      | some tx =>
        cases (show xq = .str tx from rq)
        rw [if_pos (by simp)]
        obtain ⟨ps, hps, hpl⟩ := l7.ls
        refine ⟨_, rfl, o, C, dx, fs4, _, rfl, l7.ob, t.cl, t.n4, p4, .inl ⟨rfl, _, SqL.of hps⟩, ?_⟩
        refine ⟨_, rfl, _, rfl, _, rfl, o, C, dx, fs4, _, rfl, l7.ob, t.cl, t.n2, f4.m, _, rfl, ?_⟩
        refine ⟨G7, [oD lo, oD hi, .int (N.m : Int), .int (j : Int)], _, n7.s, ⟨xl, _, rfl, (rl.same n7.g), xh, _, rfl, rh.same n7.g, _, _, rfl, rfl, _, _, rfl, rfl, rfl⟩, ⟨lo, hi, _, _, rfl, rfl⟩, fun v8 G8 H8 n8 rv8 => ?_⟩
        refine ⟨_, rfl, (by show 2 ≤ sizeLine; decide), fun p hp => ?_⟩
        have l8 := (l7.on n8.h).on (same_up (o := .tup [v8, .str tx]) hp)
        have gl7 : G5 lp = none := gl5
        have hps2 := same_up (o := .tup [v8, .str tx]) hp _ _ (n8.h _ _ hps)
        have z16 : 100 < sizeLine := by decide
        refine ⟨lp, ps, _, rfl, rfl, hps2, (by omega), ?_⟩
        exact ⟨_, _, rfl, (l8.more gl7 nlp hps2).up (by omega)⟩
    · rintro σ3 H6 ⟨e5, e6, rfl, l6⟩
      rw [el] at l6
      exact ⟨_, _, _, _, _, rfl, (⟨n5.g.trans l6.sm, l6.ob, l6.ls, l6.old⟩ : LI G1 H3 o lp (.ins C dx fs4) H6 (6 * i + row.length)).up (by omega)⟩
  · rintro σ2 H4 ⟨e2, e3, e4, e5, e6, rfl, l⟩
    have s01 : ∀ p v, p ≠ o → H p = some v → H4 p = some v := fun p v n e => l.old p v (ne_of_none e hlp0) (nw.h _ _ (k2 p v n e))
    refine fun dw hdw => ⟨_, rfl, o, C, dx, fs4, rfl, ?_⟩
    have ndw : dw ≠ o := fun z => by rw [z, l.ob] at hdw; cases hdw
    refine ⟨Eq.trans (upd_ne ndw.symm) l.ob, t.cl, t.n5, by omega, ?_⟩
    have f5 : FsOk (putF "wholes" (.ref dw) fs4) xc (V.ref b2) (N.m : Int) := f4.put ⟨by decide +kernel, by decide +kernel, by decide +kernel, by decide +kernel⟩
    have l5 : (putF "wholes" (.ref dw) fs4).length ≤ 5 := by have := length_putF "wholes" (.ref dw) fs4; omega
    generalize putF "wholes" (.ref dw) fs4 = fs5 at f5 l5 ⊢
    have h6 : (upd (upd H4 dw (.dK [])) o (.ins C dx fs5)) o = some (.ins C dx fs5) := upd_same
    have k6 : ∀ p v, p ≠ o → H p = some v → (upd (upd H4 dw (.dK [])) o (.ins C dx fs5)) p = some v := fun p v n e => by
      rw [upd_ne n, upd_ne (ne_of_none (s01 p v n e) hdw)]
      exact s01 p v n e
    generalize (upd (upd H4 dw (.dK [])) o (.ins C dx fs5)) = H6 at h6 k6 ⊢
    refine fun dr hdr => ⟨_, rfl, o, C, dx, fs5, rfl, ?_⟩
    have ndr : dr ≠ o := fun z => by rw [z, h6] at hdr; cases hdr
    refine ⟨Eq.trans (upd_ne ndr.symm) h6, t.cl, t.n6, by omega, ?_⟩
    have f6 : FsOk (putF "results" (.ref dr) fs5) xc (V.ref b2) (N.m : Int) := f5.put ⟨by decide +kernel, by decide +kernel, by decide +kernel, by decide +kernel⟩
    refine q _ _ xc (V.ref b2) (fun p v n e => ?_) upd_same f6 rc rn
    rw [upd_ne n, upd_ne (ne_of_none (k6 p v n e) hdr)]
    exact k6 p v n e
/-- how many cuts lie at or below n -/
def posN (cs : List Int) (n : Int) : Nat := (cs.filter fun c => decide (c ≤ n)).length
def spCm (K : PySem.W.Frag) (C : Addr) : Sp := fun vs H Q _ => ∃ (o dx : Addr) (n : Int) (N : Nmg) (G : Hp) (fs : List (Str × V)) (xc xn : V) (row : List (Option Str)) (c : Option Str), vs = [.ref o, .int n] ∧ H o = some (.ins C dx fs) ∧ FsOk fs xc xn (N.m : Int) ∧ Same G H ∧ RD K G (.tup (N.cs.map Dt.int)) xc ∧ RD K G (.tup (N.rows.map fun r => .tup (r.map cD))) xn ∧ N.Ok ∧
  N.rows[posN N.cs n]? = some row ∧ row[(n.fmod (N.m : Int)).toNat]? = some c ∧ ∀ v H', Same H H' → RD K G (cD c) v → Q v H'
theorem ok_Cm (bl : Blts mg) {f : Addr} {fd : FuncData} (F : Fun K "class_of" "Cells.class_of" (mC 1) f fd) (t : CT K C) : FnOk P w K mg base CX0 1 f fd ["self", "n"] (spCm K C) := by
  refine F.ok (k := 0) scCm (fun vs H Q E h => ?_) (fun cdv A outer s H vs Q E hr h => ?_)
  · obtain ⟨o, dx, n, N, G, fs, xc, xn, row, c, rfl, _⟩ := h
    rfl
  obtain ⟨o, dx, n, N, G, fs, xc, xn, row, c, rfl, ho, hf, sm, rc, rn, hN, hrow, hc, q⟩ := h
  refine ⟨_, (pss_one (ps_ret (pe_ix ix_tup (pe_ix ix_tup (pe_fld (pv 0) rfl) (pe_callB call_len_seq rfl bl.len (by decide +kernel) (pa_cons (pe_lc (own := [("cut", 2)]) (g := gName 2) (te := tVar 2) (tt := tTest (tOp (rI0 fun i j => .bl (decide (i ≤ j))) (tVar 2) (tVar 1))) rfl scCm.nd (pi_tup (pe_fld (pv 0) rfl)) (blkOk_by (N := ["self", "n", "cut"]) (sc := defScope (mC 1)) (by decide +kernel)) (fun _ _ _ _ _ => (pg_name (i := 2) scCm.nd rfl (by first | exact Or.inl rfl | exact Or.inr rfl))) (fun _ _ _ _ _ => (pts_one (pt_cmpR op_le (pv 2) (pv 1) (nomark _)))) (fun _ _ _ _ _ => (pv 2))) pa_nil)) (fun _ _ => rfl)) (pe_op op_modN (pv 1) (pe_fld (pv 0) rfl)) (fun _ _ => rfl)))), ?_⟩
  have hcl := hN.cl
  have hm1 := hN.m1
  obtain ⟨a, xs, rfl, ha, rxs⟩ := rn
  obtain ⟨b, ys, rfl, hb, rys⟩ := rc
  refine ⟨_, rfl, o, C, dx, _, _, rfl, ho, t.cl, t.n3, hf.n, ?_⟩
  refine ⟨_, rfl, o, C, dx, _, _, rfl, ho, t.cl, t.n1, hf.c, b, rfl, ⟨ys, same_sqT sm hb⟩, ?_⟩
  have wj : Wj K (Itt K b) (N.cs.map Dt.int) G := wj_tup hb rys
  intro D hD
  refine lc_it wj.walk (fun i H2 => ∃ zs, H2 D = some (.lst zs) ∧ zs.length = ((N.cs.take i).filter fun c => decide (c ≤ n)).length ∧ Same H H2) ⟨[], upd_same, rfl, same_up hD⟩ (fun i H2 _ ⟨_, _, _, s⟩ => sm.trans s) ?_ ?_
  · rintro i x H2 H3 hi ⟨zs, ez, lz, s2⟩ yl
    obtain ⟨G3, d, n3, hd, rd⟩ := yl G (Same.refl _) (sm.trans s2)
    rw [List.length_map] at hi
    rw [List.getElem?_map, List.getElem?_eq_getElem hi] at hd
    cases hd
    cases rd
    have z16 : 100 < sizeLine := by decide
    have few : ((N.cs.take i).filter fun c => decide (c ≤ n)).length ≤ 6 := Nat.le_trans (List.length_filter_le _ _) (by rw [List.length_take]; omega)
    refine ⟨rfl, _, rfl, _, rfl, _, _, rfl, rfl, _, rfl, ?_⟩
    show (if decide (N.cs[i] ≤ n) = true then _ else _)
    rw [List.take_add_one, List.getElem?_eq_getElem hi, List.filter_append, List.length_append]
    have sD : Same H (upd H3 D (.lst (zs ++ [V.int N.cs[i]]))) := fun p v e => by
      rw [upd_ne (fun z => by rw [z, hD] at e; cases e)]
      exact n3.h _ _ (s2 _ _ e)
    by_cases h : N.cs[i] ≤ n
    · rw [if_pos (decide_eq_true h)]
      refine ⟨_, rfl, zs, n3.h _ _ ez, by omega, _, upd_same, ?_, sD⟩
      rw [List.length_append, lz]
      show _ = _ + (([N.cs[i]] : List Int).filter fun c => decide (c ≤ n)).length
      rw [List.filter_cons, if_pos (decide_eq_true h)]
      rfl
    · rw [if_neg (by rw [decide_eq_false h]; decide)]
      refine ⟨zs, n3.h _ _ ez, ?_, s2.trans n3.h⟩
      show _ = _ + (([N.cs[i]] : List Int).filter fun c => decide (c ≤ n)).length
      rw [List.filter_cons, if_neg (by rw [decide_eq_false h]; decide), lz]
      rfl
  · rintro H2 ⟨zs, ez, lz, s2⟩
    rw [List.length_map, List.take_length] at lz
    have s3 := sm.trans s2
    obtain ⟨vr, g1, b2, ws, rfl, hb2, rws⟩ := rxs.get (i := posN N.cs n) (d := .tup (row.map cD)) (by rw [List.getElem?_map, hrow]; rfl)
    have m0 : 0 < (N.m : Int) := by omega
    have f0 := Int.fmod_nonneg_of_pos n m0
    obtain ⟨vc, g2, r2⟩ := rws.get (i := (n.fmod (N.m : Int)).toNat) (d := cD c) (by rw [List.getElem?_map, hc]; rfl)
    refine ⟨D, zs, rfl, .inl (SqL.of ez), a, xs, _, _, rfl, rfl, same_sqT s3 ha, (by rw [lz]; exact atI_nat g1), ?_⟩
    refine ⟨_, rfl, _, rfl, o, C, dx, _, _, rfl, s2 _ _ ho, t.cl, t.n2, hf.m, _, _, rfl, rfl, by omega, ?_⟩
    refine ⟨b2, ws, _, _, rfl, rfl, same_sqT s3 hb2, (show atI ws (n.fmod (N.m : Int)) = some vc from ?_), q _ _ s2 r2⟩
    rw [show n.fmod (N.m : Int) = (((n.fmod (N.m : Int)).toNat : Nat) : Int) by omega]
    exact atI_nat g2
end
end Sh
set_option Elab.async false
set_option linter.all false
set_option maxRecDepth 100000
set_option maxHeartbeats 4000000
namespace Sh
open PySem PySem.Spec PyProof.Rows L2
abbrev s_class_of : Stmt := topS 19
abbrev N_class_of : List Str := ["naming", "n"]
abbrev p_class_of : List Str := ["naming", "n"]
theorem sc_class_of : FnScope N_class_of p_class_of (defScope s_class_of) := ⟨rfl, rfl, rfl, by decide +kernel, rfl, by decide +kernel, by decide +kernel⟩
/-- a method -/
structure MtC (P : Program) (w : World) (K : PySem.W.Frag) (mg : Str → Option Value) (base : Heap) (n : Nat) (C : Addr) (m : Str) (ps : List Str) (sp : Sp) (g : Addr) (gd : FuncData) : Prop where
  ok : FnOk P w K mg base CX0 n g gd ps sp
  bi : Binds K gd ps []
  me : Meth K C m g
def S_cof (ds : List Dt) (res : Dt) : Prop := ∃ k N, ∃ (n : Int) (row : List (Option Str)) (c : Option Str), ds = [Nmg.d N k, .int n] ∧ N.Ok ∧ N.rows[posN N.cs n]? = some row ∧ row[(n.fmod (N.m : Int)).toNat]? = some c ∧ res = cD c
section
variable {P : Program} {w : World} {K : PySem.W.Frag} {mg : Str → Option Value} {base : Heap}
theorem ok_class_of (bl : Blts mg) {g_as_tuples : Addr} {d_as_tuples : FuncData} (c_as_tuples : Cal P w K mg base 20 "as_tuples" p_as_tuples (spP K (S_as 4)) g_as_tuples d_as_tuples) {C fI gM : Addr} {dI dM : FuncData} (t : CT K C) (M : Mk K C fI) (mC' : mg "Cells" = some (.ref C)) (GI : FnOk P w K mg base CX0 4 fI dI ["self", "naming"] (spCi K C)) (bI : Binds K dI ["self", "naming"] []) (GM : MtC P w K mg base 1 C "class_of" ["self", "n"] (spCm K C) gM dM) {f : Addr} {fd : FuncData} (F : Fun K "class_of" "class_of" s_class_of f fd) : FnOk P w K mg base CX0 21 f fd p_class_of (spP K S_cof) := by
  refine Fun.ok (k := 20) F sc_class_of (fun vs H Q E h => ?_) (fun cdv A outer s H vs Q E hr h => ?_)
  · obtain ⟨G, ds, r, sm, rd, ⟨k, N, n, row, c, rfl, _⟩, _⟩ := h
    rw [rd.length]
    rfl
  obtain ⟨G, ds, r, sm, rd, ⟨k, N, n, row, c, rfl, hN, hrow, hc, rfl⟩, q⟩ := h
  refine ⟨_, pss_one (ps_ret (pe_meth (pe_make M GI (hr.mono (by decide)) rfl mC' bI .nil pass0 (pa_cons (pe_call c_as_tuples.ok (hr.mono (by decide)) rfl c_as_tuples.mg c_as_tuples.kp c_as_tuples.bi .nil pass0 (pa_cons (pv 0) pa_nil)) pa_nil)) t.cl GM.me GM.ok (hr.mono (by decide)) GM.bi .nil pass0 (pa_cons (pv 1) pa_nil))), ?_⟩
  obtain ⟨x, y, rfl, rx, ry⟩ := rd.two
  cases ry
  refine ⟨_, rfl, G, [N.d k], _, sm, ⟨x, [], rfl, rx, rfl⟩, ⟨_, rfl, N.as k, rfl⟩, fun z G1 H1 nw rz => ?_⟩
  rw [N.tu] at rz
  intro o dx no ndx nxo
  have g0 : G1 o = none := nw.s.free no
  have s1 : Same H1 (upd (upd H1 dx (.own o)) o (.ins C dx [])) := fun p v e => by
    rw [upd_ne (ne_of_none e no), upd_ne (ne_of_none e ndx)]
    exact e
  have no' : (upd H1 dx (.own o)) o = none := by rw [upd_ne nxo.symm]; exact no
  refine ⟨o, dx, z, N, G1, rfl, upd_same, nw.s.trans s1, g0, rz, hN, fun H2 fs xc xn keep ho hf rc rn => ⟨rfl, o, dx, fs, rfl, ho, hf.k, _, rfl, ?_⟩⟩
  have s2 : Same H1 H2 := fun p v e => keep p v (ne_of_none e no) (s1 _ _ e)
  refine ⟨o, dx, n, N, G1, fs, xc, xn, row, c, rfl, ho, hf, nw.s.trans s2, rc, rn, hN, hrow, hc, fun v H3 s3 rv => ?_⟩
  exact q v G1 H3 ⟨nw.g, (nw.s.trans s2).trans s3, (nw.h.trans s2).trans s3, nw.f⟩ rv
end
end Sh
set_option Elab.async false
set_option linter.all false
set_option maxRecDepth 100000
set_option maxHeartbeats 4000000
namespace Sh
open PySem PySem.Spec PyProof.Rows L2
abbrev s_l_right : Stmt := topS 32
abbrev N_l_right : List Str := ["_law_box_here", "_law_mine", "_law_words", "_law_row", "_law_soft", "_law_spot", "_law_some", "_law_turn", "_law_matter", "_law_cuts_so", "_law_size", "_law_names_so", "_law_due", "_law_bent_here", "_law_kept_so", "_law_word", "_law_part"]
abbrev p_l_right : List Str := ["_law_box_here"]
theorem sc_l_right : FnScope N_l_right p_l_right (defScope s_l_right) := ⟨rfl, rfl, rfl, by decide +kernel, rfl, by decide +kernel, by decide +kernel⟩
def domR (ds : List Dt) : Prop := ds = []
def postR (ds : List Dt) (d : Dt) : Prop := d = .bl true
theorem as_ownCat {K : PySem.W.Frag} {ρ : List En} {N : List En → Prop} {R : Dt → List En → Prop} {ta tb : TE} {i : Nat} (h : AE K ta ρ fun d ρ1 => ∃ l, d = .lst l ∧ AE K tb ρ1 fun e ρ2 => ∃ m, e = .lst m ∧ l.length + m.length ≤ sizeLine ∧ N (ρ2.set i (.own (l ++ m)))) : AS K (tAsg (tOp rCat ta tb) (gName i)) ρ N R := fun B σ G H m D qn qr =>
  h B σ G H m _ fun v d ρ1 G1 H1 m1 s1 t1 r1 ⟨l, ed, h1⟩ => h1 B σ G1 H1 m1 _ fun u e ρ2 G2 H2 m2 s2 t2 r2 ⟨k, ee, z, n⟩ => by
    subst ed ee
    obtain ⟨a, xs, rfl, g1, g2⟩ := r1.same s2
    obtain ⟨b, ys, rfl, g3, g4⟩ := r2
    refine ⟨a, b, xs, ys, rfl, rfl, m2.sub _ _ g1, m2.sub _ _ g3, (by rw [g2.length, g4.length]; exact z), fun p hp => ?_⟩
    exact qn _ _ G2 _ (m2.setOwn i hp (g2.app g4)) (s1.trans s2) ((t1.trans t2).trans (Tr.same (same_up hp))) n
theorem ae_callK2 {K : PySem.W.Frag} {ρ : List En} {Ψ : Dt → List En → Prop} {E : XK} {tk : TA} {S : List Dt → Dt → Prop} {m : Nat} (hm : m = 2) (h : AA K tk ρ fun ds ρ1 => ∃ a b, ds = [a, b] ∧ ∃ r, S [b, a] r ∧ Ψ r ρ1) : AE K (tCallK0 m (spP K S) List.reverse E tk) ρ Ψ :=
  ae_callK List.reverse (fun r _ => RDs.rev r) (fun B σ G H m Q q => h B σ G H m Q fun vs ds ρ' G' H' m' s t r ⟨a, b, e, k⟩ => q vs ds ρ' G' H' m' s t r ⟨by rw [e, hm]; rfl, by rw [e]; exact k⟩)
theorem df_strs {ys : List Str} (h : ys.length ≤ 9000) : (Dt.lst (ys.map Dt.str)).dep ≤ 2 ∧ (Dt.lst (ys.map Dt.str)).fit = true := by
  refine ⟨Nat.succ_le_succ ?_, ?_⟩
  · induction ys with
    | nil => exact Nat.zero_le _
    | cons y ys ih => exact Nat.max_le.mpr ⟨Nat.le_refl _, ih (Nat.le_of_succ_le h)⟩
  · show (decide ((ys.map Dt.str).length ≤ 9000) && fits (ys.map Dt.str)) = true
    rw [List.length_map, decide_eq_true h, Bool.true_and]
    clear h
    induction ys with
    | nil => rfl
    | cons y ys ih => exact ih
theorem df_two {d : Dt} {n : Nat} (h : d.dep ≤ n ∧ d.fit = true) : (Dt.lst [d, d]).dep ≤ n + 1 ∧ (Dt.lst [d, d]).fit = true := by
  refine ⟨Nat.succ_le_succ (Nat.max_le.mpr ⟨h.1, Nat.max_le.mpr ⟨h.1, Nat.zero_le _⟩⟩), ?_⟩
  show (true && (d.fit && (d.fit && true))) = true
  rw [h.2]
  rfl
theorem df_cD (c : Option Str) : (cD c).dep ≤ 1 ∧ (cD c).fit = true := by cases c <;> exact ⟨Nat.le_refl _, rfl⟩
theorem insS_len (x : Str) : ∀ l : List Str, (insS x l).length ≤ l.length + 1
  | [] => Nat.le_refl _
  | y :: l => by
    unfold insS
    split
    · exact Nat.le_refl _
    · split
      · exact Nat.le_succ _
      · exact Nat.succ_le_succ (insS_len x l)
theorem srtS_len : ∀ l : List Str, (srtS l).length ≤ l.length
  | [] => Nat.le_refl _
  | x :: l => Nat.le_trans (insS_len x _) (Nat.succ_le_succ (srtS_len l))
section
variable {P : Program} {w : World} {K : PySem.W.Frag} {mg : Str → Option Value} {base : Heap}
theorem ok_l_right (bl : Blts mg) {g_l_take : Addr} {d_l_take : FuncData} (c_l_take : Cal P w K mg base 2 "_law_take" p_l_take (spB K 1 domT postT) g_l_take d_l_take) {g_l_naming : Addr} {d_l_naming : FuncData} (c_l_naming : Cal P w K mg base 4 "_law_naming" p_l_naming (spB K 57 domNm postNm) g_l_naming d_l_naming) {g_l_lists : Addr} {d_l_lists : FuncData} (c_l_lists : Cal P w K mg base 4 "_law_lists" p_l_lists (spP K (S_ll 4)) g_l_lists d_l_lists) {g_classes : Addr} {d_classes : FuncData} (c_classes : Cal P w K mg base 21 "classes" p_classes (spP K S_cls) g_classes d_classes) {g_class_of : Addr} {d_class_of : FuncData} (c_class_of : Cal P w K mg base 21 "class_of" p_class_of (spP K S_cof) g_class_of d_class_of) {g_l_same : Addr} {d_l_same : FuncData} (c_l_same : Cal P w K mg base 4 "_law_same" p_l_same (spP K (S_same 4)) g_l_same d_l_same) {g_l_bent : Addr} {d_l_bent : FuncData} (c_l_bent : Cal P w K mg base 9 "_law_bent" p_l_bent (spB K (3 * 5) (domBn 5) postBn) g_l_bent d_l_bent) {g_l_is_naming : Addr} {d_l_is_naming : FuncData} (c_l_is_naming : Cal P w K mg base 2 "_law_is_naming" p_l_is_naming (spP K S_nam) g_l_is_naming d_l_is_naming) {g_is_naming : Addr} {d_is_naming : FuncData} (c_is_naming : Cal P w K mg base 6 "is_naming" p_is_naming (spP K S_nam) g_is_naming d_is_naming) (k_classes : KB0 K d_classes p_classes ["naming"] id id) (k_class_of : KB0 K d_class_of p_class_of ["n", "naming"] List.reverse List.reverse) (k_is_naming : KB0 K d_is_naming p_is_naming ["thing"] id id)  {f : Addr} {fd : FuncData} (F : Fun K "_law_right" "_law_right" s_l_right f fd) : FnG P w K mg base 22 f fd p_l_right (spB K 559 (domR) (postR)) := by
  refine okBG F sc_l_right (fun ds h => ?_) (fun cdv A outer s H E hr gu ds h => ?_)
  · obtain ⟨rfl⟩ := h
    rfl
  obtain ⟨rfl⟩ := h
  have hu : (A.deeper (envOfC "_law_right" (defScope s_l_right) s.heap.objs.size f cdv)).units + 200 < cLine := by have := hr.un; omega
  refine ⟨_, (pss_cons (ps_set (i := 1) sc_l_right.nd rfl (by first | exact Or.inl rfl | exact Or.inr rfl) (pe_call c_l_naming.ok (hr.mono (by decide)) rfl c_l_naming.mg c_l_naming.kp c_l_naming.bi .nil pass0 (pa_cons (pv 0) pa_nil)))
    (pss_cons (ps_asg (pv 1) (pg_tup rfl (pgs_cons (pg_name (i := 9) sc_l_right.nd rfl (by first | exact Or.inl rfl | exact Or.inr rfl)) (pgs_cons (pg_name (i := 10) sc_l_right.nd rfl (by first | exact Or.inl rfl | exact Or.inr rfl)) (pgs_cons (pg_name (i := 11) sc_l_right.nd rfl (by first | exact Or.inl rfl | exact Or.inr rfl)) pgs_nil)))))
    (pss_cons (ps_set (i := 2) sc_l_right.nd rfl (by first | exact Or.inl rfl | exact Or.inr rfl) (pe_lst pa_nil))
    (pss_cons (ps_for PassesOwn.never rfl (pi_tup (pv 11)) (pg_name (i := 3) sc_l_right.nd rfl (by first | exact Or.inl rfl | exact Or.inr rfl)) (pss_one (ps_set (i := 2) sc_l_right.nd rfl (by first | exact Or.inl rfl | exact Or.inr rfl) (pe_op op_cat (pv 2) (pe_lc (own := [("_law_word", 15)]) (g := (gName 15)) (te := (tVar 15)) (tt := (tTest (tOp (fun x y H Q => y = .non ∧ Q (.bl (!decide (x = .non))) H) (tVar 15) (tC .non)))) rfl sc_l_right.nd (pi_tup (pv 3)) (blkOk_by (N := N_l_right) (sc := defScope s_l_right) (by decide +kernel)) (fun _ _ _ _ _ => (pg_name (i := 15) sc_l_right.nd rfl (by first | exact Or.inl rfl | exact Or.inr rfl))) (fun _ _ _ _ _ => (pts_one (pt_cmpR op_notN (pv 15) pe_non (nomark _)))) (fun _ _ _ _ _ => (pv 15)))))))
    (pss_cons (ps_set (i := 4) sc_l_right.nd rfl (by first | exact Or.inl rfl | exact Or.inr rfl) (pe_call c_l_lists.ok (hr.mono (by decide)) rfl c_l_lists.mg c_l_lists.kp c_l_lists.bi .nil pass0 (pa_cons (pv 1) pa_nil)))
    (pss_cons (ps_if (pt_not (pt_val (pe_call c_l_same.ok (hr.mono (by decide)) rfl c_l_same.mg c_l_same.kp c_l_same.bi .nil pass0 (pa_cons (pe_lst (pa_cons (pe_call c_classes.ok (hr.mono (by decide)) rfl c_classes.mg c_classes.kp c_classes.bi .nil pass0 (pa_cons (pv 1) pa_nil)) (pa_cons (pe_callK0 c_classes.ok (hr.mono (by decide)) rfl c_classes.mg c_classes.kp k_classes pass0 (pk_cons (pv 4) pk_nil)) pa_nil))) (pa_cons (pe_op op_rep (pe_lst (pa_cons (pe_callB (cr_sortedSetT rfl) rfl bl.sorted (by decide +kernel) (pa_cons (pe_callTy (cr_setT rfl) rfl bl.set (by decide +kernel) (pa_cons (pv 2) pa_nil)) pa_nil)) pa_nil)) pe_int) pa_nil))))) (pss_one (ps_ret pe_bl)) pss_nil)
    (pss_cons (ps_for PassesOwn.never rfl (pi_list (pe_op op_cat (pe_op op_cat (pe_lc (own := [("_law_turn", 7)]) (g := (gName 7)) (te := (tOp (rI0 fun i j => .int (i - j)) (tCall (spB K 1 domT postT) [] E0 (tCons (tVar 0) (tCons (tC (.int 101)) tNil))) (tC (.int 50)))) (tt := tYes) rfl sc_l_right.nd (pi_range1 rfl bl.range (pa_cons pe_int pa_nil)) (blkOk_by (N := N_l_right) (sc := defScope s_l_right) (by decide +kernel)) (fun _ _ _ _ _ => (pg_name (i := 7) sc_l_right.nd rfl (by first | exact Or.inl rfl | exact Or.inr rfl))) (fun _ _ _ _ _ => pts_nil) (fun _ _ _ _ _ => (pe_op op_sub (pe_call c_l_take.ok (hr.mono (by decide)) rfl c_l_take.mg c_l_take.kp c_l_take.bi .nil pass0 (pa_cons (pv 0) (pa_cons pe_int pa_nil))) pe_int))) (pe_callTy call_list_of rfl bl.list (by decide +kernel) (pa_cons (pv 9) pa_nil))) (pe_lst (pa_cons (pe_op op_pow pe_int pe_int) (pa_cons (pe_op op_sub pe_int (pe_op op_pow pe_int pe_int)) pa_nil))))) (pg_name (i := 5) sc_l_right.nd rfl (by first | exact Or.inl rfl | exact Or.inr rfl)) (pss_cons (ps_set (i := 12) sc_l_right.nd rfl (by first | exact Or.inl rfl | exact Or.inr rfl) (pe_ix ix_seq (pe_ix ix_tup (pv 11) (pe_callB call_len_seq rfl bl.len (by decide +kernel) (pa_cons (pe_lc (own := [("_law_part", 16)]) (g := (gName 16)) (te := (tVar 16)) (tt := (tTest (tOp (rI0 fun i j => .bl (decide (i ≤ j))) (tVar 16) (tVar 5)))) rfl sc_l_right.nd (pi_tup (pv 9)) (blkOk_by (N := N_l_right) (sc := defScope s_l_right) (by decide +kernel)) (fun _ _ _ _ _ => (pg_name (i := 16) sc_l_right.nd rfl (by first | exact Or.inl rfl | exact Or.inr rfl))) (fun _ _ _ _ _ => (pts_one (pt_cmpR op_le (pv 16) (pv 5) (nomark _)))) (fun _ _ _ _ _ => (pv 16))) pa_nil)) (fun _ _ => rfl)) (pe_op op_modN (pv 5) (pv 10)) (fun _ _ => rfl)))
    (pss_one (ps_if (pt_not (pt_val (pe_call c_l_same.ok (hr.mono (by decide)) rfl c_l_same.mg c_l_same.kp c_l_same.bi .nil pass0 (pa_cons (pe_lst (pa_cons (pe_call c_class_of.ok (hr.mono (by decide)) rfl c_class_of.mg c_class_of.kp c_class_of.bi .nil pass0 (pa_cons (pv 1) (pa_cons (pv 5) pa_nil))) (pa_cons (pe_callK0 c_class_of.ok (hr.mono (by decide)) rfl c_class_of.mg c_class_of.kp k_class_of pass0 (pk_cons (pv 5) (pk_cons (pv 4) pk_nil))) pa_nil))) (pa_cons (pe_lst (pa_cons (pv 12) (pa_cons (pv 12) pa_nil))) pa_nil))))) (pss_one (ps_ret pe_bl)) pss_nil))))
    (pss_cons (ps_set (i := 6) sc_l_right.nd rfl (by first | exact Or.inl rfl | exact Or.inr rfl) (pe_lst (pa_cons (pv 1) (pa_cons (pv 4) (pa_cons (pe_tup pa_nil) (pa_cons pe_non (pa_cons pe_int (pa_cons pe_str (pa_cons (pe_tup (pa_cons (pe_tup pa_nil) (pa_cons pe_int (pa_cons (pe_tup (pa_cons (pe_tup (pa_cons pe_str pa_nil)) pa_nil)) pa_nil)))) (pa_cons (pe_tup (pa_cons (pe_tup pa_nil) (pa_cons pe_int (pa_cons (pe_tup (pa_cons (pe_tup pa_nil) pa_nil)) pa_nil)))) (pa_cons (pe_tup (pa_cons (pe_tup pa_nil) (pa_cons pe_bl (pa_cons (pe_tup (pa_cons (pe_tup (pa_cons pe_str pa_nil)) pa_nil)) pa_nil)))) pa_nil)))))))))))
    (pss_cons (ps_set (i := 6) sc_l_right.nd rfl (by first | exact Or.inl rfl | exact Or.inr rfl) (pe_op op_cat (pv 6) (pe_lst (pa_cons (pe_tup (pa_cons (pe_lst pa_nil) (pa_cons pe_int (pa_cons (pe_tup (pa_cons (pe_tup (pa_cons pe_str pa_nil)) pa_nil)) pa_nil)))) (pa_cons (pe_tup (pa_cons (pe_tup (pa_cons pe_int (pa_cons pe_int pa_nil))) (pa_cons pe_int (pa_cons (pe_tup (pa_cons (pe_tup (pa_cons pe_str pa_nil)) (pa_cons (pe_tup (pa_cons pe_non pa_nil)) (pa_cons (pe_tup (pa_cons pe_str pa_nil)) pa_nil)))) pa_nil)))) (pa_cons (pe_tup (pa_cons (pe_tup (pa_cons pe_int (pa_cons pe_int pa_nil))) (pa_cons pe_int (pa_cons (pe_tup (pa_cons (pe_tup (pa_cons pe_str pa_nil)) (pa_cons (pe_tup (pa_cons pe_str pa_nil)) (pa_cons (pe_tup (pa_cons pe_str pa_nil)) pa_nil)))) pa_nil)))) pa_nil))))))
    (pss_cons (ps_for PassesOwn.never rfl (pi_range1 rfl bl.range (pa_cons pe_int pa_nil)) (pg_name (i := 7) sc_l_right.nd rfl (by first | exact Or.inl rfl | exact Or.inr rfl)) (pss_cons (ps_set (i := 13) sc_l_right.nd rfl (by first | exact Or.inl rfl | exact Or.inr rfl) (pe_call c_l_bent.ok (hr.mono (by decide)) rfl c_l_bent.mg c_l_bent.kp c_l_bent.bi .nil pass0 (pa_cons (pv 0) (pa_cons (pv 1) pa_nil))))
    (pss_one (ps_expr (pe_bm PySem.F.plainAttrs_list PySem.F.slot_list_append PySem.F.type_list_append mt_append (pv 6) (pa_cons (pe_ifExp (pt_cmpR op_eq (pe_call c_l_take.ok (hr.mono (by decide)) rfl c_l_take.mg c_l_take.kp c_l_take.bi .nil pass0 (pa_cons (pv 0) (pa_cons pe_int pa_nil))) pe_int (nomark _)) (pe_call c_l_bent.ok (hr.mono (by decide)) rfl c_l_bent.mg c_l_bent.kp c_l_bent.bi .nil pass0 (pa_cons (pv 0) (pa_cons (pv 13) pa_nil))) (pv 13)) pa_nil))))))
    (pss_cons (ps_for PassesOwn.never rfl (pi_list (pv 6)) (pg_name (i := 8) sc_l_right.nd rfl (by first | exact Or.inl rfl | exact Or.inr rfl)) (pss_cons (ps_par (i := 14) (j := 12) (by rfl) sc_l_right.nd rfl rfl (by decide) rfl rfl (pa_cons (pe_callB (call_reprT gu hu) rfl bl.repr (by decide +kernel) (pa_cons (pv 8) pa_nil)) (pa_cons (pe_call c_l_is_naming.ok (hr.mono (by decide)) rfl c_l_is_naming.mg c_l_is_naming.kp c_l_is_naming.bi .nil pass0 (pa_cons (pv 8) pa_nil)) pa_nil)) (by rfl))
    (pss_one (ps_if (PW.pt (pw_or (pt_not (pt_val (pe_call c_l_same.ok (hr.mono (by decide)) rfl c_l_same.mg c_l_same.kp c_l_same.bi .nil pass0 (pa_cons (pe_lst (pa_cons (pe_call c_is_naming.ok (hr.mono (by decide)) rfl c_is_naming.mg c_is_naming.kp c_is_naming.bi .nil pass0 (pa_cons (pv 8) pa_nil)) (pa_cons (pe_callK0 c_is_naming.ok (hr.mono (by decide)) rfl c_is_naming.mg c_is_naming.kp k_is_naming pass0 (pk_cons (pv 8) pk_nil)) pa_nil))) (pa_cons (pe_lst (pa_cons (pv 12) (pa_cons (pv 12) pa_nil))) pa_nil))))) (pw_or1 (pt_cmpR op_ne (pe_callB (call_reprT gu hu) rfl bl.repr (by decide +kernel) (pa_cons (pv 8) pa_nil)) (pv 14) (nomark _))))) (pss_one (ps_ret pe_bl)) pss_nil))))
    (pss_one (ps_ret (pe_cmpR op_isBl (pe_call c_is_naming.ok (hr.mono (by decide)) rfl c_is_naming.mg c_is_naming.kp c_is_naming.bi .nil pass0 (pa_cons (pv 1) pa_nil)) pe_bl (nomark _))))))))))))))), fun b F => ?_⟩
  change AS K _ [En.bx _ _, En.no, En.no, En.no, En.no, En.no, En.no, En.no, En.no, En.no, En.no, En.no, En.no, En.no, En.no, En.no, En.no] _ _
  try simp only [cxOf_K, cxOf_w]
  have rg : ∀ k : Nat, (rgD 0 ((k : Nat) : Int).toNat) = (List.range k).map fun i => Dt.int ((i : Nat) : Int) := fun k => by
    unfold rgD
    rw [Int.toNat_natCast]
    exact List.map_congr_left fun i _ => by rw [Int.zero_add]
  have rl : ∀ k : Nat, ((List.range k).map fun i => Dt.int ((i : Nat) : Int)).length = k := fun k => by rw [List.length_map, List.length_range]
  have z9 : 9000 ≤ sizeLine := by decide
  refine as_seq (as_set (ae_draw rfl (aa_nil ⟨rfl, F + 502, rfl, fun d hd => ?_⟩)))
  obtain ⟨N, rfl, hN⟩ := hd
  have hcl := hN.cl
  have hrl := hN.rl
  have hm6 := hN.m6
  have hm1 := hN.m1
  have hnl := hN.nl
  refine as_seq (as_asg (ae_var rfl ?_))
  refine ag_tup rfl (ags_cons (ag_name (ags_cons (ag_name (ags_cons (ag_name (ags_nil ?_)))))))
  show AS K _ [.bx b (F + 502), .da (N.d true), .no, .no, .no, .no, .no, .no, .no, .da (.tup (N.cs.map Dt.int)), .da (.int (N.m : Int)), .da (.tup (N.rows.map fun r => .tup (r.map cD))), .no, .no, .no, .no, .no] _ _
  refine as_seq (as_set (ae_lst (aa_nil ⟨Nat.zero_le _, ?_⟩)))
  have few : ∀ i, ((N.rows.take i).flatMap fun r => r.filterMap id).length ≤ 42 := fun i => by
    have a : N.names = ((N.rows.take i).flatMap fun r => r.filterMap id) ++ ((N.rows.drop i).flatMap fun r => r.filterMap id) := by
      rw [← List.flatMap_append, List.take_append_drop]
      rfl
    have := hN.nl
    rw [a, List.length_append] at this
    omega
  refine as_seq (as_for (ai_tup (ae_var rfl ⟨_, rfl, fun i ρ => ∃ e3 : En, ρ = [.bx b (F + 502), .da (N.d true), .da (.lst (((N.rows.take i).flatMap fun r => r.filterMap id).map Dt.str)), e3, .no, .no, .no, .no, .no, .da (.tup (N.cs.map Dt.int)), .da (.int (N.m : Int)), .da (.tup (N.rows.map fun r => .tup (r.map cD))), .no, .no, .no, .no, .no], ⟨.no, rfl⟩, ?_, ?_⟩)))
  · rintro i d ρ hd ⟨e3, rfl⟩
    rw [List.getElem?_map] at hd
    cases hrow : N.rows[i]? with
    | none => rw [hrow] at hd; cases hd
    | some row =>
      rw [hrow] at hd
      cases hd
      have hl := hN.rm row (List.mem_of_getElem? hrow)
      refine ag_name (as_set (ae_op (ae_var rfl (ae_lcFil (namF .non) (ai_tup (ae_var rfl ⟨_, rfl, by rw [List.length_map]; omega, fun d hd => ?_, ?_⟩))))))
      · obtain ⟨c, hc, rfl⟩ := List.mem_map.mp hd
        refine agv_name (by simp) (at_test (ae_op (ae_var rfl (ae_non (ar_notN ?_)))))
        cases c with
        | none => exact ⟨false, rfl, (fun h => absurd (show false = true from h) (by decide)), fun _ => ⟨rfl, rfl⟩⟩
        | some s => exact ⟨true, rfl, fun _ => ae_var rfl ⟨rfl, rfl⟩, (fun h => absurd (show true = false from h) (by decide))⟩
      · rw [namF_row]
        have h1 := few i
        have h2 : (row.filterMap id).length ≤ row.length := List.length_filterMap_le _ _
        refine ar_catL (by rw [List.length_map, List.length_map]; omega) ⟨.da (.tup (row.map cD)), ?_⟩
        rw [← List.map_append, List.take_add_one, hrow, List.flatMap_append]
        simp
        rfl
  rintro ρ ⟨e3, rfl⟩
  rw [List.length_map, List.take_length]
  show AS K _ [.bx b (F + 502), .da (N.d true), .da (.lst (N.names.map Dt.str)), e3, .no, .no, .no, .no, .no, .da (.tup (N.cs.map Dt.int)), .da (.int (N.m : Int)), .da (.tup (N.rows.map fun r => .tup (r.map cD))), .no, .no, .no, .no, .no] _ _
  refine as_seq (as_set (ae_call (aa_cons (ae_var rfl (aa_nil ⟨_, ⟨_, rfl, hN.sh true, Nat.lt_succ_of_le (hN.hg true), rfl⟩, ?_⟩)))))
  rw [N.soft]
  refine as_seq (as_if (at_not (at_b (ae_call (aa_cons (ae_lst (aa_cons (ae_call (aa_cons (ae_var rfl (aa_nil ⟨_, ⟨true, N, rfl, hN, rfl⟩, ?_⟩)))))))))))
  refine aa_cons (ae_callK id (fun r _ => r) (aa_cons (ae_var rfl (aa_nil ⟨rfl, _, ⟨false, N, rfl, hN, rfl⟩, aa_nil ⟨by show 2 ≤ sizeLine; omega, ?_⟩⟩))))
  refine aa_cons (ae_op (ae_lst (aa_cons (ae_sortedSetT (aa_cons (ae_var rfl (aa_nil ⟨N.names, rfl, by omega, fun ys hy _ => aa_nil ⟨by show 1 ≤ sizeLine; omega, ?_⟩⟩)))))))
  rw [hy.one (srtS_canon N.names)]
  have dS := df_two (df_strs (ys := srtS N.names) (by have := srtS_len N.names; omega))
  refine ae_int (ar_rep2 (aa_nil ⟨_, ⟨_, rfl, Nat.le_trans dS.1 (by decide), dS.2, rfl⟩, true, rfl, (fun h => absurd (show false = true from h) (by decide)), fun _ => as_next ?_⟩))
  show AS K _ [.bx b (F + 502), .da (N.d true), .da (.lst (N.names.map Dt.str)), e3, .da (N.d false), .no, .no, .no, .no, .da (.tup (N.cs.map Dt.int)), .da (.int (N.m : Int)), .da (.tup (N.rows.map fun r => .tup (r.map cD))), .no, .no, .no, .no, .no] _ _
  refine as_seq (as_for (ai_list (ae_op (ae_op (ae_lc (ai_rng1 (aa_cons (ae_int (aa_nil ⟨_, rfl, by decide, by decide, ?_⟩)))))))))
  rw [show (6 : Int) = ((6 : Nat) : Int) from rfl, rg]
  refine ⟨fun i acc ρ => ∃ (f : Nat) (xs : List Int), ρ = [.bx b f, .da (N.d true), .da (.lst (N.names.map Dt.str)), e3, .da (N.d false), .no, .no, .no, .no, .da (.tup (N.cs.map Dt.int)), .da (.int (N.m : Int)), .da (.tup (N.rows.map fun r => .tup (r.map cD))), .no, .no, .no, .no, .no] ∧ F + 496 + (6 - i) ≤ f ∧ acc = xs.map Dt.int ∧ xs.length = i, ⟨F + 502, [], rfl, by omega, rfl, rfl⟩, ?_, ?_⟩
  · rintro i d acc ρ hd ⟨f, xs, rfl, hf, rfl, hx⟩
    obtain ⟨lt, rfl⟩ := rg_at hd
    obtain ⟨f2, rfl⟩ : ∃ f2, f = f2 + 1 := ⟨f - 1, by omega⟩
    refine agv_name (by simp) (at_yes ⟨fun _ => ?_, fun z => nomatch z⟩)
    refine ae_op (ae_take rfl (ae_int ⟨_, rfl, by decide, by decide, f2, rfl, fun v v0 v1 => ?_⟩))
    refine ae_int (ar_I0i ⟨by rw [List.length_map]; omega, f2, xs ++ [v - 50], rfl, by omega, by rw [List.map_append]; rfl, by rw [List.length_append, hx]; rfl⟩)
  rintro acc ρ ⟨f, xs, rfl, hf, rfl, hx⟩
  rw [rl] at hf hx
  refine ⟨fun i hi lt => ?_, ?_⟩
  · obtain rfl : i = 7 := by simpa using hi
    rfl
  refine ae_cb (aa_cons (ae_var rfl (aa_nil (ac_listT (ar_catL (by rw [List.length_map, List.length_map]; omega) ?_)))))
  refine ae_lst (aa_cons (ae_op (ae_int (ae_int (ar_Ii (C := CPow) ⟨(by decide), (by decide), (by decide)⟩ (aa_cons (ae_op (ae_int (ae_op (ae_int (ae_int (ar_Ii (C := CPow) ⟨(by decide), (by decide), (by decide)⟩ (ar_I0i (aa_nil ⟨by show 2 ≤ sizeLine; omega, ?_⟩))))))))))))))
  refine ar_catL (by rw [List.length_append, List.length_map, List.length_map]; show _ + 2 ≤ sizeLine; omega) ?_
  obtain ⟨ns, hns⟩ : ∃ ns : List Int, (xs.map Dt.int ++ N.cs.map Dt.int) ++ [Dt.int (10 ^ (12 : Int).toNat), Dt.int (0 - 10 ^ (12 : Int).toNat)] = ns.map Dt.int := ⟨(xs ++ N.cs) ++ [10 ^ (12 : Int).toNat, 0 - 10 ^ (12 : Int).toNat], by rw [List.map_append, List.map_append]; rfl⟩
  refine ⟨_, rfl, fun i ρ => ∃ e5 e12 : En, ρ = [.bx b f, .da (N.d true), .da (.lst (N.names.map Dt.str)), e3, .da (N.d false), e5, .no, .no, .no, .da (.tup (N.cs.map Dt.int)), .da (.int (N.m : Int)), .da (.tup (N.rows.map fun r => .tup (r.map cD))), e12, .no, .no, .no, .no], ⟨.no, .no, rfl⟩, ?_, ?_⟩
  · rintro i d ρ hd ⟨e5, e12, rfl⟩
    obtain ⟨n, rfl⟩ : ∃ n : Int, d = .int n := by
      have hm := List.mem_of_getElem? hd
      rw [show (List.map Dt.int xs ++ List.map Dt.int N.cs ++ [Dt.int (10 ^ (12 : Int).toNat), Dt.int (0 - 10 ^ (12 : Int).toNat)]) = ns.map Dt.int from hns] at hm
      obtain ⟨n, _, rfl⟩ := List.mem_map.mp hm
      exact ⟨n, rfl⟩
    clear hd hns
    obtain ⟨row, c, h1, h2⟩ := hN.due n
    have f0 := Int.fmod_nonneg_of_pos n (show 0 < (N.m : Int) by omega)
    refine ag_name (as_seq (as_set (ae_op (ae_op (ae_var rfl (ae_cb (aa_cons (ae_lcFil (pF fun x => decide (x ≤ n)) (ai_tup (ae_var rfl ⟨_, rfl, by rw [List.length_map]; omega, fun d hd => ?_, ?_⟩))))))))))
    · obtain ⟨z, hz, rfl⟩ := List.mem_map.mp hd
      refine agv_name (by simp) (at_test (ae_op (ae_var rfl (ae_var rfl (ar_I0b ⟨_, rfl, fun h => ?_, fun h => ?_⟩)))))
      · refine ae_var rfl ⟨?_, rfl⟩
        show (if decide (z ≤ n) = true then _ else _) = _
        rw [if_pos h]
      · refine ⟨?_, rfl⟩
        show (if decide (z ≤ n) = true then _ else _) = _
        rw [if_neg (by rw [h]; decide)]
    rw [fil_ints]
    refine aa_nil (ac_lenL ?_)
    rw [List.length_map]
    refine ar_ixT (atI_nat (v := .tup (row.map cD)) ?_) ?_
    · rw [List.getElem?_map, h1]
      rfl
    refine ae_op (ae_var rfl (ae_var rfl (ar_Ii (by omega) ?_)))
    refine ar_ixTs (d := cD c) ?_ ?_
    · rw [show n.fmod (N.m : Int) = (((n.fmod (N.m : Int)).toNat : Nat) : Int) by omega]
      refine atI_nat ?_
      rw [List.getElem?_map, h2]
      rfl
    have dC := df_two (df_cD c)
    refine as_if (at_not (at_b (ae_call (aa_cons (ae_lst (aa_cons (ae_call (aa_cons (ae_var rfl (aa_cons (ae_var rfl (aa_nil ⟨_, ⟨true, N, n, row, c, rfl, hN, h1, h2, rfl⟩, ?_⟩))))))))))))
    refine aa_cons (ae_callK2 rfl (aa_cons (ae_var rfl (aa_cons (ae_var rfl (aa_nil ⟨_, _, rfl, _, ⟨false, N, n, row, c, rfl, hN, h1, h2, rfl⟩, aa_nil ⟨by show 2 ≤ sizeLine; omega, ?_⟩⟩))))))
    refine aa_cons (ae_lst (aa_cons (ae_var rfl (aa_cons (ae_var rfl (aa_nil ⟨by show 2 ≤ sizeLine; omega, aa_nil ⟨_, ⟨_, rfl, Nat.le_trans dC.1 (by decide), dC.2, rfl⟩, true, rfl, (fun h => absurd (show false = true from h) (by decide)), fun _ => as_next ⟨_, _, rfl⟩⟩⟩))))))
  rintro ρ ⟨e5, e12, rfl⟩
  clear hns
  have hf0 : F + 496 ≤ f := by omega
  clear hf
  refine as_seq (as_monoN (N := fun ρ => ρ = [.bx b f, .da (N.d true), .da (.lst (N.names.map Dt.str)), e3, .da (N.d false), e5, .da (.lst (N.d true :: N.d false :: moreL.take 7)), .no, .no, .da (.tup (N.cs.map Dt.int)), .da (.int (N.m : Int)), .da (.tup (N.rows.map fun r => .tup (r.map cD))), e12, .no, .no, .no, .no]) ?_ ?_)
  · refine as_set ?_
    repeat' (first
      | ((with_reducible apply ae_var); · rfl)
      | with_reducible apply ae_int
      | with_reducible apply ae_non
      | with_reducible apply ae_bl
      | with_reducible apply ae_str
      | with_reducible apply aa_nil
      | with_reducible apply aa_cons
      | with_reducible apply ae_tup
      | with_reducible apply ae_lst
      | refine ⟨sz60 (Nat.le_of_ble_eq_true rfl), ?_⟩
      | rfl
      | fail)
  rintro ρ rfl
  refine as_seq (as_monoN (N := fun ρ => ρ = [.bx b f, .da (N.d true), .da (.lst (N.names.map Dt.str)), e3, .da (N.d false), e5, .own (N.d true :: N.d false :: moreL), .no, .no, .da (.tup (N.cs.map Dt.int)), .da (.int (N.m : Int)), .da (.tup (N.rows.map fun r => .tup (r.map cD))), e12, .no, .no, .no, .no]) ?_ ?_)
  · refine as_ownCat (ae_var rfl ⟨_, rfl, ?_⟩)
    repeat' (first
      | (refine ⟨_, rfl, sz60 (Nat.le_of_ble_eq_true rfl), rfl⟩)
      | with_reducible apply ae_int
      | with_reducible apply ae_non
      | with_reducible apply ae_str
      | with_reducible apply aa_nil
      | with_reducible apply aa_cons
      | with_reducible apply ae_tup
      | with_reducible apply ae_lst
      | refine ⟨sz60 (Nat.le_of_ble_eq_true rfl), ?_⟩
      | fail)
  rintro ρ rfl
  refine as_seq (as_for (ai_rng1 (aa_cons (ae_int (aa_nil ⟨_, rfl, by decide, by decide, ?_⟩)))))
  rw [show (16 : Int) = ((16 : Nat) : Int) from rfl, rg]
  refine ⟨fun t ρ => ∃ (f3 : Nat) (X : List Dt) (e7 e13 : En), ρ = [.bx b f3, .da (N.d true), .da (.lst (N.names.map Dt.str)), e3, .da (N.d false), e5, .own ((N.d true :: N.d false :: moreL) ++ X), e7, .no, .da (.tup (N.cs.map Dt.int)), .da (.int (N.m : Int)), .da (.tup (N.rows.map fun r => .tup (r.map cD))), e12, e13, .no, .no, .no] ∧ F + 31 * (16 - t) ≤ f3 ∧ X.length = t ∧ ∀ d, d ∈ X → ShT d, ⟨f, [], .no, .no, by rw [List.append_nil], by omega, rfl, fun d h => (by cases h)⟩, ?_, ?_⟩
  · rintro t d ρ hd ⟨f3, X, e7, e13, rfl, hf, hx, hX⟩
    obtain ⟨lt, rfl⟩ := rg_at hd
    obtain ⟨f4, rfl⟩ : ∃ f4, f3 = f4 + 31 := ⟨f3 - 31, by omega⟩
    have hg0 := hN.hg true
    have ht0 := hN.tl true
    refine ag_name (as_seq (as_set (ae_draw rfl (aa_cons (ae_var rfl (aa_nil ⟨⟨_, rfl, hN.sh true, bnd_up (by decide) _ (hN.bn true), by omega⟩, f4 + 16, rfl, fun r hr => ?_⟩))))))
    have B1 : Bent (N.d true) r := hr _ rfl
    have b1 := B1.bn 200 (hN.bn true)
    have g1 := B1.hg
    have t1 := B1.ln
    have sh1 : ShT r := sh_bnd (by decide) b1 (by omega) (by omega)
    have hlen : ∀ X : List Dt, (((N.d true :: N.d false :: moreL) ++ X)).length = 12 + X.length := fun X => by rw [List.length_append]; rfl
    refine as_append ?_ ⟨_, rfl⟩
    refine ae_if (at_test (ae_op (ae_take rfl (ae_int ⟨_, rfl, by decide, by decide, f4 + 15, rfl, fun w w0 w1 => ?_⟩))))
    refine ae_int (ar_eq3 ⟨rfl, rfl, rfl⟩ ?_)
    by_cases c : w = 0
    · rw [decide_eq_true (show V.int w = V.int 0 by rw [c])]
      refine ⟨true, rfl, fun _ => ?_, (fun h => absurd (show true = false from h) (by decide))⟩
      refine ae_draw rfl (aa_cons (ae_var rfl (aa_nil ⟨⟨r, rfl, sh1, bnd_up (by decide) _ b1, by omega⟩, f4, rfl, fun r2 hr2 => ?_⟩)))
      have B2 : Bent r r2 := hr2 _ rfl
      have sh2 : ShT r2 := sh_bnd (by decide) (B2.bn 201 b1) (by have := B2.hg; omega) (by have := B2.ln; omega)
      refine ⟨_, rfl, by rw [hlen]; omega, f4, X ++ [r2], .da (.int ((t : Nat) : Int)), .da r, ?_, by omega, by rw [List.length_append, hx]; rfl, fun d h => ?_⟩
      · rw [← List.append_assoc]
        rfl
      · rcases List.mem_append.mp h with h | h
        · exact hX d h
        · rw [List.mem_singleton.mp h]; exact sh2
    · rw [decide_eq_false (fun z => c (by injection z))]
      refine ⟨false, rfl, (fun h => absurd (show false = true from h) (by decide)), fun _ => ae_var rfl ?_⟩
      refine ⟨_, rfl, by rw [hlen]; omega, f4 + 15, X ++ [r], .da (.int ((t : Nat) : Int)), .da r, ?_, by omega, by rw [List.length_append, hx]; rfl, fun d h => ?_⟩
      · rw [← List.append_assoc]
        rfl
      · rcases List.mem_append.mp h with h | h
        · exact hX d h
        · rw [List.mem_singleton.mp h]; exact sh1
  rintro ρ ⟨f3, X, e7, e13, rfl, hf, hx, hX⟩
  have hf3 : F ≤ f3 := by omega
  have all : ∀ d, d ∈ (N.d true :: N.d false :: moreL) ++ X → ShT d := fun d h => by
    rcases List.mem_append.mp h with h | h
    · rcases List.mem_cons.mp h with rfl | h
      · exact hN.sh true
      rcases List.mem_cons.mp h with rfl | h
      · exact hN.sh false
      · exact more_sh d h
    · exact hX d h
  generalize (N.d true :: N.d false :: moreL) ++ X = W at all ⊢
  refine as_seq (as_for (ai_list (ae_frz (i := 6) rfl (ae_var rfl ⟨W, rfl, fun i ρ => ∃ e8 e12 e14 : En, ρ = [.bx b f3, .da (N.d true), .da (.lst (N.names.map Dt.str)), e3, .da (N.d false), e5, .da (.lst W), e7, e8, .da (.tup (N.cs.map Dt.int)), .da (.int (N.m : Int)), .da (.tup (N.rows.map fun r => .tup (r.map cD))), e12, e13, e14, .no, .no], ⟨.no, e12, .no, rfl⟩, ?_, ?_⟩))))
  · rintro i d ρ hd ⟨e8, e12, e14, rfl⟩
    have sd := all d (List.mem_of_getElem? hd)
    refine ag_name (as_seq (as_par (aa_cons (ae_cb (aa_cons (ae_var rfl (aa_nil (ac_reprT sd (aa_cons (ae_call (aa_cons (ae_var rfl (aa_nil ⟨_, ⟨d, rfl, sd, rfl⟩, aa_nil ⟨_, _, rfl, ?_⟩⟩)))))))))))))
    refine as_if (at_or (at_not (at_b (ae_call (aa_cons (ae_lst (aa_cons (ae_call (aa_cons (ae_var rfl (aa_nil ⟨_, ⟨d, rfl, sd, rfl⟩, ?_⟩)))))))))))
    refine aa_cons (ae_callK id (fun r _ => r) (aa_cons (ae_var rfl (aa_nil ⟨rfl, _, ⟨d, rfl, sd, rfl⟩, aa_nil ⟨by show 2 ≤ sizeLine; omega, ?_⟩⟩))))
    have dB := df_two (d := .bl (namB d)) ⟨Nat.le_refl 1, rfl⟩
    refine aa_cons (ae_lst (aa_cons (ae_var rfl (aa_cons (ae_var rfl (aa_nil ⟨by show 2 ≤ sizeLine; omega, aa_nil ⟨_, ⟨_, rfl, Nat.le_trans dB.1 (by decide), dB.2, rfl⟩, true, rfl, (fun h => absurd (show false = true from h) (by decide)), fun _ => ?_⟩⟩))))))
    refine at_test (ae_op (ae_cb (aa_cons (ae_var rfl (aa_nil (ac_reprT sd (ae_var rfl (ar_neText ⟨false, rfl, (fun h => absurd (show false = true from h) (by decide)), fun _ => as_next ⟨_, _, _, rfl⟩⟩))))))))
  rintro ρ ⟨e8, e12, e14, rfl⟩
  refine as_ret (ae_op (ae_call (aa_cons (ae_var rfl (aa_nil ⟨_, ⟨_, rfl, hN.sh true, rfl⟩, ?_⟩)))))
  rw [hN.nam]
  refine ae_bl (ar_isBl ⟨rfl, _, rfl, hf3⟩)
end
end Sh
set_option Elab.async false
set_option linter.all false
set_option maxRecDepth 100000
set_option maxHeartbeats 4000000
/-! ### the end for such a law -/
namespace Sh
open PySem PySem.Spec PyProof.Rows L2
/-- what the caller is promised -/
def Done (s : Shared) : Result → Shared → Prop := fun r s' => r = .ok (.ret (.bool true)) ∧ OldK s.heap s'.heap ∧ s'.os = s.os ∧ AllBare s'.gens
section
variable {P : Program} {w : World} {K : PySem.W.Frag} {mg mb : Str → Option Value} {k : Nat} {fa a : Addr} {fd : FuncData} {x : Str} {sp : Sp} {s : Shared} {us : List Value} {ns : List Int}
/-- behind a heap H in which at most the script is tracked -/
theorem law_at (inK : K.In s.heap) (glob : s.heap.Ns mainGlobals mg) (bltn : s.heap.Ns builtinsNs mb) (same_b : ∀ z : Str, z ≠ "__name__" → mb z = bootBuiltins z) (nolim : s.heap.NoLimit) (nog : s.gens = #[])
    (room : Room k callerA) (F : ∀ base : Heap, K.In base → base.Ns mainGlobals mg → FnG P w K mg base k fa fd [x] sp) (bind : ∀ (s : Shared) (u : Value), BindsTo s fd ⟨[u], []⟩ [(x, u)])
    (H : Hp) (only : Only H) (hok : HOk P w H s.heap) (at_a : ∀ b, H b ≠ none → b = a) (notK : H a ≠ none → K.lookup a = none) (lst : ∃ o, s.heap.get? a = some o ∧ ∀ es ep, o.data ≠ .dict es ep)
    (hsp : sp [.ref a] H (fun v _ => v = .bl true) E0) : codeAny (model P w) callerA (.call (.ref fa) ⟨[.ref a], []⟩) (Done s) s := by
  have tracked : ∀ {b : Addr}, (H b = none → False) → b = a := fun {b} h => at_a b fun z => h z
  have kept : ∀ {b : Addr} {m : Str → Option Value}, s.heap.Ns b m → (hidT s.heap H).Ns b m := by
    rintro b m ⟨o, es, ep, eo, ed, rest⟩
    refine ⟨o, es, ep, hidT_get eo ?_, ed, rest⟩
    cases hb : H b with
    | none => rfl
    | some v =>
      have eb := tracked (b := b) (fun z => by rw [z] at hb; cases hb)
      subst eb
      obtain ⟨o', eo', nd⟩ := lst
      rw [eo] at eo'
      cases eo'
      exact absurd ed (nd es ep)
  have inB : K.In (hidT s.heap H) := by
    intro b o look
    refine hidT_get (inK b o look) ?_
    cases hb : H b with
    | none => rfl
    | some v =>
      have eb := tracked (b := b) (fun z => by rw [z] at hb; cases hb)
      subst eb
      have nk := notK (fun z => by rw [z] at hb; cases hb)
      rw [nk] at look
      cases look
  have md : Mod K mg (hidT s.heap H) := by
    obtain ⟨mc, l1, l2⟩ := nolim
    exact ⟨inB, kept glob, ⟨mb, kept bltn, same_b⟩, mc, kept l1, l2⟩
  have env : Env0 P w K mg (hidT s.heap H) callerA [] s H := by
    refine ⟨rfl, md, fun b o z => of_hidT z, ?_, trivial, fun b hb => absurd (show b ∈ ([] : List Addr) from hb) List.not_mem_nil, hok, .of_eq nog⟩
    exact Nat.le_of_eq (hidT_size _ _)
  have run := (F _ inB (kept glob)).go callerA [] s H ⟨[.ref a], []⟩ [.ref a] [.ref a] _ _ room rfl env (bind s (.ref a)) (.cons rfl .nil) hsp
  refine codeAny_mono run fun r s' hr => ?_
  rcases r with e | fl
  · exact False.elim hr
  rcases fl with _ | _ | _ | u
  · exact False.elim hr
  · exact False.elim hr
  · exact False.elim hr
  obtain ⟨v, H', eos, bare, un, hok', ru, ev⟩ := hr
  cases (show v = .bl true from ev)
  cases (show u = .bool true from ru)
  refine ⟨rfl, OldK.of_keep fun b o eb => ?_, eos, bare⟩
  cases hb : H b with
  | none => exact un.keep b o eb hb (fun z => nomatch z) (fun z => nomatch z)
  | some v =>
    rcases only b with z | ⟨o1, xs, z⟩
    · rw [hb] at z
      cases z
    · obtain ⟨g1, _⟩ := hok b _ z
      obtain ⟨g2, _⟩ := hok' b _ (un.frzs b o1 _ z)
      rw [eb] at g1
      cases g1
      exact g2
theorem law_g (inK : K.In s.heap) (glob : s.heap.Ns mainGlobals mg) (bltn : s.heap.Ns builtinsNs mb) (same_b : ∀ z : Str, z ≠ "__name__" → mb z = bootBuiltins z) (nolim : s.heap.NoLimit) (nog : s.gens = #[])
    (script : s.heap.get? a = some { cls := .type "list", data := .seq us.toArray }) (numb : IntsAre us ns) (short : ns.length ≤ sizeLine) (room : Room k callerA)
    (F : ∀ base : Heap, K.In base → base.Ns mainGlobals mg → FnG P w K mg base k fa fd [x] sp) (bind : ∀ (s : Shared) (u : Value), BindsTo s fd ⟨[u], []⟩ [(x, u)])
    (hsp : ∀ H : Hp, Only H → SqL K H a (ns.map V.int) → sp [.ref a] H (fun v _ => v = .bl true) E0) : codeAny (model P w) callerA (.call (.ref fa) ⟨[.ref a], []⟩) (Done s) s := by
  have rel := vals_ints numb
  have nl := numb.length
  have lst : ∃ o, s.heap.get? a = some o ∧ ∀ es ep, o.data ≠ .dict es ep := ⟨_, script, fun es ep z => nomatch z⟩
  cases look : K.lookup a with
  | some o =>
    have eo := inK a o look
    rw [script] at eo
    cases eo
    refine law_at inK glob bltn same_b nolim nog room F bind (fun _ => none) (fun _ => .inl rfl) (fun b v z => nomatch (show (none : Option HO) = some v from z)) (fun b z => absurd rfl z) (fun z => absurd rfl z) lst (hsp _ (fun _ => .inl rfl) (.inr ?_))
    exact ⟨_, us.toArray, _, look, rfl, rfl, rfl, by rw [List.size_toArray, nl]; exact short, by simpa using rel⟩
  | none =>
    have here : (fun b => if b = a then some (HO.frz { cls := .type "list", data := .seq us.toArray } (.lst (ns.map V.int))) else none) a = some (HO.frz { cls := .type "list", data := .seq us.toArray } (.lst (ns.map V.int))) := if_pos rfl
    have only : Only (fun b => if b = a then some (HO.frz { cls := .type "list", data := .seq us.toArray } (.lst (ns.map V.int))) else none) := by
      intro b
      by_cases e : b = a
      · exact .inr ⟨_, _, if_pos e⟩
      · exact .inl (if_neg e)
    refine law_at inK glob bltn same_b nolim nog room F bind _ only (fun b v z => ?_) (fun b z => ?_) (fun _ => look) lst (hsp _ only (.inl (.inr ⟨_, here⟩)))
    · by_cases e : b = a
      · subst e
        have z2 := here.symm.trans z
        cases z2
        exact ⟨script, by rw [List.length_map]; exact short, us, _, rel, script⟩
      · have z' : (if b = a then some (HO.frz { cls := .type "list", data := .seq us.toArray } (.lst (ns.map V.int))) else none) = some v := z
        rw [if_neg e] at z'
        cases z'
    · by_cases e : b = a
      · exact e
      · exact absurd (if_neg e) z
end
/-- the goal that the head leaves, from such a promise -/
theorem walk_g {l : PySem.W.OpenLaw} {n k : Nat} {q : Program} {loose : List Str} {XP : (Str → Option Value) → Heap → Prop} {YP : World → Heap → Prop} {d : DefRec} {K : Params → PySem.W.Frag} {sp : World → Sp} {x : Str}
    (hn : l.most = some n) (hn2 : n ≤ sizeLine) (hdf : d.params.defaults = []) (room : Room k callerA) (hY : ∀ (w : World) (h : Heap), YP w h → (K w.params).In h)
    (F : ∀ (w : World) (mg : Str → Option Value) (fa : Addr) (h : Heap), (K w.params).In h → h.Ns mainGlobals mg → mg d.name = some (.ref fa) →
      ∃ fd : FuncData, (∀ (s : Shared) (u : Value), BindsTo s fd ⟨[u], []⟩ [(x, u)]) ∧ ∀ base : Heap, (K w.params).In base → base.Ns mainGlobals mg → FnG l.prog w (K w.params) mg base k fa fd [x] (sp w))
    (hsp : ∀ (w : World) (H : Hp) (a : Addr) (ns : List Int), ns.length ≤ n → Only H → SqL (K w.params) H a (ns.map V.int) → sp w [.ref a] H (fun v _ => v = .bl true) E0) :
    PySem.W.WalkO q loose XP YP l.row.toRowW d [] (fun f vs => PySem.call f vs) := by
  refine Att.attach_call hn hdf fun w t0 t1 mg mb fa oo pm cv doc a us ns G Y ho hd hcd hmg script numb short nog => ?_
  have inK := hY w _ Y
  obtain ⟨fd, bind, H⟩ := F w mg fa _ inK G.T.g hmg
  exact law_g inK G.T.g G.T.b G.T.builtins G.T.nolimit nog script numb (Nat.le_trans short hn2) room H bind fun Hh only hS => hsp w Hh a ns short only hS
end Sh
set_option Elab.async false
set_option linter.all false
set_option maxRecDepth 100000
set_option maxHeartbeats 4000000
namespace Sh
open PySem PySem.Spec PyProof.Rows L2
theorem kb0_of {K : PySem.W.Frag} {x qual : Str} {st : Stmt} {f : Addr} {fd : FuncData} {ps ks : List Str} {g : List Value → List Value} {gV : List V → List V} (F : Fun K x qual st f fd)
    (h : ∀ (kV doc pm : Value) (an : Option Addr) (cdv ct : Value) (ws : List Value), ws.length = ks.length → bindArgs (PySem.W.fnOf x qual (defArgs st) (defBody st) (defScope st) .none kV doc pm an cdv ct) ⟨[], ks.zip ws⟩ = pure (ps.zip (g ws)))
    (rel : ∀ {zs : List V} {ws : List Value}, Vals zs ws → zs.length = ks.length → Vals (gV zs) (g ws)) : KB0 K fd ps ks g gV := by
  obtain ⟨oc, od, kV, doc, pm, an, cdv, ct, osl, rfl, lk, hcd⟩ := F.ex
  exact ⟨fun s ws hl => .of_eq (h kV doc pm an cdv ct ws hl), rel⟩
abbrev sLaw : Stmt := topS 33
abbrev NL : List Str := ["_law_script", "_law_cells_here", "_law_k", "_law_box_here", "_law_turn"]
theorem scLaw : FnScope NL ["_law_script"] (defScope sLaw) := ⟨rfl, rfl, rfl, by decide +kernel, rfl, by decide +kernel, by decide +kernel⟩
section
variable {P : Program} {w : World} {K : PySem.W.Frag} {mg : Str → Option Value} {base : Heap}
def spLaw (K : PySem.W.Frag) : Sp := fun vs H Q _ => ∃ (a : Addr) (ns : List Int), vs = [.ref a] ∧ SqL K H a (ns.map V.int) ∧ ns.length ≤ 63 ∧ ∀ H', Q (.bl true) H'
theorem ok_law {f gC gB gR : Addr} {fd dC dB dR : FuncData} (F : Fun K "law" "law" sLaw f fd)
    (GC : FnOk P w K mg base CX0 1 gC dC ["_law_script", "_law_most"] (spCells K)) (bC : Binds K dC ["_law_script", "_law_most"] []) (kC : PySem.W.keepIn K (.ref gC) = true) (mC : mg "_law_cells" = some (.ref gC))
    (GB : FnOk P w K mg base CX0 1 gB dB ["_law_script", "_law_k"] (spBox K)) (bB : Binds K dB ["_law_script", "_law_k"] []) (kB : PySem.W.keepIn K (.ref gB) = true) (mB : mg "_law_box" = some (.ref gB))
    (GR : FnG P w K mg base 22 gR dR ["_law_box_here"] (spB K 559 domR postR)) (bR : Binds K dR ["_law_box_here"] []) (kR : PySem.W.keepIn K (.ref gR) = true) (mR : mg "_law_right" = some (.ref gR))
    (mr : mg "range" = none) (ml : mg "len" = none) (mall : mg "all" = none) : FnG P w K mg base 23 f fd ["_law_script"] (spLaw K) := by
  refine okG F scLaw (fun vs H Q E h => ?_) (fun cdv A outer s H vs Q Ex hr gu h => ?_)
  · obtain ⟨a, ns, rfl, _⟩ := h
    rfl
  obtain ⟨a, ns, rfl, hS, hlen, q⟩ := h
  refine ⟨_, pss_cons (ps_set (i := 1) scLaw.nd rfl (Or.inl rfl) (pe_call GC (hr.mono (by decide)) rfl mC kC bC .nil pass0 (pa_cons (pv 0) (pa_cons pe_int pa_nil))))
    (pss_cons (ps_for PassesOwn.never rfl (pi_range1 rfl mr (pa_cons (pe_callB call_len_seq rfl ml PySem.boot_len (pa_cons (pv 1) pa_nil)) pa_nil)) (pg_name (i := 2) scLaw.nd rfl (Or.inl rfl))
      (pss_cons (ps_set (i := 3) scLaw.nd rfl (Or.inr rfl) (pe_call GB (hr.mono (by decide)) rfl mB kB bB .nil pass0 (pa_cons (pv 1) (pa_cons (pv 2) pa_nil))))
      (pss_one (ps_if (pt_not (pt_val (pe_callB (cr_all rfl) rfl mall (by decide +kernel) (pa_cons (pe_lc (own := [("_law_turn", 4)]) (g := gName 4) (tt := tYes) rfl scLaw.nd (pi_range1 rfl mr (pa_cons pe_int pa_nil)) (blkOk_by (N := NL) (sc := defScope sLaw) (by decide +kernel))
        (fun _ _ _ _ _ => pg_name (i := 4) scLaw.nd rfl (Or.inl rfl)) (fun _ _ _ _ _ => pts_nil) (fun _ _ _ _ _ => pe_callG GR hr gu rfl mR kR bR pass0 (pa_cons (pv 3) pa_nil))) pa_nil)))) (pss_one (ps_ret pe_bl)) pss_nil))))
    (pss_one (ps_ret pe_bl))), ?_⟩
  refine ⟨_, rfl, a, ns, 3, rfl, hS, hlen, by decide, by decide, fun p ms H1 np s1 ep l1 l2 => ?_⟩
  have hml : (ms.map V.int).length = ms.length := List.length_map _
  refine ⟨_, rfl, p, _, rfl, .inl (SqL.of ep), _, rfl, by omega, by omega, for_range (lo := 0) (n := (ms.map V.int).length) (fun i σ H2 => ∃ o2 o3 o4 : Option V, σ = [some (.ref a), some (.ref p), o2, o3, o4] ∧ Same H1 H2)
    ⟨none, none, none, rfl, Same.refl _⟩ ?_ ?_⟩
  · rintro i σ H2 hi ⟨o2, o3, o4, rfl, s2⟩
    rw [hml] at hi
    refine ⟨_, rfl, _, rfl, p, ms, _, rfl, SqL.of (s2 _ _ ep), by omega, by omega, by omega, fun bx x y nbx x0 y0 y1 => ?_⟩
    have s3 := same_up (o := .lst [.int x, .int y, .int 0]) nbx
    have hb0 : Bx (upd H2 bx (.lst [.int x, .int y, .int 0])) bx y 0 := ⟨x, upd_same, x0, y0, y1⟩
    refine ⟨4, rfl, by decide, by decide, fun D hD => lc_range (lo := 0) (n := 4) (fun t H4 => ∃ y c : Int, Bx H4 bx y c ∧ 0 ≤ c ∧ c + (((4 - t) * 559 : Nat) : Int) ≤ BxM ∧ Same H2 H4 ∧ H4 D = some (.lst ((List.replicate t true).map V.bl))) ?_ ?_ ?_⟩
    · have s4 := same_up (o := .lst []) hD
      exact ⟨y, 0, hb0.same s4, by omega, by unfold BxM; decide, s3.trans s4, upd_same⟩
    · rintro t H4 ht ⟨y, c, hB, c0, c1, s4, e4⟩
      have nD : H2 D = none := s3.free hD
      have neD : D ≠ bx := fun e => by
        rw [e, upd_same] at hD
        cases hD
      have ef : (4 - t) * 559 = (4 - (t + 1)) * 559 + 559 := by omega
      rw [ef] at c1
      refine ⟨rfl, ?_⟩
      show tCall (spB K 559 domR postR) [] E0 (tCons (tVar 3) tNil) _ _ _
      refine ⟨_, rfl, fun _ => none, [], bx, [], y, c, _, rfl, (fun a o e => nomatch e), hB, c0, c1, rfl, rfl, rfl, fun v d G' H5 y' c' nb hB' c0' c1' rd hp => ?_⟩
      have e5 := nb.h _ _ neD e4
      refine ⟨_, e5, ?_, y', c', ?_, c0', c1', fun b o e => ?_, ?_⟩
      · rw [List.length_map, List.length_replicate]; exact sz60' (by omega)
      · obtain ⟨x', q1, q2⟩ := hB'
        exact ⟨x', by rw [upd_ne neD.symm]; exact q1, q2⟩
      · rw [upd_ne (ne_of_none e nD)]; exact nb.h _ _ (ne_of_none e nbx) (s4 _ _ e)
      · subst hp
        cases (show v = .bl true from rd)
        rw [upd_same, List.replicate_succ', List.map_append]; rfl
    · rintro H4 ⟨y, c, hB, c0, c1, s4, e4⟩
      refine ⟨D, _, rfl, SqL.of e4, true, congrArg V.bl (all_true 4), ?_⟩
      exact ⟨_, _, _, rfl, s2.trans s4⟩
  · rintro σ H2 ⟨o2, o3, o4, rfl, s2⟩
    exact q H2
end
theorem all_mk {l : PySem.W.OpenLaw} {w : World} {K : PySem.W.Frag} {h : Heap} {mg : Str → Option Value} {fa fD0 fD1 fD2 fD3 fD4 fD5 fD6 fD7 fD8 fD9 fD10 fD11 fD12 fD13 fD14 fD15 fD16 fD17 fD18 fD19 fD20 fD21 fD22 fD23 fD24 fD25 : Addr} (X : K.In h) (G : h.Ns mainGlobals mg) (hfa : mg "law" = some (.ref fa))
    {odD0 anD0 odD1 anD1 odD2 anD2 odD3 anD3 odD4 anD4 odD5 anD5 odD6 anD6 odD7 anD7 odD8 anD8 odD9 anD9 odD10 anD10 odD11 anD11 odD12 anD12 odD13 anD13 odD14 anD14 odD15 anD15 odD16 anD16 odD17 anD17 odD18 anD18 odD19 anD19 odD20 anD20 odD21 anD21 odD22 anD22 odD23 anD23 odD24 anD24 odD25 anD25 : Option Addr} {slD0 slD1 slD2 slD3 slD4 slD5 slD6 slD7 slD8 slD9 slD10 slD11 slD12 slD13 slD14 slD15 slD16 slD17 slD18 slD19 slD20 slD21 slD22 slD23 slD24 slD25 : Array (Option Value)} {ocD0 kVD0 dcD0 pmD0 cdD0 ctD0 ocD1 kVD1 dcD1 pmD1 cdD1 ctD1 ocD2 kVD2 dcD2 pmD2 cdD2 ctD2 ocD3 kVD3 dcD3 pmD3 cdD3 ctD3 ocD4 kVD4 dcD4 pmD4 cdD4 ctD4 ocD5 kVD5 dcD5 pmD5 cdD5 ctD5 ocD6 kVD6 dcD6 pmD6 cdD6 ctD6 ocD7 kVD7 dcD7 pmD7 cdD7 ctD7 ocD8 kVD8 dcD8 pmD8 cdD8 ctD8 ocD9 kVD9 dcD9 pmD9 cdD9 ctD9 ocD10 kVD10 dcD10 pmD10 cdD10 ctD10 ocD11 kVD11 dcD11 pmD11 cdD11 ctD11 ocD12 kVD12 dcD12 pmD12 cdD12 ctD12 ocD13 kVD13 dcD13 pmD13 cdD13 ctD13 ocD14 kVD14 dcD14 pmD14 cdD14 ctD14 ocD15 kVD15 dcD15 pmD15 cdD15 ctD15 ocD16 kVD16 dcD16 pmD16 cdD16 ctD16 ocD17 kVD17 dcD17 pmD17 cdD17 ctD17 ocD18 kVD18 dcD18 pmD18 cdD18 ctD18 ocD19 kVD19 dcD19 pmD19 cdD19 ctD19 ocD20 kVD20 dcD20 pmD20 cdD20 ctD20 ocD21 kVD21 dcD21 pmD21 cdD21 ctD21 ocD22 kVD22 dcD22 pmD22 cdD22 ctD22 ocD23 kVD23 dcD23 pmD23 cdD23 ctD23 ocD24 kVD24 dcD24 pmD24 cdD24 ctD24 ocD25 kVD25 dcD25 pmD25 cdD25 ctD25 : Value} {C fI fM : Addr} {odI anI odM anM : Option Addr} {slI slM : Array (Option Value)} {ocI kVI dcI pmI cdI ctI ocM kVM dcM pmM cdM ctM : Value}
    (aD0 : PySem.W.nsIn K mainGlobals "is_whole" = some (some (.ref fD0)))
    (lD0 : K.lookup fD0 = some ⟨ocD0, odD0, .func (PySem.W.fnOf "is_whole" "is_whole" (defArgs s_is_whole) (defBody s_is_whole) (defScope s_is_whole) .none kVD0 dcD0 pmD0 anD0 cdD0 ctD0), slD0⟩)
    (cD0 : PySem.W.codeIn K cdD0 "is_whole" = true)
    (kD0 : PySem.W.keepIn K (.ref fD0) = true)
    (aD1 : PySem.W.nsIn K mainGlobals "as_tuples" = some (some (.ref fD1)))
    (lD1 : K.lookup fD1 = some ⟨ocD1, odD1, .func (PySem.W.fnOf "as_tuples" "as_tuples" (defArgs s_as_tuples) (defBody s_as_tuples) (defScope s_as_tuples) .none kVD1 dcD1 pmD1 anD1 cdD1 ctD1), slD1⟩)
    (cD1 : PySem.W.codeIn K cdD1 "as_tuples" = true)
    (kD1 : PySem.W.keepIn K (.ref fD1) = true)
    (aD2 : PySem.W.nsIn K mainGlobals "low_within" = some (some (.ref fD2)))
    (lD2 : K.lookup fD2 = some ⟨ocD2, odD2, .func (PySem.W.fnOf "low_within" "low_within" (defArgs s_low_within) (defBody s_low_within) (defScope s_low_within) .none kVD2 dcD2 pmD2 anD2 cdD2 ctD2), slD2⟩)
    (cD2 : PySem.W.codeIn K cdD2 "low_within" = true)
    (kD2 : PySem.W.keepIn K (.ref fD2) = true)
    (aD3 : PySem.W.nsIn K mainGlobals "high_within" = some (some (.ref fD3)))
    (lD3 : K.lookup fD3 = some ⟨ocD3, odD3, .func (PySem.W.fnOf "high_within" "high_within" (defArgs s_high_within) (defBody s_high_within) (defScope s_high_within) .none kVD3 dcD3 pmD3 anD3 cdD3 ctD3), slD3⟩)
    (cD3 : PySem.W.codeIn K cdD3 "high_within" = true)
    (kD3 : PySem.W.keepIn K (.ref fD3) = true)
    (aD4 : PySem.W.nsIn K mainGlobals "lets_in" = some (some (.ref fD4)))
    (lD4 : K.lookup fD4 = some ⟨ocD4, odD4, .func (PySem.W.fnOf "lets_in" "lets_in" (defArgs s_lets_in) (defBody s_lets_in) (defScope s_lets_in) .none kVD4 dcD4 pmD4 anD4 cdD4 ctD4), slD4⟩)
    (cD4 : PySem.W.codeIn K cdD4 "lets_in" = true)
    (kD4 : PySem.W.keepIn K (.ref fD4) = true)
    (aD5 : PySem.W.nsIn K mainGlobals "single" = some (some (.ref fD5)))
    (lD5 : K.lookup fD5 = some ⟨ocD5, odD5, .func (PySem.W.fnOf "single" "single" (defArgs s_single) (defBody s_single) (defScope s_single) .none kVD5 dcD5 pmD5 anD5 cdD5 ctD5), slD5⟩)
    (cD5 : PySem.W.codeIn K cdD5 "single" = true)
    (kD5 : PySem.W.keepIn K (.ref fD5) = true)
    (aD6 : PySem.W.nsIn K mainGlobals "value_of" = some (some (.ref fD6)))
    (lD6 : K.lookup fD6 = some ⟨ocD6, odD6, .func (PySem.W.fnOf "value_of" "value_of" (defArgs s_value_of) (defBody s_value_of) (defScope s_value_of) .none kVD6 dcD6 pmD6 anD6 cdD6 ctD6), slD6⟩)
    (cD6 : PySem.W.codeIn K cdD6 "value_of" = true)
    (kD6 : PySem.W.keepIn K (.ref fD6) = true)
    (aD7 : PySem.W.nsIn K mainGlobals "stretches" = some (some (.ref fD7)))
    (lD7 : K.lookup fD7 = some ⟨ocD7, odD7, .func (PySem.W.fnOf "stretches" "stretches" (defArgs s_stretches) (defBody s_stretches) (defScope s_stretches) .none kVD7 dcD7 pmD7 anD7 cdD7 ctD7), slD7⟩)
    (cD7 : PySem.W.codeIn K cdD7 "stretches" = true)
    (kD7 : PySem.W.keepIn K (.ref fD7) = true)
    (aD8 : PySem.W.nsIn K mainGlobals "has_naming_form" = some (some (.ref fD8)))
    (lD8 : K.lookup fD8 = some ⟨ocD8, odD8, .func (PySem.W.fnOf "has_naming_form" "has_naming_form" (defArgs s_has_naming_form) (defBody s_has_naming_form) (defScope s_has_naming_form) .none kVD8 dcD8 pmD8 anD8 cdD8 ctD8), slD8⟩)
    (cD8 : PySem.W.codeIn K cdD8 "has_naming_form" = true)
    (kD8 : PySem.W.keepIn K (.ref fD8) = true)
    (aD9 : PySem.W.nsIn K mainGlobals "is_row" = some (some (.ref fD9)))
    (lD9 : K.lookup fD9 = some ⟨ocD9, odD9, .func (PySem.W.fnOf "is_row" "is_row" (defArgs s_is_row) (defBody s_is_row) (defScope s_is_row) .none kVD9 dcD9 pmD9 anD9 cdD9 ctD9), slD9⟩)
    (cD9 : PySem.W.codeIn K cdD9 "is_row" = true)
    (kD9 : PySem.W.keepIn K (.ref fD9) = true)
    (aD10 : PySem.W.nsIn K mainGlobals "is_naming" = some (some (.ref fD10)))
    (lD10 : K.lookup fD10 = some ⟨ocD10, odD10, .func (PySem.W.fnOf "is_naming" "is_naming" (defArgs s_is_naming) (defBody s_is_naming) (defScope s_is_naming) .none kVD10 dcD10 pmD10 anD10 cdD10 ctD10), slD10⟩)
    (cD10 : PySem.W.codeIn K cdD10 "is_naming" = true)
    (kD10 : PySem.W.keepIn K (.ref fD10) = true)
    (aD11 : PySem.W.nsIn K mainGlobals "classes" = some (some (.ref fD11)))
    (lD11 : K.lookup fD11 = some ⟨ocD11, odD11, .func (PySem.W.fnOf "classes" "classes" (defArgs s_classes) (defBody s_classes) (defScope s_classes) .none kVD11 dcD11 pmD11 anD11 cdD11 ctD11), slD11⟩)
    (cD11 : PySem.W.codeIn K cdD11 "classes" = true)
    (kD11 : PySem.W.keepIn K (.ref fD11) = true)
    (aD12 : PySem.W.nsIn K mainGlobals "class_of" = some (some (.ref fD12)))
    (lD12 : K.lookup fD12 = some ⟨ocD12, odD12, .func (PySem.W.fnOf "class_of" "class_of" (defArgs s_class_of) (defBody s_class_of) (defScope s_class_of) .none kVD12 dcD12 pmD12 anD12 cdD12 ctD12), slD12⟩)
    (cD12 : PySem.W.codeIn K cdD12 "class_of" = true)
    (kD12 : PySem.W.keepIn K (.ref fD12) = true)
    (aD13 : PySem.W.nsIn K mainGlobals "_law_box" = some (some (.ref fD13)))
    (lD13 : K.lookup fD13 = some ⟨ocD13, odD13, .func (PySem.W.fnOf "_law_box" "_law_box" (defArgs sBox) (defBody sBox) (defScope sBox) .none kVD13 dcD13 pmD13 anD13 cdD13 ctD13), slD13⟩)
    (cD13 : PySem.W.codeIn K cdD13 "_law_box" = true)
    (kD13 : PySem.W.keepIn K (.ref fD13) = true)
    (aD14 : PySem.W.nsIn K mainGlobals "_law_take" = some (some (.ref fD14)))
    (lD14 : K.lookup fD14 = some ⟨ocD14, odD14, .func (PySem.W.fnOf "_law_take" "_law_take" (defArgs sTake) (defBody sTake) (defScope sTake) .none kVD14 dcD14 pmD14 anD14 cdD14 ctD14), slD14⟩)
    (cD14 : PySem.W.codeIn K cdD14 "_law_take" = true)
    (kD14 : PySem.W.keepIn K (.ref fD14) = true)
    (aD15 : PySem.W.nsIn K mainGlobals "_law_cells" = some (some (.ref fD15)))
    (lD15 : K.lookup fD15 = some ⟨ocD15, odD15, .func (PySem.W.fnOf "_law_cells" "_law_cells" (defArgs sCells) (defBody sCells) (defScope sCells) .none kVD15 dcD15 pmD15 anD15 cdD15 ctD15), slD15⟩)
    (cD15 : PySem.W.codeIn K cdD15 "_law_cells" = true)
    (kD15 : PySem.W.keepIn K (.ref fD15) = true)
    (aD16 : PySem.W.nsIn K mainGlobals "_law_of" = some (some (.ref fD16)))
    (lD16 : K.lookup fD16 = some ⟨ocD16, odD16, .func (PySem.W.fnOf "_law_of" "_law_of" (defArgs sOf) (defBody sOf) (defScope sOf) .none kVD16 dcD16 pmD16 anD16 cdD16 ctD16), slD16⟩)
    (cD16 : PySem.W.codeIn K cdD16 "_law_of" = true)
    (kD16 : PySem.W.keepIn K (.ref fD16) = true)
    (aD17 : PySem.W.nsIn K mainGlobals "_law_same" = some (some (.ref fD17)))
    (lD17 : K.lookup fD17 = some ⟨ocD17, odD17, .func (PySem.W.fnOf "_law_same" "_law_same" (defArgs s_l_same) (defBody s_l_same) (defScope s_l_same) .none kVD17 dcD17 pmD17 anD17 cdD17 ctD17), slD17⟩)
    (cD17 : PySem.W.codeIn K cdD17 "_law_same" = true)
    (kD17 : PySem.W.keepIn K (.ref fD17) = true)
    (aD18 : PySem.W.nsIn K mainGlobals "_law_kind" = some (some (.ref fD18)))
    (lD18 : K.lookup fD18 = some ⟨ocD18, odD18, .func (PySem.W.fnOf "_law_kind" "_law_kind" (defArgs s_l_kind) (defBody s_l_kind) (defScope s_l_kind) .none kVD18 dcD18 pmD18 anD18 cdD18 ctD18), slD18⟩)
    (cD18 : PySem.W.codeIn K cdD18 "_law_kind" = true)
    (kD18 : PySem.W.keepIn K (.ref fD18) = true)
    (aD19 : PySem.W.nsIn K mainGlobals "_law_naming" = some (some (.ref fD19)))
    (lD19 : K.lookup fD19 = some ⟨ocD19, odD19, .func (PySem.W.fnOf "_law_naming" "_law_naming" (defArgs s_l_naming) (defBody s_l_naming) (defScope s_l_naming) .none kVD19 dcD19 pmD19 anD19 cdD19 ctD19), slD19⟩)
    (cD19 : PySem.W.codeIn K cdD19 "_law_naming" = true)
    (kD19 : PySem.W.keepIn K (.ref fD19) = true)
    (aD20 : PySem.W.nsIn K mainGlobals "_law_whole" = some (some (.ref fD20)))
    (lD20 : K.lookup fD20 = some ⟨ocD20, odD20, .func (PySem.W.fnOf "_law_whole" "_law_whole" (defArgs s_l_whole) (defBody s_l_whole) (defScope s_l_whole) .none kVD20 dcD20 pmD20 anD20 cdD20 ctD20), slD20⟩)
    (cD20 : PySem.W.codeIn K cdD20 "_law_whole" = true)
    (kD20 : PySem.W.keepIn K (.ref fD20) = true)
    (aD21 : PySem.W.nsIn K mainGlobals "_law_is_naming" = some (some (.ref fD21)))
    (lD21 : K.lookup fD21 = some ⟨ocD21, odD21, .func (PySem.W.fnOf "_law_is_naming" "_law_is_naming" (defArgs s_l_is_naming) (defBody s_l_is_naming) (defScope s_l_is_naming) .none kVD21 dcD21 pmD21 anD21 cdD21 ctD21), slD21⟩)
    (cD21 : PySem.W.codeIn K cdD21 "_law_is_naming" = true)
    (kD21 : PySem.W.keepIn K (.ref fD21) = true)
    (aD22 : PySem.W.nsIn K mainGlobals "_law_bent" = some (some (.ref fD22)))
    (lD22 : K.lookup fD22 = some ⟨ocD22, odD22, .func (PySem.W.fnOf "_law_bent" "_law_bent" (defArgs s_l_bent) (defBody s_l_bent) (defScope s_l_bent) .none kVD22 dcD22 pmD22 anD22 cdD22 ctD22), slD22⟩)
    (cD22 : PySem.W.codeIn K cdD22 "_law_bent" = true)
    (kD22 : PySem.W.keepIn K (.ref fD22) = true)
    (aD23 : PySem.W.nsIn K mainGlobals "_law_lists" = some (some (.ref fD23)))
    (lD23 : K.lookup fD23 = some ⟨ocD23, odD23, .func (PySem.W.fnOf "_law_lists" "_law_lists" (defArgs s_l_lists) (defBody s_l_lists) (defScope s_l_lists) .none kVD23 dcD23 pmD23 anD23 cdD23 ctD23), slD23⟩)
    (cD23 : PySem.W.codeIn K cdD23 "_law_lists" = true)
    (kD23 : PySem.W.keepIn K (.ref fD23) = true)
    (aD24 : PySem.W.nsIn K mainGlobals "_law_right" = some (some (.ref fD24)))
    (lD24 : K.lookup fD24 = some ⟨ocD24, odD24, .func (PySem.W.fnOf "_law_right" "_law_right" (defArgs s_l_right) (defBody s_l_right) (defScope s_l_right) .none kVD24 dcD24 pmD24 anD24 cdD24 ctD24), slD24⟩)
    (cD24 : PySem.W.codeIn K cdD24 "_law_right" = true)
    (kD24 : PySem.W.keepIn K (.ref fD24) = true)
    (aD25 : PySem.W.nsIn K mainGlobals "law" = some (some (.ref fD25)))
    (lD25 : K.lookup fD25 = some ⟨ocD25, odD25, .func (PySem.W.fnOf "law" "law" (defArgs sLaw) (defBody sLaw) (defScope sLaw) .none kVD25 dcD25 pmD25 anD25 cdD25 ctD25), slD25⟩)
    (cD25 : PySem.W.codeIn K cdD25 "law" = true)
    (kD25 : PySem.W.keepIn K (.ref fD25) = true)
    (b_len : PySem.W.nsIn K mainGlobals "len" = some none)
    (b_abs : PySem.W.nsIn K mainGlobals "abs" = some none)
    (b_int : PySem.W.nsIn K mainGlobals "int" = some none)
    (b_list : PySem.W.nsIn K mainGlobals "list" = some none)
    (b_tuple : PySem.W.nsIn K mainGlobals "tuple" = some none)
    (b_bool : PySem.W.nsIn K mainGlobals "bool" = some none)
    (b_str : PySem.W.nsIn K mainGlobals "str" = some none)
    (b_enumerate : PySem.W.nsIn K mainGlobals "enumerate" = some none)
    (b_isinstance : PySem.W.nsIn K mainGlobals "isinstance" = some none)
    (b_all : PySem.W.nsIn K mainGlobals "all" = some none)
    (b_any : PySem.W.nsIn K mainGlobals "any" = some none)
    (b_zip : PySem.W.nsIn K mainGlobals "zip" = some none)
    (b_range : PySem.W.nsIn K mainGlobals "range" = some none)
    (b_min : PySem.W.nsIn K mainGlobals "min" = some none)
    (b_max : PySem.W.nsIn K mainGlobals "max" = some none)
    (b_set : PySem.W.nsIn K mainGlobals "set" = some none)
    (b_sorted : PySem.W.nsIn K mainGlobals "sorted" = some none)
    (b_repr : PySem.W.nsIn K mainGlobals "repr" = some none)
    (b_sum : PySem.W.nsIn K mainGlobals "sum" = some none)
    (b_map : PySem.W.nsIn K mainGlobals "map" = some none)
    (aCL : PySem.W.nsIn K mainGlobals "Cells" = some (some (.ref C)))
    (ai : PySem.W.findIn K (.ref C) "__init__" = some (some (.ref fI)))
    (ii : PySem.W.isFn K (.ref fI) = true)
    (li : K.lookup fI = some ⟨ocI, odI, .func (PySem.W.fnOf "__init__" "Cells.__init__" (defArgs (mC 0)) (defBody (mC 0)) (defScope (mC 0)) .none kVI dcI pmI anI cdI ctI), slI⟩)
    (ci : PySem.W.codeIn K cdI "Cells.__init__" = true)
    (ki : PySem.W.keepIn K (.ref fI) = true)
    (am : PySem.W.findIn K (.ref C) "class_of" = some (some (.ref fM)))
    (im : PySem.W.isFn K (.ref fM) = true)
    (lm : K.lookup fM = some ⟨ocM, odM, .func (PySem.W.fnOf "class_of" "Cells.class_of" (defArgs (mC 1)) (defBody (mC 1)) (defScope (mC 1)) .none kVM dcM pmM anM cdM ctM), slM⟩)
    (cm : PySem.W.codeIn K cdM "Cells.class_of" = true)
    (km : PySem.W.keepIn K (.ref fM) = true)
    (pg : PySem.W.plainGet K C Str.empty = true)
    (hd : PySem.W.hasDictIn K C = true)
    (po : PySem.W.plainOver K C = true)
    (sa : PySem.W.findIn K (.ref C) "__setattr__" = some (some (.builtin "object.__setattr__")))
    (mk : PySem.W.makesIn K C = true)
    (kc : PySem.W.keepIn K (.ref C) = true)
    (na0 : PySem.W.findIn K (.ref C) "cuts" = some none)
    (na1 : PySem.W.findIn K (.ref C) "m" = some none)
    (na2 : PySem.W.findIn K (.ref C) "names" = some none)
    (na3 : PySem.W.findIn K (.ref C) "pairs" = some none)
    (na4 : PySem.W.findIn K (.ref C) "wholes" = some none)
    (na5 : PySem.W.findIn K (.ref C) "results" = some none) :
    ∃ fd : FuncData, (∀ (s : Shared) (v : Value), BindsTo s fd ⟨[v], []⟩ [("_law_script", v)]) ∧ ∀ base : Heap, K.In base → base.Ns mainGlobals mg → FnG l.prog w K mg base 23 fa fd ["_law_script"] (spLaw K) := by
  have e := hfa.symm.trans (PySem.W.mg_of X G aD25)
  cases e
  have F_is_whole := fun_mk (st := s_is_whole) lD0 cD0 kD0
  have b_is_whole := F_is_whole.binds (ps := ["thing"]) fun _ _ _ _ _ _ us hl => match us, hl with | [_], _ => rfl
  have F_as_tuples := fun_mk (st := s_as_tuples) lD1 cD1 kD1
  have b_as_tuples := F_as_tuples.binds (ps := ["thing"]) fun _ _ _ _ _ _ us hl => match us, hl with | [_], _ => rfl
  have F_low_within := fun_mk (st := s_low_within) lD2 cD2 kD2
  have b_low_within := F_low_within.binds (ps := ["one", "other"]) fun _ _ _ _ _ _ us hl => match us, hl with | [_, _], _ => rfl
  have F_high_within := fun_mk (st := s_high_within) lD3 cD3 kD3
  have b_high_within := F_high_within.binds (ps := ["one", "other"]) fun _ _ _ _ _ _ us hl => match us, hl with | [_, _], _ => rfl
  have F_lets_in := fun_mk (st := s_lets_in) lD4 cD4 kD4
  have b_lets_in := F_lets_in.binds (ps := ["low", "high", "n"]) fun _ _ _ _ _ _ us hl => match us, hl with | [_, _, _], _ => rfl
  have F_single := fun_mk (st := s_single) lD5 cD5 kD5
  have b_single := F_single.binds (ps := ["n"]) fun _ _ _ _ _ _ us hl => match us, hl with | [_], _ => rfl
  have F_value_of := fun_mk (st := s_value_of) lD6 cD6 kD6
  have b_value_of := F_value_of.binds (ps := ["low", "high", "m", "r"]) fun _ _ _ _ _ _ us hl => match us, hl with | [_, _, _, _], _ => rfl
  have F_stretches := fun_mk (st := s_stretches) lD7 cD7 kD7
  have b_stretches := F_stretches.binds (ps := ["cuts"]) fun _ _ _ _ _ _ us hl => match us, hl with | [_], _ => rfl
  have F_has_naming_form := fun_mk (st := s_has_naming_form) lD8 cD8 kD8
  have b_has_naming_form := F_has_naming_form.binds (ps := ["thing"]) fun _ _ _ _ _ _ us hl => match us, hl with | [_], _ => rfl
  have F_is_row := fun_mk (st := s_is_row) lD9 cD9 kD9
  have b_is_row := F_is_row.binds (ps := ["thing", "span", "m"]) fun _ _ _ _ _ _ us hl => match us, hl with | [_, _, _], _ => rfl
  have F_is_naming := fun_mk (st := s_is_naming) lD10 cD10 kD10
  have b_is_naming := F_is_naming.binds (ps := ["thing"]) fun _ _ _ _ _ _ us hl => match us, hl with | [_], _ => rfl
  have F_classes := fun_mk (st := s_classes) lD11 cD11 kD11
  have b_classes := F_classes.binds (ps := ["naming"]) fun _ _ _ _ _ _ us hl => match us, hl with | [_], _ => rfl
  have F_class_of := fun_mk (st := s_class_of) lD12 cD12 kD12
  have b_class_of := F_class_of.binds (ps := ["naming", "n"]) fun _ _ _ _ _ _ us hl => match us, hl with | [_, _], _ => rfl
  have F_l_box := fun_mk (st := sBox) lD13 cD13 kD13
  have b_l_box := F_l_box.binds (ps := ["_law_script", "_law_k"]) fun _ _ _ _ _ _ us hl => match us, hl with | [_, _], _ => rfl
  have F_l_take := fun_mk (st := sTake) lD14 cD14 kD14
  have b_l_take := F_l_take.binds (ps := ["_law_box_here", "_law_below"]) fun _ _ _ _ _ _ us hl => match us, hl with | [_, _], _ => rfl
  have F_l_cells := fun_mk (st := sCells) lD15 cD15 kD15
  have b_l_cells := F_l_cells.binds (ps := ["_law_script", "_law_most"]) fun _ _ _ _ _ _ us hl => match us, hl with | [_, _], _ => rfl
  have F_l_of := fun_mk (st := sOf) lD16 cD16 kD16
  have b_l_of := F_l_of.binds (ps := ["_law_box_here", "_law_some"]) fun _ _ _ _ _ _ us hl => match us, hl with | [_, _], _ => rfl
  have F_l_same := fun_mk (st := s_l_same) lD17 cD17 kD17
  have b_l_same := F_l_same.binds (ps := ["_law_found", "_law_due"]) fun _ _ _ _ _ _ us hl => match us, hl with | [_, _], _ => rfl
  have F_l_kind := fun_mk (st := s_l_kind) lD18 cD18 kD18
  have b_l_kind := F_l_kind.binds (ps := ["_law_cuts_so", "_law_size", "_law_place", "_law_left"]) fun _ _ _ _ _ _ us hl => match us, hl with | [_, _, _, _], _ => rfl
  have F_l_naming := fun_mk (st := s_l_naming) lD19 cD19 kD19
  have b_l_naming := F_l_naming.binds (ps := ["_law_box_here"]) fun _ _ _ _ _ _ us hl => match us, hl with | [_], _ => rfl
  have F_l_whole := fun_mk (st := s_l_whole) lD20 cD20 kD20
  have b_l_whole := F_l_whole.binds (ps := ["_law_matter"]) fun _ _ _ _ _ _ us hl => match us, hl with | [_], _ => rfl
  have F_l_is_naming := fun_mk (st := s_l_is_naming) lD21 cD21 kD21
  have b_l_is_naming := F_l_is_naming.binds (ps := ["_law_matter"]) fun _ _ _ _ _ _ us hl => match us, hl with | [_], _ => rfl
  have F_l_bent := fun_mk (st := s_l_bent) lD22 cD22 kD22
  have b_l_bent := F_l_bent.binds (ps := ["_law_box_here", "_law_matter"]) fun _ _ _ _ _ _ us hl => match us, hl with | [_, _], _ => rfl
  have F_l_lists := fun_mk (st := s_l_lists) lD23 cD23 kD23
  have b_l_lists := F_l_lists.binds (ps := ["_law_matter"]) fun _ _ _ _ _ _ us hl => match us, hl with | [_], _ => rfl
  have F_l_right := fun_mk (st := s_l_right) lD24 cD24 kD24
  have b_l_right := F_l_right.binds (ps := ["_law_box_here"]) fun _ _ _ _ _ _ us hl => match us, hl with | [_], _ => rfl
  have F_law := fun_mk (st := sLaw) lD25 cD25 kD25
  have b_law := F_law.binds (ps := ["_law_script"]) fun _ _ _ _ _ _ us hl => match us, hl with | [_], _ => rfl
  have bl : Blts mg := ⟨PySem.W.mg_none_of X G b_len, PySem.W.mg_none_of X G b_abs, PySem.W.mg_none_of X G b_int, PySem.W.mg_none_of X G b_list, PySem.W.mg_none_of X G b_tuple, PySem.W.mg_none_of X G b_bool, PySem.W.mg_none_of X G b_str, PySem.W.mg_none_of X G b_enumerate, PySem.W.mg_none_of X G b_isinstance, PySem.W.mg_none_of X G b_all, PySem.W.mg_none_of X G b_any, PySem.W.mg_none_of X G b_zip, PySem.W.mg_none_of X G b_range, PySem.W.mg_none_of X G b_min, PySem.W.mg_none_of X G b_max, PySem.W.mg_none_of X G b_set, PySem.W.mg_none_of X G b_sorted, PySem.W.mg_none_of X G b_repr, PySem.W.mg_none_of X G b_sum⟩
  have hmap := PySem.W.mg_none_of X G b_map
  have mCL := PySem.W.mg_of X G aCL
  have FI := fun_mk (st := mC 0) li ci ki
  have FM := fun_mk (st := mC 1) lm cm km
  have bI := FI.binds (ps := ["self", "naming"]) fun _ _ _ _ _ _ us hl => match us, hl with | [_, _], _ => rfl
  have bM := FM.binds (ps := ["self", "n"]) fun _ _ _ _ _ _ us hl => match us, hl with | [_, _], _ => rfl
  have CTC : CT K C := ⟨⟨pg, hd, po, sa⟩, na0, na1, na2, na3, na4, na5⟩
  have MKC : Mk K C fI := ⟨mk, ai, ii, kc⟩
  have n_is_whole := PySem.W.mg_of X G aD0
  have n_as_tuples := PySem.W.mg_of X G aD1
  have n_low_within := PySem.W.mg_of X G aD2
  have n_high_within := PySem.W.mg_of X G aD3
  have n_lets_in := PySem.W.mg_of X G aD4
  have n_single := PySem.W.mg_of X G aD5
  have n_value_of := PySem.W.mg_of X G aD6
  have n_stretches := PySem.W.mg_of X G aD7
  have n_has_naming_form := PySem.W.mg_of X G aD8
  have n_is_row := PySem.W.mg_of X G aD9
  have n_is_naming := PySem.W.mg_of X G aD10
  have n_classes := PySem.W.mg_of X G aD11
  have n_class_of := PySem.W.mg_of X G aD12
  have n_l_box := PySem.W.mg_of X G aD13
  have n_l_take := PySem.W.mg_of X G aD14
  have n_l_cells := PySem.W.mg_of X G aD15
  have n_l_of := PySem.W.mg_of X G aD16
  have n_l_same := PySem.W.mg_of X G aD17
  have n_l_kind := PySem.W.mg_of X G aD18
  have n_l_naming := PySem.W.mg_of X G aD19
  have n_l_whole := PySem.W.mg_of X G aD20
  have n_l_is_naming := PySem.W.mg_of X G aD21
  have n_l_bent := PySem.W.mg_of X G aD22
  have n_l_lists := PySem.W.mg_of X G aD23
  have n_l_right := PySem.W.mg_of X G aD24
  refine ⟨PySem.W.fnOf "law" "law" (defArgs sLaw) (defBody sLaw) (defScope sLaw) .none kVD25 dcD25 pmD25 anD25 cdD25 ctD25, fun s v => .of_eq rfl, fun base _ _ => ?_⟩
  have c_as_tuples : Cal l.prog w K mg base 20 "as_tuples" ["thing"] (spP K (S_as 4)) _ _ := ⟨all_as (P := l.prog) (w := w) (mg := mg) (base := base) bl hmap F_as_tuples b_as_tuples n_as_tuples 4, b_as_tuples, F_as_tuples.kp, n_as_tuples⟩
  have c_low_within : Cal l.prog w K mg base 1 "low_within" ["one", "other"] (spP K (S2b lwB)) _ _ := ⟨ok_low_within (P := l.prog) (w := w) (mg := mg) (base := base) bl F_low_within, b_low_within, F_low_within.kp, n_low_within⟩
  have c_high_within : Cal l.prog w K mg base 1 "high_within" ["one", "other"] (spP K (S2b hwB)) _ _ := ⟨ok_high_within (P := l.prog) (w := w) (mg := mg) (base := base) bl F_high_within, b_high_within, F_high_within.kp, n_high_within⟩
  have c_single : Cal l.prog w K mg base 1 "single" ["n"] (spP K (S_sing)) _ _ := ⟨ok_single (P := l.prog) (w := w) (mg := mg) (base := base) bl F_single, b_single, F_single.kp, n_single⟩
  have c_stretches : Cal l.prog w K mg base 1 "stretches" ["cuts"] (spP K (S_str)) _ _ := ⟨ok_stretches (P := l.prog) (w := w) (mg := mg) (base := base) bl F_stretches, b_stretches, F_stretches.kp, n_stretches⟩
  have c_is_whole : Cal l.prog w K mg base 1 "is_whole" ["thing"] (spP K (S_wh)) _ _ := ⟨ok_is_whole (P := l.prog) (w := w) (mg := mg) (base := base) bl F_is_whole, b_is_whole, F_is_whole.kp, n_is_whole⟩
  have c_lets_in : Cal l.prog w K mg base 2 "lets_in" ["low", "high", "n"] (spP K S_lets) _ _ := ⟨ok_lets_in bl c_low_within c_high_within F_lets_in, b_lets_in, F_lets_in.kp, n_lets_in⟩
  have c_value_of : Cal l.prog w K mg base 3 "value_of" ["low", "high", "m", "r"] (spP K S_vo) _ _ := ⟨ok_value_of bl c_lets_in c_single F_value_of, b_value_of, F_value_of.kp, n_value_of⟩
  have c_is_row : Cal l.prog w K mg base 4 "is_row" ["thing", "span", "m"] (spP K S_row) _ _ := ⟨ok_is_row bl c_value_of F_is_row, b_is_row, F_is_row.kp, n_is_row⟩
  have c_has_naming_form : Cal l.prog w K mg base 5 "has_naming_form" ["thing"] (spP K S_nam) _ _ := ⟨ok_has_naming_form bl c_is_whole c_stretches c_is_row F_has_naming_form, b_has_naming_form, F_has_naming_form.kp, n_has_naming_form⟩
  have c_is_naming : Cal l.prog w K mg base 6 "is_naming" ["thing"] (spP K S_nam) _ _ := ⟨ok_is_naming bl c_has_naming_form F_is_naming, b_is_naming, F_is_naming.kp, n_is_naming⟩
  have c_classes : Cal l.prog w K mg base 21 "classes" ["naming"] (spP K S_cls) _ _ := ⟨ok_classes bl c_as_tuples F_classes, b_classes, F_classes.kp, n_classes⟩
  have GI := ok_Ci (P := l.prog) (w := w) (mg := mg) (base := base) bl c_stretches c_value_of FI CTC
  have GM := ok_Cm (P := l.prog) (w := w) (mg := mg) (base := base) bl FM CTC
  have c_class_of : Cal l.prog w K mg base 21 "class_of" ["naming", "n"] (spP K S_cof) _ _ := ⟨ok_class_of bl c_as_tuples CTC MKC mCL GI bI ⟨GM, bM, ⟨am, im, km⟩⟩ F_class_of, b_class_of, F_class_of.kp, n_class_of⟩
  have k_classes : KB0 K _ p_classes ["naming"] id id := kb0_of F_classes (fun _ _ _ _ _ _ us hl => match us, hl with | [_], _ => rfl) (fun r _ => r)
  have k_is_naming : KB0 K _ p_is_naming ["thing"] id id := kb0_of F_is_naming (fun _ _ _ _ _ _ us hl => match us, hl with | [_], _ => rfl) (fun r _ => r)
  have k_class_of : KB0 K _ p_class_of ["n", "naming"] List.reverse List.reverse := kb0_of F_class_of (fun _ _ _ _ _ _ us hl => match us, hl with | [_, _], _ => rfl) (fun r _ => vals_rev r)
  have T1 := ok_take (n := 1) (P := l.prog) (w := w) (mg := mg) (base := base) F_l_take
  have c_l_take : Cal l.prog w K mg base 2 "_law_take" ["_law_box_here", "_law_below"] (spB K 1 domT postT) _ _ := ⟨take_B T1, b_l_take, F_l_take.kp, n_l_take⟩
  have c_l_of : Cal l.prog w K mg base 3 "_law_of" ["_law_box_here", "_law_some"] (spB K 1 domO postO) _ _ := ⟨ok_l_of bl c_l_take F_l_of, b_l_of, F_l_of.kp, n_l_of⟩
  have c_l_same : Cal l.prog w K mg base 4 "_law_same" ["_law_found", "_law_due"] (spP K (S_same 4)) _ _ := ⟨all_same bl F_l_same b_l_same n_l_same 4, b_l_same, F_l_same.kp, n_l_same⟩
  have c_l_whole : Cal l.prog w K mg base 1 "_law_whole" ["_law_matter"] (spP K S_wh) _ _ := ⟨ok_l_whole (P := l.prog) (w := w) (mg := mg) (base := base) bl F_l_whole, b_l_whole, F_l_whole.kp, n_l_whole⟩
  have c_l_kind : Cal l.prog w K mg base 1 "_law_kind" ["_law_cuts_so", "_law_size", "_law_place", "_law_left"] (spP K S_kind) _ _ := ⟨ok_l_kind (P := l.prog) (w := w) (mg := mg) (base := base) bl F_l_kind, b_l_kind, F_l_kind.kp, n_l_kind⟩
  have c_l_is_naming : Cal l.prog w K mg base 2 "_law_is_naming" ["_law_matter"] (spP K S_nam) _ _ := ⟨ok_l_is_naming bl c_l_whole c_l_kind F_l_is_naming, b_l_is_naming, F_l_is_naming.kp, n_l_is_naming⟩
  have c_l_naming : Cal l.prog w K mg base 4 "_law_naming" ["_law_box_here"] (spB K 57 domNm postNm) _ _ := ⟨ok_l_naming bl c_l_take c_l_of c_l_kind F_l_naming, b_l_naming, F_l_naming.kp, n_l_naming⟩
  have c_l_bent : Cal l.prog w K mg base 9 "_law_bent" ["_law_box_here", "_law_matter"] (spB K (3 * 5) (domBn 5) postBn) _ _ := ⟨all_bent bl c_l_take c_l_of c_l_whole F_l_bent b_l_bent n_l_bent 5, b_l_bent, F_l_bent.kp, n_l_bent⟩
  have c_l_lists : Cal l.prog w K mg base 4 "_law_lists" ["_law_matter"] (spP K (S_ll 4)) _ _ := ⟨all_lists bl F_l_lists b_l_lists n_l_lists 4, b_l_lists, F_l_lists.kp, n_l_lists⟩
  have GR := ok_l_right bl c_l_take c_l_naming c_l_lists c_classes c_class_of c_l_same c_l_bent c_l_is_naming c_is_naming k_classes k_class_of k_is_naming F_l_right
  have GC := ok_cells (P := l.prog) (w := w) (mg := mg) (base := base) (n := 0) F_l_cells bl.list bl.enumerate
  have GB := ok_box (P := l.prog) (w := w) (mg := mg) (base := base) (n := 0) F_l_box bl.len bl.abs bl.int
  exact ok_law F_law GC b_l_cells F_l_cells.kp n_l_cells GB b_l_box F_l_box.kp n_l_box GR b_l_right F_l_right.kp n_l_right bl.range bl.len bl.all
end Sh
set_option Elab.async false
open PySem PySem.W PyProof.Rows
set_option maxRecDepth 100000 in
set_option maxHeartbeats 0 in
theorem PySem.Challenge.cw_shadowruns_k37_namings_or_not_holds : PySem.Challenge.rw_shadowruns_k37_namings_or_not.Holds := by
  w_on; o_law; k_head; (case hw => w_witness2)
  k_fill
  refine Sh.walk_g (l := PySem.Challenge.rw_shadowruns_k37_namings_or_not) (n := 63) (k := 23) (x := "_law_script") (sp := fun w => Sh.spLaw _) rfl (by decide) rfl ⟨rfl, by decide, by decide⟩ (fun w h Y => PySem.W.kIn_of Y) ?F (fun _ _ a ns hl _ hS => ⟨a, ns, rfl, hS, hl, fun _ => rfl⟩)
  case F =>
    intro w mg fa h KX G hmg
    refine' Sh.all_mk KX G hmg ?aD0 ?lD0 ?cD0 ?kD0 ?aD1 ?lD1 ?cD1 ?kD1 ?aD2 ?lD2 ?cD2 ?kD2 ?aD3 ?lD3 ?cD3 ?kD3 ?aD4 ?lD4 ?cD4 ?kD4 ?aD5 ?lD5 ?cD5 ?kD5 ?aD6 ?lD6 ?cD6 ?kD6 ?aD7 ?lD7 ?cD7 ?kD7 ?aD8 ?lD8 ?cD8 ?kD8 ?aD9 ?lD9 ?cD9 ?kD9 ?aD10 ?lD10 ?cD10 ?kD10 ?aD11 ?lD11 ?cD11 ?kD11 ?aD12 ?lD12 ?cD12 ?kD12 ?aD13 ?lD13 ?cD13 ?kD13 ?aD14 ?lD14 ?cD14 ?kD14 ?aD15 ?lD15 ?cD15 ?kD15 ?aD16 ?lD16 ?cD16 ?kD16 ?aD17 ?lD17 ?cD17 ?kD17 ?aD18 ?lD18 ?cD18 ?kD18 ?aD19 ?lD19 ?cD19 ?kD19 ?aD20 ?lD20 ?cD20 ?kD20 ?aD21 ?lD21 ?cD21 ?kD21 ?aD22 ?lD22 ?cD22 ?kD22 ?aD23 ?lD23 ?cD23 ?kD23 ?aD24 ?lD24 ?cD24 ?kD24 ?aD25 ?lD25 ?cD25 ?kD25 ?b_len ?b_abs ?b_int ?b_list ?b_tuple ?b_bool ?b_str ?b_enumerate ?b_isinstance ?b_all ?b_any ?b_zip ?b_range ?b_min ?b_max ?b_set ?b_sorted ?b_repr ?b_sum ?b_map ?aCL ?ai ?ii ?li ?ci ?ki ?am ?im ?lm ?cm ?km ?pg ?hd ?po ?sa ?mk ?kc ?na0 ?na1 ?na2 ?na3 ?na4 ?na5
    (case aD0 => k_is)
    (case lD0 => k_is)
    (case cD0 => k_is)
    (case kD0 => k_is)
    (case aD1 => k_is)
    (case lD1 => k_is)
    (case cD1 => k_is)
    (case kD1 => k_is)
    (case aD2 => k_is)
    (case lD2 => k_is)
    (case cD2 => k_is)
    (case kD2 => k_is)
    (case aD3 => k_is)
    (case lD3 => k_is)
    (case cD3 => k_is)
    (case kD3 => k_is)
    (case aD4 => k_is)
    (case lD4 => k_is)
    (case cD4 => k_is)
    (case kD4 => k_is)
    (case aD5 => k_is)
    (case lD5 => k_is)
    (case cD5 => k_is)
    (case kD5 => k_is)
    (case aD6 => k_is)
    (case lD6 => k_is)
    (case cD6 => k_is)
    (case kD6 => k_is)
    (case aD7 => k_is)
    (case lD7 => k_is)
    (case cD7 => k_is)
    (case kD7 => k_is)
    (case aD8 => k_is)
    (case lD8 => k_is)
    (case cD8 => k_is)
    (case kD8 => k_is)
    (case aD9 => k_is)
    (case lD9 => k_is)
    (case cD9 => k_is)
    (case kD9 => k_is)
    (case aD10 => k_is)
    (case lD10 => k_is)
    (case cD10 => k_is)
    (case kD10 => k_is)
    (case aD11 => k_is)
    (case lD11 => k_is)
    (case cD11 => k_is)
    (case kD11 => k_is)
    (case aD12 => k_is)
    (case lD12 => k_is)
    (case cD12 => k_is)
    (case kD12 => k_is)
    (case aD13 => k_is)
    (case lD13 => k_is)
    (case cD13 => k_is)
    (case kD13 => k_is)
    (case aD14 => k_is)
    (case lD14 => k_is)
    (case cD14 => k_is)
    (case kD14 => k_is)
    (case aD15 => k_is)
    (case lD15 => k_is)
    (case cD15 => k_is)
    (case kD15 => k_is)
    (case aD16 => k_is)
    (case lD16 => k_is)
    (case cD16 => k_is)
    (case kD16 => k_is)
    (case aD17 => k_is)
    (case lD17 => k_is)
    (case cD17 => k_is)
    (case kD17 => k_is)
    (case aD18 => k_is)
    (case lD18 => k_is)
    (case cD18 => k_is)
    (case kD18 => k_is)
    (case aD19 => k_is)
    (case lD19 => k_is)
    (case cD19 => k_is)
    (case kD19 => k_is)
    (case aD20 => k_is)
    (case lD20 => k_is)
    (case cD20 => k_is)
    (case kD20 => k_is)
    (case aD21 => k_is)
    (case lD21 => k_is)
    (case cD21 => k_is)
    (case kD21 => k_is)
    (case aD22 => k_is)
    (case lD22 => k_is)
    (case cD22 => k_is)
    (case kD22 => k_is)
    (case aD23 => k_is)
    (case lD23 => k_is)
    (case cD23 => k_is)
    (case kD23 => k_is)
    (case aD24 => k_is)
    (case lD24 => k_is)
    (case cD24 => k_is)
    (case kD24 => k_is)
    (case aD25 => k_is)
    (case lD25 => k_is)
    (case cD25 => k_is)
    (case kD25 => k_is)
    (case b_len => k_is)
    (case b_abs => k_is)
    (case b_int => k_is)
    (case b_list => k_is)
    (case b_tuple => k_is)
    (case b_bool => k_is)
    (case b_str => k_is)
    (case b_enumerate => k_is)
    (case b_isinstance => k_is)
    (case b_all => k_is)
    (case b_any => k_is)
    (case b_zip => k_is)
    (case b_range => k_is)
    (case b_min => k_is)
    (case b_max => k_is)
    (case b_set => k_is)
    (case b_sorted => k_is)
    (case b_repr => k_is)
    (case b_sum => k_is)
    (case b_map => k_is)
    (case aCL => k_is)
    (case ai => k_is)
    (case ii => k_is)
    (case li => k_is)
    (case ci => k_is)
    (case ki => k_is)
    (case am => k_is)
    (case im => k_is)
    (case lm => k_is)
    (case cm => k_is)
    (case km => k_is)
    (case pg => k_is)
    (case hd => k_is)
    (case po => k_is)
    (case sa => k_is)
    (case mk => k_is)
    (case kc => k_is)
    (case na0 => k_is)
    (case na1 => k_is)
    (case na2 => k_is)
    (case na3 => k_is)
    (case na4 => k_is)
    (case na5 => k_is)
