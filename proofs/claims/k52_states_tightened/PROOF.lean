import PyProof.Rows.All
import Wide.All
import OpenK.AllK
import Wide.FinOn
import HandS.ForMost
import HandS.Flow
import HandS.IsInst
import HandS.FStr
import HandS.Zip
import HandS.Walk
import HandS.Wide
import HandS.TupAny
import HandS.Defaults
import HandS.Style
import HandS.SetFor
import HandS.Strs
import HandS.SortKw
import KE.DatumOrd
import HandS.NoneIn
import HandS.Conv
import HandS.Rev
import HandS.RevTup
import HandS.MapObj
import HandS.MapJoin
import HandS.Gcd
import PyProof.Rows.SortShellAny
import HandS.FromBytesMap
import KE.GoesMore
import PyProof.TupleOfGen
import HandS.Iter
import KE.KDictZip
import PyProof.ListNew
import HandS.Deep
import KE.GoesNew
import KE.KStar
import HandS.Star
import PyProof.Draws
import KE.GoesEnum
import HandS.Dict
import KE.RegKIsAll
import PySem.Challenge.RW_shadowruns_k52_states_tightened
set_option Elab.async false
set_option linter.all false
set_option maxRecDepth 100000
set_option maxHeartbeats 4000000
/-! A layer of its own over the hand layer: values as data, the heap out of sight. -/
namespace Sh
open PySem PySem.Spec PyProof.Rows L2
inductive Dt where
  | non | bl (b : Bool) | int (i : Int) | str (s : Str) | ty (n : String) | tup (l : List Dt) | lst (l : List Dt)
section
variable (K : PySem.W.Frag)
mutual
def RD (G : Hp) : Dt → V → Prop
  | .non, v => v = .non
  | .bl b, v => v = .bl b
  | .int i, v => v = .int i
  | .str s, v => v = .str s
  | .ty n, v => v = .ty n
  | .tup l, v => ∃ a xs, v = .ref a ∧ SqT K G a xs ∧ RDs G l xs
  | .lst l, v => ∃ a xs, v = .ref a ∧ G a = some (.lst xs) ∧ RDs G l xs
def RDs (G : Hp) : List Dt → List V → Prop
  | [], xs => xs = []
  | d :: l, xs => ∃ x r, xs = x :: r ∧ RD G d x ∧ RDs G l r
end
end
section
variable {K : PySem.W.Frag}
theorem same_rd {H H' : Hp} {a : Addr} {u : HO} (e : Same H H') (h : Rd H a u) : Rd H' a u := by
  rcases h with h | ⟨o, h⟩
  · exact .inl (e _ _ h)
  · exact .inr ⟨o, e _ _ h⟩
theorem same_sqT {H H' : Hp} {a : Addr} {xs : List V} (e : Same H H') (h : SqT K H a xs) : SqT K H' a xs := by
  rcases h with h | h
  · exact .inl (same_rd e h)
  · exact .inr h
theorem same_sqL {H H' : Hp} {a : Addr} {xs : List V} (e : Same H H') (h : SqL K H a xs) : SqL K H' a xs := by
  rcases h with h | h
  · exact .inl (same_rd e h)
  · exact .inr h
mutual
theorem RD.same {G G' : Hp} (k : Same G G') : ∀ {d : Dt} {v : V}, RD K G d v → RD K G' d v
  | .non, _, h => h
  | .bl _, _, h => h
  | .int _, _, h => h
  | .str _, _, h => h
  | .ty _, _, h => h
  | .tup _, _, ⟨a, xs, e, q, r⟩ => ⟨a, xs, e, same_sqT k q, RDs.same k r⟩
  | .lst _, _, ⟨a, xs, e, q, r⟩ => ⟨a, xs, e, k _ _ q, RDs.same k r⟩
theorem RDs.same {G G' : Hp} (k : Same G G') : ∀ {l : List Dt} {xs : List V}, RDs K G l xs → RDs K G' l xs
  | [], _, h => h
  | _ :: _, _, ⟨x, r, e, h1, h2⟩ => ⟨x, r, e, RD.same k h1, RDs.same k h2⟩
end
theorem RDs.length {G : Hp} : ∀ {l : List Dt} {xs : List V}, RDs K G l xs → xs.length = l.length
  | [], _, h => by rw [show _ = [] from h]; rfl
  | _ :: _, _, ⟨x, r, e, h1, h2⟩ => by rw [e, List.length_cons, List.length_cons, RDs.length h2]
theorem RDs.get {G : Hp} : ∀ {l : List Dt} {xs : List V} {i : Nat} {d : Dt}, RDs K G l xs → l[i]? = some d → ∃ x, xs[i]? = some x ∧ RD K G d x
  | [], _, i, _, h, e => by simp at e
  | d :: l, _, 0, _, ⟨y, r, e1, h1, h2⟩, e => by
    cases e; subst e1; exact ⟨y, rfl, h1⟩
  | d :: l, _, i + 1, _, ⟨y, r, e1, h1, h2⟩, e => by
    subst e1
    obtain ⟨x, q1, q2⟩ := RDs.get (i := i) h2 (by simpa using e)
    exact ⟨x, by simpa using q1, q2⟩
theorem RDs.back {G : Hp} : ∀ {l : List Dt} {xs : List V} {i : Nat} {x : V}, RDs K G l xs → xs[i]? = some x → ∃ d, l[i]? = some d ∧ RD K G d x
  | [], _, i, x, h, e => by rw [show _ = [] from h] at e; simp at e
  | d :: l, _, 0, x, ⟨y, r, e1, h1, h2⟩, e => by
    rw [e1] at e; cases e; exact ⟨d, rfl, h1⟩
  | d :: l, _, i + 1, x, ⟨y, r, e1, h1, h2⟩, e => by
    rw [e1] at e
    obtain ⟨d', q1, q2⟩ := RDs.back (i := i) h2 (by simpa using e)
    exact ⟨d', by simpa using q1, q2⟩
theorem RDs.snoc {G : Hp} : ∀ {l : List Dt} {xs : List V} {d : Dt} {x : V}, RDs K G l xs → RD K G d x → RDs K G (l ++ [d]) (xs ++ [x])
  | [], _, d, x, h, r => by rw [show _ = [] from h]; exact ⟨x, [], rfl, r, rfl⟩
  | d :: l, _, _, x, ⟨y, r, e1, h1, h2⟩, q => ⟨y, r ++ [x], by rw [e1]; rfl, h1, RDs.snoc h2 q⟩
theorem RDs.app {G : Hp} : ∀ {l m : List Dt} {xs ys : List V}, RDs K G l xs → RDs K G m ys → RDs K G (l ++ m) (xs ++ ys)
  | [], _, _, _, h, r => by rw [show _ = [] from h]; exact r
  | d :: l, _, _, ys, ⟨y, r, e1, h1, h2⟩, q => ⟨y, r ++ ys, by rw [e1]; rfl, h1, RDs.app h2 q⟩
theorem RDs.take {G : Hp} : ∀ {l : List Dt} {xs : List V} (n : Nat), RDs K G l xs → RDs K G (l.take n) (xs.take n)
  | _, _, 0, h => by rw [List.take_zero, List.take_zero]; rfl
  | [], _, n + 1, h => by rw [show _ = [] from h]; rfl
  | d :: l, _, n + 1, ⟨y, r, e1, h1, h2⟩ => ⟨y, r.take n, by rw [e1]; rfl, h1, RDs.take n h2⟩
theorem RDs.drop {G : Hp} : ∀ {l : List Dt} {xs : List V} (n : Nat), RDs K G l xs → RDs K G (l.drop n) (xs.drop n)
  | _, _, 0, h => h
  | [], _, n + 1, h => by rw [show _ = [] from h]; rfl
  | d :: l, _, n + 1, ⟨y, r, e1, h1, h2⟩ => by rw [e1]; exact RDs.drop n h2
theorem RDs.bls {G : Hp} : ∀ {ns : List Bool} {xs : List V}, RDs K G (ns.map Dt.bl) xs → xs = ns.map V.bl
  | [], _, h => h
  | n :: ns, _, ⟨y, r, e1, h1, h2⟩ => by rw [e1, show y = V.bl n from h1, RDs.bls h2]; rfl
theorem RDs.one {G : Hp} {d : Dt} {xs : List V} (h : RDs K G [d] xs) : ∃ x, xs = [x] ∧ RD K G d x := by
  obtain ⟨x, r, rfl, h1, rfl⟩ := h
  exact ⟨x, rfl, h1⟩
theorem RDs.two {G : Hp} {d e : Dt} {xs : List V} (h : RDs K G [d, e] xs) : ∃ x y, xs = [x, y] ∧ RD K G d x ∧ RD K G e y := by
  obtain ⟨x, r, rfl, h1, y, r2, rfl, h2, rfl⟩ := h
  exact ⟨x, y, rfl, h1, h2⟩
theorem same_up {H : Hp} {p : Addr} {o : HO} (h : H p = none) : Same H (upd H p o) := fun b x e => by
  rw [upd_ne (ne_of_none e h)]; exact e
theorem same_upd {G H : Hp} {p : Addr} {o : HO} (h : Same G H) : Same (upd G p o) (upd H p o) := fun b x e => by
  by_cases z : b = p
  · subst z; rw [upd_same] at e ⊢; exact e
  · rw [upd_ne z] at e ⊢; exact h _ _ e
/-! ### what stands in the slots -/
def BxM : Int := 1000000000000
def Bx (H : Hp) (b : Addr) (y c : Int) : Prop := ∃ x : Int, H b = some (.lst [.int x, .int y, .int c]) ∧ 0 ≤ x ∧ 0 ≤ y ∧ y < 4611686018427387904
inductive En where
  | no | da (d : Dt) | own (l : List Dt) | bx (b : Addr) (f : Nat)
def En.isOwn : En → Prop
  | .own _ => True
  | .bx _ _ => True
  | _ => False
end
/-- G: what is data; H: all; B: what others hold and is no data -/
structure Mt (K : PySem.W.Frag) (B : Addr → Prop) (ρ : List En) (σ : L2.St) (G H : Hp) : Prop where
  sub : Same G H
  pro : ∀ a, B a → G a = none ∧ H a ≠ none
  len : σ.length = ρ.length
  da : ∀ (i : Nat) (d : Dt), ρ[i]? = some (.da d) → ∃ v, σ[i]? = some (some v) ∧ RD K G d v
  own : ∀ (i : Nat) (l : List Dt), ρ[i]? = some (.own l) → ∃ (q : Addr) (xs : List V), σ[i]? = some (some (V.ref q)) ∧ H q = some (.lst xs) ∧ RDs K G l xs ∧ G q = none ∧ ¬ B q
  bx : ∀ (i : Nat) (b : Addr) (f : Nat), ρ[i]? = some (.bx b f) → ∃ (y c : Int), σ[i]? = some (some (V.ref b)) ∧ Bx H b y c ∧ 0 ≤ c ∧ c + f ≤ BxM ∧ G b = none ∧ ¬ B b
  dis : ∀ (i j : Nat) (e e' : En) (a : Addr), ρ[i]? = some e → ρ[j]? = some e' → e.isOwn → e'.isOwn → i ≠ j → σ[i]? = some (some (V.ref a)) → σ[j]? = some (some (V.ref a)) → False
/-- what others hold stays -/
def Tr (B : Addr → Prop) (H H' : Hp) : Prop := ∀ a o, B a → H a = some o → H' a = some o
theorem Tr.refl {B : Addr → Prop} {H : Hp} : Tr B H H := fun _ _ _ e => e
theorem Tr.trans {B : Addr → Prop} {H H1 H2 : Hp} (x : Tr B H H1) (y : Tr B H1 H2) : Tr B H H2 := fun a o b e => y a o b (x a o b e)
theorem Tr.same {B : Addr → Prop} {H H' : Hp} (x : Same H H') : Tr B H H' := fun a o _ e => x a o e
/-- a step that only lays new data -/
structure Nw (G H G' H' : Hp) : Prop where
  g : Same G G'
  s : Same G' H'
  h : Same H H'
  f : ∀ a, G a = none → H a ≠ none → G' a = none
theorem Nw.refl {G H : Hp} (s : Same G H) : Nw G H G H := ⟨Same.refl _, s, Same.refl _, fun _ h _ => h⟩
theorem Nw.trans {G H G1 H1 G2 H2 : Hp} (x : Nw G H G1 H1) (y : Nw G1 H1 G2 H2) : Nw G H G2 H2 :=
  ⟨x.g.trans y.g, y.s, x.h.trans y.h, fun a h1 h2 => y.f a (x.f a h1 h2) (fun z => by
    cases e : H a with
    | none => exact h2 e
    | some o => rw [x.h _ _ e] at z; cases z)⟩
theorem Nw.new {G H : Hp} {p : Addr} {o : HO} (s : Same G H) (n : H p = none) : Nw G H (upd G p o) (upd H p o) :=
  ⟨same_up (s.free n), same_upd s, same_up n, fun a h1 h2 => by
    rw [upd_ne (fun z => h2 (by rw [z]; exact n))]; exact h1⟩
section
variable {K : PySem.W.Frag} {B : Addr → Prop} {ρ : List En} {σ : L2.St} {G H G' H' : Hp}
theorem ne_none {H H' : Hp} {a : Addr} (s : Same H H') (h : H a ≠ none) : H' a ≠ none := fun z => h (s.free z)
theorem some_ne {H : Hp} {a : Addr} {o : HO} (e : H a = some o) : H a ≠ none := fun z => by rw [z] at e; cases e
theorem Bx.ne {b : Addr} {y c : Int} (h : Bx H b y c) : H b ≠ none := by
  obtain ⟨x, e, _⟩ := h
  exact some_ne e
theorem Bx.same {b : Addr} {y c : Int} (s : Same H H') (h : Bx H b y c) : Bx H' b y c := by
  obtain ⟨x, e, r⟩ := h
  exact ⟨x, s _ _ e, r⟩
theorem Mt.nw (m : Mt K B ρ σ G H) (n : Nw G H G' H') : Mt K B ρ σ G' H' where
  sub := n.s
  pro := fun a b => ⟨n.f a (m.pro a b).1 (m.pro a b).2, ne_none n.h (m.pro a b).2⟩
  len := m.len
  da := fun i d e => by
    obtain ⟨v, h1, h2⟩ := m.da i d e
    exact ⟨v, h1, h2.same n.g⟩
  own := fun i l e => by
    obtain ⟨q, xs, h1, h2, h3, h4, h5⟩ := m.own i l e
    exact ⟨q, xs, h1, n.h _ _ h2, h3.same n.g, n.f q h4 (some_ne h2), h5⟩
  bx := fun i b f e => by
    obtain ⟨y, c, h1, h2, h3, h4, h5, h6⟩ := m.bx i b f e
    exact ⟨y, c, h1, h2.same n.h, h3, h4, n.f b h5 h2.ne, h6⟩
  dis := m.dis
theorem get_set {α : Type} {l : List α} {i j : Nat} {x y : α} (h : (l.set i x)[j]? = some y) : (i = j ∧ y = x ∧ i < l.length) ∨ (i ≠ j ∧ l[j]? = some y) := by
  rw [List.getElem?_set] at h
  by_cases e : i = j
  · rw [if_pos e] at h
    split at h
    · cases h; exact .inl ⟨e, rfl, by assumption⟩
    · cases h
  · rw [if_neg e] at h; exact .inr ⟨e, h⟩
theorem set_at {α : Type} {l : List α} {i : Nat} {x : α} (h : i < l.length) : (l.set i x)[i]? = some x := by
  rw [List.getElem?_set, if_pos rfl, if_pos h]
theorem set_off {α : Type} {l : List α} {i j : Nat} {x : α} (h : i ≠ j) : (l.set i x)[j]? = l[j]? := by
  rw [List.getElem?_set, if_neg h]
/-- a slot gets data -/
theorem Mt.set (m : Mt K B ρ σ G H) (i : Nat) {d : Dt} {v : V} (r : RD K G d v) : Mt K B (ρ.set i (.da d)) (σ.set i (some v)) G H where
  sub := m.sub
  pro := m.pro
  len := by rw [List.length_set, List.length_set]; exact m.len
  da := fun j e h => by
    rcases get_set h with ⟨rfl, z, lt⟩ | ⟨ne, z⟩
    · cases z; exact ⟨v, set_at (by rw [m.len]; exact lt), r⟩
    · rw [set_off ne]; exact m.da j e z
  own := fun j l h => by
    rcases get_set h with ⟨rfl, z, lt⟩ | ⟨ne, z⟩
    · cases z
    · rw [set_off ne]; exact m.own j l z
  bx := fun j b f h => by
    rcases get_set h with ⟨rfl, z, lt⟩ | ⟨ne, z⟩
    · cases z
    · rw [set_off ne]; exact m.bx j b f z
  dis := fun j k e e' a h1 h2 o1 o2 ne s1 s2 => by
    rcases get_set h1 with ⟨rfl, z, lt⟩ | ⟨n1, z1⟩
    · subst z; exact o1
    · rcases get_set h2 with ⟨rfl, z, lt⟩ | ⟨n2, z2⟩
      · subst z; exact o2
      · rw [set_off n1] at s1; rw [set_off n2] at s2; exact m.dis j k e e' a z1 z2 o1 o2 ne s1 s2
/-- a slot is forgotten -/
theorem Mt.drop (m : Mt K B ρ σ G H) (i : Nat) (o : Option V) : Mt K B (ρ.set i .no) (σ.set i o) G H where
  sub := m.sub
  pro := m.pro
  len := by rw [List.length_set, List.length_set]; exact m.len
  da := fun j e h => by
    rcases get_set h with ⟨rfl, z, lt⟩ | ⟨ne, z⟩
    · cases z
    · rw [set_off ne]; exact m.da j e z
  own := fun j l h => by
    rcases get_set h with ⟨rfl, z, lt⟩ | ⟨ne, z⟩
    · cases z
    · rw [set_off ne]; exact m.own j l z
  bx := fun j b f h => by
    rcases get_set h with ⟨rfl, z, lt⟩ | ⟨ne, z⟩
    · cases z
    · rw [set_off ne]; exact m.bx j b f z
  dis := fun j k e e' a h1 h2 o1 o2 ne s1 s2 => by
    rcases get_set h1 with ⟨rfl, z, lt⟩ | ⟨n1, z1⟩
    · subst z; exact o1
    · rcases get_set h2 with ⟨rfl, z, lt⟩ | ⟨n2, z2⟩
      · subst z; exact o2
      · rw [set_off n1] at s1; rw [set_off n2] at s2; exact m.dis j k e e' a z1 z2 o1 o2 ne s1 s2
/-- less is protected -/
theorem Mt.less (m : Mt K B ρ σ G H) {B' : Addr → Prop} (h : ∀ a, B' a → B a) : Mt K B' ρ σ G H where
  sub := m.sub
  pro := fun a b => m.pro a (h a b)
  len := m.len
  da := m.da
  own := fun i l e => by
    obtain ⟨q, xs, h1, h2, h3, h4, h5⟩ := m.own i l e
    exact ⟨q, xs, h1, h2, h3, h4, fun z => h5 (h _ z)⟩
  bx := fun i b f e => by
    obtain ⟨y, c, h1, h2, h3, h4, h5, h6⟩ := m.bx i b f e
    exact ⟨y, c, h1, h2, h3, h4, h5, fun z => h6 (h _ z)⟩
  dis := m.dis
/-- a new object that is no data is protected, too -/
theorem Mt.guard (m : Mt K B ρ σ G H) {p : Addr} {o : HO} (n : H p = none) : Mt K (fun a => B a ∨ a = p) ρ σ G (upd H p o) where
  sub := m.sub.trans (same_up n)
  pro := fun a b => by
    rcases b with b | rfl
    · exact ⟨(m.pro a b).1, ne_none (same_up n) (m.pro a b).2⟩
    · exact ⟨m.sub.free n, some_ne upd_same⟩
  len := m.len
  da := m.da
  own := fun i l e => by
    obtain ⟨q, xs, h1, h2, h3, h4, h5⟩ := m.own i l e
    exact ⟨q, xs, h1, same_up n _ _ h2, h3, h4, fun z => z.elim h5 (ne_of_none h2 n)⟩
  bx := fun i b f e => by
    obtain ⟨y, c, h1, h2, h3, h4, h5, h6⟩ := m.bx i b f e
    exact ⟨y, c, h1, h2.same (same_up n), h3, h4, h5, fun z => z.elim h6 (fun w => h2.ne (by rw [w]; exact n))⟩
  dis := m.dis
/-- a protected object changes -/
theorem Mt.turn (m : Mt K B ρ σ G H) {p : Addr} {o : HO} (bp : B p) : Mt K B ρ σ G (upd H p o) where
  sub := fun a u e => by
    rw [upd_ne (fun z => by rw [z, (m.pro p bp).1] at e; cases e)]; exact m.sub _ _ e
  pro := fun a ba => ⟨(m.pro a ba).1, by
    by_cases z : a = p
    · subst z; exact some_ne upd_same
    · rw [upd_ne z]; exact (m.pro a ba).2⟩
  len := m.len
  da := m.da
  own := fun i l e => by
    obtain ⟨q, xs, h1, h2, h3, h4, h5⟩ := m.own i l e
    exact ⟨q, xs, h1, by rw [upd_ne (fun z => h5 (by rw [z]; exact bp))]; exact h2, h3, h4, h5⟩
  bx := fun i b f e => by
    obtain ⟨y, k, h1, ⟨x, h2, h2'⟩, h3, h4, h5, h6⟩ := m.bx i b f e
    exact ⟨y, k, h1, ⟨x, by rw [upd_ne (fun z => h6 (by rw [z]; exact bp))]; exact h2, h2'⟩, h3, h4, h5, h6⟩
  dis := m.dis
/-- an own list becomes data -/
theorem Mt.frz (m : Mt K B ρ σ G H) {i : Nat} {l : List Dt} (e : ρ[i]? = some (.own l)) : ∃ G', Mt K B (ρ.set i (.da (.lst l))) σ G' H ∧ Same G G' := by
  obtain ⟨q, xs, h1, h2, h3, h4, h5⟩ := m.own i l e
  have sg : Same G (upd G q (.lst xs)) := same_up h4
  have li : i < ρ.length := (List.getElem?_eq_some_iff.mp e).1
  refine ⟨upd G q (.lst xs), ⟨?_, ?_, ?_, ?_, ?_, ?_, ?_⟩, sg⟩
  · intro a o z
    by_cases w : a = q
    · subst w; rw [upd_same] at z; cases z; exact h2
    · rw [upd_ne w] at z; exact m.sub _ _ z
  · exact fun a b => ⟨by rw [upd_ne (fun z => h5 (by rw [← z]; exact b))]; exact (m.pro a b).1, (m.pro a b).2⟩
  · rw [List.length_set]; exact m.len
  · intro j d h
    rcases get_set h with ⟨rfl, z, lt⟩ | ⟨ne, z⟩
    · cases z; exact ⟨_, h1, q, xs, rfl, upd_same, h3.same sg⟩
    · obtain ⟨v, z1, z2⟩ := m.da j d z
      exact ⟨v, z1, z2.same sg⟩
  · intro j k h
    rcases get_set h with ⟨rfl, z, lt⟩ | ⟨ne, z⟩
    · cases z
    · obtain ⟨q', ys, z1, z2, z3, z4, z5⟩ := m.own j k z
      exact ⟨q', ys, z1, z2, z3.same sg, by rw [upd_ne (fun w => m.dis i j _ _ q e z trivial trivial ne h1 (by rw [← w]; exact z1))]; exact z4, z5⟩
  · intro j b f h
    rcases get_set h with ⟨rfl, z, lt⟩ | ⟨ne, z⟩
    · cases z
    · obtain ⟨y, c, z1, z2, z3, z4, z5, z6⟩ := m.bx j b f z
      exact ⟨y, c, z1, z2, z3, z4, by rw [upd_ne (fun w => m.dis i j _ _ q e z trivial trivial ne h1 (by rw [← w]; exact z1))]; exact z5, z6⟩
  · intro j k e1 e2 a g1 g2 o1 o2 ne s1 s2
    rcases get_set g1 with ⟨rfl, z, lt⟩ | ⟨n1, z1⟩
    · subst z; exact o1
    · rcases get_set g2 with ⟨rfl, z, lt⟩ | ⟨n2, z2⟩
      · subst z; exact o2
      · exact m.dis j k e1 e2 a z1 z2 o1 o2 ne s1 s2
end
end Sh
set_option Elab.async false
set_option linter.all false
set_option maxRecDepth 100000
set_option maxHeartbeats 4000000
namespace Sh
open PySem PySem.Spec PyProof.Rows L2
section
variable (K : PySem.W.Frag)
/-- what must hold so that an expression gives d, leaving ρ', of which Ψ d ρ' holds: of data alone -/
def AE (te : TE) (ρ : List En) (Ψ : Dt → List En → Prop) : Prop := ∀ B σ G H, Mt K B ρ σ G H → ∀ Q : VK, (∀ v d ρ' G' H', Mt K B ρ' σ G' H' → Same G G' → Tr B H H' → RD K G' d v → Ψ d ρ' → Q v H') → te σ H Q
def AT (tt : TT) (ρ : List En) (Ψ : Bool → List En → Prop) : Prop := ∀ B σ G H, Mt K B ρ σ G H → ∀ Q : Bool → Hp → Prop, (∀ b ρ' G' H', Mt K B ρ' σ G' H' → Same G G' → Tr B H H' → Ψ b ρ' → Q b H') → tt σ H Q
def AA (ta : TA) (ρ : List En) (Ψ : List Dt → List En → Prop) : Prop := ∀ B σ G H, Mt K B ρ σ G H → ∀ Q : List V → Hp → Prop, (∀ vs ds ρ' G' H', Mt K B ρ' σ G' H' → Same G G' → Tr B H H' → RDs K G' ds vs → Ψ ds ρ' → Q vs H') → ta σ H Q
/-- a block: N of what it goes on with, R of what it returns -/
def AS (ts : TS) (ρ : List En) (N : List En → Prop) (R : Dt → List En → Prop) : Prop := ∀ B σ G H, Mt K B ρ σ G H → ∀ D : Ends,
  (∀ σ' ρ' G' H', Mt K B ρ' σ' G' H' → Same G G' → Tr B H H' → N ρ' → D.nx σ' H') →
  (∀ v d σ' ρ' G' H', Mt K B ρ' σ' G' H' → Same G G' → Tr B H H' → RD K G' d v → R d ρ' → D.rt v H') → ts D σ H
/-- by values: of data to data, only new data laid -/
def AR (r : R2) (d1 d2 : Dt) (Φ : Dt → Prop) : Prop := ∀ G H, Same G H → ∀ x y, RD K G d1 x → RD K G d2 y → ∀ Q : VK, (∀ v d G' H', Nw G H G' H' → RD K G' d v → Φ d → Q v H') → r x y H Q
def AU (r : V → Hp → VK → Prop) (d1 : Dt) (Φ : Dt → Prop) : Prop := ∀ G H, Same G H → ∀ x, RD K G d1 x → ∀ Q : VK, (∀ v d G' H', Nw G H G' H' → RD K G' d v → Φ d → Q v H') → r x H Q
def AC (r : List V → Hp → VK → Prop) (ds : List Dt) (Φ : Dt → Prop) : Prop := ∀ G H, Same G H → ∀ vs, RDs K G ds vs → ∀ Q : VK, (∀ v d G' H', Nw G H G' H' → RD K G' d v → Φ d → Q v H') → r vs H Q
end
section
variable {K : PySem.W.Frag} {ρ : List En} {Ψ : Dt → List En → Prop} {ΨT : Bool → List En → Prop} {ΨA : List Dt → List En → Prop} {N : List En → Prop} {R : Dt → List En → Prop} {Φ : Dt → Prop}
theorem ae_var {i : Nat} {d : Dt} (e : ρ[i]? = some (.da d)) (h : Ψ d ρ) : AE K (tVar i) ρ Ψ := fun B σ G H m Q q => by
  obtain ⟨v, h1, h2⟩ := m.da i d e
  exact ⟨v, h1, q v d ρ G H m (Same.refl _) Tr.refl h2 h⟩
theorem ae_c {v : V} (d : Dt) (e : ∀ G, RD K G d v) (h : Ψ d ρ) : AE K (tC v) ρ Ψ := fun B σ G H m Q q => q v d ρ G H m (Same.refl _) Tr.refl (e G) h
theorem ae_int {i : Int} (h : Ψ (.int i) ρ) : AE K (tC (.int i)) ρ Ψ := ae_c (.int i) (fun _ => rfl) h
theorem ae_non (h : Ψ .non ρ) : AE K (tC .non) ρ Ψ := ae_c .non (fun _ => rfl) h
theorem ae_bl {b : Bool} (h : Ψ (.bl b) ρ) : AE K (tC (.bl b)) ρ Ψ := ae_c (.bl b) (fun _ => rfl) h
theorem ae_str {s : Str} (h : Ψ (.str s) ρ) : AE K (tC (.str s)) ρ Ψ := ae_c (.str s) (fun _ => rfl) h
theorem ae_mono {te : TE} {Ψ' : Dt → List En → Prop} (h : AE K te ρ Ψ') (k : ∀ d ρ', Ψ' d ρ' → Ψ d ρ') : AE K te ρ Ψ := fun B σ G H m Q q =>
  h B σ G H m Q fun v d ρ' G' H' m' s t r p => q v d ρ' G' H' m' s t r (k d ρ' p)
theorem at_mono {te : TT} {Ψ' : Bool → List En → Prop} (h : AT K te ρ Ψ') (k : ∀ d ρ', Ψ' d ρ' → ΨT d ρ') : AT K te ρ ΨT := fun B σ G H m Q q =>
  h B σ G H m Q fun d ρ' G' H' m' s t p => q d ρ' G' H' m' s t (k d ρ' p)
theorem as_mono {ts : TS} {N' : List En → Prop} {R' : Dt → List En → Prop} (h : AS K ts ρ N' R') (k : ∀ ρ', N' ρ' → N ρ') (l : ∀ d ρ', R' d ρ' → R d ρ') : AS K ts ρ N R := fun B σ G H m D qn qr =>
  h B σ G H m D (fun σ' ρ' G' H' m' s t p => qn σ' ρ' G' H' m' s t (k ρ' p)) fun v d σ' ρ' G' H' m' s t r p => qr v d σ' ρ' G' H' m' s t r (l d ρ' p)
theorem ae_op {r : R2} {ta tb : TE} (h : AE K ta ρ fun d1 ρ1 => AE K tb ρ1 fun d2 ρ2 => AR K r d1 d2 fun d => Ψ d ρ2) : AE K (tOp r ta tb) ρ Ψ := fun B σ G H m Q q =>
  h B σ G H m _ fun x d1 ρ1 G1 H1 m1 s1 t1 r1 h1 => h1 B σ G1 H1 m1 _ fun y d2 ρ2 G2 H2 m2 s2 t2 r2 h2 =>
    h2 G2 H2 m2.sub x y (r1.same s2) r2 Q fun v d G3 H3 n3 r3 p3 => q v d ρ2 G3 H3 (m2.nw n3) ((s1.trans s2).trans n3.g) ((t1.trans t2).trans (Tr.same n3.h)) r3 p3
theorem ae_un {r : V → Hp → VK → Prop} {ta : TE} (h : AE K ta ρ fun d1 ρ1 => AU K r d1 fun d => Ψ d ρ1) : AE K (tUn r ta) ρ Ψ := fun B σ G H m Q q =>
  h B σ G H m _ fun x d1 ρ1 G1 H1 m1 s1 t1 r1 h1 => h1 G1 H1 m1.sub x r1 Q fun v d G3 H3 n3 r3 p3 => q v d ρ1 G3 H3 (m1.nw n3) (s1.trans n3.g) (t1.trans (Tr.same n3.h)) r3 p3
theorem aa_nil (h : ΨA [] ρ) : AA K tNil ρ ΨA := fun B σ G H m Q q => q [] [] ρ G H m (Same.refl _) Tr.refl rfl h
theorem aa_cons {ta : TE} {tr : TA} (h : AE K ta ρ fun d ρ1 => AA K tr ρ1 fun ds ρ2 => ΨA (d :: ds) ρ2) : AA K (tCons ta tr) ρ ΨA := fun B σ G H m Q q =>
  h B σ G H m _ fun x d ρ1 G1 H1 m1 s1 t1 r1 h1 => h1 B σ G1 H1 m1 _ fun xs ds ρ2 G2 H2 m2 s2 t2 r2 h2 =>
    q (x :: xs) (d :: ds) ρ2 G2 H2 m2 (s1.trans s2) (t1.trans t2) ⟨x, xs, rfl, r1.same s2, r2⟩ h2
theorem ae_cb {r : List V → Hp → VK → Prop} {ta : TA} (h : AA K ta ρ fun ds ρ1 => AC K r ds fun d => Ψ d ρ1) : AE K (tCB r ta) ρ Ψ := fun B σ G H m Q q =>
  h B σ G H m _ fun x d1 ρ1 G1 H1 m1 s1 t1 r1 h1 => h1 G1 H1 m1.sub x r1 Q fun v d G3 H3 n3 r3 p3 => q v d ρ1 G3 H3 (m1.nw n3) (s1.trans n3.g) (t1.trans (Tr.same n3.h)) r3 p3
theorem ae_tup {ta : TA} (h : AA K ta ρ fun ds ρ1 => ds.length ≤ sizeLine ∧ Ψ (.tup ds) ρ1) : AE K (tTup ta) ρ Ψ := fun B σ G H m Q q =>
  h B σ G H m _ fun xs ds ρ1 G1 H1 m1 s1 t1 r1 h1 => ⟨by rw [r1.length]; exact h1.1, fun p hp => by
    have n := Nw.new (o := .tup xs) m1.sub hp
    exact q _ (.tup ds) ρ1 _ _ (m1.nw n) (s1.trans n.g) (t1.trans (Tr.same n.h)) ⟨p, xs, rfl, SqT.of upd_same, r1.same n.g⟩ h1.2⟩
theorem ae_lst {ta : TA} (h : AA K ta ρ fun ds ρ1 => ds.length ≤ sizeLine ∧ Ψ (.lst ds) ρ1) : AE K (tLst ta) ρ Ψ := fun B σ G H m Q q =>
  h B σ G H m _ fun xs ds ρ1 G1 H1 m1 s1 t1 r1 h1 => ⟨by rw [r1.length]; exact h1.1, fun p hp => by
    have n := Nw.new (o := .lst xs) m1.sub hp
    exact q _ (.lst ds) ρ1 _ _ (m1.nw n) (s1.trans n.g) (t1.trans (Tr.same n.h)) ⟨p, xs, rfl, upd_same, r1.same n.g⟩ h1.2⟩
theorem ae_if {tt : TT} {ta tb : TE} (h : AT K tt ρ fun b ρ1 => (b = true → AE K ta ρ1 Ψ) ∧ (b = false → AE K tb ρ1 Ψ)) : AE K (tIf tt ta tb) ρ Ψ := fun B σ G H m Q q =>
  h B σ G H m _ fun b ρ1 G1 H1 m1 s1 t1 h1 => by
    cases b
    · rw [if_neg (by decide)]; exact h1.2 rfl B σ G1 H1 m1 Q fun v d ρ' G' H' m' s t r p => q v d ρ' G' H' m' (s1.trans s) (t1.trans t) r p
    · rw [if_pos rfl]; exact h1.1 rfl B σ G1 H1 m1 Q fun v d ρ' G' H' m' s t r p => q v d ρ' G' H' m' (s1.trans s) (t1.trans t) r p
theorem at_test {te : TE} (h : AE K te ρ fun d ρ1 => ∃ b, d = .bl b ∧ ΨT b ρ1) : AT K (tTest te) ρ ΨT := fun B σ G H m Q q =>
  h B σ G H m _ fun v d ρ1 G1 H1 m1 s1 t1 r1 ⟨b, e, p⟩ => by
    subst e; exact ⟨b, r1, q b ρ1 G1 H1 m1 s1 t1 p⟩
theorem at_b {te : TE} (h : AE K te ρ fun d ρ1 => ∃ b, d = .bl b ∧ ΨT b ρ1) : AT K (tB te) ρ ΨT := at_test h
theorem at_and {t u : TT} (h : AT K t ρ fun b ρ1 => (b = true → AT K u ρ1 ΨT) ∧ (b = false → ΨT false ρ1)) : AT K (tAnd t u) ρ ΨT := fun B σ G H m Q q =>
  h B σ G H m _ fun b ρ1 G1 H1 m1 s1 t1 h1 => by
    cases b
    · rw [if_neg (by decide)]; exact q false ρ1 G1 H1 m1 s1 t1 (h1.2 rfl)
    · rw [if_pos rfl]; exact h1.1 rfl B σ G1 H1 m1 Q fun d ρ' G' H' m' s t p => q d ρ' G' H' m' (s1.trans s) (t1.trans t) p
theorem at_or {t u : TT} (h : AT K t ρ fun b ρ1 => (b = true → ΨT true ρ1) ∧ (b = false → AT K u ρ1 ΨT)) : AT K (tOr t u) ρ ΨT := fun B σ G H m Q q =>
  h B σ G H m _ fun b ρ1 G1 H1 m1 s1 t1 h1 => by
    cases b
    · rw [if_neg (by decide)]; exact h1.2 rfl B σ G1 H1 m1 Q fun d ρ' G' H' m' s t p => q d ρ' G' H' m' (s1.trans s) (t1.trans t) p
    · rw [if_pos rfl]; exact q true ρ1 G1 H1 m1 s1 t1 (h1.1 rfl)
theorem at_not {t : TT} (h : AT K t ρ fun b ρ1 => ΨT (!b) ρ1) : AT K (tNot t) ρ ΨT := fun B σ G H m Q q =>
  h B σ G H m _ fun b ρ1 G1 H1 m1 s1 t1 h1 => q (!b) ρ1 G1 H1 m1 s1 t1 h1
theorem ae_andV {ta tb : TE} (h : AE K ta ρ fun d ρ1 => ∃ b, d = .bl b ∧ (b = true → AE K tb ρ1 Ψ) ∧ (b = false → Ψ (.bl false) ρ1)) : AE K (tAndV ta tb) ρ Ψ := fun B σ G H m Q q =>
  h B σ G H m _ fun v d ρ1 G1 H1 m1 s1 t1 r1 ⟨b, e, h1, h2⟩ => by
    subst e
    refine ⟨b, r1, ?_⟩
    cases b
    · rw [if_neg (by decide)]; exact q _ (.bl false) ρ1 G1 H1 m1 s1 t1 rfl (h2 rfl)
    · rw [if_pos rfl]; exact h1 rfl B σ G1 H1 m1 Q fun v d ρ' G' H' m' s t r p => q v d ρ' G' H' m' (s1.trans s) (t1.trans t) r p
theorem ae_orV {ta tb : TE} (h : AE K ta ρ fun d ρ1 => ∃ b, d = .bl b ∧ (b = true → Ψ (.bl true) ρ1) ∧ (b = false → AE K tb ρ1 Ψ)) : AE K (tOrV ta tb) ρ Ψ := fun B σ G H m Q q =>
  h B σ G H m _ fun v d ρ1 G1 H1 m1 s1 t1 r1 ⟨b, e, h1, h2⟩ => by
    subst e
    refine ⟨b, r1, ?_⟩
    cases b
    · rw [if_neg (by decide)]; exact h2 rfl B σ G1 H1 m1 Q fun v d ρ' G' H' m' s t r p => q v d ρ' G' H' m' (s1.trans s) (t1.trans t) r p
    · rw [if_pos rfl]; exact q _ (.bl true) ρ1 G1 H1 m1 s1 t1 rfl (h1 rfl)
theorem ae_notV {ta : TE} (h : AE K ta ρ fun d ρ1 => ∃ b, d = .bl b ∧ Ψ (.bl (!b)) ρ1) : AE K (tNotV ta) ρ Ψ := fun B σ G H m Q q =>
  h B σ G H m _ fun v d ρ1 G1 H1 m1 s1 t1 r1 ⟨b, e, h1⟩ => by
    subst e
    exact ⟨b, r1, q _ (.bl (!b)) ρ1 G1 H1 m1 s1 t1 rfl h1⟩
/-! statements -/
theorem as_seq {t u : TS} (h : AS K t ρ (fun ρ1 => AS K u ρ1 N R) R) : AS K (tSeq t u) ρ N R := fun B σ G H m D qn qr =>
  h B σ G H m { D with nx := u D } (fun σ1 ρ1 G1 H1 m1 s1 t1 h1 => h1 B σ1 G1 H1 m1 D (fun σ' ρ' G' H' m' s t p => qn σ' ρ' G' H' m' (s1.trans s) (t1.trans t) p) fun v d σ' ρ' G' H' m' s t r p => qr v d σ' ρ' G' H' m' (s1.trans s) (t1.trans t) r p) qr
theorem as_next (h : N ρ) : AS K tNext ρ N R := fun B σ G H m D qn qr => qn σ ρ G H m (Same.refl _) Tr.refl h
theorem as_ret {te : TE} (h : AE K te ρ R) : AS K (tRet te) ρ N R := fun B σ G H m D qn qr => h B σ G H m _ fun v d ρ1 G1 H1 m1 s1 t1 r1 h1 => qr v d σ ρ1 G1 H1 m1 s1 t1 r1 h1
theorem as_if {c : TT} {t u : TS} (h : AT K c ρ fun b ρ1 => (b = true → AS K t ρ1 N R) ∧ (b = false → AS K u ρ1 N R)) : AS K (tIfS c t u) ρ N R := fun B σ G H m D qn qr =>
  h B σ G H m _ fun b ρ1 G1 H1 m1 s1 t1 h1 => by
    cases b
    · rw [if_neg (by decide)]
      exact h1.2 rfl B σ G1 H1 m1 D (fun σ' ρ' G' H' m' s t p => qn σ' ρ' G' H' m' (s1.trans s) (t1.trans t) p) fun v d σ' ρ' G' H' m' s t r p => qr v d σ' ρ' G' H' m' (s1.trans s) (t1.trans t) r p
    · rw [if_pos rfl]
      exact h1.1 rfl B σ G1 H1 m1 D (fun σ' ρ' G' H' m' s t p => qn σ' ρ' G' H' m' (s1.trans s) (t1.trans t) p) fun v d σ' ρ' G' H' m' s t r p => qr v d σ' ρ' G' H' m' (s1.trans s) (t1.trans t) r p
theorem as_set {te : TE} {i : Nat} (h : AE K te ρ fun d ρ1 => N (ρ1.set i (.da d))) : AS K (tAsg te (gName i)) ρ N R := fun B σ G H m D qn qr =>
  h B σ G H m _ fun v d ρ1 G1 H1 m1 s1 t1 r1 h1 => qn _ _ G1 H1 (m1.set i r1) s1 t1 h1
theorem as_par {ta : TA} {i j : Nat} (h : AA K ta ρ fun ds ρ1 => ∃ d e, ds = [d, e] ∧ N ((ρ1.set i (.da d)).set j (.da e))) : AS K (tPar i j ta) ρ N R := fun B σ G H m D qn qr =>
  h B σ G H m _ fun vs ds ρ1 G1 H1 m1 s1 t1 r1 ⟨d, e, z, h1⟩ => by
    subst z
    obtain ⟨x, y, rfl, r2, r3⟩ := r1.two
    exact ⟨x, y, rfl, qn _ _ G1 H1 ((m1.set i r2).set j r3) s1 t1 h1⟩
/-- targets -/
def AG (K : PySem.W.Frag) (g : TG) (d : Dt) (ρ : List En) (N : List En → Prop) : Prop := ∀ B σ G H, Mt K B ρ σ G H → ∀ v, RD K G d v → ∀ Q : L2.St → Hp → Prop, (∀ σ' ρ' G' H', Mt K B ρ' σ' G' H' → Same G G' → Tr B H H' → N ρ' → Q σ' H') → g v σ H Q
def AGs (K : PySem.W.Frag) (g : TGs) (ds : List Dt) (ρ : List En) (N : List En → Prop) : Prop := ∀ B σ G H, Mt K B ρ σ G H → ∀ vs, RDs K G ds vs → ∀ Q : L2.St → Hp → Prop, (∀ σ' ρ' G' H', Mt K B ρ' σ' G' H' → Same G G' → Tr B H H' → N ρ' → Q σ' H') → g vs σ H Q
theorem ag_name {i : Nat} {d : Dt} (h : N (ρ.set i (.da d))) : AG K (gName i) d ρ N := fun B σ G H m v r Q q => q _ _ G H (m.set i r) (Same.refl _) Tr.refl h
theorem ags_nil (h : N ρ) : AGs K gNil [] ρ N := fun B σ G H m vs r Q q => ⟨r, q σ ρ G H m (Same.refl _) Tr.refl h⟩
theorem ags_cons {t : TG} {u : TGs} {d : Dt} {ds : List Dt} (h : AG K t d ρ fun ρ1 => AGs K u ds ρ1 N) : AGs K (gCons t u) (d :: ds) ρ N := fun B σ G H m vs r Q q => by
  obtain ⟨x, xs, rfl, r1, r2⟩ := r
  exact ⟨x, xs, rfl, h B σ G H m x r1 _ fun σ1 ρ1 G1 H1 m1 s1 t1 h1 => h1 B σ1 G1 H1 m1 xs (r2.same s1) Q fun σ' ρ' G' H' m' s t p => q σ' ρ' G' H' m' (s1.trans s) (t1.trans t) p⟩
theorem ag_tup {t : TGs} {n : Nat} {ds : List Dt} (hn : ds.length = n) (h : AGs K t ds ρ N) : AG K (gTup K n t) (.tup ds) ρ N := fun B σ G H m v r Q q => by
  obtain ⟨a, xs, rfl, r1, r2⟩ := r
  exact ⟨a, xs, rfl, same_sqT m.sub r1, by rw [r2.length]; exact hn, h B σ G H m xs r2 Q q⟩
theorem as_asg {te : TE} {g : TG} (h : AE K te ρ fun d ρ1 => AG K g d ρ1 N) : AS K (tAsg te g) ρ N R := fun B σ G H m D qn qr =>
  h B σ G H m _ fun v d ρ1 G1 H1 m1 s1 t1 r1 h1 => h1 B σ G1 H1 m1 v r1 _ fun σ' ρ' G' H' m' s t p => qn σ' ρ' G' H' m' (s1.trans s) (t1.trans t) p
/-! own lists -/
theorem Mt.setOwn {B : Addr → Prop} {σ : L2.St} {G H : Hp} (m : Mt K B ρ σ G H) (i : Nat) {p : Addr} {xs : List V} {l : List Dt} (n : H p = none) (r : RDs K G l xs) : Mt K B (ρ.set i (.own l)) (σ.set i (some (.ref p))) G (upd H p (.lst xs)) where
  sub := m.sub.trans (same_up n)
  pro := fun a b => ⟨(m.pro a b).1, ne_none (same_up n) (m.pro a b).2⟩
  len := by rw [List.length_set, List.length_set]; exact m.len
  da := fun j e h => by
    rcases get_set h with ⟨rfl, z, lt⟩ | ⟨ne, z⟩
    · cases z
    · rw [set_off ne]; exact m.da j e z
  own := fun j k h => by
    rcases get_set h with ⟨rfl, z, lt⟩ | ⟨ne, z⟩
    · cases z
      exact ⟨p, xs, set_at (by rw [m.len]; exact lt), upd_same, r, m.sub.free n, fun b => (m.pro p b).2 n⟩
    · rw [set_off ne]
      obtain ⟨q, ys, z1, z2, z3, z4, z5⟩ := m.own j k z
      exact ⟨q, ys, z1, same_up n _ _ z2, z3, z4, z5⟩
  bx := fun j b f h => by
    rcases get_set h with ⟨rfl, z, lt⟩ | ⟨ne, z⟩
    · cases z
    · rw [set_off ne]
      obtain ⟨y, c, z1, z2, z3⟩ := m.bx j b f z
      exact ⟨y, c, z1, z2.same (same_up n), z3⟩
  dis := fun j k e e' a h1 h2 o1 o2 ne s1 s2 => by
    have there : ∀ (j : Nat) (e : En), ρ[j]? = some e → e.isOwn → σ[j]? = some (some (V.ref a)) → H a ≠ none := fun j e h o s => by
      cases e with
      | no => exact o.elim
      | da d => exact o.elim
      | own l => obtain ⟨q, ys, z1, z2, _⟩ := m.own j l h; rw [z1] at s; cases s; exact some_ne z2
      | bx b f => obtain ⟨y, c, z1, z2, _⟩ := m.bx j b f h; rw [z1] at s; cases s; exact z2.ne
    rcases get_set h1 with ⟨rfl, z, lt⟩ | ⟨n1, z1⟩
    · rcases get_set h2 with ⟨w, z', lt'⟩ | ⟨n2, z2⟩
      · exact ne w
      · rw [set_at (by rw [m.len]; exact lt)] at s1
        cases s1
        rw [set_off n2] at s2
        exact there k e' z2 o2 s2 n
    · rcases get_set h2 with ⟨rfl, z, lt⟩ | ⟨n2, z2⟩
      · rw [set_at (by rw [m.len]; exact lt)] at s2
        cases s2
        rw [set_off n1] at s1
        exact there j e z1 o1 s1 n
      · rw [set_off n1] at s1; rw [set_off n2] at s2; exact m.dis j k e e' a z1 z2 o1 o2 ne s1 s2
/-- xs = [e, ..], a list that will grow -/
theorem as_own {ta : TA} {i : Nat} (h : AA K ta ρ fun ds ρ1 => ds.length ≤ sizeLine ∧ N (ρ1.set i (.own ds))) : AS K (tAsg (tLst ta) (gName i)) ρ N R := fun B σ G H m D qn qr =>
  h B σ G H m _ fun vs ds ρ1 G1 H1 m1 s1 t1 r1 h1 => ⟨by rw [r1.length]; exact h1.1, fun p hp => qn _ _ G1 _ (m1.setOwn i hp r1) s1 (t1.trans (Tr.same (same_up hp))) h1.2⟩
/-- an own list's content changes -/
theorem Mt.chOwn {B : Addr → Prop} {σ : L2.St} {G H : Hp} (m : Mt K B ρ σ G H) {i : Nat} {p : Addr} {xs : List V} {l l' : List Dt} (e : ρ[i]? = some (.own l)) (s : σ[i]? = some (some (.ref p))) (r : RDs K G l' xs) : Mt K B (ρ.set i (.own l')) σ G (upd H p (.lst xs)) := by
  obtain ⟨q, ys, h1, h2, h3, h4, h5⟩ := m.own i l e
  rw [h1] at s
  cases s
  have keep : ∀ {a : Addr} {o : HO}, a ≠ p → H a = some o → (upd H p (.lst xs)) a = some o := fun n z => by rw [upd_ne n]; exact z
  refine ⟨?_, ?_, ?_, ?_, ?_, ?_, ?_⟩
  · intro a o z
    exact keep (fun w => by rw [w, h4] at z; cases z) (m.sub _ _ z)
  · exact fun a b => ⟨(m.pro a b).1, by rw [upd_ne (fun w => h5 (by rw [← w]; exact b))]; exact (m.pro a b).2⟩
  · rw [List.length_set]; exact m.len
  · intro j d h
    rcases get_set h with ⟨rfl, z, lt⟩ | ⟨ne, z⟩
    · cases z
    · exact m.da j d z
  · intro j k h
    rcases get_set h with ⟨rfl, z, lt⟩ | ⟨ne, z⟩
    · cases z; exact ⟨p, xs, h1, upd_same, r, h4, h5⟩
    · obtain ⟨q', zs, z1, z2, z3⟩ := m.own j k z
      exact ⟨q', zs, z1, keep (fun w => m.dis i j _ _ p e z trivial trivial ne h1 (by rw [← w]; exact z1)) z2, z3⟩
  · intro j b f h
    rcases get_set h with ⟨rfl, z, lt⟩ | ⟨ne, z⟩
    · cases z
    · obtain ⟨y, c, z1, ⟨x, z2, z2'⟩, z3⟩ := m.bx j b f z
      exact ⟨y, c, z1, ⟨x, keep (fun w => m.dis i j _ _ p e z trivial trivial ne h1 (by rw [← w]; exact z1)) z2, z2'⟩, z3⟩
  · intro j k e1 e2 a g1 g2 o1 o2 ne s1 s2
    rcases get_set g1 with ⟨rfl, z, lt⟩ | ⟨n1, z1⟩
    · rcases get_set g2 with ⟨w, z', lt'⟩ | ⟨n2, z2⟩
      · exact ne w
      · exact m.dis i k _ e2 a e z2 trivial o2 ne s1 s2
    · rcases get_set g2 with ⟨rfl, z, lt⟩ | ⟨n2, z2⟩
      · exact m.dis j i e1 _ a z1 e o1 trivial ne s1 s2
      · exact m.dis j k e1 e2 a z1 z2 o1 o2 ne s1 s2
/-- xs.append(e) -/
theorem as_append {te : TE} {i : Nat} (h : AE K te ρ fun d ρ1 => ∃ l, ρ1[i]? = some (.own l) ∧ l.length < sizeLine ∧ N (ρ1.set i (.own (l ++ [d])))) (o : ∃ l, ρ[i]? = some (.own l)) : AS K (tDrop (tBM K "list" rAppend (tVar i) (tCons te tNil))) ρ N R := fun B σ G H m D qn qr => by
  obtain ⟨l0, e0⟩ := o
  obtain ⟨p0, xs0, a1, a2, _⟩ := m.own i l0 e0
  refine ⟨_, a1, .inl ⟨rfl, _, SqL.of a2⟩, ?_⟩
  refine h B σ G H m _ fun v d ρ1 G1 H1 m1 s1 t1 r1 ⟨l, e, hl, n⟩ => ?_
  obtain ⟨p, xs, b1, b2, b3, b4, b5⟩ := m1.own i l e
  rw [a1] at b1
  cases b1
  refine ⟨p0, xs, v, rfl, rfl, b2, by rw [b3.length]; exact hl, ?_⟩
  exact qn _ _ G1 _ (m1.chOwn e a1 (b3.snoc r1)) s1 (t1.trans fun a o b z => by rw [upd_ne (fun w => b5 (by rw [← w]; exact b))]; exact z) n
/-- from here on the list is data -/
theorem ae_frz {te : TE} {i : Nat} {l : List Dt} (e : ρ[i]? = some (.own l)) (h : AE K te (ρ.set i (.da (.lst l))) Ψ) : AE K te ρ Ψ := fun B σ G H m Q q => by
  obtain ⟨G1, m1, s1⟩ := m.frz e
  exact h B σ G1 H m1 Q fun v d ρ' G' H' m' s t r p => q v d ρ' G' H' m' (s1.trans s) t r p
theorem as_frz {ts : TS} {i : Nat} {l : List Dt} (e : ρ[i]? = some (.own l)) (h : AS K ts (ρ.set i (.da (.lst l))) N R) : AS K ts ρ N R := fun B σ G H m D qn qr => by
  obtain ⟨G1, m1, s1⟩ := m.frz e
  exact h B σ G1 H m1 D (fun σ' ρ' G' H' m' s t p => qn σ' ρ' G' H' m' (s1.trans s) t p) fun v d σ' ρ' G' H' m' s t r p => qr v d σ' ρ' G' H' m' (s1.trans s) t r p
end
end Sh
set_option Elab.async false
set_option linter.all false
set_option maxRecDepth 100000
set_option maxHeartbeats 4000000
namespace Sh
open PySem PySem.Spec PyProof.Rows L2
section
variable {K : PySem.W.Frag} {ρ : List En} {Ψ : Dt → List En → Prop} {ΨT : Bool → List En → Prop} {ΨA : List Dt → List En → Prop} {N : List En → Prop} {R : Dt → List En → Prop} {Φ : Dt → Prop}
/-! ### operators -/
theorem ar_I0i {g : Int → Int → Int} {i j : Int} (h : Φ (.int (g i j))) : AR K (rI0 fun i j => .int (g i j)) (.int i) (.int j) Φ := fun G H s x y r1 r2 Q q =>
  ⟨i, j, r1, r2, q _ (.int (g i j)) G H (Nw.refl s) rfl h⟩
theorem ar_I0b {g : Int → Int → Bool} {i j : Int} (h : Φ (.bl (g i j))) : AR K (rI0 fun i j => .bl (g i j)) (.int i) (.int j) Φ := fun G H s x y r1 r2 Q q =>
  ⟨i, j, r1, r2, q _ (.bl (g i j)) G H (Nw.refl s) rfl h⟩
theorem ar_Ii {C : Int → Int → Prop} {g : Int → Int → Int} {i j : Int} (c : C i j) (h : Φ (.int (g i j))) : AR K (rI C fun i j => .int (g i j)) (.int i) (.int j) Φ := fun G H s x y r1 r2 Q q =>
  ⟨i, j, r1, r2, c, q _ (.int (g i j)) G H (Nw.refl s) rfl h⟩
theorem au_Ui {g : Int → Int} {i : Int} (h : Φ (.int (g i))) : AU K (rU fun i => .int (g i)) (.int i) Φ := fun G H s x r1 Q q => ⟨i, r1, q _ (.int (g i)) G H (Nw.refl s) rfl h⟩
def Dt.isNon : Dt → Bool
  | .non => true
  | _ => false
theorem RD.isNon {G : Hp} : ∀ {d : Dt} {x : V}, RD K G d x → decide (x = V.non) = d.isNon
  | .non, _, r => by rw [show _ = V.non from r]; rfl
  | .bl _, _, r => by rw [show _ = V.bl _ from r]; rfl
  | .int _, _, r => by rw [show _ = V.int _ from r]; rfl
  | .str _, _, r => by rw [show _ = V.str _ from r]; rfl
  | .ty _, _, r => by rw [show _ = V.ty _ from r]; rfl
  | .tup _, _, ⟨a, _, e, _⟩ => by rw [e]; rfl
  | .lst _, _, ⟨a, _, e, _⟩ => by rw [e]; rfl
theorem ar_isN {d : Dt} (h : Φ (.bl d.isNon)) : AR K (fun x y H Q => y = .non ∧ Q (.bl (decide (x = .non))) H) d .non Φ := fun G H s x y r1 r2 Q q =>
  ⟨r2, q _ (.bl d.isNon) G H (Nw.refl s) (by rw [r1.isNon]; rfl) h⟩
theorem ar_notN {d : Dt} (h : Φ (.bl (!d.isNon))) : AR K (fun x y H Q => y = .non ∧ Q (.bl (!decide (x = .non))) H) d .non Φ := fun G H s x y r1 r2 Q q =>
  ⟨r2, q _ (.bl (!d.isNon)) G H (Nw.refl s) (by rw [r1.isNon]; rfl) h⟩
/-- flat data as a value -/
def Dt.v? : Dt → Option V
  | .non => some .non
  | .bl b => some (.bl b)
  | .int i => some (.int i)
  | .str s => some (.str s)
  | _ => none
theorem RD.v {G : Hp} : ∀ {d : Dt} {x y : V}, d.v? = some y → RD K G d x → x = y
  | .non, _, _, e, r => by cases e; exact r
  | .bl _, _, _, e, r => by cases e; exact r
  | .int _, _, _, e, r => by cases e; exact r
  | .str _, _, _, e, r => by cases e; exact r
theorem ar_eq {d e : Dt} {x y : V} (h1 : d.v? = some x) (h2 : e.v? = some y) (hs : scal x y = true) (h : Φ (.bl (decide (x = y)))) : AR K rEq d e Φ := fun G H s x' y' r1 r2 Q q => by
  cases RD.v h1 r1; cases RD.v h2 r2
  exact ⟨hs, q _ (.bl (decide (x = y))) G H (Nw.refl s) rfl h⟩
theorem ar_ne {d e : Dt} {x y : V} (h1 : d.v? = some x) (h2 : e.v? = some y) (hs : scal x y = true) (h : Φ (.bl (!decide (x = y)))) : AR K rNe d e Φ := fun G H s x' y' r1 r2 Q q => by
  cases RD.v h1 r1; cases RD.v h2 r2
  exact ⟨hs, q _ (.bl (!decide (x = y))) G H (Nw.refl s) rfl h⟩
def vs? : List Dt → Option (List V)
  | [] => some []
  | d :: l => match d.v?, vs? l with
    | some x, some xs => some (x :: xs)
    | _, _ => none
theorem RDs.v {G : Hp} : ∀ {l : List Dt} {xs ys : List V}, vs? l = some ys → RDs K G l xs → xs = ys
  | [], _, _, e, r => by cases e; exact r
  | d :: l, _, ys, e, ⟨x, r, e1, h1, h2⟩ => by
    unfold vs? at e
    cases q1 : d.v? with
    | none => rw [q1] at e; cases e
    | some z =>
      cases q2 : vs? l with
      | none => rw [q1, q2] at e; cases e
      | some zs => rw [q1, q2] at e; cases e; rw [e1, RD.v q1 h1, RDs.v q2 h2]
theorem ar_inT {neg : Bool} {d : Dt} {l : List Dt} {x : V} {xs : List V} (h1 : d.v? = some x) (h2 : vs? l = some xs) (f1 : flatV x = true) (f2 : xs.all flatV = true) (h : Φ (.bl (if neg then !inV x xs else inV x xs))) : AR K (rIn K neg) d (.tup l) Φ := fun G H s x' y' r1 ⟨a, ys, e, q1, q2⟩ Q q => by
  cases RD.v h1 r1; cases RDs.v h2 q2
  exact ⟨a, xs, e, .inr (same_sqT s q1), f1, f2, q _ (.bl (if neg then !inV x xs else inV x xs)) G H (Nw.refl s) rfl h⟩
/-! places -/
theorem atI_get {l : List Dt} {xs : List V} {G : Hp} {i : Int} {d : Dt} (r : RDs K G l xs) (e : atI l i = some d) : ∃ x, atI xs i = some x ∧ RD K G d x := by
  unfold atI at e ⊢
  rw [r.length]
  cases q : ixN l.length i with
  | none => rw [q] at e; cases e
  | some j =>
    rw [q] at e
    obtain ⟨x, h1, h2⟩ := r.get (i := j) e
    exact ⟨x, h1, h2⟩
theorem ar_ixT {l : List Dt} {i : Int} {d : Dt} (e : atI l i = some d) (h : Φ d) : AR K (rIxT K) (.tup l) (.int i) Φ := fun G H s x y ⟨a, xs, e1, q1, q2⟩ r2 Q q => by
  obtain ⟨z, h1, h2⟩ := atI_get q2 e
  exact ⟨a, xs, i, z, e1, r2, same_sqT s q1, h1, q _ d G H (Nw.refl s) h2 h⟩
theorem ar_ixL {l : List Dt} {i : Int} {d : Dt} (e : atI l i = some d) (h : Φ d) : AR K (rIxL K) (.lst l) (.int i) Φ := fun G H s x y ⟨a, xs, e1, q1, q2⟩ r2 Q q => by
  obtain ⟨z, h1, h2⟩ := atI_get q2 e
  exact ⟨a, xs, i, z, e1, r2, SqL.of (s _ _ q1), h1, q _ d G H (Nw.refl s) h2 h⟩
def sq (k : Bool) (l : List Dt) : Dt := if k then .tup l else .lst l
theorem ar_ix {k : Bool} {l : List Dt} {i : Int} {d : Dt} (e : atI l i = some d) (h : Φ d) : AR K (rIx K) (sq k l) (.int i) Φ := fun G H s x y r1 r2 Q q => by
  cases k
  · exact .inl (ar_ixL e h G H s x y r1 r2 Q q)
  · exact .inr (.inl (ar_ixT e h G H s x y r1 r2 Q q))
theorem ar_ixTs {l : List Dt} {i : Int} {d : Dt} (e : atI l i = some d) (h : Φ d) : AR K (rIx K) (.tup l) (.int i) Φ := ar_ix (k := true) e h
theorem ar_ixLs {l : List Dt} {i : Int} {d : Dt} (e : atI l i = some d) (h : Φ d) : AR K (rIx K) (.lst l) (.int i) Φ := ar_ix (k := false) e h
/-! ### built-ins -/
theorem ac_abs {i : Int} (h : Φ (.int (if i < 0 then -i else i))) : AC K (fun xs H Q => ∃ i, xs = [.int i] ∧ Q (.int (if i < 0 then -i else i)) H) [.int i] Φ := fun G H s vs r Q q => by
  obtain ⟨x, rfl, h1⟩ := r.one
  exact ⟨i, by rw [show x = V.int i from h1], q _ (.int (if i < 0 then -i else i)) G H (Nw.refl s) rfl h⟩
theorem ac_max2 {i j : Int} (h : Φ (.int (if j > i then j else i))) : AC K (fun xs H Q => ∃ i j, xs = [.int i, .int j] ∧ Q (.int (if j > i then j else i)) H) [.int i, .int j] Φ := fun G H s vs r Q q => by
  obtain ⟨x, y, rfl, h1, h2⟩ := r.two
  exact ⟨i, j, by rw [show x = V.int i from h1, show y = V.int j from h2], q _ (.int (if j > i then j else i)) G H (Nw.refl s) rfl h⟩
theorem ac_min2 {i j : Int} (h : Φ (.int (if j < i then j else i))) : AC K (fun xs H Q => ∃ i j, xs = [.int i, .int j] ∧ Q (.int (if j < i then j else i)) H) [.int i, .int j] Φ := fun G H s vs r Q q => by
  obtain ⟨x, y, rfl, h1, h2⟩ := r.two
  exact ⟨i, j, by rw [show x = V.int i from h1, show y = V.int j from h2], q _ (.int (if j < i then j else i)) G H (Nw.refl s) rfl h⟩
theorem ac_lenT {l : List Dt} (h : Φ (.int (l.length : Nat))) : AC K (fun xs H Q => ∃ p ys, xs = [.ref p] ∧ (SqL K H p ys ∨ SqT K H p ys) ∧ Q (.int ys.length) H) [.tup l] Φ := fun G H s vs r Q q => by
  obtain ⟨x, rfl, a, xs, rfl, h1, h2⟩ := r.one
  exact ⟨a, xs, rfl, .inr (same_sqT s h1), q _ (.int (l.length : Nat)) G H (Nw.refl s) (by rw [h2.length]; rfl) h⟩
theorem ac_lenL {l : List Dt} (h : Φ (.int (l.length : Nat))) : AC K (fun xs H Q => ∃ p ys, xs = [.ref p] ∧ (SqL K H p ys ∨ SqT K H p ys) ∧ Q (.int ys.length) H) [.lst l] Φ := fun G H s vs r Q q => by
  obtain ⟨x, rfl, a, xs, rfl, h1, h2⟩ := r.one
  exact ⟨a, xs, rfl, .inl (SqL.of (s _ _ h1)), q _ (.int (l.length : Nat)) G H (Nw.refl s) (by rw [h2.length]; rfl) h⟩
theorem ac_listT {l : List Dt} (h : Φ (.lst l)) : AC K (fun xs H Q => ∃ p ys, xs = [.ref p] ∧ (SqL K H p ys ∨ SqT K H p ys) ∧ ∀ l, H l = none → Q (.ref l) (upd H l (.lst ys))) [.tup l] Φ := fun G H s vs r Q q => by
  obtain ⟨x, rfl, a, xs, rfl, h1, h2⟩ := r.one
  refine ⟨a, xs, rfl, .inr (same_sqT s h1), fun p hp => ?_⟩
  have n := Nw.new (o := .lst xs) s hp
  exact q _ (.lst l) _ _ n ⟨p, xs, rfl, upd_same, h2.same n.g⟩ h
theorem ac_listL {l : List Dt} (h : Φ (.lst l)) : AC K (fun xs H Q => ∃ p ys, xs = [.ref p] ∧ (SqL K H p ys ∨ SqT K H p ys) ∧ ∀ l, H l = none → Q (.ref l) (upd H l (.lst ys))) [.lst l] Φ := fun G H s vs r Q q => by
  obtain ⟨x, rfl, a, xs, rfl, h1, h2⟩ := r.one
  refine ⟨a, xs, rfl, .inl (SqL.of (s _ _ h1)), fun p hp => ?_⟩
  have n := Nw.new (o := .lst xs) s hp
  exact q _ (.lst l) _ _ n ⟨p, xs, rfl, upd_same, h2.same n.g⟩ h
theorem ac_tupL {l : List Dt} (h : Φ (.tup l)) : AC K (fun xs H Q => ∃ p ys, xs = [.ref p] ∧ ((SqL K H p ys ∧ ∀ l, H l = none → Q (.ref l) (upd H l (.tup ys))) ∨ (SqT K H p ys ∧ Q (.ref p) H))) [.lst l] Φ := fun G H s vs r Q q => by
  obtain ⟨x, rfl, a, xs, rfl, h1, h2⟩ := r.one
  refine ⟨a, xs, rfl, .inl ⟨SqL.of (s _ _ h1), fun p hp => ?_⟩⟩
  have n := Nw.new (o := .tup xs) s hp
  exact q _ (.tup l) _ _ n ⟨p, xs, rfl, SqT.of upd_same, h2.same n.g⟩ h
theorem ac_tupT {l : List Dt} (h : Φ (.tup l)) : AC K (fun xs H Q => ∃ p ys, xs = [.ref p] ∧ ((SqL K H p ys ∧ ∀ l, H l = none → Q (.ref l) (upd H l (.tup ys))) ∨ (SqT K H p ys ∧ Q (.ref p) H))) [.tup l] Φ := fun G H s vs r Q q => by
  obtain ⟨x, rfl, a, xs, rfl, h1, h2⟩ := r.one
  exact ⟨a, xs, rfl, .inr ⟨same_sqT s h1, q _ (.tup l) G H (Nw.refl s) ⟨a, xs, rfl, h1, h2⟩ h⟩⟩
theorem ac_all {bs : List Bool} (h : Φ (.bl (bs.all id))) : AC K (rAll K) [.lst (bs.map Dt.bl)] Φ := fun G H s vs r Q q => by
  obtain ⟨x, rfl, a, xs, rfl, h1, h2⟩ := r.one
  cases h2.bls
  exact ⟨a, bs, rfl, SqL.of (s _ _ h1), q _ (.bl (bs.all id)) G H (Nw.refl s) rfl h⟩
theorem ac_any {bs : List Bool} (h : Φ (.bl (bs.any id))) : AC K (rAny K) [.lst (bs.map Dt.bl)] Φ := fun G H s vs r Q q => by
  obtain ⟨x, rfl, a, xs, rfl, h1, h2⟩ := r.one
  cases h2.bls
  exact ⟨a, bs, rfl, SqL.of (s _ _ h1), q _ (.bl (bs.any id)) G H (Nw.refl s) rfl h⟩
theorem ac_int {i : Int} (h : Φ (.int i)) : AC K (fun xs H Q => (∃ i, xs = [.int i] ∧ Q (.int i) H) ∨ ∃ k, xs = [.bl k] ∧ Q (.int (if k then 1 else 0)) H) [.int i] Φ := fun G H s vs r Q q => by
  obtain ⟨x, rfl, h1⟩ := r.one
  exact .inl ⟨i, by rw [show x = V.int i from h1], q _ (.int i) G H (Nw.refl s) rfl h⟩
theorem ac_intB {b : Bool} (h : Φ (.int (if b then 1 else 0))) : AC K (fun xs H Q => (∃ i, xs = [.int i] ∧ Q (.int i) H) ∨ ∃ k, xs = [.bl k] ∧ Q (.int (if k then 1 else 0)) H) [.bl b] Φ := fun G H s vs r Q q => by
  obtain ⟨x, rfl, h1⟩ := r.one
  exact .inr ⟨b, by rw [show x = V.bl b from h1], q _ (.int (if b then 1 else 0)) G H (Nw.refl s) rfl h⟩
/-! kinds -/
def Dt.kind : Dt → String
  | .non => "NoneType" | .bl _ => "bool" | .int _ => "int" | .str _ => "str" | .ty _ => "type" | .tup _ => "tuple" | .lst _ => "list"
def Dt.noTy : Dt → Bool
  | .ty _ => false
  | _ => true
theorem RD.kind {G H : Hp} (s : Same G H) : ∀ {d : Dt} {x : V}, d.noTy = true → RD K G d x → TyX K H x (.type d.kind)
  | .non, _, _, r => by cases (show _ = V.non from r); exact .base .non
  | .bl _, _, _, r => by cases (show _ = V.bl _ from r); exact .base (.bl _)
  | .int _, _, _, r => by cases (show _ = V.int _ from r); exact .base (.int _)
  | .str _, _, _, r => by cases (show _ = V.str _ from r); exact .base (.str _)
  | .tup _, _, _, ⟨a, xs, e, q, _⟩ => by
    subst e
    rcases q with (q | ⟨o, q⟩) | ⟨o, its, n, q1, q2, _⟩
    · exact .base (.tup (s _ _ q))
    · exact .fTuple (s _ _ q)
    · exact .kTuple q1 q2
  | .lst _, _, _, ⟨a, xs, e, q, _⟩ => by subst e; exact .base (.lst (s _ _ q))
theorem ac_isi {d : Dt} {T : String} {b : Bool} (n : d.noTy = true) (hb : kitB d.kind T = some b) (h : Φ (.bl b)) : AC K (rIsi K) [d, .ty T] Φ := fun G H s vs r Q q => by
  obtain ⟨x, y, rfl, h1, h2⟩ := r.two
  cases (show y = V.ty T from h2)
  exact ⟨x, .ty T, _, _, b, rfl, .ty T, h1.kind s n, kit_ty hb, q _ (.bl b) G H (Nw.refl s) rfl h⟩
theorem kit_2 {a S T : String} {r : Bool} (h1 : kitB a S = some false) (h2 : kitB a T = some r) : PySem.W.kitAny K (.type a) [.type S, .type T] = some r :=
  kitAny_cons (kit_ty h1) (fun _ => kitAny_cons (kit_ty h2) (fun e => by rw [e]; exact kitAny_nil) (fun e => e)) (fun e => nomatch e)
theorem kit_1 {a S T : String} (h1 : kitB a S = some true) : PySem.W.kitAny K (.type a) [.type S, .type T] = some true :=
  kitAny_cons (kit_ty h1) (fun e => nomatch e) (fun _ => rfl)
/-- isinstance(e, (S, T)) -/
theorem ae_isi2 {te : TE} {S T : String} (h : AE K te ρ fun d ρ1 => d.noTy = true ∧ ∃ b, ((kitB d.kind S = some true ∧ b = true) ∨ (kitB d.kind S = some false ∧ kitB d.kind T = some b)) ∧ Ψ (.bl b) ρ1) :
    AE K (tCB (rIsiT K) (tCons te (tCons (tTup (tCons (tC (.ty S)) (tCons (tC (.ty T)) tNil))) tNil))) ρ Ψ := fun B σ G H m Q q =>
  h B σ G H m _ fun v d ρ1 G1 H1 m1 s1 t1 r1 ⟨n, b, hb, p⟩ => by
    refine ⟨by show 2 ≤ sizeLine; decide, fun a ha => ?_⟩
    have k : PySem.W.kitAny K (.type d.kind) [.type S, .type T] = some b := by
      rcases hb with ⟨h1, rfl⟩ | ⟨h1, h2⟩
      · exact kit_1 h1
      · exact kit_2 h1 h2
    have nw := Nw.new (o := .tup [V.ty S, V.ty T]) m1.sub ha
    exact ⟨v, a, _, _, _, b, rfl, upd_same, .cons (.ty _) (.cons (.ty _) .nil), (r1.same nw.g).kind nw.s n, k, q _ (.bl b) ρ1 _ _ (m1.nw nw) (s1.trans nw.g) (t1.trans (Tr.same nw.h)) rfl p⟩
theorem ae_ty {T : String} (h : Ψ (.ty T) ρ) : AE K (tC (.ty T)) ρ Ψ := ae_c (.ty T) (fun _ => rfl) h
/-! ### deep equality -/
mutual
def Dt.pd : Dt → PyData
  | .non => .none | .bl b => .bool b | .int i => .int i | .str s => .str s | .ty _ => .none
  | .tup l => .tuple (pds l)
  | .lst l => .list (pds l)
def pds : List Dt → List PyData
  | [] => []
  | d :: l => d.pd :: pds l
def Dt.pl : Dt → Bool
  | .ty _ => false
  | .tup l => pls l
  | .lst l => pls l
  | _ => true
def pls : List Dt → Bool
  | [] => true
  | d :: l => d.pl && pls l
end
mutual
theorem RD.dp {G H : Hp} (s : Same G H) : ∀ {d : Dt} {v : V}, d.pl = true → RD K G d v → Dp K H v d.pd
  | .non, v, _, h => by cases (show v = .non from h); exact .non
  | .bl b, v, _, h => by cases (show v = .bl b from h); exact .bl b
  | .int i, v, _, h => by cases (show v = .int i from h); exact .int i
  | .str z, v, _, h => by cases (show v = .str z from h); exact .str z
  | .tup l, _, p, ⟨a, xs, e, ha, r⟩ => by subst e; exact .tup (same_sqT s ha) (RDs.dp s p r)
  | .lst l, _, p, ⟨a, xs, e, ha, r⟩ => by subst e; exact .lst (SqL.of (s _ _ ha)) (RDs.dp s p r)
theorem RDs.dp {G H : Hp} (s : Same G H) : ∀ {l : List Dt} {xs : List V}, pls l = true → RDs K G l xs → DpAll K H xs (pds l)
  | [], xs, _, h => by cases (show xs = [] from h); exact .nil
  | d :: l, _, p, ⟨x, r, e, h1, h2⟩ => by
    subst e
    have p' : (d.pl && pls l) = true := p
    rw [Bool.and_eq_true] at p'
    exact .cons (RD.dp s p'.1 h1) (RDs.dp s p'.2 h2)
end
theorem ar_eqD {d e : Dt} (p1 : d.pl = true) (p2 : e.pl = true) (s1 : SeqAt.shaped d.pd = true) (s2 : SeqAt.shaped e.pd = true) (h : Φ (.bl (PyData.eqv d.pd e.pd))) : AR K (rEqD K) d e Φ := fun G H s x y r1 r2 Q q =>
  ⟨d.pd, e.pd, r1.dp s p1, r2.dp s p2, s1, s2, q _ (.bl (PyData.eqv d.pd e.pd)) G H (Nw.refl s) rfl h⟩
end
end Sh
set_option Elab.async false
set_option linter.all false
set_option maxRecDepth 100000
set_option maxHeartbeats 4000000
namespace Sh
open PySem PySem.Spec PyProof.Rows L2
section
variable {K : PySem.W.Frag} {ρ : List En} {Ψ : Dt → List En → Prop} {ΨT : Bool → List En → Prop} {ΨA : List Dt → List En → Prop} {N : List En → Prop} {R : Dt → List En → Prop} {Φ : Dt → Prop}
/-! ### walks -/
def Wj (K : PySem.W.Frag) (J : It) (l : List Dt) (G0 : Hp) : Prop :=
  (∀ i H, i < l.length → Same G0 H → J.go i H) ∧ (∀ H, Same G0 H → J.stop l.length H) ∧ ∀ i G H x H', i < l.length → Same G0 G → Same G H → J.yld i H x H' → ∃ G' d, Nw G H G' H' ∧ l[i]? = some d ∧ RD K G' d x
theorem Wj.walk {J : It} {l : List Dt} {G0 : Hp} (w : Wj K J l G0) : Walk J l.length (fun H => Same G0 H) fun i H x H' => ∀ G, Same G0 G → Same G H → ∃ G' d, Nw G H G' H' ∧ l[i]? = some d ∧ RD K G' d x :=
  ⟨fun i H hi s => w.1 i H hi s, fun H s => w.2.1 H s, fun i H x H' hi s y G s1 s2 => w.2.2 i G H x H' hi s1 s2 y⟩
def AI (K : PySem.W.Frag) (wi : TI) (ρ : List En) (Θ : List Dt → List En → Prop) : Prop := ∀ B σ G H, Mt K B ρ σ G H → ∀ R : It → Hp → Prop, (∀ J l ρ' G' H', Mt K B ρ' σ G' H' → Same G G' → Tr B H H' → Wj K J l G' → Θ l ρ' → R J H') → wi σ H R
theorem wj_list {a : Addr} {xs : List V} {l : List Dt} {G : Hp} (h : G a = some (.lst xs)) (r : RDs K G l xs) : Wj K (Itl K a) l G := by
  have e := r.length
  refine ⟨fun i H hi s => ⟨xs, xs[i]'(by omega), SqL.of (s _ _ h), by simp [show i < xs.length by omega]⟩, fun H s => ⟨xs, SqL.of (s _ _ h), by omega⟩, fun i G1 H x H' hi s1 s2 y => ?_⟩
  obtain ⟨d, h1, h2⟩ := r.back (i := i) (y.2 xs (SqL.of (s2 _ _ (s1 _ _ h))))
  refine ⟨G1, d, ?_, h1, h2.same s1⟩
  rw [y.1]; exact Nw.refl s2
theorem wj_tup {a : Addr} {xs : List V} {l : List Dt} {G : Hp} (h : SqT K G a xs) (r : RDs K G l xs) : Wj K (Itt K a) l G := by
  have e := r.length
  refine ⟨fun i H hi s => ⟨xs, xs[i]'(by omega), same_sqT s h, by simp [show i < xs.length by omega]⟩, fun H s => ⟨xs, same_sqT s h, by omega⟩, fun i G1 H x H' hi s1 s2 y => ?_⟩
  obtain ⟨d, h1, h2⟩ := r.back (i := i) (y.2 xs (same_sqT s2 (same_sqT s1 h)))
  refine ⟨G1, d, ?_, h1, h2.same s1⟩
  rw [y.1]; exact Nw.refl s2
def rgD (lo : Int) (n : Nat) : List Dt := (List.range n).map fun i => .int (lo + (i : Nat))
theorem wj_range {lo : Int} {n : Nat} {G : Hp} : Wj K (Itr lo n) (rgD lo n) G := by
  have e : (rgD lo n).length = n := by unfold rgD; rw [List.length_map, List.length_range]
  refine ⟨fun i H hi s => by rw [e] at hi; exact hi, fun H s => by rw [e]; exact Nat.le_refl _, fun i G1 H x H' hi s1 s2 y => ⟨G1, .int (lo + (i : Nat)), ?_, ?_, y.2⟩⟩
  · rw [y.1]; exact Nw.refl s2
  · rw [e] at hi; unfold rgD; rw [List.getElem?_map, List.getElem?_range hi]; rfl
theorem ai_list {te : TE} {Θ : List Dt → List En → Prop} (h : AE K te ρ fun d ρ1 => ∃ l, d = .lst l ∧ Θ l ρ1) : AI K (iList K te) ρ Θ := fun B σ G H m Rr q =>
  h B σ G H m _ fun v d ρ1 G1 H1 m1 s1 t1 r1 ⟨l, e, p⟩ => by
    subst e
    obtain ⟨a, xs, e, h1, h2⟩ := r1
    exact ⟨a, e, ⟨xs, SqL.of (m1.sub _ _ h1)⟩, q _ l ρ1 G1 H1 m1 s1 t1 (wj_list h1 h2) p⟩
theorem ai_tup {te : TE} {Θ : List Dt → List En → Prop} (h : AE K te ρ fun d ρ1 => ∃ l, d = .tup l ∧ Θ l ρ1) : AI K (iTup K te) ρ Θ := fun B σ G H m Rr q =>
  h B σ G H m _ fun v d ρ1 G1 H1 m1 s1 t1 r1 ⟨l, e, p⟩ => by
    subst e
    obtain ⟨a, xs, e, h1, h2⟩ := r1
    exact ⟨a, e, ⟨xs, same_sqT m1.sub h1⟩, q _ l ρ1 G1 H1 m1 s1 t1 (wj_tup h1 h2) p⟩
theorem pi_or {X : Cx} {tg l : Expr} {w1 w2 : TI} (h1 : PI X tg l w1) (h2 : PI X tg l w2) : PI X tg l (fun σ H R => w1 σ H R ∨ w2 σ H R) :=
  ⟨fun pins s σ H R I h => h.elim (h1.run pins s σ H R I) (h2.run pins s σ H R I)⟩
theorem ai_or1 {w1 w2 : TI} {Θ : List Dt → List En → Prop} (h : AI K w1 ρ Θ) : AI K (fun σ H R => w1 σ H R ∨ w2 σ H R) ρ Θ := fun B σ G H m Rr q => .inl (h B σ G H m Rr q)
theorem ai_or2 {w1 w2 : TI} {Θ : List Dt → List En → Prop} (h : AI K w2 ρ Θ) : AI K (fun σ H R => w1 σ H R ∨ w2 σ H R) ρ Θ := fun B σ G H m Rr q => .inr (h B σ G H m Rr q)
theorem ai_rng1 {ta : TA} {Θ : List Dt → List En → Prop} (h : AA K ta ρ fun ds ρ1 => ∃ j : Int, ds = [.int j] ∧ -(2 ^ 62) ≤ j ∧ j < 2 ^ 62 ∧ Θ (rgD 0 j.toNat) ρ1) : AI K (iRng1 ta) ρ Θ := fun B σ G H m Rr q =>
  h B σ G H m _ fun vs ds ρ1 G1 H1 m1 s1 t1 r1 ⟨j, e, p1, p2, p⟩ => by
    subst e
    obtain ⟨x, rfl, h1⟩ := r1.one
    cases (show x = .int j from h1)
    exact ⟨j, rfl, p1, p2, q _ _ ρ1 G1 H1 m1 s1 t1 wj_range p⟩
theorem ai_rng2 {ta : TA} {Θ : List Dt → List En → Prop} (h : AA K ta ρ fun ds ρ1 => ∃ i j : Int, ds = [.int i, .int j] ∧ (-(2 ^ 62) ≤ i ∧ i < 2 ^ 62 ∧ -(2 ^ 62) ≤ j ∧ j < 2 ^ 62) ∧ Θ (rgD i (j - i).toNat) ρ1) : AI K (iRng2 ta) ρ Θ := fun B σ G H m Rr q =>
  h B σ G H m _ fun vs ds ρ1 G1 H1 m1 s1 t1 r1 ⟨i, j, e, p1, p⟩ => by
    subst e
    obtain ⟨x, y, rfl, h1, h2⟩ := r1.two
    cases (show x = .int i from h1)
    cases (show y = .int j from h2)
    exact ⟨i, j, rfl, p1, q _ _ ρ1 G1 H1 m1 s1 t1 wj_range p⟩
/-! new pairs -/
theorem nw_pair {G H : Hp} {T : Addr} {x y : V} {d e : Dt} (s : Same G H) (n : H T = none) (r1 : RD K G d x) (r2 : RD K G e y) : ∃ G', Nw G H G' (upd H T (.tup [x, y])) ∧ RD K G' (.tup [d, e]) (.ref T) := by
  have nw := Nw.new (o := .tup [x, y]) s n
  exact ⟨_, nw, T, _, rfl, SqT.of upd_same, x, [y], rfl, r1.same nw.g, y, [], rfl, r2.same nw.g, rfl⟩
theorem zip_get {α β : Type} : ∀ {xs : List α} {ys : List β} {i : Nat} {x : α} {y : β}, xs[i]? = some x → ys[i]? = some y → (xs.zip ys)[i]? = some (x, y)
  | a :: xs, b :: ys, 0, _, _, h1, h2 => by cases h1; cases h2; rfl
  | a :: xs, b :: ys, i + 1, x, y, h1, h2 => by
    have := zip_get (i := i) (by simpa using h1) (by simpa using h2)
    simpa using this
  | [], _, _, _, _, h1, _ => by simp at h1
  | _ :: _, [], _, _, _, _, h2 => by simp at h2
def zpD (l m : List Dt) : List Dt := (l.zip m).map fun p => .tup [p.1, p.2]
theorem zpD_len {l m : List Dt} : (zpD l m).length = min l.length m.length := by unfold zpD; rw [List.length_map, List.length_zip]
theorem zpD_get {l m : List Dt} {i : Nat} {d e : Dt} (h1 : l[i]? = some d) (h2 : m[i]? = some e) : (zpD l m)[i]? = some (.tup [d, e]) := by
  unfold zpD; rw [List.getElem?_map, zip_get h1 h2]; rfl
theorem wj_zipL {a b : Addr} {xs ys : List V} {l m : List Dt} {G : Hp} (h : G a = some (.lst xs)) (h' : G b = some (.lst ys)) (r : RDs K G l xs) (r' : RDs K G m ys) : Wj K (Itz K a b) (zpD l m) G := by
  have e := r.length
  have e' := r'.length
  have w := walk_zip (K := K) (a := a) (b := b) (xs := xs) (ys := ys) rfl
  have el : (zpD l m).length = min xs.length ys.length := by rw [zpD_len, e, e']
  refine ⟨fun i H hi s => w.goes i H (by rw [el] at hi; exact hi) ⟨SqL.of (s _ _ h), SqL.of (s _ _ h')⟩, fun H s => by rw [el]; exact w.stops H ⟨SqL.of (s _ _ h), SqL.of (s _ _ h')⟩, fun i G1 H x H' hi s1 s2 y => ?_⟩
  obtain ⟨T, u, v, rfl, nT, rfl, f1, f2⟩ := w.yields i H x H' (by rw [el] at hi; exact hi) ⟨SqL.of (s2 _ _ (s1 _ _ h)), SqL.of (s2 _ _ (s1 _ _ h'))⟩ y
  obtain ⟨d1, g1, q1⟩ := r.back f1
  obtain ⟨d2, g2, q2⟩ := r'.back f2
  obtain ⟨G', n, rd⟩ := nw_pair s2 nT (q1.same s1) (q2.same s1)
  exact ⟨G', _, n, zpD_get g1 g2, rd⟩
theorem walk_zipT {a b : Addr} {xs ys : List V} : Walk (RZ.ItzT K a b) (min xs.length ys.length) (fun H => SqT K H a xs ∧ SqT K H b ys) (YPair (fun i => xs[i]?) (fun i => ys[i]?)) := by
  refine ⟨fun i H hi q => ?_, fun _ q => ⟨xs, ys, q.1, q.2, by omega⟩, fun _ _ _ _ _ q ⟨T, x, y, e1, e2, e3, f, g⟩ => ⟨T, x, y, e1, e2, e3, f xs q.1, g ys q.2⟩⟩
  have h1 : i < xs.length := by omega
  have h2 : i < ys.length := by omega
  exact ⟨xs, ys, xs[i], ys[i], q.1, q.2, List.getElem?_eq_getElem h1, List.getElem?_eq_getElem h2⟩
theorem wj_zipT {a b : Addr} {xs ys : List V} {l m : List Dt} {G : Hp} (h : SqT K G a xs) (h' : SqT K G b ys) (r : RDs K G l xs) (r' : RDs K G m ys) : Wj K (RZ.ItzT K a b) (zpD l m) G := by
  have e := r.length
  have e' := r'.length
  have w := walk_zipT (K := K) (a := a) (b := b) (xs := xs) (ys := ys)
  have el : (zpD l m).length = min xs.length ys.length := by rw [zpD_len, e, e']
  refine ⟨fun i H hi s => w.goes i H (by rw [el] at hi; exact hi) ⟨same_sqT s h, same_sqT s h'⟩, fun H s => by rw [el]; exact w.stops H ⟨same_sqT s h, same_sqT s h'⟩, fun i G1 H x H' hi s1 s2 y => ?_⟩
  obtain ⟨T, u, v, rfl, nT, rfl, f1, f2⟩ := w.yields i H x H' (by rw [el] at hi; exact hi) ⟨same_sqT s2 (same_sqT s1 h), same_sqT s2 (same_sqT s1 h')⟩ y
  obtain ⟨d1, g1, q1⟩ := r.back f1
  obtain ⟨d2, g2, q2⟩ := r'.back f2
  obtain ⟨G', n, rd⟩ := nw_pair s2 nT (q1.same s1) (q2.same s1)
  exact ⟨G', _, n, zpD_get g1 g2, rd⟩
theorem ai_zipL {ta : TA} {Θ : List Dt → List En → Prop} (h : AA K ta ρ fun ds ρ1 => ∃ l m, ds = [.lst l, .lst m] ∧ Θ (zpD l m) ρ1) : AI K (RZ.iZipA K ta) ρ Θ := fun B σ G H mm Rr q =>
  h B σ G H mm _ fun vs ds ρ1 G1 H1 m1 s1 t1 r1 ⟨l, m, e, p⟩ => by
    subst e
    obtain ⟨x, y, rfl, ⟨a, xs, rfl, h1, h2⟩, ⟨b, ys, rfl, h3, h4⟩⟩ := r1.two
    exact ⟨a, b, xs, ys, rfl, .inl ⟨SqL.of (m1.sub _ _ h1), SqL.of (m1.sub _ _ h3), q _ _ ρ1 G1 H1 m1 s1 t1 (wj_zipL h1 h3 h2 h4) p⟩⟩
theorem ai_zipT {ta : TA} {Θ : List Dt → List En → Prop} (h : AA K ta ρ fun ds ρ1 => ∃ l m, ds = [.tup l, .tup m] ∧ Θ (zpD l m) ρ1) : AI K (RZ.iZipA K ta) ρ Θ := fun B σ G H mm Rr q =>
  h B σ G H mm _ fun vs ds ρ1 G1 H1 m1 s1 t1 r1 ⟨l, m, e, p⟩ => by
    subst e
    obtain ⟨x, y, rfl, ⟨a, xs, rfl, h1, h2⟩, ⟨b, ys, rfl, h3, h4⟩⟩ := r1.two
    exact ⟨a, b, xs, ys, rfl, .inr ⟨same_sqT m1.sub h1, same_sqT m1.sub h3, q _ _ ρ1 G1 H1 m1 s1 t1 (wj_zipT h1 h3 h2 h4) p⟩⟩
def enD (l : List Dt) : List Dt := (List.range l.length).zipWith (fun (i : Nat) d => .tup [.int ((i : Nat) : Int), d]) l
theorem enD_len {l : List Dt} : (enD l).length = l.length := by unfold enD; simp
theorem enD_get {l : List Dt} {i : Nat} {d : Dt} (h : l[i]? = some d) : (enD l)[i]? = some (.tup [.int ((i : Nat) : Int), d]) := by
  have hi := (List.getElem?_eq_some_iff.mp h).1
  unfold enD
  rw [List.getElem?_zipWith, List.getElem?_range hi, h]
theorem wj_enum {a : Addr} {xs : List V} {l : List Dt} {G : Hp} (h : G a = some (.lst xs)) (r : RDs K G l xs) : Wj K (Ite K a) (enD l) G := by
  have e := r.length
  have w := walk_enum (K := K) (a := a) (xs := xs)
  have el : (enD l).length = xs.length := by rw [enD_len, e]
  refine ⟨fun i H hi s => w.goes i H (by rw [el] at hi; exact hi) (SqL.of (s _ _ h)), fun H s => by rw [el]; exact w.stops H (SqL.of (s _ _ h)), fun i G1 H x H' hi s1 s2 y => ?_⟩
  obtain ⟨T, u, v, rfl, nT, rfl, f1, f2⟩ := w.yields i H x H' (by rw [el] at hi; exact hi) (SqL.of (s2 _ _ (s1 _ _ h))) y
  cases f1
  obtain ⟨d2, g2, q2⟩ := r.back f2
  obtain ⟨G', n, rd⟩ := nw_pair (K := K) (d := .int ((i : Nat) : Int)) s2 nT rfl (q2.same s1)
  exact ⟨G', _, n, enD_get g2, rd⟩
theorem ai_enum {ta : TA} {Θ : List Dt → List En → Prop} (h : AA K ta ρ fun ds ρ1 => ∃ l, ds = [.lst l] ∧ Θ (enD l) ρ1) : AI K (iEnum K ta) ρ Θ := fun B σ G H mm Rr q =>
  h B σ G H mm _ fun vs ds ρ1 G1 H1 m1 s1 t1 r1 ⟨l, e, p⟩ => by
    subst e
    obtain ⟨x, rfl, ⟨a, xs, rfl, h1, h2⟩⟩ := r1.one
    exact ⟨a, xs, rfl, SqL.of (m1.sub _ _ h1), q _ _ ρ1 G1 H1 m1 s1 t1 (wj_enum h1 h2) p⟩
/-! ### for -/
theorem as_for {wi : TI} {g : TG} {tb : TS} (h : AI K wi ρ fun l ρ1 => ∃ I : Nat → List En → Prop, I 0 ρ1 ∧ (∀ i d ρ2, l[i]? = some d → I i ρ2 → AG K g d ρ2 fun ρ3 => AS K tb ρ3 (I (i + 1)) R) ∧ ∀ ρ2, I l.length ρ2 → N ρ2) : AS K (tFor wi g tb) ρ N R := fun B σ G H m D qn qr =>
  h B σ G H m _ fun J l ρ1 G1 H1 m1 s1 t1 w ⟨I, i0, is, ie⟩ => by
    refine for_it w.walk (fun i σ2 H2 => ∃ ρ2 G2, Mt K B ρ2 σ2 G2 H2 ∧ Same G1 G2 ∧ Tr B H1 H2 ∧ I i ρ2) ⟨ρ1, G1, m1, Same.refl _, Tr.refl, i0⟩ (fun i σ2 H2 _ ⟨ρ2, G2, m2, s2, t2, p⟩ => s2.trans m2.sub) ?_ ?_
    · rintro i x σ2 H2 H3 hi ⟨ρ2, G2, m2, s2, t2, p⟩ y
      obtain ⟨G3, d, n3, hd, rd⟩ := y G2 s2 m2.sub
      refine is i d ρ2 hd p B σ2 G3 H3 (m2.nw n3) x rd _ fun σ4 ρ4 G4 H4 m4 s4 t4 h4 => ?_
      refine h4 B σ4 G4 H4 m4 _ (fun σ5 ρ5 G5 H5 m5 s5 t5 p5 => ⟨ρ5, G5, m5, (((s2.trans n3.g).trans s4).trans s5), (((t2.trans (Tr.same n3.h)).trans t4).trans t5), p5⟩) ?_
      exact fun v d σ5 ρ5 G5 H5 m5 s5 t5 r5 p5 => qr v d σ5 ρ5 G5 H5 m5 ((((s1.trans s2).trans n3.g).trans s4).trans s5) ((((t1.trans t2).trans (Tr.same n3.h)).trans t4).trans t5) r5 p5
    · rintro σ2 H2 ⟨ρ2, G2, m2, s2, t2, p⟩
      exact qn σ2 ρ2 G2 H2 m2 (s1.trans s2) (t1.trans t2) (ie ρ2 p)
/-! ### comprehensions -/
def wipeE (ρ : List En) : List Nat → List En
  | [] => ρ
  | v :: vs => (wipeE ρ vs).set v .no
theorem Mt.wipe {B : Addr → Prop} {σ : L2.St} {G H : Hp} (m : Mt K B ρ σ G H) : ∀ vs : List Nat, Mt K B (wipeE ρ vs) (L2.wipe σ vs) G H
  | [] => m
  | v :: vs => (Mt.wipe m vs).drop v none
/-- the slots may be others where nothing is known -/
theorem Mt.other {B : Addr → Prop} {σ σ' : L2.St} {G H : Hp} (m : Mt K B ρ σ G H) (hl : σ'.length = σ.length) (h : ∀ i : Nat, ρ[i]? = some En.no ∨ σ'[i]? = σ[i]?) : Mt K B ρ σ' G H where
  sub := m.sub
  pro := m.pro
  len := hl.trans m.len
  da := fun i d e => by
    rcases h i with z | z
    · rw [z] at e; cases e
    · rw [z]; exact m.da i d e
  own := fun i d e => by
    rcases h i with z | z
    · rw [z] at e; cases e
    · rw [z]; exact m.own i d e
  bx := fun i b f e => by
    rcases h i with z | z
    · rw [z] at e; cases e
    · rw [z]; exact m.bx i b f e
  dis := fun i j e e' a h1 h2 o1 o2 ne s1 s2 => by
    rcases h i with z | z
    · rw [z] at h1; cases h1; exact o1
    · rcases h j with z' | z'
      · rw [z'] at h2; cases h2; exact o2
      · rw [z] at s1; rw [z'] at s2; exact m.dis i j e e' a h1 h2 o1 o2 ne s1 s2
/-- off vs the slots are the same -/
def Off (vs : List Nat) (σ σ' : L2.St) : Prop := σ'.length = σ.length ∧ ∀ i, i ∉ vs → σ'[i]? = σ[i]?
theorem wipe_in {σ : L2.St} {i : Nat} : ∀ {vs : List Nat}, i ∈ vs → i < σ.length → (L2.wipe σ vs)[i]? = some none
  | v :: vs, h, lt => by
    unfold L2.wipe
    by_cases e : v = i
    · subst e; exact set_at (by rw [wipe_length]; exact lt)
    · rw [set_off e]
      exact wipe_in (by rcases List.mem_cons.mp h with z | z; exact absurd z.symm e; exact z) lt
theorem Off.wipe {vs : List Nat} {σ σ' : L2.St} (o : Off vs σ σ') : L2.wipe σ' vs = L2.wipe σ vs := by
  apply List.ext_getElem?
  intro i
  by_cases h : i ∈ vs
  · by_cases lt : i < σ.length
    · rw [wipe_in h lt, wipe_in h (by rw [o.1]; exact lt)]
    · rw [List.getElem?_eq_none (by rw [wipe_length, o.1]; omega), List.getElem?_eq_none (by rw [wipe_length]; omega)]
  · rw [wipe_out h, wipe_out h, o.2 i h]
theorem wipe_off (vs : List Nat) (σ : L2.St) : Off vs (L2.wipe σ vs) σ := ⟨(wipe_length σ vs).symm, fun i h => (wipe_out h).symm⟩
def AGv (K : PySem.W.Frag) (vs : List Nat) (g : TG) (d : Dt) (ρ : List En) (N : List En → Prop) : Prop := ∀ B σ G H, Mt K B ρ σ G H → ∀ v, RD K G d v → ∀ Q : L2.St → Hp → Prop, (∀ σ' ρ' G' H', Mt K B ρ' σ' G' H' → Same G G' → Tr B H H' → Off vs σ σ' → N ρ' → Q σ' H') → g v σ H Q
def AGvs (K : PySem.W.Frag) (vs : List Nat) (g : TGs) (ds : List Dt) (ρ : List En) (N : List En → Prop) : Prop := ∀ B σ G H, Mt K B ρ σ G H → ∀ xs, RDs K G ds xs → ∀ Q : L2.St → Hp → Prop, (∀ σ' ρ' G' H', Mt K B ρ' σ' G' H' → Same G G' → Tr B H H' → Off vs σ σ' → N ρ' → Q σ' H') → g xs σ H Q
theorem agv_name {vs : List Nat} {i : Nat} {d : Dt} (hi : i ∈ vs) (h : N (ρ.set i (.da d))) : AGv K vs (gName i) d ρ N := fun B σ G H m v r Q q => q _ _ G H (m.set i r) (Same.refl _) Tr.refl ⟨List.length_set, fun j hj => set_off (fun z => hj (by rw [← z]; exact hi))⟩ h
theorem agvs_nil {vs : List Nat} (h : N ρ) : AGvs K vs gNil [] ρ N := fun B σ G H m xs r Q q => ⟨r, q σ ρ G H m (Same.refl _) Tr.refl ⟨rfl, fun _ _ => rfl⟩ h⟩
theorem agvs_cons {vs : List Nat} {t : TG} {u : TGs} {d : Dt} {ds : List Dt} (h : AGv K vs t d ρ fun ρ1 => AGvs K vs u ds ρ1 N) : AGvs K vs (gCons t u) (d :: ds) ρ N := fun B σ G H m xs r Q q => by
  obtain ⟨x, ys, rfl, r1, r2⟩ := r
  exact ⟨x, ys, rfl, h B σ G H m x r1 _ fun σ1 ρ1 G1 H1 m1 s1 t1 o1 h1 => h1 B σ1 G1 H1 m1 ys (r2.same s1) Q fun σ' ρ' G' H' m' s t o p => q σ' ρ' G' H' m' (s1.trans s) (t1.trans t) ⟨o.1.trans o1.1, fun i hi => (o.2 i hi).trans (o1.2 i hi)⟩ p⟩
theorem agv_tup {vs : List Nat} {t : TGs} {n : Nat} {ds : List Dt} (hn : ds.length = n) (h : AGvs K vs t ds ρ N) : AGv K vs (gTup K n t) (.tup ds) ρ N := fun B σ G H m v r Q q => by
  obtain ⟨a, xs, rfl, r1, r2⟩ := r
  exact ⟨a, xs, rfl, same_sqT m.sub r1, by rw [r2.length]; exact hn, h B σ G H m xs r2 Q q⟩
theorem at_yes (h : ΨT true ρ) : AT K tYes ρ ΨT := fun B σ G H m Q q => q true ρ G H m (Same.refl _) Tr.refl h
/-- [e for .. in ..]: ρ is silent about the slots of the targets -/
theorem ae_lc {wi : TI} {g : TG} {tt : TT} {te : TE} {vs : List Nat}
    (h : AI K wi ρ fun l ρ1 => ∃ I : Nat → List Dt → List En → Prop, I 0 [] (wipeE ρ1 vs) ∧
      (∀ i d acc ρ2, l[i]? = some d → I i acc ρ2 → AGv K vs g d ρ2 fun ρ3 => AT K tt ρ3 fun b ρ4 => (b = true → AE K te ρ4 fun e ρ5 => acc.length < sizeLine ∧ I (i + 1) (acc ++ [e]) (wipeE ρ5 vs)) ∧ (b = false → I (i + 1) acc (wipeE ρ4 vs))) ∧
      ∀ acc ρ2, I l.length acc ρ2 → (∀ i ∈ vs, i < ρ2.length → ρ2[i]? = some En.no) ∧ Ψ (.lst acc) ρ2) : AE K (tLc wi g tt te vs) ρ Ψ := fun B σ G H m Q q =>
  h B σ G H m _ fun J l ρ1 G1 H1 m1 s1 t1 w ⟨I, i0, is, ie⟩ => fun D hD => by
    have back : ∀ {σ2 : L2.St} {ρ2 : List En} {B' : Addr → Prop} {G2 H2 : Hp}, L2.wipe σ2 vs = L2.wipe σ vs → Mt K B' ρ2 σ2 G2 H2 → Mt K B' (wipeE ρ2 vs) (L2.wipe σ vs) G2 H2 := fun e m2 => by
      rw [← e]; exact m2.wipe vs
    have mg := m1.guard (o := .lst []) hD
    refine lc_it w.walk (fun i H2 => ∃ (acc : List Dt) (xs : List V) (ρ2 : List En) (G2 : Hp), Mt K (fun a => B a ∨ a = D) ρ2 (L2.wipe σ vs) G2 H2 ∧ Same G1 G2 ∧ Tr B H1 H2 ∧ H2 D = some (.lst xs) ∧ RDs K G2 acc xs ∧ I i acc ρ2)
      ⟨[], [], wipeE ρ1 vs, G1, mg.wipe vs, Same.refl _, Tr.same (same_up hD), upd_same, rfl, i0⟩ (fun i H2 _ ⟨acc, xs, ρ2, G2, m2, s2, t2, e2, r2, p⟩ => s2.trans m2.sub) ?_ ?_
    · rintro i x H2 H3 hi ⟨acc, xs, ρ2, G2, m2, s2, t2, e2, r2, p⟩ y
      obtain ⟨G3, d, n3, hd, rd⟩ := y G2 s2 m2.sub
      have m3 := m2.nw n3
      refine is i d acc ρ2 hd p _ (L2.wipe σ vs) G3 H3 m3 x rd _ fun σ4 ρ4 G4 H4 m4 s4 t4 o4 h4 => ?_
      have ew : L2.wipe σ4 vs = L2.wipe σ vs := by
        rw [o4.wipe]
        exact (Off.wipe (wipe_off vs σ)).symm
      have e3 := n3.h _ _ e2
      have e4 := t4 _ _ (.inr rfl) e3
      have tB3 : Tr B H1 H4 := (t2.trans (Tr.same n3.h)).trans fun a o b e => t4 a o (.inl b) e
      refine ⟨ew, ?_⟩
      refine h4 _ σ4 G4 H4 m4 _ fun b ρ5 G5 H5 m5 s5 t5 h5 => ?_
      have e5 := t5 _ _ (.inr rfl) e4
      have tB5 : Tr B H1 H5 := tB3.trans fun a o b e => t5 a o (.inl b) e
      have s15 : Same G1 G5 := ((s2.trans n3.g).trans s4).trans s5
      cases b
      · rw [if_neg (by decide)]
        exact ⟨acc, xs, wipeE ρ5 vs, G5, back ew m5, s15, tB5, e5, ((r2.same n3.g).same s4).same s5, h5.2 rfl⟩
      · rw [if_pos rfl]
        refine h5.1 rfl _ σ4 G5 H5 m5 _ fun v e ρ6 G6 H6 m6 s6 t6 r6 h6 => ?_
        have e6 := t6 _ _ (.inr rfl) e5
        have rr : RDs K G6 acc xs := (((r2.same n3.g).same s4).same s5).same s6
        refine ⟨xs, e6, by rw [rr.length]; exact h6.1, acc ++ [e], xs ++ [v], wipeE ρ6 vs, G6, (back ew m6).turn (.inr rfl), s15.trans s6, ?_, upd_same, rr.snoc r6, h6.2⟩
        intro a o b z
        have z1 := t6 a o (.inl b) (tB5 a o b z)
        rw [upd_ne (fun z' => (m1.pro a b).2 (by rw [z']; exact hD))]; exact z1
    · rintro H2 ⟨acc, xs, ρ2, G2, m2, s2, t2, e2, r2, p⟩
      obtain ⟨hn, hp⟩ := ie acc ρ2 p
      have m3 : Mt K (fun a => B a ∨ a = D) ρ2 σ G2 H2 := m2.other (wipe_length σ vs).symm fun i => by
        by_cases hi : i ∈ vs
        · by_cases lt : i < ρ2.length
          · exact .inl (hn i hi lt)
          · exact .inr (by rw [List.getElem?_eq_none (by have := m2.len; rw [wipe_length] at this; omega), List.getElem?_eq_none (by have := m2.len; omega)])
        · exact .inr (wipe_out hi).symm
      have nD : G2 D = none := (m2.pro D (.inr rfl)).1
      have mB : Mt K B ρ2 σ G2 H2 := m3.less fun a b => .inl b
      -- the new list becomes data
      have sg : Same G2 (upd G2 D (.lst xs)) := same_up nD
      have mF : Mt K B ρ2 σ (upd G2 D (.lst xs)) H2 := ⟨fun a o z => by
          by_cases w : a = D
          · subst w; rw [upd_same] at z; cases z; exact e2
          · rw [upd_ne w] at z; exact m2.sub _ _ z,
        fun a b => ⟨by rw [upd_ne (fun w => (m1.pro a b).2 (by rw [w]; exact hD))]; exact (mB.pro a b).1, (mB.pro a b).2⟩, mB.len, fun i d e => by
          obtain ⟨v, z1, z2⟩ := mB.da i d e
          exact ⟨v, z1, z2.same sg⟩, fun i k e => by
          obtain ⟨q', ys, z1, z2, z3, z4, z5⟩ := m3.own i k e
          exact ⟨q', ys, z1, z2, z3.same sg, by rw [upd_ne (fun w => z5 (.inr w))]; exact z4, fun b => z5 (.inl b)⟩, fun i b f e => by
          obtain ⟨y, c, z1, z2, z3, z4, z5, z6⟩ := m3.bx i b f e
          exact ⟨y, c, z1, z2, z3, z4, by rw [upd_ne (fun w => z6 (.inr w))]; exact z5, fun b => z6 (.inl b)⟩, mB.dis⟩
      exact q _ (.lst acc) ρ2 _ H2 mF ((s1.trans s2).trans sg) (t1.trans t2) ⟨D, xs, rfl, upd_same, r2.same sg⟩ hp
end
end Sh
set_option Elab.async false
set_option linter.all false
set_option maxRecDepth 100000
set_option maxHeartbeats 4000000
namespace Sh
open PySem PySem.Spec PyProof.Rows L2
/-! ### promises over data -/
def spP (K : PySem.W.Frag) (S : List Dt → Dt → Prop) : Sp := fun vs H Q _ => ∃ G ds r, Same G H ∧ RDs K G ds vs ∧ S ds r ∧ ∀ v G' H', Nw G H G' H' → RD K G' r v → Q v H'
def But (b : Addr) (H H' : Hp) : Prop := ∀ a o, a ≠ b → H a = some o → H' a = some o
theorem but_upd {H : Hp} {b : Addr} {o : HO} : But b H (upd H b o) := fun a u n e => by rw [upd_ne n]; exact e
structure Nb (b : Addr) (G H G' H' : Hp) : Prop where
  g : Same G G'
  s : Same G' H'
  h : But b H H'
  f : ∀ a, G a = none → H a ≠ none → G' a = none
def spB (K : PySem.W.Frag) (n : Nat) (dom : List Dt → Prop) (post : List Dt → Dt → Prop) : Sp := fun vs H Q _ => ∃ G ds b us y c, ∃ F : Nat, vs = .ref b :: us ∧ Same G H ∧ Bx H b y c ∧ 0 ≤ c ∧ c + (F + n : Nat) ≤ BxM ∧ G b = none ∧ RDs K G ds us ∧ dom ds ∧
  ∀ v d G' H' y' c', Nb b G H G' H' → Bx H' b y' c' → 0 ≤ c' → c' + F ≤ BxM → RD K G' d v → post ds d → Q v H'
section
variable {K : PySem.W.Frag} {ρ : List En} {Ψ : Dt → List En → Prop} {ΨT : Bool → List En → Prop} {ΨA : List Dt → List En → Prop} {N : List En → Prop} {R : Dt → List En → Prop} {Φ : Dt → Prop}
theorem ae_call {S : List Dt → Dt → Prop} {E : XK} {ta : TA} (h : AA K ta ρ fun ds ρ1 => ∃ r, S ds r ∧ Ψ r ρ1) : AE K (tCall (spP K S) [] E ta) ρ Ψ := fun B σ G H m Q q =>
  h B σ G H m _ fun vs ds ρ1 G1 H1 m1 s1 t1 r1 ⟨r, hs, p⟩ => ⟨G1, ds, r, m1.sub, by rw [List.append_nil]; exact r1, hs, fun v G2 H2 n r2 => q v r ρ1 G2 H2 (m1.nw n) (s1.trans n.g) (t1.trans (Tr.same n.h)) r2 p⟩
/-- a box has been drawn from -/
theorem Mt.box {B : Addr → Prop} {σ : L2.St} {G H G' H' : Hp} (m : Mt K B ρ σ G H) {i f : Nat} {b : Addr} {y c : Int} (e : ρ[i]? = some (.bx b f)) (n : Nb b G H G' H') {F : Nat} (h : Bx H' b y c) (c0 : 0 ≤ c) (c1 : c + F ≤ BxM) : Mt K B (ρ.set i (.bx b F)) σ G' H' ∧ Tr B H H' := by
  obtain ⟨y0, k0, z1, z2, z3, z4, z5, z6⟩ := m.bx i b f e
  have tr : Tr B H H' := fun a o ba e => n.h a o (fun w => z6 (by rw [← w]; exact ba)) e
  refine ⟨⟨n.s, fun a ba => ⟨n.f a (m.pro a ba).1 (m.pro a ba).2, ?_⟩, by rw [List.length_set]; exact m.len, ?_, ?_, ?_, ?_⟩, tr⟩
  · intro z
    cases q : H a with
    | none => exact (m.pro a ba).2 q
    | some o => rw [tr a o ba q] at z; cases z
  · intro j d hj
    rcases get_set hj with ⟨rfl, w, lt⟩ | ⟨ne, w⟩
    · cases w
    · obtain ⟨v, w1, w2⟩ := m.da j d w
      exact ⟨v, w1, w2.same n.g⟩
  · intro j l hj
    rcases get_set hj with ⟨rfl, w, lt⟩ | ⟨ne, w⟩
    · cases w
    · obtain ⟨q, xs, w1, w2, w3, w4, w5⟩ := m.own j l w
      exact ⟨q, xs, w1, n.h _ _ (fun z => m.dis i j _ _ b e w trivial trivial ne z1 (by rw [← z]; exact w1)) w2, w3.same n.g, n.f q w4 (some_ne w2), w5⟩
  · intro j b' f' hj
    rcases get_set hj with ⟨rfl, w, lt⟩ | ⟨ne, w⟩
    · cases w
      exact ⟨y, c, z1, h, c0, c1, n.f b z5 z2.ne, z6⟩
    · obtain ⟨y', c', w1, ⟨x, w2, w2'⟩, w3, w4, w5, w6⟩ := m.bx j b' f' w
      exact ⟨y', c', w1, ⟨x, n.h _ _ (fun z => m.dis i j _ _ b e w trivial trivial ne z1 (by rw [← z]; exact w1)) w2, w2'⟩, w3, w4, n.f b' w5 (some_ne w2), w6⟩
  · intro j k e1 e2 a g1 g2 o1 o2 ne s1 s2
    rcases get_set g1 with ⟨rfl, z, lt⟩ | ⟨n1, z1'⟩
    · rcases get_set g2 with ⟨w, z', lt'⟩ | ⟨n2, z2'⟩
      · exact ne w
      · exact m.dis i k _ e2 a e z2' trivial o2 ne s1 s2
    · rcases get_set g2 with ⟨rfl, z, lt⟩ | ⟨n2, z2'⟩
      · exact m.dis j i e1 _ a z1' e o1 trivial ne s1 s2
      · exact m.dis j k e1 e2 a z1' z2' o1 o2 ne s1 s2
theorem ae_draw {n : Nat} {dom : List Dt → Prop} {post : List Dt → Dt → Prop} {E : XK} {ta : TA} {i : Nat} {b : Addr} {f0 : Nat} (e0 : ρ[i]? = some (.bx b f0))
    (h : AA K ta ρ fun ds ρ1 => dom ds ∧ ∃ F, ρ1[i]? = some (.bx b (F + n)) ∧ ∀ d, post ds d → Ψ d (ρ1.set i (.bx b F))) : AE K (tCall (spB K n dom post) [] E (tCons (tVar i) ta)) ρ Ψ := fun B σ G H m Q q => by
  obtain ⟨y0, k0, z1, _⟩ := m.bx i b f0 e0
  refine ⟨_, z1, h B σ G H m _ fun vs ds ρ1 G1 H1 m1 s1 t1 r1 ⟨hd, F, e, p⟩ => ?_⟩
  obtain ⟨y, c, w1, w2, w3, w4, w5, w6⟩ := m1.bx i b (F + n) e
  refine ⟨G1, ds, b, vs, y, c, F, by rw [List.append_nil], m1.sub, w2, w3, w4, w5, r1, hd, fun v d G2 H2 y' c' nb hb c0 c1 r2 hp => ?_⟩
  obtain ⟨m2, t2⟩ := m1.box e nb hb c0 c1
  exact q v d _ G2 H2 m2 (s1.trans nb.g) (t1.trans t2) r2 (p d hp)
/-! ### a def keeps such a promise -/
def env0 (N : List Str) (ds : List Dt) : List En := ds.map En.da ++ List.replicate (N.length - ds.length) .no
def envB (N : List Str) (b : Addr) (f : Nat) (ds : List Dt) : List En := .bx b f :: (ds.map En.da ++ List.replicate (N.length - (ds.length + 1)) .no)
theorem rep_get {n i : Nat} {e : En} (h : (List.replicate n En.no)[i]? = some e) : e = .no := by
  rw [List.getElem?_replicate] at h
  split at h
  · cases h; rfl
  · cases h
theorem da_get {ds : List Dt} {n i : Nat} {e : En} (h : (ds.map En.da ++ List.replicate n En.no)[i]? = some e) : e = .no ∨ ∃ d, ds[i]? = some d ∧ e = .da d := by
  by_cases lt : i < ds.length
  · rw [List.getElem?_append_left (by rw [List.length_map]; exact lt), List.getElem?_map] at h
    obtain ⟨d, h1, h2⟩ := Option.map_eq_some_iff.mp h
    exact .inr ⟨d, h1, h2.symm⟩
  · rw [List.getElem?_append_right (by rw [List.length_map]; omega)] at h
    exact .inl (rep_get h)
theorem start_get {N : List Str} {vs : List V} {i : Nat} {x : V} (h : vs[i]? = some x) : (L2.start N vs)[i]? = some (some x) := by
  have lt := (List.getElem?_eq_some_iff.mp h).1
  unfold L2.start
  rw [List.getElem?_append_left (by rw [List.length_map]; exact lt), List.getElem?_map, h]; rfl
theorem mt_start {N : List Str} {ds : List Dt} {vs : List V} {G H : Hp} (s : Same G H) (r : RDs K G ds vs) : Mt K (fun a => H a ≠ none ∧ G a = none) (env0 N ds) (L2.start N vs) G H where
  sub := s
  pro := fun a b => ⟨b.2, b.1⟩
  len := by unfold L2.start env0; simp [r.length]
  da := fun i d e => by
    rcases da_get e with z | ⟨d', z1, z2⟩
    · cases z
    · cases z2
      obtain ⟨x, h1, h2⟩ := r.get z1
      exact ⟨x, start_get h1, h2⟩
  own := fun i l e => by rcases da_get e with z | ⟨d', z1, z2⟩ <;> contradiction
  bx := fun i b f e => by rcases da_get e with z | ⟨d', z1, z2⟩ <;> contradiction
  dis := fun i j e e' a h1 h2 o1 o2 ne s1 s2 => by
    rcases da_get h1 with z | ⟨d', z1, z2⟩
    · subst z; exact o1
    · subst z2; exact o1
theorem mt_startB {N : List Str} {ds : List Dt} {vs : List V} {G H : Hp} {b : Addr} {y c : Int} {f : Nat} (s : Same G H) (r : RDs K G ds vs) (hb : Bx H b y c) (c0 : 0 ≤ c) (c1 : c + f ≤ BxM) (gb : G b = none) : Mt K (fun a => H a ≠ none ∧ G a = none ∧ a ≠ b) (envB N b f ds) (L2.start N (.ref b :: vs)) G H where
  sub := s
  pro := fun a b => ⟨b.2.1, b.1⟩
  len := by unfold L2.start envB; simp [r.length]
  da := fun i d e => by
    cases i with
    | zero => cases e
    | succ i =>
      rcases da_get (show _ = some _ from e) with z | ⟨d', z1, z2⟩
      · cases z
      · cases z2
        obtain ⟨x, h1, h2⟩ := r.get z1
        exact ⟨x, start_get (vs := .ref b :: vs) (i := i + 1) h1, h2⟩
  own := fun i l e => by
    cases i with
    | zero => cases e
    | succ i => rcases da_get (show _ = some _ from e) with z | ⟨d', z1, z2⟩ <;> contradiction
  bx := fun i b' f' e => by
    cases i with
    | zero => cases e; exact ⟨y, c, rfl, hb, c0, c1, gb, fun z => z.2.2 rfl⟩
    | succ i => rcases da_get (show _ = some _ from e) with z | ⟨d', z1, z2⟩ <;> contradiction
  dis := fun i j e e' a h1 h2 o1 o2 ne s1 s2 => by
    cases i with
    | zero =>
      cases j with
      | zero => exact ne rfl
      | succ j => rcases da_get (show _ = some _ from h2) with z | ⟨d', z1, z2⟩ <;> (subst_vars; exact o2)
    | succ i => rcases da_get (show _ = some _ from h1) with z | ⟨d', z1, z2⟩ <;> (subst_vars; exact o1)
end
section
variable {P : Program} {w : World} {K : PySem.W.Frag} {mg : Str → Option Value} {base : Heap}
theorem okP {x qual : Str} {st : Stmt} {f : Addr} {fd : FuncData} {N ps : List Str} {k : Nat} {S : List Dt → Dt → Prop} (F : Fun K x qual st f fd) (sc : FnScope N ps (defScope st)) (len : ∀ ds r, S ds r → ds.length = ps.length)
    (body : ∀ (cdv : Value) (A : Around) (outer : List Env) (s : Shared) (H : Hp) (E : XK), Room k (A.deeper (envOfC qual (defScope st) s.heap.objs.size f cdv)) → ∀ ds r, S ds r →
      ∃ t, PSs (cxOf CX0 P w K mg base N qual (defScope st) f cdv A outer s H E).nox (defBody st) t ∧ AS K t (env0 N ds) (fun _ => r = .non) (fun d _ => d = r)) : FnOk P w K mg base CX0 (k + 1) f fd ps (spP K S) := by
  refine F.ok sc (fun vs H Q E h => ?_) (fun cdv A outer s H vs Q E hr h => ?_)
  · obtain ⟨G, ds, r, s, rd, hs, _⟩ := h
    rw [rd.length]; exact len ds r hs
  · obtain ⟨G, ds, r, sm, rd, hs, q⟩ := h
    obtain ⟨t, ht, ha⟩ := body cdv A outer s H E hr ds r hs
    refine ⟨t, ht, ha _ _ G H (mt_start sm rd) _ (fun σ' ρ' G' H' m' s' t' e => ?_) (fun v d σ' ρ' G' H' m' s' t' rv e => ?_)⟩
    all_goals
      have nw : Nw G H G' H' := ⟨s', m'.sub, fun a o e => by
          cases z : G a with
          | none => exact t' a o ⟨some_ne e, z⟩ e
          | some o' => rw [sm _ _ z] at e; cases e; exact m'.sub _ _ (s' _ _ z), fun a h1 h2 => (m'.pro a ⟨h2, h1⟩).1⟩
    · exact q .non G' H' nw (by rw [e]; rfl)
    · exact q v G' H' nw (by rw [← e]; exact rv)
theorem okB {x qual : Str} {st : Stmt} {f : Addr} {fd : FuncData} {N ps : List Str} {k n : Nat} {dom : List Dt → Prop} {post : List Dt → Dt → Prop} (F : Fun K x qual st f fd) (sc : FnScope N ps (defScope st)) (len : ∀ ds, dom ds → ds.length + 1 = ps.length)
    (body : ∀ (cdv : Value) (A : Around) (outer : List Env) (s : Shared) (H : Hp) (E : XK), Room k (A.deeper (envOfC qual (defScope st) s.heap.objs.size f cdv)) → ∀ ds, dom ds →
      ∃ t, PSs (cxOf CX0 P w K mg base N qual (defScope st) f cdv A outer s H E).nox (defBody st) t ∧ ∀ (b : Addr) (F : Nat), AS K t (envB N b (F + n) ds) (fun ρ => post ds .non ∧ ∃ f, ρ[0]? = some (.bx b f) ∧ F ≤ f) (fun d ρ => post ds d ∧ ∃ f, ρ[0]? = some (.bx b f) ∧ F ≤ f)) : FnOk P w K mg base CX0 (k + 1) f fd ps (spB K n dom post) := by
  refine F.ok sc (fun vs H Q E h => ?_) (fun cdv A outer s H vs Q E hr h => ?_)
  · obtain ⟨G, ds, b, us, y, c, F', rfl, sm, hb, c0, c1, gb, rd, hd, _⟩ := h
    rw [List.length_cons, rd.length]; exact len ds hd
  · obtain ⟨G, ds, b, us, y, c, F', rfl, sm, hb, c0, c1, gb, rd, hd, q⟩ := h
    obtain ⟨t, ht, ha⟩ := body cdv A outer s H E hr ds hd
    refine ⟨t, ht, ha b F' _ _ G H (mt_startB sm rd hb c0 c1 gb) _ (fun σ' ρ' G' H' m' s' t' e => ?_) (fun v d σ' ρ' G' H' m' s' t' rv e => ?_)⟩
    all_goals
      obtain ⟨hp, f', he, hf⟩ := e
      have nb : Nb b G H G' H' := ⟨s', m'.sub, fun a o ne e => by
          cases z : G a with
          | none => exact t' a o ⟨some_ne e, z, ne⟩ e
          | some o' => rw [sm _ _ z] at e; cases e; exact m'.sub _ _ (s' _ _ z), fun a h1 h2 => by
          by_cases w : a = b
          · subst w
            obtain ⟨_, _, _, _, _, _, z, _⟩ := m'.bx 0 a f' he
            exact z
          · exact (m'.pro a ⟨h2, h1, w⟩).1⟩
      obtain ⟨y', c', w1, w2, w3, w4, w5, w6⟩ := m'.bx 0 b f' he
    · exact q .non .non G' H' y' c' nb w2 w3 (by omega) rfl hp
    · exact q v d G' H' y' c' nb w2 w3 (by omega) rv hp
end
/-! ### calls by keywords alone -/
end Sh
set_option Elab.async false
set_option linter.all false
set_option maxRecDepth 100000
set_option maxHeartbeats 4000000
namespace Sh
open PySem PySem.Spec PyProof.Rows L2
/-- a def that may be called: its promise, how its arguments bind -/
structure Cal (P : Program) (w : World) (K : PySem.W.Frag) (mg : Str → Option Value) (base : Heap) (n : Nat) (x : Str) (ps : List Str) (sp : Sp) (g : Addr) (d : FuncData) : Prop where
  ok : FnOk P w K mg base CX0 n g d ps sp
  bi : Binds K d ps []
  kp : PySem.W.keepIn K (.ref g) = true
  mg : mg x = some (.ref g)
structure Blts (mg : Str → Option Value) : Prop where
  len : mg "len" = none
  abs : mg "abs" = none
  int : mg "int" = none
  list : mg "list" = none
  tuple : mg "tuple" = none
  bool : mg "bool" = none
  str : mg "str" = none
  enumerate : mg "enumerate" = none
  isinstance : mg "isinstance" = none
  all : mg "all" = none
  any : mg "any" = none
  zip : mg "zip" = none
  range : mg "range" = none
  min : mg "min" = none
  max : mg "max" = none
  set : mg "set" = none
  sorted : mg "sorted" = none
  repr : mg "repr" = none
  sum : mg "sum" = none
section
variable {K : PySem.W.Frag} {ρ : List En} {N : List En → Prop} {R : Dt → List En → Prop}
theorem as_par3 {ta : TA} {i j l : Nat} (h : AA K ta ρ fun ds ρ1 => ∃ d e f, ds = [d, e, f] ∧ N (((ρ1.set i (.da d)).set j (.da e)).set l (.da f))) : AS K (tPar3 i j l ta) ρ N R := fun B σ G H m D qn qr =>
  h B σ G H m _ fun vs ds ρ1 G1 H1 m1 s1 t1 r1 ⟨d, e, f, z, h1⟩ => by
    subst z
    obtain ⟨x, r, rfl, r2, r3⟩ := r1
    obtain ⟨y, z, rfl, r4, r5⟩ := r3.two
    exact ⟨x, y, z, rfl, qn _ _ G1 H1 (((m1.set i r2).set j r4).set l r5) s1 t1 h1⟩
theorem ar_eq3 {d e : Dt} {x y : V} {Φ : Dt → Prop} (c : d.v? = some x ∧ e.v? = some y ∧ scal x y = true) (h : Φ (.bl (decide (x = y)))) : AR K rEq d e Φ := ar_eq c.1 c.2.1 c.2.2 h
theorem ar_ne3 {d e : Dt} {x y : V} {Φ : Dt → Prop} (c : d.v? = some x ∧ e.v? = some y ∧ scal x y = true) (h : Φ (.bl (!decide (x = y)))) : AR K rNe d e Φ := ar_ne c.1 c.2.1 c.2.2 h
theorem ac_isi1 {d : Dt} {T : String} {b : Bool} {Φ : Dt → Prop} (c : d.noTy = true ∧ kitB d.kind T = some b) (h : Φ (.bl b)) : AC K (rIsi K) [d, .ty T] Φ := ac_isi c.1 c.2 h
theorem kb_NoneType_list : kitB "NoneType" "list" = some false := by decide +kernel
theorem kb_NoneType_tuple : kitB "NoneType" "tuple" = some false := by decide +kernel
theorem kb_NoneType_bool : kitB "NoneType" "bool" = some false := by decide +kernel
theorem kb_NoneType_int : kitB "NoneType" "int" = some false := by decide +kernel
theorem kb_NoneType_str : kitB "NoneType" "str" = some false := by decide +kernel
theorem kb_bool_list : kitB "bool" "list" = some false := by decide +kernel
theorem kb_bool_tuple : kitB "bool" "tuple" = some false := by decide +kernel
theorem kb_bool_bool : kitB "bool" "bool" = some true := by decide +kernel
theorem kb_bool_int : kitB "bool" "int" = some true := by decide +kernel
theorem kb_bool_str : kitB "bool" "str" = some false := by decide +kernel
theorem kb_int_list : kitB "int" "list" = some false := by decide +kernel
theorem kb_int_tuple : kitB "int" "tuple" = some false := by decide +kernel
theorem kb_int_bool : kitB "int" "bool" = some false := by decide +kernel
theorem kb_int_int : kitB "int" "int" = some true := by decide +kernel
theorem kb_int_str : kitB "int" "str" = some false := by decide +kernel
theorem kb_str_list : kitB "str" "list" = some false := by decide +kernel
theorem kb_str_tuple : kitB "str" "tuple" = some false := by decide +kernel
theorem kb_str_bool : kitB "str" "bool" = some false := by decide +kernel
theorem kb_str_int : kitB "str" "int" = some false := by decide +kernel
theorem kb_str_str : kitB "str" "str" = some true := by decide +kernel
theorem kb_tuple_list : kitB "tuple" "list" = some false := by decide +kernel
theorem kb_tuple_tuple : kitB "tuple" "tuple" = some true := by decide +kernel
theorem kb_tuple_bool : kitB "tuple" "bool" = some false := by decide +kernel
theorem kb_tuple_int : kitB "tuple" "int" = some false := by decide +kernel
theorem kb_tuple_str : kitB "tuple" "str" = some false := by decide +kernel
theorem kb_list_list : kitB "list" "list" = some true := by decide +kernel
theorem kb_list_tuple : kitB "list" "tuple" = some false := by decide +kernel
theorem kb_list_bool : kitB "list" "bool" = some false := by decide +kernel
theorem kb_list_int : kitB "list" "int" = some false := by decide +kernel
theorem kb_list_str : kitB "list" "str" = some false := by decide +kernel
theorem ac_len {k : Bool} {l : List Dt} {Φ : Dt → Prop} (h : Φ (.int (l.length : Nat))) : AC K (fun xs H Q => ∃ p ys, xs = [.ref p] ∧ (SqL K H p ys ∨ SqT K H p ys) ∧ Q (.int ys.length) H) [sq k l] Φ := by
  cases k
  · exact ac_lenL h
  · exact ac_lenT h
theorem wipe_no {ρ : List En} {i : Nat} : ∀ {vs : List Nat}, i ∈ vs → i < ρ.length → (wipeE ρ vs)[i]? = some En.no
  | v :: vs, h, lt => by
    have hl : ∀ ws : List Nat, (wipeE ρ ws).length = ρ.length := fun ws => by
      induction ws with
      | nil => rfl
      | cons w ws ih => unfold wipeE; rw [List.length_set, ih]
    unfold wipeE
    by_cases e : v = i
    · subst e; exact set_at (by rw [hl]; exact lt)
    · rw [set_off e]
      exact wipe_no (by rcases List.mem_cons.mp h with z | z; exact absurd z.symm e; exact z) lt
theorem wipeE_len {ρ : List En} (ws : List Nat) : (wipeE ρ ws).length = ρ.length := by
  induction ws with
  | nil => rfl
  | cons w ws ih => unfold wipeE; rw [List.length_set, ih]
/-- a comprehension item by item -/
theorem ae_lcMap {Ψ : Dt → List En → Prop} {wi : TI} {g : TG} {te : TE} {vs : List Nat} (f : Dt → Dt)
    (h : AI K wi ρ fun l ρ1 => l.length < sizeLine ∧ (∀ d ∈ l, AGv K vs g d (wipeE ρ1 vs) fun ρ3 => AE K te ρ3 fun e ρ5 => e = f d ∧ wipeE ρ5 vs = wipeE ρ1 vs) ∧ Ψ (.lst (l.map f)) (wipeE ρ1 vs)) : AE K (tLc wi g tYes te vs) ρ Ψ := by
  refine ae_lc (fun B σ G H m R q => h B σ G H m R fun J l ρ1 G1 H1 m1 s1 t1 w ⟨h1, h2, h3⟩ => q J l ρ1 G1 H1 m1 s1 t1 w ⟨fun i acc ρ2 => i ≤ l.length ∧ acc = (l.take i).map f ∧ ρ2 = wipeE ρ1 vs, ⟨Nat.zero_le _, rfl, rfl⟩, ?_, ?_⟩)
  · rintro i d acc ρ2 hd ⟨hi, rfl, rfl⟩
    have lt := (List.getElem?_eq_some_iff.mp hd).1
    have hm := List.mem_of_getElem? hd
    intro B σ G H m v r Q q
    refine h2 d hm B σ G H m v r Q fun σ' ρ' G' H' m' s t o p => q σ' ρ' G' H' m' s t o (at_yes ⟨fun _ => ?_, fun z => nomatch z⟩)
    refine ae_mono p fun e ρ5 ⟨e1, e2⟩ => ⟨?_, lt, ?_, e2⟩
    · rw [List.length_map, List.length_take]; exact Nat.lt_of_le_of_lt (Nat.min_le_right _ _) h1
    · rw [e1, List.take_succ, hd, List.map_append]; rfl
  · rintro acc ρ2 ⟨_, rfl, rfl⟩
    refine ⟨fun i hi lt => wipe_no hi (by rw [wipeE_len] at lt; exact lt), ?_⟩
    rw [List.take_length]; exact h3
theorem sz60 {n : Nat} (h : n ≤ 60) : n ≤ sizeLine := Nat.le_trans h (by decide)
theorem sz60' {n : Nat} (h : n ≤ 60) : n < sizeLine := Nat.lt_of_le_of_lt h (by decide)
theorem cxOf_K {CX : CXT} {P : Program} {w : World} {mg : Str → Option Value} {base : Heap} {N : List Str} {q : Str} {sc : Scope} {f : Addr} {cdv : Value} {A : Around} {outer : List Env} {s : Shared} {H : Hp} {E : XK} : (cxOf CX P w K mg base N q sc f cdv A outer s H E).K = K := rfl
end
def oD : Option Int → Dt
  | none => .non
  | some i => .int i
theorem oD_some {i : Int} : oD (some i) = .int i := rfl
theorem oD_none : oD none = .non := rfl
end Sh
set_option Elab.async false
set_option linter.all false
set_option maxRecDepth 100000
set_option maxHeartbeats 4000000
/-! ### set(xs) of a list of whole numbers; max, min of one with a default -/
set_option Elab.async false
set_option linter.all false
set_option maxRecDepth 100000
set_option maxHeartbeats 4000000
namespace Sh
open PySem PySem.Spec PyProof.Rows L2
section
variable {K : PySem.W.Frag} {ρ : List En} {Ψ : Dt → List En → Prop} {N : List En → Prop} {R : Dt → List En → Prop}
/-! an own list, item by item -/
theorem ae_ixOwn {ti : TE} {i : Nat} (o : ∃ l, ρ[i]? = some (.own l)) (h : AE K ti ρ fun d ρ1 => ∃ (l : List Dt) (k : Int) (e : Dt), ρ1[i]? = some (.own l) ∧ d = .int k ∧ atI l k = some e ∧ Ψ e ρ1) : AE K (tOp (rIxL K) (tVar i) ti) ρ Ψ := fun B σ G H m Q q => by
  obtain ⟨l0, e0⟩ := o
  obtain ⟨p0, xs0, a1, _⟩ := m.own i l0 e0
  refine ⟨_, a1, h B σ G H m _ fun v d ρ1 G1 H1 m1 s1 t1 r1 ⟨l, k, e, z1, z2, z3, p⟩ => ?_⟩
  subst z2
  obtain ⟨p, xs, b1, b2, b3, _⟩ := m1.own i l z1
  rw [a1] at b1
  cases b1
  obtain ⟨x, y1, y2⟩ := atI_get b3 z3
  exact ⟨p0, xs, k, x, rfl, r1, SqL.of b2, y1, q x e ρ1 G1 H1 m1 s1 t1 y2 p⟩
end
end Sh
set_option Elab.async false
set_option linter.all false
set_option maxRecDepth 100000
set_option maxHeartbeats 4000000
namespace Sh
open PySem PySem.Spec PyProof.Rows L2
section
variable {K : PySem.W.Frag} {ρ : List En} {N : List En → Prop} {Φ : Dt → Prop}
theorem ai_seq {te : TE} {Θ : List Dt → List En → Prop} {k : Bool} (h : AE K te ρ fun d ρ1 => ∃ l, d = sq k l ∧ Θ l ρ1) : AI K (fun σ H R => iList K te σ H R ∨ iTup K te σ H R) ρ Θ := by
  cases k
  · exact ai_or1 (ai_list h)
  · exact ai_or2 (ai_tup h)
theorem cxOf_w {CX : CXT} {P : Program} {w : World} {mg : Str → Option Value} {base : Heap} {N : List Str} {q : Str} {sc : Scope} {f : Addr} {cdv : Value} {A : Around} {outer : List Env} {s : Shared} {H : Hp} {E : XK} : (cxOf CX P w K mg base N q sc f cdv A outer s H E).w = w := rfl
end
end Sh
set_option Elab.async false
set_option linter.all false
set_option maxRecDepth 100000
set_option maxHeartbeats 4000000
set_option Elab.async false
set_option linter.all false
set_option maxRecDepth 100000
set_option maxHeartbeats 4000000
set_option Elab.async false
set_option linter.all false
set_option maxRecDepth 100000
set_option maxHeartbeats 4000000
set_option Elab.async false
set_option linter.all false
set_option maxRecDepth 100000
set_option maxHeartbeats 4000000
set_option Elab.async false
set_option linter.all false
set_option maxRecDepth 100000
set_option maxHeartbeats 4000000
set_option Elab.async false
set_option linter.all false
set_option maxRecDepth 100000
set_option maxHeartbeats 4000000
/-! a pair backwards, extend of a list of one's own, None in a list -/
set_option Elab.async false
set_option linter.all false
set_option maxRecDepth 100000
set_option maxHeartbeats 4000000
/-! texts: join of a list backwards, f-strings, str, a loop that is not entered, a name that stands for a number, or of tuples -/
set_option Elab.async false
set_option linter.all false
set_option maxRecDepth 100000
set_option maxHeartbeats 4000000
set_option Elab.async false
set_option linter.all false
set_option maxRecDepth 100000
set_option maxHeartbeats 4000000
/-! gcd of three, is True, slices of four -/
namespace Sh
open PySem PySem.Spec PyProof.Rows L2 PySem.Calls PySem.W
def g3 (a b c : Int) : Int := (((Nat.gcd a.natAbs b.natAbs).gcd c.natAbs : Nat) : Int)
end Sh
set_option Elab.async false
set_option linter.all false
set_option maxRecDepth 100000
set_option maxHeartbeats 4000000
namespace Sh
open PySem PySem.Spec PyProof.Rows L2
def lwB (a b : Option Int) : Bool := match b with | none => true | some y => match a with | none => false | some x => decide (y ≤ x)
def hwB (a b : Option Int) : Bool := match b with | none => true | some y => match a with | none => false | some x => decide (x ≤ y)
def letsB (lo hi : Option Int) (n : Int) : Bool := lwB (some n) lo && hwB (some n) hi
def upR (r m x : Int) : Int := x + (r - x).fmod m
def dnR (r m y : Int) : Int := y - (y - r).fmod m
abbrev vD (lo hi : Option Int) (m r : Int) : Dt := .tup [oD lo, oD hi, .int m, .int r]
def voD (lo hi : Option Int) (m r : Int) : Dt := if m = 0 then (if letsB lo hi r then vD (some r) (some r) 0 r else .non) else
  match lo.map (upR r m), hi.map (dnR r m) with
  | some a, some b => if b ≤ a then (if a = b then vD (some a) (some a) 0 a else .non) else vD (some a) (some b) m r
  | a, b => vD a b m r
theorem fe {x m : Int} (h : 1 ≤ m) : x.fmod m = x % m := Int.fmod_eq_emod_of_nonneg x (by omega)
/-! joins -/
end Sh
set_option Elab.async false
set_option linter.all false
set_option maxRecDepth 100000
set_option maxHeartbeats 4000000
/-! loops by a measure, quotients by great numbers, chains of comparisons, gcd of two -/
namespace Sh
open PySem PySem.Spec PyProof.Rows L2 PySem.Calls
section
variable {K : PySem.W.Frag} {ρ : List En} {Ψ : Dt → List En → Prop} {N : List En → Prop} {R : Dt → List En → Prop} {Φ : Dt → Prop}
theorem ae_chain {r r' : R2} {ta tb tc : TE} (h : AE K ta ρ fun d1 ρ1 => AE K tb ρ1 fun d2 ρ2 => AR K r d1 d2 fun d => ∃ k, d = .bl k ∧ (k = true → AE K tc ρ2 fun d3 ρ3 => AR K r' d2 d3 fun d => Ψ d ρ3) ∧ (k = false → Ψ (.bl false) ρ2)) : AE K (tChain r r' ta tb tc) ρ Ψ := fun B σ G H m Q q =>
  h B σ G H m _ fun x d1 ρ1 G1 H1 m1 s1 t1 r1 h1 => h1 B σ G1 H1 m1 _ fun y d2 ρ2 G2 H2 m2 s2 t2 r2 h2 => h2 G2 H2 m2.sub x y (r1.same s2) r2 _ fun z d G3 H3 n3 r3 ⟨k, e, p1, p2⟩ => by
    subst e
    refine ⟨k, r3, ?_⟩
    cases k with
    | false =>
      rw [if_neg Bool.false_ne_true]
      exact q _ (.bl false) ρ2 G3 H3 (m2.nw n3) ((s1.trans s2).trans n3.g) ((t1.trans t2).trans (Tr.same n3.h)) rfl (p2 rfl)
    | true =>
      rw [if_pos rfl]
      exact p1 rfl B σ G3 H3 (m2.nw n3) _ fun w' d3 ρ4 G4 H4 m4 s4 t4 r4 p => p G4 H4 m4.sub y w' ((r2.same n3.g).same s4) r4 Q fun v d G5 H5 n5 r5 pp =>
        q v d ρ4 G5 H5 (m4.nw n5) ((((s1.trans s2).trans n3.g).trans s4).trans n5.g) ((((t1.trans t2).trans (Tr.same n3.h)).trans t4).trans (Tr.same n5.h)) r5 pp
end
end Sh
set_option Elab.async false
set_option linter.all false
set_option maxRecDepth 100000
set_option maxHeartbeats 4000000
namespace Sh
open PySem PySem.Spec PyProof.Rows L2
/-! sorted(set(xs)), ints, as many as a set's bound lets -/
section
variable {K : PySem.W.Frag} {ρ : List En} {Ψ : Dt → List En → Prop}
theorem ar_catL {Φ : Dt → Prop} {l l' : List Dt} (hz : l.length + l'.length ≤ sizeLine) (h : Φ (.lst (l ++ l'))) : AR K rCat (.lst l) (.lst l') Φ := fun G H s x y r1 r2 Q q => by
  obtain ⟨a, xs, rfl, h1, h2⟩ := r1
  obtain ⟨b, ys, rfl, h3, h4⟩ := r2
  refine ⟨a, b, xs, ys, rfl, rfl, s _ _ h1, s _ _ h3, (by rw [h2.length, h4.length]; exact hz), fun p hp => ?_⟩
  have n := Nw.new (o := .lst (xs ++ ys)) s hp
  exact q _ (.lst (l ++ l')) _ _ n ⟨p, _, rfl, upd_same, (h2.same n.g).app (h4.same n.g)⟩ h
end
end Sh
set_option Elab.async false
set_option linter.all false
set_option maxRecDepth 100000
set_option maxHeartbeats 4000000
set_option Elab.async false
set_option linter.all false
set_option maxRecDepth 100000
set_option maxHeartbeats 4000000
/-! tuple(map(f, xs)), f a def of one's own that may lay out -/
namespace MpT
open PySem PySem.Spec PyProof.Rows L2 FbM
section
variable {prog : Program} {w : World} {A : Around} {E : Value → Shared → Prop} {s : Shared}
theorem next_anyT {m T it l : Addr} {f : Value} {items : Array Value} {i : Nat} {u : Value} {Q : Value → Shared → Prop} (hm : MpR.IsMap s.heap m T f) (hT : MpR.IsOne s.heap T (.ref it)) (hit : s.heap.IsTupleIter it l i) (hl : s.heap.IsTuple l items)
    (hu : items[i]? = some u) (hmi : m ≠ it)
    (hc : ∀ h', h'.IsTupleIter it l (i + 1) → Heap.SameBut it s.heap h' → wpAny (model prog w) A (call f [u]) Q E { s with heap := h' }) :
    wpAny (model prog w) A (Builtin.«map.__next__» ⟨[.ref m], []⟩) (fun fin s' => ∃ v, fin = .done (.ret v) ∧ Q v s') E s := by
  show wpAny _ _ (field (.ref m) 0 >>= _) _ _ _
  refine wpAny_bind (wpAny_field hm rfl (x := .ref T) rfl ?_)
  refine wpAny_bind (wpAny_seqItems hT rfl ?_)
  try dsimp only
  refine wpAny_bind ?_
  simp only [List.forIn_toArray, List.forIn_cons, List.forIn_nil]
  refine wpAny_bind (wpAny_bind (wpAny_holding (wpAny_nextOf_tuple_item hit hl hu fun h' hit' hs' => ?_)))
  first
  | refine wpAny_pure (wpAny_pure ?_)
  | refine wpAny_bind (wpAny_pure (wpAny_pure (wpAny_pure ?_)))
  have hm' : MpR.IsMap h' m T f := hs'.extBut _ _ hmi hm
  show wpAny _ _ (field (.ref m) 1 >>= _) _ _ _
  refine wpAny_bind (wpAny_field hm' rfl (x := f) rfl ?_)
  show wpAny _ _ (holding _ (call f [u]) >>= _) _ _ _
  refine wpAny_bind (wpAny_holding (wpAny_mono (hc h' hit' hs') (fun v s' hv => ?_) fun _ _ z => z))
  refine wpAny_bind (wpAny_letGo ?_)
  exact wpAny_pure ⟨v, rfl, hv⟩
theorem pyNext_anyT {m T it l : Addr} {f : Value} {items : Array Value} {i : Nat} {u : Value} {Q : Option Value → Shared → Prop} (hm : MpR.IsMap s.heap m T f) (hT : MpR.IsOne s.heap T (.ref it)) (hit : s.heap.IsTupleIter it l i) (hl : s.heap.IsTuple l items)
    (hu : items[i]? = some u) (hmi : m ≠ it)
    (hc : ∀ h', h'.IsTupleIter it l (i + 1) → Heap.SameBut it s.heap h' → wpAny (model prog w) A.in1 (call f [u]) (fun v s' => Q (some v) s') (fun e s' => NotStop e s' ∧ E e s') { s with heap := h' }) :
    wpAny (model prog w) A (pyNext (.ref m)) Q E s := by
  have hT0 : s.TypeIs (.ref m) "map" := ⟨_, hm, rfl⟩
  unfold pyNext
  refine wpAny_bind (wpAny_attempt (wpAny_callSpecial?_slot (name := Str.ofString "__next__") hT0 MpR.slot_mp_next
    (wpAny_call_entry MpR.slot_mp_next hT0 MpR.entry_mp_next (next_anyT hm hT hit hl hu hmi fun h' hit' hs' => ?_) (MpR.args_mp_next _))))
  refine wpAny_mono (hc h' hit' hs') (fun v s' hv => wpAny_pure hv) fun e s' he => ?_
  obtain ⟨⟨Te, hTe, hsub⟩, hE⟩ := he
  refine wpAny_bind (wpAny_isInstance hTe hsub ?_)
  exact bm_if_false rfl (wpAny_throw hE)
end
/-- the source of a map: a list or a tuple -/
structure Src (X : Cx) (pins : List (Addr × Obj)) (σ : L2.St) (g m T it : Addr) (xs : List V) (Gs : Hp → Prop) (itS : Nat → Heap → Prop) : Prop where
  keep : ∀ i h h', itS i h → (∀ o, h.get? it = some o → h'.get? it = some o) → itS i h'
  live : ∀ i h, itS i h → ∃ o, h.get? it = some o
  item : ∀ (A : Around) (E : Value → Shared → Prop) (s : Shared) (H : Hp) (i : Nat) (x : V) (Q : Option Value → Shared → Prop), Inv X pins σ H s → Gs H → MpR.IsMap s.heap m T (.ref g) → MpR.IsOne s.heap T (.ref it) → itS i s.heap → xs[i]? = some x → m ≠ it →
    (∀ u h', RelV x u → itS (i + 1) h' → Heap.SameBut it s.heap h' → wpAny (model X.prog X.w) A.in1 (call (.ref g) [u]) (fun v s' => Q (some v) s') (fun e s' => NotStop e s' ∧ E e s') { s with heap := h' }) →
    wpAny (model X.prog X.w) A (pyNext (.ref m)) Q E s
  done : ∀ (A : Around) (E : Value → Shared → Prop) (s : Shared) (H : Hp) (Q : Option Value → Shared → Prop), A.handled = none → Inv X pins σ H s → Gs H → MpR.IsMap s.heap m T (.ref g) → MpR.IsOne s.heap T (.ref it) → itS xs.length s.heap →
    (∀ h', Heap.ExtBut it s.heap h' → Q none { s with heap := h' }) → wpAny (model X.prog X.w) A (pyNext (.ref m)) Q E s
theorem src_list {X : Cx} {pins : List (Addr × Obj)} {σ : L2.St} {g m T it l : Addr} {xs : List V} (li : l ≠ it) : Src X pins σ g m T it xs (fun H => SqL X.K H l xs) (fun i h => h.IsListIter it l i) where
  keep := fun i h h' q k => by obtain ⟨o, ho, r⟩ := q; exact ⟨o, k _ ho, r⟩
  live := fun i h q => by obtain ⟨o, ho, r⟩ := q; exact ⟨o, ho⟩
  item := fun A E s H i x Q I hl hm hT hit hx mi hc => by
    obtain ⟨its, rv, pl, _⟩ := I.list hl
    obtain ⟨u, hu, rx⟩ := rv.get hx
    exact pyNext_any hm hT hit pl.isList (u := u) (by simpa using hu) mi fun h' hit' hs' => hc u h' rx hit' hs'
  done := fun A E s H Q hh I hl hm hT hit hq => by
    obtain ⟨its, rv, pl, _⟩ := I.list hl
    have hsz : its.toArray.size = xs.length := by rw [List.size_toArray]; exact rv.length.symm
    exact MpR.mp_pyNext_end (A := A) (n := its.toArray.size) (Draws.list (show A.in1.handled = none from hh) it l li its.toArray) hm hT ⟨(by rw [hsz]; exact hit), pl.isList⟩ hq
theorem src_tup {X : Cx} {pins : List (Addr × Obj)} {σ : L2.St} {g m T it l : Addr} {xs : List V} (li : l ≠ it) : Src X pins σ g m T it xs (fun H => SqT X.K H l xs) (fun i h => h.IsTupleIter it l i) where
  keep := fun i h h' q k => by obtain ⟨o, ho, r⟩ := q; exact ⟨o, k _ ho, r⟩
  live := fun i h q => by obtain ⟨o, ho, r⟩ := q; exact ⟨o, ho⟩
  item := fun A E s H i x Q I hl hm hT hit hx mi hc => by
    obtain ⟨its, rv, pl, _⟩ := I.tuple hl
    obtain ⟨u, hu, rx⟩ := rv.get hx
    exact pyNext_anyT hm hT hit pl (u := u) (by simpa using hu) mi fun h' hit' hs' => hc u h' rx hit' hs'
  done := fun A E s H Q hh I hl hm hT hit hq => by
    obtain ⟨its, rv, pl, _⟩ := I.tuple hl
    have hsz : its.toArray.size = xs.length := by rw [List.size_toArray]; exact rv.length.symm
    exact MpR.mp_pyNext_end (A := A) (n := its.toArray.size) (Draws.tuple (show A.in1.handled = none from hh) it l li its.toArray) hm hT ⟨(by rw [hsz]; exact hit), pl⟩ hq
/-- the items one after another; G: the source stands -/
def mapR (sp : Sp) (G : Hp → Prop) : List V → List V → Hp → (List V → Hp → Prop) → Prop
  | [], ys, H, Q => Q ys H
  | x :: r, ys, H, Q => sp [x] H (fun y H' => G H' ∧ mapR sp G r (ys ++ [y]) H' Q) E0
theorem Vals.snoc {xs : List V} {us : List Value} {x : V} {u : Value} (r : Vals xs us) (q : RelV x u) : Vals (xs ++ [x]) (us ++ [u]) := r.append (.cons q .nil)
section
variable {X : Cx} {pins : List (Addr × Obj)} {σ : L2.St} {kk : Nat} {g m T it S : Addr} {sp : Sp} {xs : List V} {Gs : Hp → Prop} {itS : Nat → Heap → Prop} {A : Around} {R : Result → Shared → Prop} {fin : List V → Hp → Prop} {res : Value}
theorem mp_loop (hh : A.handled = none) (hr : Room kk A.in1.in1) (hA : A.frames = some X.stack) (Fn : FnR X.prog X.w X.K X.mg X.base CX0 kk g sp) (sr : Src X pins σ g m T it xs Gs itS) (hz : xs.length ≤ sizeLine)
    (rm : Rec X pins m) (rT : Rec X pins T) (rS : Rec X pins S) (ri : Rec X pins it)
    (mi : m ≠ it) (Ti : T ≠ it) (Si : S ≠ it) (mS : m ≠ S) (TS : T ≠ S)
    (hR : ∀ ys acc c H' s', fin ys H' → Vals ys acc → ys.length = xs.length → Inv X pins σ H' s' → s'.heap.get? S = some { cls := .type "list", dict := none, data := .seq acc.toArray c, slots := #[] } → R (.ok (.ret res)) s') :
    ∀ (r : List V) (i : Nat) (ys : List V) (acc : Array Value) (c : Nat) (s : Shared) (H : Hp), xs.drop i = r → i ≤ xs.length → ys.length = i → Vals ys acc.toList → Inv X pins σ H s → Gs H → H m = none → H T = none → H S = none → H it = none →
      MpR.IsMap s.heap m T (.ref g) → MpR.IsOne s.heap T (.ref it) → itS i s.heap → s.heap.get? S = some { cls := .type "list", dict := none, data := .seq acc c, slots := #[] } →
      mapR sp Gs r ys H fin → codeAny (model X.prog X.w) A (.builtin "list.extend.loop" ⟨[.ref S, .ref m, res], []⟩) R s
  | [], i, ys, acc, c, s, H, hd, hi, ha, hv, I, hG, um, uT, uS, ui, hm, hT, hit, hS, D => by
    have hin : i = xs.length := by
      have e := congrArg List.length hd
      rw [List.length_drop] at e
      have e2 : xs.length - i = 0 := e
      omega
    subst hin
    refine codeAny_builtin F.entry_extend_loop ?_
    rw [Around.under_plainId F.plain_extend_loop _]
    show wpAny _ A.in1 (pyNext (.ref m) >>= _) _ _ s
    refine wpAny_bind (sr.done A.in1 _ s H _ hh I hG hm hT hit fun h' he => ?_)
    have I2 : Inv X pins σ H { s with heap := h' } := ri.turn (t' := s.toks) I ui fun c o hc e => he c o hc e
    have hS' := he S _ Si hS
    exact wpAny_pure (hR ys acc.toList c H _ D hv ha I2 (by simpa using hS'))
  | x :: r, i, ys, acc, c, s, H, hd, hi, ha, hv, I, hG, um, uT, uS, ui, hm, hT, hit, hS, D => by
    have hlt : i < xs.length := by
      rcases Nat.lt_or_ge i xs.length with z | z
      · exact z
      · rw [List.drop_eq_nil_of_le z] at hd
        exact (nomatch hd)
    have hxi : xs[i]? = some x := by
      have e : (xs.drop i)[0]? = (x :: r)[0]? := by rw [hd]
      rw [List.getElem?_drop] at e
      exact e
    have hdr : xs.drop (i + 1) = r := by
      have e := congrArg (List.drop 1) hd
      rw [List.drop_drop] at e
      first
        | exact e
        | (rw [Nat.add_comm] at e; exact e)
    have hac : acc.size = i := by
      have e : ys.length = acc.toList.length := Vals.length hv
      have e2 : acc.toList.length = acc.size := Array.length_toList
      omega
    refine codeAny_builtin F.entry_extend_loop ?_
    rw [Around.under_plainId F.plain_extend_loop _]
    show wpAny _ A.in1 (pyNext (.ref m) >>= _) _ _ s
    refine wpAny_bind (sr.item A.in1 _ s H i x _ I hG hm hT hit hxi mi fun u h1 rx hit1 hs1 => ?_)
    have I1 : Inv X pins σ H { s with heap := h1 } := ri.turn (t' := s.toks) I ui fun c o hc e => hs1.extBut c o hc e
    have e0 := I1.env0
    have e1 : Env0 X.prog X.w X.K X.mg X.base A.in1.in1 X.stack { s with heap := h1 } H := ⟨hA, e0.mod, e0.bs, e0.bsz, e0.funs, e0.frf, e0.hok, e0.bare⟩
    refine wpAny_call (codeAny_mono (Fn A.in1.in1 X.stack _ H [u] [x] _ E0 hr e1 (.cons rx .nil) D) fun rr s2 hrr => ?_)
    cases rr with
    | error e => exact False.elim hrr
    | ok fl =>
      cases fl with
      | next => exact False.elim hrr
      | brk => exact False.elim hrr
      | cont => exact False.elim hrr
      | ret v =>
        obtain ⟨y, H', os, bare, un, hok, ry, hG', D'⟩ := (show CE X.stack X.prog X.w H _ _ v s2 from hrr)
        have I2 : Inv X pins σ H' s2 := I1.call' os un hok bare (fun b y => absurd y List.not_mem_nil)
        have keep : ∀ {b : Addr} {o : Obj}, Rec X pins b → H b = none → h1.get? b = some o → s2.heap.get? b = some o := fun rb ub eb => un.keep _ _ eb ub rb.fr List.not_mem_nil
        have hm1 := hs1.extBut _ _ mi hm
        have hT1 := hs1.extBut _ _ Ti hT
        have hS1 := hs1.extBut _ _ Si hS
        obtain ⟨oi, hoi⟩ := sr.live _ _ hit1
        have hm2 : MpR.IsMap s2.heap m T (.ref g) := keep rm um hm1
        have hT2 : MpR.IsOne s2.heap T (.ref it) := keep rT uT hT1
        have hS2 := keep rS uS hS1
        have hit2 : itS (i + 1) s2.heap := sr.keep _ _ _ hit1 fun o e => keep ri ui e
        have um2 : H' m = none := un.free _ _ hm1 um List.not_mem_nil
        have uT2 : H' T = none := un.free _ _ hT1 uT List.not_mem_nil
        have uS2 : H' S = none := un.free _ _ hS1 uS List.not_mem_nil
        have ui2 : H' it = none := un.free _ _ hoi ui List.not_mem_nil
        show wpAny _ A.in1 (updateSeq S (·.push v) >>= _) _ _ _
        refine wpAny_bind ?_
        have upS := Heap.get?_update_self (Obj.mapSeq (·.push v)) hS2 rfl
        have sb : Heap.SameBut S s2.heap (s2.heap.update S (Obj.mapSeq (·.push v))) := Heap.SameBut.update ..
        have I3 : Inv X pins σ H' { s2 with heap := s2.heap.update S (Obj.mapSeq (·.push v)) } := rS.turn (t' := s2.toks) I2 uS2 fun c o hc e => sb.extBut c o hc e
        refine wpAny_updateSeq hS2 rfl (wpAny_pure ⟨plainId_quiet F.plain_extend_loop _, mp_loop hh hr hA Fn sr hz rm rT rS ri mi Ti Si mS TS hR r (i + 1) (ys ++ [y]) (acc.push v) _ _ H' hdr hlt ?_ ?_ I3 hG' um2 uT2 uS2 ui2 ?_ ?_ ?_ upS D'⟩)
          (by rw [hac]; omega) (by show (acc.push v).size ≤ sizeLine + 1; rw [Array.size_push, hac]; omega)
        · rw [List.length_append, ha]; rfl
        · rw [Array.toList_push]; exact Vals.snoc hv ry
        · exact sb.extBut _ _ mS hm2
        · exact sb.extBut _ _ TS hT2
        · exact sr.keep _ _ _ hit2 fun o e => sb.extBut _ _ (Ne.symm Si) e
/-- the list of all that a map gives -/
theorem mp_collect {s : Shared} {H : Hp} {E : Value → Shared → Prop} {Q : List Value → Shared → Prop} (hh : A.handled = none) (hr : Room kk A.in1.in1) (hA : A.frames = some X.stack) (Fn : FnR X.prog X.w X.K X.mg X.base CX0 kk g sp) (sr : Src X pins σ g m T it xs Gs itS) (hz : xs.length ≤ sizeLine)
    (rm : Rec X pins m) (rT : Rec X pins T) (ri : Rec X pins it) (um : H m = none) (uT : H T = none) (ui : H it = none) (mi : m ≠ it) (Ti : T ≠ it)
    (I : Inv X pins σ H s) (hG : Gs H) (hm : MpR.IsMap s.heap m T (.ref g)) (hT : MpR.IsOne s.heap T (.ref it)) (hit : itS 0 s.heap) (D : mapR sp Gs xs [] H fin)
    (hQ : ∀ ys acc H' s', fin ys H' → Vals ys acc → ys.length = xs.length → Inv X pins σ H' s' → Q acc s') : wpAny (model X.prog X.w) A (collect (.ref m)) Q E s := by
  have hTy : ∀ {s' : Shared}, MpR.IsMap s'.heap m T (.ref g) → s'.TypeIs (.ref m) "map" := fun h => ⟨_, h, rfl⟩
  have nm : m ≠ s.heap.objs.size := Nat.ne_of_lt (Heap.lt_size hm)
  have nT : T ≠ s.heap.objs.size := Nat.ne_of_lt (Heap.lt_size hT)
  have ni : it ≠ s.heap.objs.size := by obtain ⟨o, ho⟩ := sr.live _ _ hit; exact Nat.ne_of_lt (Heap.lt_size ho)
  unfold collect
  refine wpAny_bind (wpAny_runValue (codeAny_builtin F.entry_proto_collect ?_))
  rw [Around.under_plainId F.plain_proto_collect _]
  show wpAny _ A.in1 (newList [] >>= fun l => again (.builtin "list.__iadd__" ⟨[l, .ref m], []⟩)) _ _ s
  refine wpAny_bind (wpAny_newObj_type ?_)
  refine wpAny_pure ⟨plainId_quiet F.plain_list_iadd _, codeAny_builtin F.entry_list_iadd ?_⟩
  rw [Around.under_plainId F.plain_list_iadd _]
  have kp : ∀ b o, s.heap.get? b = some o → (s.heap.push { cls := .type "list", data := .seq ([] : List Value).toArray }).get? b = some o := fun b o e => Heap.get?_push_of_some _ e
  have hm₁ : MpR.IsMap (s.heap.push { cls := .type "list", data := .seq ([] : List Value).toArray }) m T (.ref g) := kp _ _ hm
  show wpAny _ A.in1 (Builtin.List.listExtendWith (.ref s.heap.objs.size) (.ref m) (.ref s.heap.objs.size)) _ _ _
  unfold Builtin.List.listExtendWith
  refine wpAny_bind (wpAny_typeOf (hTy hm₁) ?_)
  have h1 : Builtin.List.listSameRef (.ref s.heap.objs.size) (.ref m) = false := by simp [Builtin.List.listSameRef, Ne.symm nm]
  have h2 : (Value.type "map" == Value.type "list") = false := by decide
  have h3 : (Value.type "map" == Value.type "tuple") = false := by decide
  simp only [h1, h2, h3, Bool.or_false, Bool.false_eq_true, if_false]
  refine wpAny_bind (MpR.mp_pyIter hm₁ ?_)
  refine wpAny_bind (wpAny_holding ?_)
  unfold Builtin.List.listLengthHint
  refine wpAny_bind (wpAny_specialOf (hTy hm₁) MpR.nolen_mp ?_)
  show wpAny _ A.in1 (specialOf (Value.ref m) (Str.ofString "__length_hint__") >>= _) _ _ _
  refine wpAny_bind (wpAny_specialOf (hTy hm₁) MpR.nohint_mp ?_)
  refine wpAny_pure ?_
  show wpAny _ A.in1 (rule "list.extend.makes-room" >>= fun _ => Builtin.List.listTouch (.ref s.heap.objs.size) >>= fun _ =>
    again (.builtin "list.extend.loop" ⟨[.ref s.heap.objs.size, .ref m, .ref s.heap.objs.size], []⟩)) _ _ _
  refine wpAny_bind (wpAny_rule ?_)
  have hS₁ : (s.heap.push { cls := .type "list", data := .seq ([] : List Value).toArray }).get? s.heap.objs.size = some { cls := .type "list", data := .seq ([] : List Value).toArray } := Heap.get?_push_size _ rfl
  refine wpAny_bind ?_
  show wpAny _ A.in1 (updateSeq s.heap.objs.size (·.push .none) >>= fun _ => updateSeq s.heap.objs.size (·.pop)) _ _ _
  refine wpAny_bind (wpAny_updateSeq hS₁ rfl ?_)
  have hS₂ := Heap.get?_update_self (Obj.mapSeq (·.push Value.none)) hS₁ rfl
  refine wpAny_updateSeq hS₂ rfl ?_
  have hS₃ := Heap.get?_update_self (Obj.mapSeq (·.pop)) hS₂ rfl
  have oth : ∀ b o, b ≠ s.heap.objs.size → s.heap.get? b = some o →
      (((s.heap.push { cls := .type "list", data := .seq ([] : List Value).toArray }).update s.heap.objs.size (Obj.mapSeq (·.push Value.none))).update s.heap.objs.size (Obj.mapSeq (·.pop))).get? b = some o :=
    fun b o hb e => (Heap.get?_update_other _ _ (Ne.symm hb)).trans ((Heap.get?_update_other _ _ (Ne.symm hb)).trans (kp b o e))
  have I4 := I.kept (t' := s.toks) (h' := ((s.heap.push { cls := .type "list", data := .seq ([] : List Value).toArray }).update s.heap.objs.size (Obj.mapSeq (·.push Value.none))).update s.heap.objs.size (Obj.mapSeq (·.pop)))
    fun b o e => oth b o (Nat.ne_of_lt (Heap.lt_size e)) e
  have rS : Rec X pins s.heap.objs.size := rec_new I (Nat.le_refl _)
  have uS : H s.heap.objs.size = none := I.hok.fresh (Nat.le_refl _)
  refine wpAny_pure ⟨plainId_quiet F.plain_extend_loop _, mp_loop (S := s.heap.objs.size) (res := .ref s.heap.objs.size) (A := A) (fin := fin) hh hr hA Fn sr hz rm rT rS ri mi Ti (Ne.symm ni) nm nT ?_ xs 0 [] _ _ _ H rfl (Nat.zero_le _) rfl .nil I4 hG um uT uS ui
    (oth _ _ nm hm) (oth _ _ nT hT) (sr.keep _ _ _ hit fun o e => oth _ _ ni e) hS₃ D⟩
  intro ys acc c H' s' hf hv hn I' hS'
  show wpAny _ A (load s.heap.objs.size >>= _) _ _ s'
  refine wpAny_bind (wpAny_load hS' ?_)
  exact wpAny_pure (hQ ys acc H' s' hf hv hn I')
theorem mp_new {s : Shared} {H : Hp} {E : Value → Shared → Prop} {Q₁ : Value → Shared → Prop} (hh : A.handled = none) (hr : Room kk A.in1.in1.in1) (hA : A.frames = some X.stack) (Fn : FnR X.prog X.w X.K X.mg X.base CX0 kk g sp) (sr : Src X pins σ g m T it xs Gs itS) (hz : xs.length ≤ sizeLine)
    (rm : Rec X pins m) (rT : Rec X pins T) (ri : Rec X pins it) (um : H m = none) (uT : H T = none) (ui : H it = none) (mi : m ≠ it) (Ti : T ≠ it)
    (I : Inv X pins σ H s) (hG : Gs H) (hm : MpR.IsMap s.heap m T (.ref g)) (hT : MpR.IsOne s.heap T (.ref it)) (hit : itS 0 s.heap) (D : mapR sp Gs xs [] H fin)
    (hQ : ∀ ys acc H' s', fin ys H' → Vals ys acc → ys.length = xs.length → Inv X pins σ H' s' → Q₁ (.ref s'.heap.objs.size) { s' with heap := s'.heap.push { cls := .type "tuple", data := .seq acc.toArray } }) :
    codeAny (model X.prog X.w) A (.call (.builtin "tuple.__new__") ⟨[.type "tuple", .ref m], []⟩) (wants Q₁ E) s := by
  refine codeAny_of_tree ?_
  show wpAny _ A.in1 (do checkBuiltinCall "tuple.__new__" ⟨[.type "tuple", .ref m], []⟩; again (.builtin "tuple.__new__" ⟨[.type "tuple", .ref m], []⟩)) _ _ s
  refine wpAny_bind (wpAny_of_eq (F.newCall_tuple_1 _) (wpAny_pure ⟨plainId_quiet F.plain_tuple_new _, codeAny_builtin F.entry_tuple_new ?_⟩))
  rw [Around.under_plainId F.plain_tuple_new _]
  have hsub := sub_tuple_self
  have hinit := init_tuple_lookup
  have hmh := madeHere_tuple
  have hTI : s.TypeIs (.ref m) "map" := ⟨_, hm, rfl⟩
  have hC : ∀ (E' : Value → Shared → Prop) (Q' : List Value → Shared → Prop), (∀ l s', (∃ ys H', fin ys H' ∧ Vals ys l ∧ ys.length = xs.length ∧ Inv X pins σ H' s') → Q' l s') → wpAny (model X.prog X.w) A.in1 (collect (.ref m)) Q' E' s := fun E' Q' k => mp_collect (A := A.in1) (fin := fin) hh hr hA Fn sr hz rm rT ri um uT ui mi Ti I hG hm hT hit D
    fun ys acc H' s' hf hv hn I' => k _ _ ⟨ys, H', hf, hv, hn, I'⟩
  wp_walk using wpAny_typeOf hTI, hC _ _
  intro l s' hl
  obtain ⟨ys, H', hf, hv, hn, I'⟩ := hl
  show wpAny _ _ (Builtin.Tuple.tupleExact l.toArray >>= fun v => ret v) _ _ _
  unfold Builtin.Tuple.tupleExact
  refine wpAny_bind (wpAny_newObj_type ?_ (by show l.toArray.size ≤ sizeLine; rw [List.size_toArray, ← hv.length, hn]; exact hz))
  refine wpAny_pure ?_
  exact hQ ys l H' s' hf hv hn I'
theorem mp_tuple {s : Shared} {H : Hp} {E : Value → Shared → Prop} {Q : Value → Shared → Prop} (hh : A.handled = none) (hr : Room kk A.in1.in1.in1.in1) (hA : A.frames = some X.stack) (Fn : FnR X.prog X.w X.K X.mg X.base CX0 kk g sp) (sr : Src X pins σ g m T it xs Gs itS) (hz : xs.length ≤ sizeLine)
    (rm : Rec X pins m) (rT : Rec X pins T) (ri : Rec X pins it) (um : H m = none) (uT : H T = none) (ui : H it = none) (mi : m ≠ it) (Ti : T ≠ it)
    (I : Inv X pins σ H s) (hG : Gs H) (hm : MpR.IsMap s.heap m T (.ref g)) (hT : MpR.IsOne s.heap T (.ref it)) (hit : itS 0 s.heap) (D : mapR sp Gs xs [] H fin)
    (hQ : ∀ ys acc H' s', fin ys H' → Vals ys acc → ys.length = xs.length → Inv X pins σ H' s' → Q (.ref s'.heap.objs.size) { s' with heap := s'.heap.push { cls := .type "tuple", data := .seq acc.toArray } }) :
    wpAny (model X.prog X.w) A (call (.type "tuple") [.ref m]) Q E s := by
  refine callType_codes (Q₁ := fun obj s₁ => s₁.TypeIs obj "tuple" ∧ Q obj s₁) F.called_tuple (F.typeCall_tuple_1 _) F.entry_object_init
    (mp_new (A := A.in1) hh hr hA Fn sr hz rm rT ri um uT ui mi Ti I hG hm hT hit D fun ys acc H' s' hf hv hn I' => ⟨⟨_, Heap.get?_push_size _ rfl, rfl⟩, hQ ys acc H' s' hf hv hn I'⟩) fun obj s₁ h₁ => ?_
  exact ⟨h₁.1, F.args_object_init_2 obj _, object_init_meets F.called_tuple.init.lookup F.called_tuple.made (by decide) X.prog X.w A.in1 _ s₁ ⟨h₁.1, rfl, h₁.2⟩⟩
end
theorem raw0 {P : Program} {w : World} {K : PySem.W.Frag} {mg : Str → Option Value} {base : Heap} {CX : CXT} {k : Nat} {f : Addr} {fd : FuncData} {ps : List Str} {sp : Sp} (F : FnOk P w K mg base CX k f fd ps sp) (hb : Binds K fd ps []) : FnR P w K mg base CX k f sp :=
  (F.raw hb .nil).imp fun vs H Q E h => by
    show sp (vs ++ []) H Q E
    rw [List.append_nil]
    exact h
/-- tuple(map(f, e)), e a list or a tuple -/
def tTupMap (K : PySem.W.Frag) (sp : Sp) (te : TE) : TE := fun σ H Q => te σ H fun x H2 => ∃ q xs, x = V.ref q ∧
  ((SqL K H2 q xs ∧ mapR sp (fun H3 => SqL K H3 q xs) xs [] H2 fun ys H3 => ∀ l, H3 l = none → Q (.ref l) (upd H3 l (.tup ys))) ∨
   (SqT K H2 q xs ∧ mapR sp (fun H3 => SqT K H3 q xs) xs [] H2 fun ys H3 => ∀ l, H3 l = none → Q (.ref l) (upd H3 l (.tup ys))))
section
variable {X : Cx} {kk : Nat} {g : Addr} {sp : Sp}
theorem pe_tupMap {fe e : Expr} {te : TE} {p0 pos p pos2 : Pos} (hc : X.calm = true) (hgs : Gl X "tuple") (hms : X.mg "tuple" = none) (hg : Gl X "map") (hm : X.mg "map" = none) (hf : PF X fe (.ref g)) (ha : PE X e te)
    (Fn : FnR X.prog X.w X.K X.mg X.base CX0 kk g sp) (hr : Room (kk + 4) X.A)
    (hs1 : starEach [.Call (.Name "map" p) [fe, e] [] pos2] X.env = (false, eval (.Call (.Name "map" p) [fe, e] [] pos2) X.env) :: starEach [] X.env := by rfl)
    (hp1 : (backTo pos (starEach [] X.env)).any (·.1) = false := by rfl) (hs : starEach [fe, e] X.env = (false, eval fe X.env) :: starEach [e] X.env := by rfl)
    (hs2 : starEach [e] X.env = (false, eval e X.env) :: starEach [] X.env := by rfl) (hpl : (backTo pos2 (starEach [e] X.env)).any (·.1) = false := by rfl) :
    PE X (.Call (.Name "tuple" p0) [.Call (.Name "map" p) [fe, e] [] pos2] [] pos) (tTupMap X.K sp te) := by
  refine ⟨fun pins s σ H Q I h => ?_⟩
  have hh : X.A.handled = none := I.ok.hd hc
  have hA : X.A.frames = some X.stack := I.ok.frames
  refine wpAny_Call_Name_kw (ld_blt I hgs hms (u := .type "tuple") (by decide +kernel) ?_)
  refine PyProof.Rows.callWith_type1 ?_ hs1 hp1
  rw [hs1]
  show wpAny _ _ (spliced ((false, eval (.Call (.Name "map" p) [fe, e] [] pos2) X.env) :: backTo pos (starEach [] X.env))) _ _ s
  refine Calls.spliced_cons ?_
  refine wpAny_Call_Name_kw (ld_blt I hg hm boot_map ?_)
  refine PyProof.Rows.callWith_type1 ?_ hs hpl
  rw [hs, hs2]
  show wpAny _ _ (spliced ((false, eval fe X.env) :: (false, eval e X.env) :: backTo pos2 (starEach [] X.env))) _ _ s
  refine Calls.spliced_cons (hf.run pins s σ H _ I fun s2 I2 => ?_)
  refine Calls.spliced_cons (thn (ha.run pins s2 σ H _ I2 h) fun u s3 ⟨x, H2, I3, r3, q3⟩ => ?_)
  refine Calls.spliced_nil ?_
  obtain ⟨q, xs, rfl, q3⟩ := q3
  cases r3
  rcases q3 with ⟨hq, D⟩ | ⟨hq, D⟩
  · obtain ⟨its, rv, pl, hz⟩ := I3.list hq
    have ql : q < s3.heap.objs.size := by obtain ⟨o, ho, _⟩ := pl.isList; exact Heap.lt_size ho
    refine MpR.call_map (wpAny_pyIter_list pl.isList fun h5 hO hM hsz5 hk => ?_)
    have hs5 : (s3.heap.push { cls := .type "list_iterator", data := .fields #[.ref q, .int 0 0] }).objs.size = s3.heap.objs.size + 1 := Heap.size_push ..
    have kp : ∀ b o, s3.heap.get? b = some o → h5.get? b = some o := fun b o e => hk b o (Heap.get?_push_of_some _ e)
    have I5 : Inv X pins σ H2 { s3 with heap := h5 } := I3.kept (t' := s3.toks) kp
    have fresh : ∀ b, s3.heap.objs.size ≤ b → H2 b = none := fun b hb => I3.hok.fresh hb
    have lt0 : s3.heap.objs.size ≤ (s3.heap.push { cls := .type "list_iterator", data := .fields #[.ref q, .int 0 0] }).objs.size := by rw [hs5]; exact Nat.le_succ _
    have hsx := hs5
    generalize (s3.heap.push { cls := .type "list_iterator", data := .fields #[.ref q, .int 0 0] }).objs.size = TT at *
    refine Calls.spliced_nil (mp_tuple (it := s3.heap.objs.size) (T := TT) (m := TT + 1) hh hr.in1.in1.in1.in1 hA Fn (src_list (Nat.ne_of_lt ql)) hz (rec_new I3 (Nat.le_trans lt0 (Nat.le_succ _))) (rec_new I3 lt0) (rec_new I3 (Nat.le_refl _)) (fresh _ (Nat.le_trans lt0 (Nat.le_succ _))) (fresh _ lt0) (fresh _ (Nat.le_refl _))
      (by rw [hsx]; exact Nat.ne_of_gt (Nat.lt_succ_of_lt (Nat.lt_succ_self _))) (by rw [hsx]; exact Nat.succ_ne_self _) I5 hq hM hO ⟨_, hk _ _ (Heap.get?_push_size _ rfl), rfl, rfl⟩ D fun ys acc H' s' hf hv hn I' => ?_)
    have I6 : Inv X pins σ (upd H' s'.heap.objs.size (.tup ys)) { s' with heap := s'.heap.push { cls := .type "tuple", data := .seq acc.toArray } } :=
      I'.laid (t' := s'.toks) (fun b o e => Heap.get?_push_of_some _ e) (Nat.le_refl _) (show ObjOk X.prog X.w _ _ _ (.tup ys) from ⟨by rw [hn]; exact hz, acc, hv, IsTup.new _ _⟩)
    exact ⟨.ref s'.heap.objs.size, _, I6, rfl, hf _ (I'.hok.fresh (Nat.le_refl _))⟩
  · obtain ⟨its, rv, pl, hz⟩ := I3.tuple hq
    have ql : q < s3.heap.objs.size := by obtain ⟨o, ho, _⟩ := id pl; exact Heap.lt_size ho
    refine MpR.call_map (wpAny_pyIter_tuple pl fun h5 hO hM hsz5 hk => ?_)
    have hs5 : (s3.heap.push { cls := .type "tuple_iterator", data := .fields #[.ref q, .int 0 0] }).objs.size = s3.heap.objs.size + 1 := Heap.size_push ..
    have kp : ∀ b o, s3.heap.get? b = some o → h5.get? b = some o := fun b o e => hk b o (Heap.get?_push_of_some _ e)
    have I5 : Inv X pins σ H2 { s3 with heap := h5 } := I3.kept (t' := s3.toks) kp
    have fresh : ∀ b, s3.heap.objs.size ≤ b → H2 b = none := fun b hb => I3.hok.fresh hb
    have lt0 : s3.heap.objs.size ≤ (s3.heap.push { cls := .type "tuple_iterator", data := .fields #[.ref q, .int 0 0] }).objs.size := by rw [hs5]; exact Nat.le_succ _
    have hsx := hs5
    generalize (s3.heap.push { cls := .type "tuple_iterator", data := .fields #[.ref q, .int 0 0] }).objs.size = TT at *
    refine Calls.spliced_nil (mp_tuple (it := s3.heap.objs.size) (T := TT) (m := TT + 1) hh hr.in1.in1.in1.in1 hA Fn (src_tup (Nat.ne_of_lt ql)) hz (rec_new I3 (Nat.le_trans lt0 (Nat.le_succ _))) (rec_new I3 lt0) (rec_new I3 (Nat.le_refl _)) (fresh _ (Nat.le_trans lt0 (Nat.le_succ _))) (fresh _ lt0) (fresh _ (Nat.le_refl _))
      (by rw [hsx]; exact Nat.ne_of_gt (Nat.lt_succ_of_lt (Nat.lt_succ_self _))) (by rw [hsx]; exact Nat.succ_ne_self _) I5 hq hM hO ⟨_, hk _ _ (Heap.get?_push_size _ rfl), rfl, rfl⟩ D fun ys acc H' s' hf hv hn I' => ?_)
    have I6 : Inv X pins σ (upd H' s'.heap.objs.size (.tup ys)) { s' with heap := s'.heap.push { cls := .type "tuple", data := .seq acc.toArray } } :=
      I'.laid (t' := s'.toks) (fun b o e => Heap.get?_push_of_some _ e) (Nat.le_refl _) (show ObjOk X.prog X.w _ _ _ (.tup ys) from ⟨by rw [hn]; exact hz, acc, hv, IsTup.new _ _⟩)
    exact ⟨.ref s'.heap.objs.size, _, I6, rfl, hf _ (I'.hok.fresh (Nat.le_refl _))⟩
end
end MpT
set_option Elab.async false
set_option linter.all false
set_option maxRecDepth 100000
set_option maxHeartbeats 4000000
namespace Sh
open PySem PySem.Spec PyProof.Rows L2
/-! tuple(map(f, xs)) over data -/
def All2 (S : List Dt → Dt → Prop) : List Dt → List Dt → Prop
  | [], o => o = []
  | d :: l, o => ∃ e r, o = e :: r ∧ S [d] e ∧ All2 S l r
section
variable {K : PySem.W.Frag} {ρ : List En} {Ψ : Dt → List En → Prop} {S : List Dt → Dt → Prop}
theorem map_walk {B : Addr → Prop} {σ : L2.St} {Gs : Hp → Prop} {fin : List V → Hp → Prop} {G1 H1 : Hp} (kp : ∀ G' H', Same G1 G' → Same G' H' → Gs H') : ∀ (l outs done : List Dt) (xs ys : List V) (G H : Hp), Mt K B ρ σ G H → Same G1 G → Tr B H1 H → RDs K G l xs → RDs K G done ys → All2 S l outs →
    (∀ ys' G' H', Mt K B ρ σ G' H' → Same G1 G' → Tr B H1 H' → RDs K G' (done ++ outs) ys' → fin ys' H') → MpT.mapR (spP K S) Gs xs ys H fin
  | [], outs, done, xs, ys, G, H, m, s, t, r, r2, a, k => by
    cases (show xs = [] from r)
    cases (show outs = [] from a)
    exact k ys G H m s t (by rw [List.append_nil]; exact r2)
  | d :: l, outs, done, xs, ys, G, H, m, s, t, r, r2, a, k => by
    obtain ⟨x, xr, rfl, h1, h2⟩ := r
    obtain ⟨e, o, rfl, hS, ha⟩ := a
    refine ⟨G, [d], e, m.sub, ⟨x, [], rfl, h1, rfl⟩, hS, fun v G' H' n rv => ⟨kp G' H' (s.trans n.g) n.s, ?_⟩⟩
    exact map_walk kp l o (done ++ [e]) xr (ys ++ [v]) G' H' (m.nw n) (s.trans n.g) (t.trans (Tr.same n.h)) (h2.same n.g) ((r2.same n.g).snoc rv) ha fun ys' G'' H'' m' s' t' r' => k ys' G'' H'' m' s' t' (by rwa [List.append_assoc] at r')
theorem ae_tupMap {te : TE} (h : AE K te ρ fun d ρ1 => ∃ k l, d = sq k l ∧ ∃ out, All2 S l out ∧ Ψ (.tup out) ρ1) : AE K (MpT.tTupMap K (spP K S) te) ρ Ψ := fun B σ G H m Q q =>
  h B σ G H m _ fun v d ρ1 G1 H1 m1 s1 t1 r1 ⟨kk, l, ed, out, a2, k⟩ => by
    subst ed
    cases kk with
    | true =>
      obtain ⟨a, xs, rfl, hq, rs⟩ := r1
      refine ⟨a, xs, rfl, .inr ⟨same_sqT m1.sub hq, ?_⟩⟩
      refine map_walk (G1 := G1) (H1 := H1) (fun G' H' s s' => same_sqT (s.trans s') hq) l out [] xs [] G1 H1 m1 (Same.refl _) Tr.refl rs rfl a2 fun ys G' H' m' s' t' r' => ?_
      intro p hp
      have n := Nw.new (o := .tup ys) m'.sub hp
      exact q _ (.tup out) ρ1 _ _ (m'.nw n) (s1.trans (s'.trans n.g)) (t1.trans (t'.trans (Tr.same n.h))) ⟨p, ys, rfl, SqT.of upd_same, r'.same n.g⟩ k
    | false =>
      obtain ⟨a, xs, rfl, hq, rs⟩ := r1
      refine ⟨a, xs, rfl, .inl ⟨SqL.of (m1.sub _ _ hq), ?_⟩⟩
      refine map_walk (G1 := G1) (H1 := H1) (fun G' H' s s' => SqL.of (s' _ _ (s _ _ hq))) l out [] xs [] G1 H1 m1 (Same.refl _) Tr.refl rs rfl a2 fun ys G' H' m' s' t' r' => ?_
      intro p hp
      have n := Nw.new (o := .tup ys) m'.sub hp
      exact q _ (.tup out) ρ1 _ _ (m'.nw n) (s1.trans (s'.trans n.g)) (t1.trans (t'.trans (Tr.same n.h))) ⟨p, ys, rfl, SqT.of upd_same, r'.same n.g⟩ k
end
/-! as_tuples: tuples for lists at every depth -/
mutual
def Dt.tu : Dt → Dt
  | .tup l => .tup (tus l) | .lst l => .tup (tus l) | .non => .non | .bl b => .bl b | .int i => .int i | .str s => .str s | .ty n => .ty n
def tus : List Dt → List Dt
  | [] => []
  | d :: l => d.tu :: tus l
end
def AsN : Nat → Dt → Prop
  | 0, _ => False
  | n + 1, .tup l => ∀ d, d ∈ l → AsN n d
  | n + 1, .lst l => ∀ d, d ∈ l → AsN n d
  | _ + 1, .ty _ => False
  | _ + 1, _ => True
def S_as (n : Nat) (ds : List Dt) (r : Dt) : Prop := ∃ d, ds = [d] ∧ AsN n d ∧ r = d.tu
theorem all2_as {n : Nat} : ∀ {l : List Dt}, (∀ d, d ∈ l → AsN n d) → All2 (S_as n) l (tus l)
  | [], _ => rfl
  | d :: l, h => ⟨d.tu, tus l, rfl, ⟨d, rfl, h d List.mem_cons_self, rfl⟩, all2_as fun e he => h e (List.mem_cons_of_mem _ he)⟩
end Sh
set_option Elab.async false
set_option linter.all false
set_option maxRecDepth 100000
set_option maxHeartbeats 4000000
namespace Sh
open PySem PySem.Spec PyProof.Rows L2
section
variable {K : PySem.W.Frag} {ρ : List En} {Ψ : Dt → List En → Prop} {ΨT : Bool → List En → Prop} {Φ : Dt → Prop} {N : List En → Prop} {R : Dt → List En → Prop}
theorem RDs.unsnoc {G : Hp} : ∀ {l : List Dt} {d : Dt} {xs : List V}, RDs K G (l ++ [d]) xs → ∃ ys x, xs = ys ++ [x] ∧ RDs K G l ys ∧ RD K G d x
  | [], d, xs, ⟨x, r, e, h1, h2⟩ => ⟨[], x, by rw [e, show r = [] from h2]; rfl, rfl, h1⟩
  | a :: l, d, xs, ⟨x, r, e, h1, h2⟩ => by
    obtain ⟨ys, z, e2, h3, h4⟩ := RDs.unsnoc (l := l) h2
    exact ⟨x :: ys, z, by rw [e, e2]; rfl, ⟨x, ys, rfl, h1, h3⟩, h4⟩
/-- xs.pop() -/
theorem as_pop {i : Nat} {l : List Dt} {d : Dt} (e : ρ[i]? = some (.own (l ++ [d]))) (n : N (ρ.set i (.own l))) : AS K (tDrop (tBM0 K "list" rPop (tVar i))) ρ N R := fun B σ G H m D qn qr => by
  obtain ⟨p, xs, a1, a2, a3, a4, a5⟩ := m.own i _ e
  obtain ⟨ys, x, rfl, r1, r2⟩ := RDs.unsnoc a3
  refine ⟨_, a1, .inl ⟨rfl, _, SqL.of a2⟩, p, _, x, rfl, rfl, a2, ?_, ?_⟩
  · rw [List.length_append, List.length_singleton, Nat.add_sub_cancel, List.getElem?_concat_length]
  · rw [List.dropLast_concat]
    exact qn _ _ G _ (m.chOwn e a1 r1) (Same.refl _) (fun a o b z => by rw [upd_ne (fun w => a5 (by rw [← w]; exact b))]; exact z) n
/-! slices with any bounds -/
def AO (K : PySem.W.Frag) (to : TO) (ρ : List En) (Φo : Option Int → List En → Prop) : Prop := ∀ B σ G H, Mt K B ρ σ G H → ∀ Q : Option Int → Hp → Prop, (∀ o ρ' G' H', Mt K B ρ' σ G' H' → Same G G' → Tr B H H' → Φo o ρ' → Q o H') → to σ H Q
def cutD (l : List Dt) (lo hi : Option Int) : List Dt := (l.drop (HT.sIx l.length 0 lo)).take (HT.sIx l.length l.length hi - HT.sIx l.length 0 lo)
theorem RDs.cut {G : Hp} {l : List Dt} {xs : List V} {lo hi : Option Int} (r : RDs K G l xs) : RDs K G (cutD l lo hi) (cutV xs lo hi) := by
  unfold cutD cutV
  rw [r.length]
  exact (r.drop _).take _
theorem ao_none {Φo : Option Int → List En → Prop} (k : Φo none ρ) : AO K (fun _ H Q => Q none H) ρ Φo := fun B σ G H m Q q => q none ρ G H m (Same.refl _) Tr.refl k
theorem ao_some {te : TE} {Φo : Option Int → List En → Prop} (h : AE K te ρ fun d ρ1 => ∃ i : Int, d = .int i ∧ Φo (some i) ρ1) : AO K (tPart te) ρ Φo := fun B σ G H m Q q =>
  h B σ G H m _ fun v d ρ1 G1 H1 m1 s1 t1 r1 ⟨i, ed, k⟩ => by
    subst ed
    exact ⟨i, r1, q _ ρ1 G1 H1 m1 s1 t1 k⟩
theorem ae_slD {te : TE} {tl th : TO} (h : AE K te ρ fun d ρ1 => ∃ l, d = .lst l ∧ AO K tl ρ1 fun lo ρ2 => AO K th ρ2 fun hi ρ3 => Ψ (.lst (cutD l lo hi)) ρ3) : AE K (tSl (rSlL K) te tl th) ρ Ψ := fun B σ G H m Q q =>
  h B σ G H m _ fun v d ρ1 G1 H1 m1 s1 t1 r1 ⟨l, ed, h1⟩ => h1 B σ G1 H1 m1 _ fun lo ρ2 G2 H2 m2 s2 t2 h2 => h2 B σ G2 H2 m2 _ fun hi ρ3 G3 H3 m3 s3 t3 k => by
    subst ed
    obtain ⟨p, xs, rfl, hp, r⟩ := r1
    have hp3 := s3 _ _ (s2 _ _ hp)
    refine ⟨p, _, rfl, SqL.of (m3.sub _ _ hp3), fun p' hp' => ?_⟩
    have nw := Nw.new (o := .lst (cutV xs lo hi)) m3.sub hp'
    exact q _ (.lst (cutD l lo hi)) ρ3 _ _ (m3.nw nw) (((s1.trans s2).trans s3).trans nw.g) (((t1.trans t2).trans t3).trans (Tr.same nw.h)) ⟨p', _, rfl, upd_same, ((r.same (s2.trans s3)).cut).same nw.g⟩ k
end
end Sh
set_option Elab.async false
set_option linter.all false
set_option maxRecDepth 100000
set_option maxHeartbeats 4000000
namespace Sh
open PySem PySem.Spec PyProof.Rows L2
theorem vs_intsP : ∀ {ns : List Int}, vs? (ns.map Dt.int) = some (ns.map V.int)
  | [] => rfl
  | n :: ns => by
    show (match (Dt.int n).v?, vs? (ns.map Dt.int) with | some a, some b => some (a :: b) | _, _ => none) = _
    rw [vs_intsP]; rfl
theorem inV_intsP {x : Int} : ∀ {ns : List Int}, inV (.int x) (ns.map V.int) = decide (x ∈ ns)
  | [] => by simp [inV]
  | n :: ns => by
    have := @inV_intsP x ns
    unfold inV at this ⊢
    rw [List.map_cons, List.any_cons, this]
    show (n == x || decide (x ∈ ns)) = decide (x ∈ n :: ns)
    by_cases h : x = n
    · subst h; simp
    · have : (n == x) = false := by simp [Ne.symm h]
      rw [this]; simp [h]
theorem flat_intsP {ns : List Int} : (ns.map V.int).all flatV = true := by
  rw [List.all_map]; simp [flatV]
end Sh
set_option Elab.async false
set_option linter.all false
set_option maxRecDepth 100000
set_option maxHeartbeats 4000000
/-! list(zip(xs, ys)), of two lists -/
namespace Sh
open PySem PySem.Spec PyProof.Rows L2
/-- new pairs, laid one after another -/
inductive NP : Hp → List V → List (V × V) → Hp → Prop where
  | nil {H : Hp} : NP H [] [] H
  | snoc {H H' : Hp} {ts : List V} {ps : List (V × V)} {T : Addr} {x y : V} : NP H ts ps H' → H' T = none → NP H (ts ++ [.ref T]) (ps ++ [(x, y)]) (upd H' T (.tup [x, y]))
theorem NP.len {H H' : Hp} {ts : List V} {ps : List (V × V)} (h : NP H ts ps H') : ts.length = ps.length := by
  induction h with
  | nil => rfl
  | snoc _ _ ih => rw [List.length_append, List.length_append, ih]; rfl
theorem NP.same {H H' : Hp} {ts : List V} {ps : List (V × V)} (h : NP H ts ps H') : Same H H' := by
  induction h with
  | nil => exact Same.refl _
  | snoc _ n ih => exact ih.trans (same_up n)
/-- where a zip stands -/
structure ZSt (z TI TO i1 i2 l1 l2 S : Addr) (i : Nat) (h : Heap) : Prop where
  ti : IsPair h TI (.ref i1) (.ref i2)
  a : h.IsListIter i1 l1 i
  b : h.IsListIter i2 l2 i
  s : (IsZip h z TI TO .none ∧ ∃ x y, IsPair h TO x y) ∨ ∃ T f oT, IsZipHeld h z TI TO T f ∧ h.get? T = some oT ∧ T ≠ z ∧ T ≠ i1 ∧ T ≠ i2 ∧ T ≠ S
theorem ZSt.keep {z TI TO i1 i2 l1 l2 S : Addr} {i : Nat} {h h' : Heap} (st : ZSt z TI TO i1 i2 l1 l2 S i h) (n : z ≠ S ∧ TI ≠ S ∧ TO ≠ S ∧ i1 ≠ S ∧ i2 ≠ S) (k : ∀ c o, c ≠ S → h.get? c = some o → h'.get? c = some o) : ZSt z TI TO i1 i2 l1 l2 S i h' where
  ti := k _ _ n.2.1 st.ti
  a := st.a.at fun o e => k _ o n.2.2.2.1 e
  b := st.b.at fun o e => k _ o n.2.2.2.2 e
  s := by
    rcases st.s with ⟨hz, x, y, h2⟩ | ⟨T, f, oT, hz, hT, r1, r2, r3, r4⟩
    · exact .inl ⟨k _ _ n.1 hz, x, y, k _ _ n.2.2.1 h2⟩
    · exact .inr ⟨T, f, oT, k _ _ n.1 hz, k _ _ r4 hT, r1, r2, r3, r4⟩
end Sh
set_option Elab.async false
set_option linter.all false
set_option maxRecDepth 100000
set_option maxHeartbeats 4000000
namespace Sh
open PySem PySem.Spec PyProof.Rows L2
section
variable {K : PySem.W.Frag} {ρ : List En} {Ψ : Dt → List En → Prop} {Φ : Dt → Prop}
theorem ar_inD {d : Dt} {l : List Dt} (p1 : d.pl = true) (p2 : pls l = true) (s1 : SeqAt.shaped d.pd = true) (s2 : SeqAt.shaped (Dt.lst l).pd = true) (h : Φ (.bl ((pds l).any fun z => PyData.eqv z d.pd))) : AR K (rInD K) d (.lst l) Φ := fun G H s x y r1 r2 Q q =>
  ⟨d.pd, pds l, r1.dp s p1, (show Dp K H y (Dt.lst l).pd from r2.dp s p2), s1, s2, q _ (.bl _) G H (Nw.refl s) rfl h⟩
end
theorem room65 {k : Nat} {A : Around} (r : Room k A) : A.units + 65 < cLine := by have := r.un; omega
end Sh
set_option Elab.async false
set_option linter.all false
set_option maxRecDepth 100000
set_option maxHeartbeats 4000000
/-! a range as a value, walked more than once -/
namespace Sh
open PySem PySem.Spec PyProof.Rows L2
section
variable {X : Cx} {tg : Expr}
theorem cr_range1 : CallR X (.type "range") (fun vs H Q => ∃ j, vs = [V.int j] ∧ ∀ p, H p = none → Q (.ref p) (upd H p (.rng 0 j))) := by
  intro pins s σ H vs us Q I r h
  obtain ⟨j, rfl, q⟩ := h
  obtain ⟨u1, rfl, ri⟩ := vals1 r
  obtain ⟨t, rfl⟩ := ri
  refine call_range_1 ⟨.ref s.heap.objs.size, upd H s.heap.objs.size (.rng 0 j), I.laid (t' := s.toks + 1 + 1) (fun b o e => Heap.get?_push_of_some _ e) (Nat.le_refl _) ?_, rfl, q _ (I.hok.fresh (Nat.le_refl _))⟩
  exact ⟨s.toks, t, s.toks + 1, Heap.get?_push_size _ rfl⟩
def iRngV (te : TE) : TI := fun σ H R => te σ H fun x H1 => ∃ a lo hi, x = V.ref a ∧ H1 a = some (.rng lo hi) ∧ (-(2 ^ 62) ≤ lo ∧ lo < 2 ^ 62 ∧ -(2 ^ 62) ≤ hi ∧ hi < 2 ^ 62) ∧ R (Itr lo (hi - lo).toNat) H1
theorem pi_rngV {e : Expr} {te : TE} (he : PE X e te) : PI X tg e (iRngV te) := by
  refine ⟨fun pins s σ H R I h => ?_⟩
  refine thn (he.run pins s σ H _ I h) fun u s1 ⟨x, H1, I1, r1, q1⟩ => ?_
  obtain ⟨a, lo, hi, rfl, ha, ⟨b1, b2, b3, b4⟩, q⟩ := q1
  obtain rfl : u = Value.ref a := r1
  obtain ⟨t, u, v, hr⟩ := I1.hok a _ ha
  refine wpAny_pyIter_range (show IsRange s1.heap a lo hi 1 t u v from hr) (small_one b1 b2 b3 b4) ?_
  refine ⟨s1.heap.objs.size, [s1.heap.objs.size], _, _, H1, rfl, I1.kept (t' := s1.toks) fun b o e => Heap.get?_push_of_some _ e, turn_range _ lo (hi - lo).toNat, ?_, fun b hb => ?_, q⟩
  · have e1 : lo + ((0 : Nat) : Int) * 1 = lo := by simp
    have e2 : (((hi - lo).toNat : Nat) : Int) - ((0 : Nat) : Int) = Builtin.Range.rangeSize lo hi 1 := by rw [rangeSize_one]; split <;> omega
    show IsRangeIter _ _ (lo + ((0 : Nat) : Int) * 1) ((((hi - lo).toNat : Nat) : Int) - ((0 : Nat) : Int)) 1
    rw [e1, e2]
    exact Heap.get?_push_size _ rfl
  · have e : b = s1.heap.objs.size := by simpa using hb
    subst e
    exact I1.fpOk (Nat.le_refl _) (I1.hok.fresh (Nat.le_refl _))
end
end Sh
set_option Elab.async false
set_option linter.all false
set_option maxRecDepth 100000
set_option maxHeartbeats 4000000
/-! for x, y in zip(a, b), a and b lists or tuples in any mix -/
namespace Sh
open PySem PySem.Spec PyProof.Rows L2
def SqK (K : PySem.W.Frag) (k : Bool) (H : Hp) (a : Addr) (xs : List V) : Prop := match k with
  | true => SqT K H a xs
  | false => SqL K H a xs
def IsIt (k : Bool) (h : Heap) (i l : Addr) (n : Nat) : Prop := match k with
  | true => h.IsTupleIter i l n
  | false => h.IsListIter i l n
def IsSq (k : Bool) (h : Heap) (l : Addr) (its : Array Value) : Prop := match k with
  | true => h.IsTuple l its
  | false => h.IsList l its
theorem IsIt.at {k : Bool} {h h' : Heap} {i l : Addr} {n : Nat} (x : IsIt k h i l n) (e : ∀ o, h.get? i = some o → h'.get? i = some o) : IsIt k h' i l n := by
  cases k
  · exact Heap.IsListIter.at x e
  · exact Heap.IsTupleIter.at x e
theorem IsIt.obj {k : Bool} {h : Heap} {i l : Addr} {n : Nat} (x : IsIt k h i l n) : ∃ o, h.get? i = some o ∧ ∀ v, o.data ≠ .cell v := by
  cases k
  · obtain ⟨o, e, _, d⟩ := x
    exact ⟨o, e, fun v q => by rw [d] at q; cases q⟩
  · obtain ⟨o, e, _, d⟩ := x
    exact ⟨o, e, fun v q => by rw [d] at q; cases q⟩
theorem draws_k {prog : Program} {w : World} {A : Around} (hh : A.handled = none) (k : Bool) (it l : Addr) (hne : l ≠ it) (items : Array Value) :
    Draws prog w A it [it, l] items.size (fun i v => items[i]? = some v) (fun i h => IsIt k h it l i ∧ IsSq k h l items) := by
  cases k
  · exact Draws.list hh it l hne items
  · exact Draws.tuple hh it l hne items
theorem inv_sq {X : Cx} {pins : List (Addr × Obj)} {σ : L2.St} {H : Hp} {s : Shared} {k : Bool} {a : Addr} {xs : List V} (I : Inv X pins σ H s) (h : SqK X.K k H a xs) : ∃ its, Vals xs its ∧ IsSq k s.heap a its.toArray ∧ a < s.heap.objs.size ∧ xs.length ≤ sizeLine := by
  cases k
  · obtain ⟨its, rv, p, z⟩ := I.list h
    exact ⟨its, rv, p.isList, p.lt, z⟩
  · obtain ⟨its, rv, p, z⟩ := I.tuple h
    obtain ⟨o, ho, _⟩ := id p
    exact ⟨its, rv, p, Heap.lt_size ho, z⟩
theorem inv_inj {X : Cx} {pins : List (Addr × Obj)} {σ : L2.St} {H : Hp} {s : Shared} {k : Bool} {a : Addr} {xs ys : List V} (I : Inv X pins σ H s) (h : SqK X.K k H a xs) (h' : SqK X.K k H a ys) : xs = ys := by
  cases k
  · exact I.list_inj h h'
  · exact I.tuple_inj h h'
def ItzK (K : PySem.W.Frag) (k1 k2 : Bool) (a b : Addr) : It :=
  ⟨fun i H => ∃ (xs ys : List V) (x y : V), SqK K k1 H a xs ∧ SqK K k2 H b ys ∧ xs[i]? = some x ∧ ys[i]? = some y,
    fun i H v H' => ∃ T x y, v = .ref T ∧ H T = none ∧ H' = upd H T (.tup [x, y]) ∧ (∀ xs, SqK K k1 H a xs → xs[i]? = some x) ∧ ∀ ys, SqK K k2 H b ys → ys[i]? = some y,
    fun i H => ∃ xs ys : List V, SqK K k1 H a xs ∧ SqK K k2 H b ys ∧ i = min xs.length ys.length⟩
theorem turn_zipK {P : Program} {w : World} {K : PySem.W.Frag} {elts : List Expr} {kk : Nat} {tpos : Pos} {k1 k2 : Bool} {a b z TI TO i1 i2 : Addr} (S : ZipSep2 z TI TO i1 i2 [i1, a] [i2, b]) (na : a ≠ i1) (nb : b ≠ i2) :
    Turn P w K (.Tuple elts kk tpos) (ItzK K k1 k2 a b) [z, TI, TO, i1, i2] z (fun i h => IsZip h z TI TO .none ∧ IsTupOf2 h TI (.ref i1) (.ref i2) ∧ (∃ x y, IsTupOf2 h TO x y) ∧ IsIt k1 h i1 a i ∧ IsIt k2 h i2 b i) where
  mem := by simp
  obj := fun i h st c hc => by
    obtain ⟨hz, hTI, ⟨x, y, hTO⟩, h1, h2⟩ := st
    have e' : c = z ∨ c = TI ∨ c = TO ∨ c = i1 ∨ c = i2 := by simpa using hc
    rcases e' with q | q | q | q | q
    · rw [q]; exact ⟨_, hz, fun v q => nomatch q⟩
    · rw [q]; exact ⟨_, hTI, fun v q => nomatch q⟩
    · rw [q]; exact ⟨_, hTO, fun v q => nomatch q⟩
    · rw [q]; exact h1.obj
    · rw [q]; exact h2.obj
  keep := fun i h h' st k => by
    obtain ⟨hz, hTI, ⟨x, y, hTO⟩, h1, h2⟩ := st
    exact ⟨k z (by simp) _ hz, k TI (by simp) _ hTI, ⟨x, y, k TO (by simp) _ hTO⟩, h1.at fun o q => k i1 (by simp) o q, h2.at fun o q => k i2 (by simp) o q⟩
  item := by
    intro X hP hw hK hc i pins s σ H E I hf st hg
    subst hP hw hK
    obtain ⟨hz, hTI, hTO, h1, h2⟩ := st
    obtain ⟨xs, ys, x, y, hqx, hqy, hx, hy⟩ := hg
    obtain ⟨its, rv, p, la, _⟩ := inv_sq I hqx
    obtain ⟨its2, rv2, p2, lb, _⟩ := inv_sq I hqy
    obtain ⟨u, hu, ru⟩ := rv.get hx
    obtain ⟨u2, hu2, ru2⟩ := rv2.get hy
    have hh : X.A.in1.handled = none := I.ok.hd hc
    have W := GoesN.zip2 (prog := X.prog) (w := X.w) (A := X.A) (elts := elts) (x1 := kk) (pos := tpos) S (draws_k (A := X.A.in1) hh k1 i1 a na its.toArray) (draws_k (A := X.A.in1) hh k2 i2 b nb its2.toArray)
    have hlt : i < min its.toArray.size its2.toArray.size := by
      have e1 := (List.getElem?_eq_some_iff.mp hu).1
      have e2 := (List.getElem?_eq_some_iff.mp hu2).1
      simp only [List.size_toArray]
      omega
    refine W.goes i s _ _ hlt ⟨hz, hTI, hTO, ⟨h1, p⟩, ⟨h2, p2⟩⟩ fun v h' tk hY st' hk htk => ?_
    obtain ⟨T, u', u2', rfl, hT, e1, e2, tp⟩ := hY
    have e1' : u' = u := by
      have : some u' = some u := e1.symm.trans (by simpa using hu)
      cases this; rfl
    have e2' : u2' = u2 := by
      have : some u2' = some u2 := e2.symm.trans (by simpa using hu2)
      cases this; rfl
    subst e1' e2'
    have new : ObjOk X.prog X.w (upd H T (.tup [x, y])) h' T (.tup [x, y]) := ⟨by show 2 ≤ sizeLine; decide, [u', u2'], .cons ru (.cons ru2 .nil), tp⟩
    have I1 : Inv X pins σ (upd H T (.tup [x, y])) { s with heap := h', toks := tk } :=
      I.turnedNew (t' := tk) (ch := [z, TI, TO, i1, i2]) (fun c o hb q => hk c o (fun q' => hb (by
        have e' : c = z ∨ c = TO ∨ c = i1 ∨ c = i2 := by simpa using q'
        rcases e' with q | q | q | q <;> simp [q])) q) hf hT new
    obtain ⟨z', ti', to', ⟨a', _⟩, ⟨b', _⟩⟩ := st'
    refine ⟨.ref T, _, I1, rfl, ⟨_, x, y, rfl, I.hok.fresh hT, rfl, fun l hl => by rw [inv_inj I hl hqx]; exact hx, fun l hl => by rw [inv_inj I hl hqy]; exact hy⟩, ⟨z', ti', to', a', b'⟩, fun c hcm => ?_⟩
    obtain ⟨o, ho, _⟩ : ∃ o, s.heap.get? c = some o ∧ True := by
      obtain ⟨x0, y0, hTO⟩ := hTO
      have e' : c = z ∨ c = TI ∨ c = TO ∨ c = i1 ∨ c = i2 := by simpa using hcm
      rcases e' with q | q | q | q | q
      · rw [q]; exact ⟨_, hz, trivial⟩
      · rw [q]; exact ⟨_, hTI, trivial⟩
      · rw [q]; exact ⟨_, hTO, trivial⟩
      · rw [q]; obtain ⟨o, e, _⟩ := h1.obj; exact ⟨o, e, trivial⟩
      · rw [q]; obtain ⟨o, e, _⟩ := h2.obj; exact ⟨o, e, trivial⟩
    rw [upd_ne (Nat.ne_of_lt (Nat.lt_of_lt_of_le (Heap.lt_size ho) hT))]
    exact (hf c hcm).1
  done := by
    intro X hP hw hK hc i pins s σ H E I hf st hg
    subst hP hw hK
    obtain ⟨hz, hTI, hTO, h1, h2⟩ := st
    obtain ⟨xs, ys, hqx, hqy, hend⟩ := hg
    obtain ⟨its, rv, p, la, _⟩ := inv_sq I hqx
    obtain ⟨its2, rv2, p2, lb, _⟩ := inv_sq I hqy
    have hh : X.A.in1.handled = none := I.ok.hd hc
    have W := GoesN.zip2 (prog := X.prog) (w := X.w) (A := X.A) (elts := elts) (x1 := kk) (pos := tpos) S (draws_k (A := X.A.in1) hh k1 i1 a na its.toArray) (draws_k (A := X.A.in1) hh k2 i2 b nb its2.toArray)
    have e1 := rv.length
    have e2 := rv2.length
    have hi : i = min its.toArray.size its2.toArray.size := by
      simp only [List.size_toArray]
      rw [hend, e1, e2]
    subst hi
    exact W.stops s (fun s1 => Inv X pins σ H s1) _ ⟨hz, hTI, hTO, ⟨h1, p⟩, ⟨h2, p2⟩⟩ fun h' tk hk htk => I.turnedL (t' := tk) (ch := [z, TI, TO, i1, i2]) (fun c o hb q => hk c o (fun q' => hb (by
      have e' : c = z ∨ c = TO ∨ c = i1 ∨ c = i2 := by simpa using q'
      rcases e' with q | q | q | q <;> simp [q])) q) hf
  self := fun A i s Q E st h => wpAny_pyIter_zip st.1 h
def iZipK (K : PySem.W.Frag) (ta : TA) : TI := fun σ H R => ta σ H fun vs H1 => ∃ a b xs ys k1 k2, vs = [V.ref a, V.ref b] ∧ SqK K k1 H1 a xs ∧ SqK K k2 H1 b ys ∧ R (ItzK K k1 k2 a b) H1
theorem begins_k (k : Bool) (l : Addr) (items : Array Value) : ∃ o, Begins (.ref l) o (fun h => IsSq k h l items) ∧ ∀ (h : Heap) (i : Addr), h.get? i = some o → IsIt k h i l 0 := by
  cases k
  · exact ⟨_, begins_list l items, fun h i e => ⟨_, e, rfl, rfl⟩⟩
  · exact ⟨_, begins_tuple l items, fun h i e => ⟨_, e, rfl, rfl⟩⟩
theorem pi_zipK {X : Cx} {e e2 : Expr} {ta : TA} {p pos tpos : Pos} {elts : List Expr} {kk : Nat} (hg : Gl X "zip") (hm : X.mg "zip" = none) (ha : PA X [e, e2] ta)
    (hs : starEach [e, e2] X.env = (false, eval e X.env) :: starEach [e2] X.env := by rfl) (hpl : (backTo pos (starEach [e2] X.env)).any (·.1) = false := by rfl) :
    PI X (.Tuple elts kk tpos) (.Call (.Name "zip" p) [e, e2] [] pos) (iZipK X.K ta) := by
  refine ⟨fun pins s σ H R I h => ?_⟩
  refine Call_ (ld_blt I hg hm PyProof.Rows.boot_zip (PyProof.Rows.callWith_type1 (thn (ha.run pos pins s σ H _ I h) fun us s1 ⟨vs, H1, I1, r1, q1⟩ => ?_) hs hpl))
  obtain ⟨a, b, xs, ys, k1, k2, ex, hqx, hqy, q⟩ := q1
  subst ex
  cases r1 with
  | cons r rr =>
    cases rr with
    | cons r' rr =>
      cases rr
      cases r
      cases r'
      obtain ⟨its, rv, p1, la, _⟩ := inv_sq I1 hqx
      obtain ⟨its2, rv2, p2, lb, _⟩ := inv_sq I1 hqy
      obtain ⟨o1, B1, it1⟩ := begins_k k1 a its.toArray
      obtain ⟨o2, B2, it2⟩ := begins_k k2 b its2.toArray
      refine zip_begins2 B1 B2 p1 p2 fun h' hz hTI hTO h1 h2 hsz hk => wpAny_pyIter_zip hz ?_
      have I2 : Inv X pins σ H1 { s1 with heap := h' } := I1.kept (t' := s1.toks) hk
      have fresh5 : ∀ c, c ∈ [s1.heap.objs.size + 4, s1.heap.objs.size + 2, s1.heap.objs.size + 3, s1.heap.objs.size, s1.heap.objs.size + 1] → FpOk X pins H1 c := fun c hcm => by
        have e' : c = s1.heap.objs.size + 4 ∨ c = s1.heap.objs.size + 2 ∨ c = s1.heap.objs.size + 3 ∨ c = s1.heap.objs.size ∨ c = s1.heap.objs.size + 1 := by simpa using hcm
        have hle : s1.heap.objs.size ≤ c := by
          rcases e' with z | z | z | z | z
          · rw [z]; exact Nat.le_add_right _ _
          · rw [z]; exact Nat.le_add_right _ _
          · rw [z]; exact Nat.le_add_right _ _
          · rw [z]; exact Nat.le_refl _
          · rw [z]; exact Nat.le_add_right _ _
        exact I1.fpOk hle (I1.hok.fresh hle)
      have S := zip_sep2 (N := s1.heap.objs.size) (fp1 := [a]) (fp2 := [b]) (fun c hc => by rw [List.mem_singleton.mp hc]; exact la) (fun c hc => by rw [List.mem_singleton.mp hc]; exact lb)
      exact ⟨s1.heap.objs.size + 4, [s1.heap.objs.size + 4, s1.heap.objs.size + 2, s1.heap.objs.size + 3, s1.heap.objs.size, s1.heap.objs.size + 1], _, _, H1, rfl, I2, turn_zipK S (Nat.ne_of_lt la) (Nat.ne_of_lt (Nat.lt_succ_of_lt lb)), ⟨hz, hTI, ⟨_, _, hTO⟩, it1 _ _ h1, it2 _ _ h2⟩, fresh5, q⟩
section
variable {K : PySem.W.Frag} {ρ : List En}
theorem sqK_of {G H : Hp} (s : Same G H) {k : Bool} {l : List Dt} {x : V} (r : RD K G (sq k l) x) : ∃ a xs, x = .ref a ∧ SqK K k G a xs ∧ RDs K G l xs := by
  cases k
  · obtain ⟨a, xs, e, h1, h2⟩ := r
    exact ⟨a, xs, e, SqL.of h1, h2⟩
  · obtain ⟨a, xs, e, h1, h2⟩ := r
    exact ⟨a, xs, e, h1, h2⟩
theorem same_sqK {H H' : Hp} {k : Bool} {a : Addr} {xs : List V} (e : Same H H') (h : SqK K k H a xs) : SqK K k H' a xs := by
  cases k
  · exact same_sqL e h
  · exact same_sqT e h
theorem wj_zipK {k1 k2 : Bool} {a b : Addr} {xs ys : List V} {l m : List Dt} {G : Hp} (h : SqK K k1 G a xs) (h' : SqK K k2 G b ys) (r : RDs K G l xs) (r' : RDs K G m ys) : Wj K (ItzK K k1 k2 a b) (zpD l m) G := by
  have e := r.length
  have e' := r'.length
  have el : (zpD l m).length = min xs.length ys.length := by rw [zpD_len, e, e']
  refine ⟨fun i H hi s => ?_, fun H s => ⟨xs, ys, same_sqK s h, same_sqK s h', el⟩, fun i G1 H x H' hi s1 s2 y => ?_⟩
  · rw [el] at hi
    have h1 : i < xs.length := by omega
    have h2 : i < ys.length := by omega
    exact ⟨xs, ys, xs[i], ys[i], same_sqK s h, same_sqK s h', List.getElem?_eq_getElem h1, List.getElem?_eq_getElem h2⟩
  · obtain ⟨T, u, v, rfl, nT, rfl, f1, f2⟩ := y
    obtain ⟨d1, g1, q1⟩ := r.back (f1 xs (same_sqK s2 (same_sqK s1 h)))
    obtain ⟨d2, g2, q2⟩ := r'.back (f2 ys (same_sqK s2 (same_sqK s1 h')))
    obtain ⟨G', n, rd⟩ := nw_pair s2 nT (q1.same s1) (q2.same s1)
    exact ⟨G', _, n, zpD_get g1 g2, rd⟩
theorem ai_zipK {ta : TA} {Θ : List Dt → List En → Prop} (h : AA K ta ρ fun ds ρ1 => ∃ k1 k2 l m, ds = [sq k1 l, sq k2 m] ∧ Θ (zpD l m) ρ1) : AI K (iZipK K ta) ρ Θ := fun B σ G H mm Rr q =>
  h B σ G H mm _ fun vs ds ρ1 G1 H1 m1 s1 t1 r1 ⟨k1, k2, l, m, e, p⟩ => by
    subst e
    obtain ⟨x, y, rfl, r2, r3⟩ := r1.two
    obtain ⟨a, xs, rfl, h1, h2⟩ := sqK_of m1.sub r2
    obtain ⟨b, ys, rfl, h3, h4⟩ := sqK_of m1.sub r3
    exact ⟨a, b, xs, ys, k1, k2, rfl, same_sqK m1.sub h1, same_sqK m1.sub h3, q _ _ ρ1 G1 H1 m1 s1 t1 (wj_zipK h1 h3 h2 h4) p⟩
end
end Sh
set_option Elab.async false
set_option linter.all false
set_option maxRecDepth 100000
set_option maxHeartbeats 4000000
/-! for t in zip(a, b), and for x, y in zip(*t); a and b lists or tuples in any mix -/
set_option Elab.async false
set_option linter.all false
set_option maxRecDepth 100000
set_option maxHeartbeats 4000000
/-! sum of ints, slices of tuples, a list times an int that will change, an item set at any place, tuple + tuple -/
namespace Sh
open PySem PySem.Spec PyProof.Rows L2
section
variable {K : PySem.W.Frag} {ρ : List En} {N : List En → Prop} {R : Dt → List En → Prop} {Φ : Dt → Prop} {Ψ : Dt → List En → Prop}
theorem cutD_all {l : List Dt} {lo hi : Option Int} (h : HT.sIx l.length 0 lo = 0 ∧ HT.sIx l.length l.length hi = l.length) : cutD l lo hi = l := by
  unfold cutD
  rw [h.1, h.2, List.drop_zero, Nat.sub_zero, List.take_of_length_le (Nat.le_refl _)]
theorem ae_slT {te : TE} {tl th : TO} (h : AE K te ρ fun d ρ1 => ∃ l, d = .tup l ∧ AO K tl ρ1 fun lo ρ2 => AO K th ρ2 fun hi ρ3 => Ψ (.tup (cutD l lo hi)) ρ3) : AE K (tSl (rSlA K) te tl th) ρ Ψ := fun B σ G H m Q q =>
  h B σ G H m _ fun v d ρ1 G1 H1 m1 s1 t1 r1 ⟨l, ed, h1⟩ => h1 B σ G1 H1 m1 _ fun lo ρ2 G2 H2 m2 s2 t2 h2 => h2 B σ G2 H2 m2 _ fun hi ρ3 G3 H3 m3 s3 t3 k => by
    subst ed
    obtain ⟨p, xs, rfl, hp, r⟩ := r1
    have hp3 := same_sqT s3 (same_sqT s2 hp)
    refine ⟨p, xs, rfl, same_sqT m3.sub hp3, fun w => ?_, fun _ p' hp' => ?_⟩
    · rw [r.length] at w
      have k : Ψ (.tup (cutD l lo hi)) ρ3 := k
      rw [cutD_all w] at k
      exact q _ (.tup l) ρ3 _ _ m3 ((s1.trans s2).trans s3) ((t1.trans t2).trans t3) ⟨p, xs, rfl, hp3, r.same (s2.trans s3)⟩ k
    · have nw := Nw.new (o := .tup (cutV xs lo hi)) m3.sub hp'
      exact q _ (.tup (cutD l lo hi)) ρ3 _ _ (m3.nw nw) (((s1.trans s2).trans s3).trans nw.g) (((t1.trans t2).trans t3).trans (Tr.same nw.h)) ⟨p', _, rfl, SqT.of upd_same, ((r.same (s2.trans s3)).cut).same nw.g⟩ k
end
end Sh
set_option Elab.async false
set_option linter.all false
set_option maxRecDepth 100000
set_option maxHeartbeats 4000000
/-! tuple + tuple -/
set_option Elab.async false
set_option linter.all false
set_option maxRecDepth 100000
set_option maxHeartbeats 4000000
/-! enumerate of a tuple; xs.pop(i), list(e) as a list of one's own, its length -/
namespace Sh
open PySem PySem.Spec PyProof.Rows L2
abbrev enObj (it : Addr) : Obj := { cls := .type "enumerate", data := .fields #[.none, .bool false, .ref it, rawInt 0, .none, .none] }
abbrev tiObj (t : Addr) : Obj := { cls := .type "tuple_iterator", data := .fields #[.ref t, .int 0 0] }
theorem en_new (t : Addr) (its : Array Value) : Meets (Builtin.«enumerate.__new__» ⟨[.type "enumerate", .ref t], []⟩) fun _ R s =>
    s.heap.IsTuple t its ∧ R (.ok (.ret (.ref (s.heap.push (tiObj t)).objs.size))) { s with heap := (s.heap.push (tiObj t)).push (enObj s.heap.objs.size) } := by
  refine .of_wp fun pr wo A R s h => ?_
  obtain ⟨hp, ge, dr, tk, sy⟩ := s
  obtain ⟨ht, fin⟩ := h
  have is_sub := sub_enumerate
  have go : ∀ {A' : Around} {Ex : Value → Shared → Prop} {Qv : Value → Shared → Prop}, Qv (.ref hp.objs.size) ⟨hp.push (tiObj t), ge, dr, tk, sy⟩ → wpAny (model pr wo) A' (pyIter (.ref t)) Qv Ex ⟨hp, ge, dr, tk, sy⟩ :=
    fun q => wpAny_pyIter_tuple (s := ⟨hp, ge, dr, tk, sy⟩) ht q
  wp_walk using go
  refine wpAny_stack_any fun k => wpAny_pure ?_
  split
  · rename_i c _ _ _ _ _
    cases (c == Value.type "enumerate") <;> (wp_walk using go; exact ⟨_, rfl, fin⟩)
  · wp_walk using go
    exact ⟨_, rfl, fin⟩
section
variable {prog : Program} {w : World} {A : Around} {E : Value → Shared → Prop} {s : Shared}
theorem call_en {t : Addr} {its : Array Value} {Q : Value → Shared → Prop} (ht : s.heap.IsTuple t its)
    (q : ∀ h', IsEnum h' (s.heap.objs.size + 1) s.heap.objs.size 0 .none → h'.IsTupleIter s.heap.objs.size t 0 → (∀ b o, s.heap.get? b = some o → h'.get? b = some o) → Q (.ref (s.heap.objs.size + 1)) { s with heap := h' }) :
    wpAny (model prog w) A (call (.type "enumerate") [.ref t]) Q E s := by
  refine callType_new F.called_enumerate (by decide) (F.typeCall_enumerate_1 _) (F.newCall_enumerate_1 _) (fun o => F.args_object_init_2 o _) F.entry_enumerate_new (en_new t its) ⟨ht, ?_⟩
  have sz : (s.heap.push (tiObj t)).objs.size = s.heap.objs.size + 1 := Heap.size_push ..
  show _ ∧ _
  rw [sz]
  have e1 : ((s.heap.push (tiObj t)).push (enObj s.heap.objs.size)).get? (s.heap.objs.size + 1) = some (enObj s.heap.objs.size) := by
    have z := Heap.get?_push_size (s.heap.push (tiObj t)) (o := enObj s.heap.objs.size) rfl
    rwa [sz] at z
  exact ⟨⟨_, e1, rfl⟩, q _ e1 ⟨_, Heap.get?_push_of_some _ (Heap.get?_push_size _ rfl), rfl, rfl⟩ fun b o z => Heap.get?_push_of_some _ (Heap.get?_push_of_some _ z)⟩
end
/-- the tuple at a, each item in a new pair -/
def ItT (K : PySem.W.Frag) (a : Addr) : It :=
  ⟨fun i H => ∃ (xs : List V) (x : V), SqT K H a xs ∧ xs[i]? = some x, fun i H v H' => ∃ T x, v = .ref T ∧ H T = none ∧ H' = upd H T (.tup [.int (i : Nat), x]) ∧ ∀ xs, SqT K H a xs → xs[i]? = some x,
    fun i H => ∃ xs : List V, SqT K H a xs ∧ xs.length ≤ i⟩
theorem turn_en {P : Program} {w : World} {K : PySem.W.Frag} {es : List Expr} {k : Nat} {tp : Pos} (a e it : Addr) :
    Turn P w K (.Tuple es k tp) (ItT K a) [e, it] e (fun i h => (∃ old, IsEnum h e it ((i : Nat) : Int) old) ∧ h.IsTupleIter it a i ∧ e ≠ it) where
  mem := List.mem_cons_self
  obj := fun i h st b hb => by
    obtain ⟨⟨old, he⟩, ⟨o, ho, hc, hd⟩, _⟩ := st
    rcases List.mem_cons.mp hb with rfl | hb
    · exact ⟨_, he, fun v q => nomatch q⟩
    · cases List.mem_singleton.mp hb
      exact ⟨o, ho, fun v q => by rw [hd] at q; cases q⟩
  keep := fun i h h' st k => by
    obtain ⟨⟨old, he⟩, hit, hne⟩ := st
    exact ⟨⟨old, k e List.mem_cons_self _ he⟩, hit.at fun o q => k it (by simp) o q, hne⟩
  item := by
    intro X hP hw hK hc i pins s σ H E I hf st hg
    subst hP hw hK
    obtain ⟨⟨old, he⟩, hit, hne⟩ := st
    obtain ⟨xs, x, hq, hx⟩ := hg
    obtain ⟨its, rv, p, _⟩ := I.tuple hq
    obtain ⟨u, hu, ru⟩ := rv.get hx
    have le : e < s.heap.objs.size := Heap.lt_size he
    have li : it < s.heap.objs.size := by
      obtain ⟨_, q, _⟩ := hit
      exact Heap.lt_size q
    have ea : a ≠ e := fun z => by
      obtain ⟨o, ho, hcl, _⟩ := id p
      rw [z, he] at ho
      cases ho
      exact absurd (Value.type.inj hcl) (by decide)
    have ia : a ≠ it := fun z => by
      obtain ⟨o, ho, hcl, _⟩ := id p
      obtain ⟨o', ho', hcl', _⟩ := id hit
      rw [z, ho'] at ho
      cases ho
      rw [hcl'] at hcl
      exact absurd hcl (by decide)
    have ht : s.heap.IsTuple a its.toArray := p
    have hi : i < its.toArray.size := by
      rw [List.size_toArray]
      exact (List.getElem?_eq_some_iff.mp hu).1
    refine wpAny_pyNext_enum_itemD (Draws.tuple (A := X.A.in1) (I.ok.hd hc) it a ia its.toArray) he ⟨hit, ht⟩ hi hne (fun z => ?_) fun x' h' tk hP ho hs' hT _ kp => ?_
    · rcases List.mem_cons.mp z with z | z
      · exact hne z
      · exact ea (List.mem_singleton.mp z).symm
    · have ux : x' = u := by
        have z : its[i]? = some x' := by simpa using hP
        rw [hu] at z
        exact (Option.some.inj z).symm
      subst ux
      refine ⟨_, rfl, wpAny_letOwnedTupleGo_enum (s := { s with heap := h', toks := tk + 1 }) ho fun h2 he2 sb => ?_⟩
      have hT2 := (sb.2 _ (Nat.ne_of_gt le)).trans hT
      have new : ObjOk X.prog X.w (upd H s.heap.objs.size (.tup [.int (i : Nat), x])) h2 s.heap.objs.size (.tup [.int (i : Nat), x]) :=
        ⟨by show 2 ≤ sizeLine; decide, [.int i tk, x'], .cons ⟨_, rfl⟩ (.cons ru .nil), ⟨_, hT2, rfl, _, rfl⟩⟩
      have J : Inv X pins σ (upd H s.heap.objs.size (.tup [.int (i : Nat), x])) { s with heap := h2, toks := tk + 1 } :=
        I.turnedNew (ch := [e, it]) (fun b o nb q => (sb.2 b fun z => nb (by rw [z]; exact List.mem_cons_self)).trans (kp b o (fun z => nb (by rw [z]; exact List.mem_cons_self)) (fun z => nb (by rw [z]; simp)) q)) hf (Nat.le_refl _) new
      refine ⟨.ref s.heap.objs.size, _, J, rfl, ⟨_, x, rfl, I.hok.fresh (Nat.le_refl _), rfl, fun l hl => by rw [I.tuple_inj hl hq]; exact hx⟩, ⟨⟨x', ?_⟩, hs'.1.at fun o q => (sb.2 it hne.symm).trans q, hne⟩, fun b hb => ?_⟩
      · have e1 : ((i + 1 : Nat) : Int) = (i : Int) + 1 := by omega
        rw [e1]
        exact he2
      · have lt : b < s.heap.objs.size := by
          rcases List.mem_cons.mp hb with rfl | hb
          · exact le
          · cases List.mem_singleton.mp hb
            exact li
        rw [upd_ne (Nat.ne_of_lt lt)]
        exact (hf b hb).1
  done := by
    intro X hP hw hK hc i pins s σ H E I hf st hg
    subst hP hw hK
    obtain ⟨⟨old, he⟩, hit, hne⟩ := st
    obtain ⟨xs, hq, hx⟩ := hg
    obtain ⟨its, rv, p, _⟩ := I.tuple hq
    have ia : a ≠ it := fun z => by
      obtain ⟨o, ho, hcl, _⟩ := id p
      obtain ⟨o', ho', hcl', _⟩ := id hit
      rw [z, ho'] at ho
      cases ho
      rw [hcl'] at hcl
      exact absurd hcl (by decide)
    obtain ⟨f0, f1, f2, f3, f4, f5⟩ := hf it (by simp)
    have hl := rv.length
    have ht : s.heap.IsTuple a its.toArray := p
    have D0 := Draws.tuple (prog := X.prog) (w := X.w) (A := X.A.in1) (I.ok.hd hc) it a ia its.toArray
    have D : Draws X.prog X.w X.A.in1 it [it, a] 0 (fun _ _ => True) (fun _ h => h.IsTupleIter it a i ∧ h.IsTuple a its.toArray) :=
      ⟨fun _ h st => D0.live i h st, fun _ h h' st k => D0.frame i h h' st k, fun j s Q E hj => absurd hj (Nat.not_lt_zero j), fun s Q E st hE => wpAny_nextOf_tuple_end (I.ok.hd hc) st.1 st.2 (by simp; omega) hE⟩
    exact wpAny_pyNext_enum_endD D he ⟨hit, ht⟩ fun h' eb => ⟨rfl, I.turned (t' := s.toks) (fun b o hb q => eb b o hb q) f0 f1 f3 f4 f5⟩
  self := fun A i s Q E st h => by
    obtain ⟨⟨_, he⟩, _⟩ := st
    exact wpAny_pyIter_enum he h
def iEnT (K : PySem.W.Frag) (ta : TA) : TI := fun σ H R => ta σ H fun vs H1 => ∃ a xs, vs = [.ref a] ∧ SqT K H1 a xs ∧ R (ItT K a) H1
theorem pi_enT {X : Cx} {e : Expr} {ta : TA} {p pos tp : Pos} {es : List Expr} {k : Nat} (hg : Gl X "enumerate") (hm : X.mg "enumerate" = none) (ha : PA X [e] ta) (hs : starEach [e] X.env = [(false, eval e X.env)] := by rfl) :
    PI X (.Tuple es k tp) (.Call (.Name "enumerate" p) [e] [] pos) (iEnT X.K ta) := by
  refine ⟨fun pins s σ H R I h => Call_ (ld_blt I hg hm boot_enumerate (PyProof.Rows.callWith_type1 (thn (ha.run pos pins s σ H _ I h) fun us s1 ⟨vs, H1, I1, r1, a, xs, ex, hq, q⟩ => ?_) hs rfl))⟩
  subst ex
  obtain ⟨u, rfl, ru⟩ := vals1 r1
  obtain rfl : u = .ref a := ru
  obtain ⟨its, rv, p', hz⟩ := I1.tuple hq
  refine call_en (show s1.heap.IsTuple a its.toArray from p') fun h' he hit kp => wpAny_pyIter_enum he ?_
  have I2 : Inv X pins σ H1 { s1 with heap := h' } := I1.kept (t' := s1.toks) kp
  refine ⟨s1.heap.objs.size + 1, [s1.heap.objs.size + 1, s1.heap.objs.size], _, _, H1, rfl, I2, turn_en a (s1.heap.objs.size + 1) s1.heap.objs.size, ⟨⟨.none, he⟩, hit, Nat.succ_ne_self _⟩, fun b hb => ?_, q⟩
  have le : s1.heap.objs.size ≤ b := by
    rcases List.mem_cons.mp hb with rfl | hb
    · exact Nat.le_succ _
    · cases List.mem_singleton.mp hb
      exact Nat.le_refl _
  exact I1.fpOk le (I1.hok.fresh le)
theorem walk_enT {K : PySem.W.Frag} {a : Addr} {xs : List V} : Walk (ItT K a) xs.length (fun H => SqT K H a xs) (YPair (fun i => some (.int (i : Nat))) (fun i => xs[i]?)) := by
  refine ⟨fun i _ hi q => ⟨xs, xs[i], q, List.getElem?_eq_getElem hi⟩, fun _ q => ⟨xs, q, Nat.le_refl _⟩, fun i H v H' _ q y => ?_⟩
  obtain ⟨T, x, z1, z2, z3, z4⟩ := y
  exact ⟨T, .int (i : Nat), x, z1, z2, z3, rfl, z4 xs q⟩
section
variable {K : PySem.W.Frag} {ρ : List En} {N : List En → Prop} {R : Dt → List En → Prop} {Ψ : Dt → List En → Prop}
theorem wj_enT {a : Addr} {xs : List V} {l : List Dt} {G : Hp} (h : SqT K G a xs) (r : RDs K G l xs) : Wj K (ItT K a) (enD l) G := by
  have e := r.length
  have w := walk_enT (K := K) (a := a) (xs := xs)
  have el : (enD l).length = xs.length := by rw [enD_len, e]
  refine ⟨fun i H hi s => w.goes i H (by rw [el] at hi; exact hi) (same_sqT s h), fun H s => by rw [el]; exact w.stops H (same_sqT s h), fun i G1 H x H' hi s1 s2 y => ?_⟩
  obtain ⟨T, u, v, rfl, nT, rfl, f1, f2⟩ := w.yields i H x H' (by rw [el] at hi; exact hi) (same_sqT s2 (same_sqT s1 h)) y
  cases f1
  obtain ⟨d2, g2, q2⟩ := r.back f2
  obtain ⟨G', n, rd⟩ := nw_pair (K := K) (d := .int ((i : Nat) : Int)) s2 nT rfl (q2.same s1)
  exact ⟨G', _, n, enD_get g2, rd⟩
theorem ai_enT {ta : TA} {Θ : List Dt → List En → Prop} (h : AA K ta ρ fun ds ρ1 => ∃ l, ds = [.tup l] ∧ Θ (enD l) ρ1) : AI K (iEnT K ta) ρ Θ := fun B σ G H mm Rr q =>
  h B σ G H mm _ fun vs ds ρ1 G1 H1 m1 s1 t1 r1 ⟨l, e, p⟩ => by
    subst e
    obtain ⟨x, rfl, ⟨a, xs, rfl, h1, h2⟩⟩ := r1.one
    exact ⟨a, xs, rfl, same_sqT m1.sub h1, q _ _ ρ1 G1 H1 m1 s1 t1 (wj_enT h1 h2) p⟩
end
end Sh
set_option Elab.async false
set_option linter.all false
set_option maxRecDepth 100000
set_option maxHeartbeats 4000000
/-! a starred item of a list display; a field of an object as one of several targets -/
set_option Elab.async false
set_option linter.all false
set_option maxRecDepth 100000
set_option maxHeartbeats 4000000
/-! values and states as data (k50 to k56) -/
namespace Sh
open PySem PySem.Spec PyProof.Rows L2
structure Vl where
  lo : Option Int
  hi : Option Int
  m : Int
  r : Int
abbrev vlD (v : Vl) : Dt := vD v.lo v.hi v.m v.r
def ovD : Option Vl → Dt
  | none => .non
  | some v => vlD v
/-- value_of as a value -/
def voV (lo hi : Option Int) (m r : Int) : Option Vl := if m = 0 then (if letsB lo hi r then some ⟨some r, some r, 0, r⟩ else none) else
  match lo.map (upR r m), hi.map (dnR r m) with
  | some a, some b => if b ≤ a then (if a = b then some ⟨some a, some a, 0, a⟩ else none) else some ⟨some a, some b, m, r⟩
  | a, b => some ⟨a, b, m, r⟩
theorem voD_V (lo hi : Option Int) (m r : Int) : voD lo hi m r = ovD (voV lo hi m r) := by
  unfold voD voV
  split
  · split <;> rfl
  · generalize lo.map (upR r m) = p
    generalize hi.map (dnR r m) = q
    cases p with
    | none => cases q <;> rfl
    | some a =>
      cases q with
      | none => rfl
      | some b =>
        show (if b ≤ a then (if a = b then _ else _) else _) = ovD (if b ≤ a then (if a = b then _ else _) else _)
        by_cases c : b ≤ a
        · rw [if_pos c, if_pos c]
          by_cases e : a = b
          · rw [if_pos e, if_pos e]; rfl
          · rw [if_neg e, if_neg e]; rfl
        · rw [if_neg c, if_neg c]; rfl
def tmL (a b : Option Int) : Option Int := match a, b with
  | none, b => b
  | some x, none => some x
  | some x, some y => some (if y > x then y else x)
def tmH2 (a b : Option Int) : Option Int := match a, b with
  | none, b => b
  | some x, none => some x
  | some x, some y => some (if y < x then y else x)
def cutVl (v : Vl) (lo hi : Option Int) : Option Vl := voV (tmL v.lo lo) (tmH2 v.hi hi) v.m v.r
/-- a state: values, bounds of differences, pieces of the arrays -/
structure Sta where
  vs : List Vl
  gp : Option (Nat → Nat → Option Int)
  its : List (List (Nat × Vl))
def gpD (n : Nat) (g : Nat → Nat → Option Int) : Dt := .tup ((List.range n).map fun i => .tup ((List.range n).map fun j => oD (g i j)))
def ogD (n : Nat) : Option (Nat → Nat → Option Int) → Dt
  | none => .non
  | some g => gpD n g
def peD (p : Nat × Vl) : Dt := .tup [.int (p.1 : Int), vlD p.2]
def pcD (ps : List (Nat × Vl)) : Dt := .tup (ps.map peD)
def Sta.d (s : Sta) : Dt := .tup [.tup (s.vs.map vlD), ogD s.vs.length s.gp, .tup (s.its.map pcD)]
/-- all there, or none -/
def allS : List (Option Vl) → Option (List Vl)
  | [] => some []
  | none :: _ => none
  | some v :: l => (allS l).map (v :: ·)
theorem allS_none : ∀ os : List (Option Vl), allS os = none ↔ os.any Option.isNone = true
  | [] => ⟨fun h => (nomatch h), fun h => (nomatch h)⟩
  | none :: os => ⟨fun _ => rfl, fun _ => rfl⟩
  | some v :: os => by
    show (allS os).map (v :: ·) = none ↔ (false || os.any Option.isNone) = true
    rw [Bool.false_or, ← allS_none os]
    cases allS os <;> simp
theorem allS_some : ∀ (os : List (Option Vl)) (vs : List Vl), allS os = some vs → os = vs.map some
  | [], vs, h => by cases h; rfl
  | none :: os, vs, h => nomatch h
  | some v :: os, vs, h => by
    have h : (allS os).map (v :: ·) = some vs := h
    cases e : allS os with
    | none => rw [e] at h; cases h
    | some ws =>
      rw [e] at h
      cases h
      rw [allS_some os ws e]
      rfl
def toO : Dt → Option Int
  | .int i => some i
  | _ => none
theorem toO_oD (o : Option Int) : toO (oD o) = o := by cases o <;> rfl
def toV : Dt → Vl
  | .tup [lo, hi, .int m, .int r] => ⟨toO lo, toO hi, m, r⟩
  | _ => ⟨none, none, 0, 0⟩
theorem toV_vlD (v : Vl) : toV (vlD v) = v := by
  show (⟨toO (oD v.lo), toO (oD v.hi), v.m, v.r⟩ : Vl) = v
  rw [toO_oD, toO_oD]
def cutF : Dt → Dt
  | .tup [v, .tup [lo, hi]] => ovD (cutVl (toV v) (toO lo) (toO hi))
  | _ => .non
def soD (os : List (Option Vl)) (g : Dt) (its : List Dt) : Dt := match allS os with
  | none => .non
  | some vs => .tup [.tup (vs.map vlD), g, .tup its]
end Sh
set_option Elab.async false
set_option linter.all false
set_option maxRecDepth 100000
set_option maxHeartbeats 4000000
namespace Sh
open PySem PySem.Spec PyProof.Rows L2
def topS (i : Nat) : Stmt := PySem.Challenge.pw_shadowruns_k52_states_tightened.main.body.getD i (.Pass ⟨0, 0, 0, 0⟩)
abbrev sBox : Stmt := topS 23
abbrev sTake : Stmt := topS 24
abbrev sCells : Stmt := topS 25
abbrev sOf : Stmt := topS 26
theorem scBox : FnScope ["_law_script", "_law_k", "_law_cell"] ["_law_script", "_law_k"] (defScope sBox) := ⟨rfl, rfl, rfl, by decide +kernel, rfl, by decide +kernel, by decide +kernel⟩
theorem scTake : FnScope ["_law_box_here", "_law_below", "_law_found", "_law_once", "_law_twice"] ["_law_box_here", "_law_below"] (defScope sTake) := ⟨rfl, rfl, rfl, by decide +kernel, rfl, by decide +kernel, by decide +kernel⟩
theorem scCells : FnScope ["_law_script", "_law_most", "_law_cells_here", "_law_k", "_law_cell"] ["_law_script", "_law_most"] (defScope sCells) := ⟨rfl, rfl, rfl, by decide +kernel, rfl, by decide +kernel, by decide +kernel⟩
/-! numbers -/
theorem fm0 {a b : Int} (h : 0 < b) : 0 ≤ a.fmod b := Int.fmod_nonneg_of_pos a h
theorem fm1 {a b : Int} (h : 0 < b) : a.fmod b < b := Int.fmod_lt_of_pos a h
theorem fd0 {a b : Int} (h : 0 ≤ a) (hb : 0 ≤ b) : 0 ≤ a.fdiv b := Int.fdiv_nonneg h hb
theorem fdle {a b : Int} (h : 0 ≤ a) (hb : 0 < b) : a.fdiv b ≤ a := by
  rw [Int.fdiv_eq_ediv_of_nonneg _ (by omega)]
  exact Int.ediv_le_self b h
theorem b01 (c : Bool) : (if c = true then (1 : Int) else 0) = 0 ∨ (if c = true then (1 : Int) else 0) = 1 := by cases c <;> simp
theorem b01s (c : Bool) : -(2 ^ 64) < (if c = true then (1 : Int) else 0) ∧ (if c = true then (1 : Int) else 0) < 2 ^ 64 := by cases c <;> decide
theorem nz (k : Int) (h : decide (k = 0) = false := by decide) : k ≠ 0 := of_decide_eq_false h
theorem But.of {b : Addr} {H H' : Hp} (h : Same H H') : But b H H' := fun a o _ e => h a o e
theorem But.refl {b : Addr} {H : Hp} : But b H H := fun _ _ _ e => e
theorem But.trans {b : Addr} {H H1 H2 : Hp} (x : But b H H1) (y : But b H1 H2) : But b H H2 := fun a o n e => y a o n (x a o n e)
section
variable {P : Program} {w : World} {K : PySem.W.Frag} {mg : Str → Option Value} {base : Heap}
/-! ### _law_box -/
def spBox (K : PySem.W.Frag) : Sp := fun vs H Q _ => ∃ (a : Addr) (ns : List Int) (k : Int), vs = [.ref a, .int k] ∧ SqL K H a (ns.map V.int) ∧ ns.length ≤ 1000 ∧ 0 ≤ k ∧ k ≤ 1000 ∧
  ∀ p x y, H p = none → 0 ≤ x → 0 ≤ y → y < 4611686018427387904 → Q (.ref p) (upd H p (.lst [.int x, .int y, .int 0]))
/-- what is left behind the cell z -/
theorem box_tail {H : Hp} {Q : VK} {k z : Int} (hq : ∀ p x y, H p = none → 0 ≤ x → 0 ≤ y → y < 4611686018427387904 → Q (.ref p) (upd H p (.lst [.int x, .int y, .int 0]))) (k0 : 0 ≤ k) (k1 : k ≤ 1000)
    {p : Addr} (hp : H p = none) (j : Int) (hj : j = 0 ∨ j = 1) : Q (.ref p) (upd H p (.lst [.int ((if z < 0 then -z else z) * j), .int (z.fmod 2305843009213693951 + 39373 * k + 71), .int 0])) := by
  have e0 : (0 : Int) ≤ z.fmod 2305843009213693951 := fm0 (by decide)
  have e1 : z.fmod 2305843009213693951 < 2305843009213693951 := fm1 (by decide)
  refine hq p _ _ hp ?_ (by omega) (by omega)
  have a0 : 0 ≤ (if z < 0 then -z else z) := by split <;> omega
  rcases hj with rfl | rfl
  · rw [Int.mul_zero] <;> decide
  · rw [Int.mul_one]; exact a0
theorem ok_box {f : Addr} {fd : FuncData} {n : Nat} (F : Fun K "_law_box" "_law_box" sBox f fd) (ml : mg "len" = none) (ma : mg "abs" = none) (mi : mg "int" = none) : FnOk P w K mg base CX0 (n + 1) f fd ["_law_script", "_law_k"] (spBox K) := by
  refine F.ok scBox (fun vs H Q E h => ?_) (fun cdv A outer s H vs Q E hr h => ?_)
  · obtain ⟨a, ns, k, rfl, _⟩ := h
    rfl
  obtain ⟨a, ns, k, rfl, hS, hlen, k0, k1, q⟩ := h
  refine ⟨_, pss_cons (ps_set (i := 2) scBox.nd rfl (Or.inl rfl) (pe_ifExp (pt_cmpR op_lt (pv 1) (pe_callB call_len_seq rfl ml PySem.boot_len (pa_cons (pv 0) pa_nil)) (nomark _)) (pe_ix ix_list (pv 0) (pv 1) (fun _ _ => rfl)) pe_int))
    (pss_one (ps_ret (pe_lst (pa_cons (pe_op op_mul (pe_callB call_abs rfl ma (by decide +kernel) (pa_cons (pv 2) pa_nil)) (pe_callTy call_int1 rfl mi (by decide +kernel) (pa_cons (pe_cmpR op_ge (pe_callB call_abs rfl ma (by decide +kernel) (pa_cons (pv 2) pa_nil)) (pe_op op_pow pe_int pe_int) (nomark _)) pa_nil)))
      (pa_cons (pe_op op_add (pe_op op_add (pe_op op_modN (pv 2) pe_int) (pe_op op_mul pe_int (pv 1))) pe_int) (pa_cons pe_int pa_nil)))))), ?_⟩
  have hl : (ns.map V.int).length = ns.length := List.length_map _
  refine ⟨_, rfl, _, rfl, a, _, rfl, .inl hS, _, _, rfl, rfl, _, rfl, ?_⟩
  have hr64 : (0 : Int) < 2305843009213693951 := by decide
  refine ite2 (fun c => ?_) (fun c => ?_)
  have c' : k < (((ns.map V.int).length : Nat) : Int) := of_decide_eq_true c
  rw [hl] at c'
  have hk : k.toNat < ns.length := by omega
  have ek : k = ((k.toNat : Nat) : Int) := by omega
  have g : atI (ns.map V.int) k = some (.int ns[k.toNat]) := at_of ek (by rw [List.getElem?_map, List.getElem?_eq_getElem hk] <;> rfl)
  refine ⟨_, rfl, _, rfl, a, _, _, _, rfl, rfl, hS, g, ?_⟩
  generalize ns[k.toNat] = z
  all_goals
    refine ⟨_, rfl, _, rfl, _, rfl, _, rfl, _, _, rfl, rfl, ⟨by decide, by decide, by decide⟩, _, _, rfl, rfl, .inr ⟨_, rfl, _, _, rfl, rfl, .inr (b01s _), ?_⟩⟩
    refine ⟨_, rfl, _, _, rfl, rfl, (nz _), _, rfl, _, _, rfl, rfl, .inl ⟨by decide, by decide⟩, _, _, rfl, rfl, _, _, rfl, rfl, (by show 3 ≤ sizeLine; decide), fun p hp => ?_⟩
    exact box_tail q k0 k1 hp _ (b01 _)
/-! ### _law_take -/
def spTake : Sp := fun vs H Q _ => ∃ (b : Addr) (m y c : Int), vs = [.ref b, .int m] ∧ Bx H b y c ∧ 0 ≤ c ∧ c < 1000000000000 ∧ 1 ≤ m ∧ m ≤ 10000000 ∧
  ∀ v c' H', 0 ≤ v → v < m → c ≤ c' → c' ≤ c + 1 → Bx H' b y c' → But b H H' → Q (.int v) H'
theorem bx_up {H : Hp} {b : Addr} {x y c : Int} {xs : List V} (e : xs = [.int x, .int y, .int c]) (h : 0 ≤ x) (h1 : 0 ≤ y) (h2 : y < 4611686018427387904) : Bx (upd H b (.lst xs)) b y c := ⟨x, by rw [e, upd_same], h, h1, h2⟩
theorem tw_ok {o c y : Int} (c0 : 0 ≤ c) (c1 : c < 1000000000000) (y0 : 0 ≤ y) (y1 : y < 4611686018427387904) : -(2 ^ 64) < o.fmod 2147483647 + (c + 1) + y.fdiv 1000003 ∧ o.fmod 2147483647 + (c + 1) + y.fdiv 1000003 < 2 ^ 64 := by
  have h0 : (0 : Int) ≤ o.fmod 2147483647 := fm0 (by decide)
  have h1 : o.fmod 2147483647 < 2147483647 := fm1 (by decide)
  have h2 : 0 ≤ y.fdiv 1000003 := fd0 y0 (by decide)
  have h3 : y.fdiv 1000003 ≤ y := fdle y0 (by decide)
  refine ⟨?_, ?_⟩ <;> omega
theorem tw_ok2 {o : Int} : -(2 ^ 64) < o.fmod 2147483629 ∧ o.fmod 2147483629 < 2 ^ 64 := by
  have h0 : (0 : Int) ≤ o.fmod 2147483629 := fm0 (by decide)
  have h1 : o.fmod 2147483629 < 2147483629 := fm1 (by decide)
  refine ⟨?_, ?_⟩ <;> omega
theorem ok_take {f : Addr} {fd : FuncData} {n : Nat} (F : Fun K "_law_take" "_law_take" sTake f fd) : FnOk P w K mg base CX0 (n + 1) f fd ["_law_box_here", "_law_below"] spTake := by
  refine F.ok scTake (fun vs H Q E h => ?_) (fun cdv A outer s H vs Q E hr h => ?_)
  · obtain ⟨b, m, y, c, rfl, _⟩ := h
    rfl
  obtain ⟨b, m, y, c, rfl, ⟨x, hB, x0, y0, y1⟩, c0, c1, m0, m1, q⟩ := h
  refine ⟨_, pss_cons (ps_if (pt_cmpR op_gt (pe_ix ix_list (pv 0) pe_int (fun _ _ => rfl)) pe_int (nomark _))
      (pss_cons (ps_set (i := 2) scTake.nd rfl (Or.inl rfl) (pe_op op_modN (pe_ix ix_list (pv 0) pe_int (fun _ _ => rfl)) (pv 1)))
      (pss_cons (ps_asg (pe_op op_fdivN (pe_ix ix_list (pv 0) pe_int (fun _ _ => rfl)) (pv 1)) (pg_sub (pv 0) pe_int set_list))
      (pss_one (ps_ret (pv 2))))) pss_nil)
    (pss_cons (ps_if (pt_cmpR op_gt (pv 1) (pe_op op_pow pe_int pe_int) (nomark _)) pss_never pss_nil)
    (pss_cons (ps_asg (pe_op op_add (pe_ix ix_list (pv 0) pe_int (fun _ _ => rfl)) pe_int) (pg_sub (pv 0) pe_int set_list))
    (pss_cons (ps_set (i := 3) scTake.nd rfl (Or.inl rfl) (pe_op op_modN (pe_op op_mul (pe_op op_add (pe_ix ix_list (pv 0) pe_int (fun _ _ => rfl)) (pe_op op_mul pe_int (pe_ix ix_list (pv 0) pe_int (fun _ _ => rfl)))) (pe_op op_add pe_int (pe_ix ix_list (pv 0) pe_int (fun _ _ => rfl)))) pe_int))
    (pss_cons (ps_set (i := 4) scTake.nd rfl (Or.inl rfl) (pe_op op_modN (pe_op op_mul (pe_op op_add (pe_op op_add (pv 3) (pe_ix ix_list (pv 0) pe_int (fun _ _ => rfl))) (pe_op op_fdivN (pe_ix ix_list (pv 0) pe_int (fun _ _ => rfl)) pe_int)) (pe_op op_add (pe_op op_modN (pv 3) pe_int) pe_int)) pe_int))
    (pss_one (ps_ret (pe_op op_modN (pe_op op_fdivN (pe_op op_modN (pe_op op_add (pe_op op_mul (pv 4) pe_int) (pv 3)) pe_int) pe_int) (pv 1)))))))), ?_⟩
  refine ⟨_, rfl, b, _, _, _, rfl, rfl, SqL.of hB, at_of (j := 0) rfl rfl, _, _, rfl, rfl, _, rfl, ?_⟩
  refine ite2 (fun t => ?_) (fun t => ?_)
  · have t' : x > 0 := of_decide_eq_true t
    refine ⟨_, rfl, b, _, _, _, rfl, rfl, SqL.of hB, at_of (j := 0) rfl rfl, _, rfl, _, _, rfl, rfl, (by omega), ?_⟩
    refine ⟨_, rfl, b, _, _, _, rfl, rfl, SqL.of hB, at_of (j := 0) rfl rfl, _, rfl, _, _, rfl, rfl, ⟨by omega, by omega⟩, ?_⟩
    refine ⟨_, rfl, b, _, _, 0, rfl, rfl, hB, rfl, _, rfl, ?_⟩
    exact q _ c _ (fm0 (by omega)) (fm1 (by omega)) (by omega) (by omega) (bx_up rfl (fd0 x0 (by omega)) y0 y1) but_upd
  · refine ⟨_, rfl, _, _, rfl, rfl, ⟨by decide, by decide, by decide⟩, _, _, rfl, rfl, _, rfl, ?_⟩
    refine ite2 (fun t2 => ?_) (fun t2 => ?_)
    · exfalso
      have t3 : m > 10 ^ 7 := of_decide_eq_true t2
      have t4 : (10 : Int) ^ 7 = 10000000 := by decide
      omega
    · have hB1 : (upd H b (.lst [.int x, .int y, .int (c + 1)])) b = some (.lst [.int x, .int y, .int (c + 1)]) := upd_same
      refine ⟨_, rfl, b, _, _, _, rfl, rfl, SqL.of hB, at_of (j := 2) rfl rfl, _, _, rfl, rfl, _, rfl, b, _, _, 2, rfl, rfl, hB, rfl, ?_⟩
      refine ⟨_, rfl, b, _, _, _, rfl, rfl, SqL.of hB1, at_of (j := 1) rfl rfl, _, rfl, b, _, _, _, rfl, rfl, SqL.of hB1, at_of (j := 2) rfl rfl, _, _, rfl, rfl, .inl ⟨by decide, by decide⟩, _, _, rfl, rfl,
        _, rfl, b, _, _, _, rfl, rfl, SqL.of hB1, at_of (j := 2) rfl rfl, _, _, rfl, rfl, _, _, rfl, rfl, .inl ⟨by omega, by omega⟩, _, _, rfl, rfl, (nz _), ?_⟩
      refine ⟨_, rfl, _, rfl, b, _, _, _, rfl, rfl, SqL.of hB1, at_of (j := 2) rfl rfl, _, _, rfl, rfl, _, rfl, b, _, _, _, rfl, rfl, SqL.of hB1, at_of (j := 1) rfl rfl, _, _, rfl, rfl, ⟨by decide, by decide⟩, _, _, rfl, rfl,
        _, rfl, _, _, rfl, rfl, (nz _), _, _, rfl, rfl, _, _, rfl, rfl, .inl (tw_ok c0 c1 y0 y1), _, _, rfl, rfl, (nz _), ?_⟩
      refine ⟨_, rfl, _, _, rfl, rfl, .inl tw_ok2, _, rfl, _, _, rfl, rfl, _, _, rfl, rfl, (nz _), _, _, rfl, rfl, ⟨by decide, by decide⟩, _, rfl, _, _, rfl, rfl, (by omega), ?_⟩
      exact q _ (c + 1) _ (fm0 (by omega)) (fm1 (by omega)) (by omega) (by omega) (bx_up rfl x0 y0 y1) but_upd
/-! ### _law_of -/
theorem But.seq {b a : Addr} {H H' : Hp} {xs : List V} (e : But b H H') (n : a ≠ b) (h : SqL K H a xs) : SqL K H' a xs := by
  rcases h with (h | ⟨o, h⟩) | h
  · exact .inl (.inl (e _ _ n h))
  · exact .inl (.inr ⟨o, e _ _ n h⟩)
  · exact .inr h
/-! ### _law_cells -/
theorem fm_nat (i m : Nat) : (i : Int).fmod (m : Int) = ((i % m : Nat) : Int) := by
  rw [Int.fmod_eq_emod_of_nonneg _ (Int.natCast_nonneg m)]; exact (Int.natCast_emod i m).symm
theorem cut_to (ns : List Int) (m : Nat) : cutV (ns.map V.int) none (some (m : Int)) = (ns.take m).map V.int := by
  unfold cutV
  rw [HT.sIx_none, HT.sIx_nat, List.length_map, List.drop_zero, Nat.sub_zero, List.map_take]
  by_cases h : m ≤ ns.length
  · rw [Nat.min_eq_left h]
  · rw [Nat.min_eq_right (by omega), List.take_of_length_le (by rw [List.length_map]; exact Nat.le_refl _), List.take_of_length_le (by rw [List.length_map]; omega)]
theorem cut_from (ns : List Int) (m : Nat) (h : ns.length ≤ 63) : cutV (ns.map V.int) (some (m : Int)) (some 63) = (ns.drop m).map V.int := by
  unfold cutV
  have e63 : HT.sIx (ns.map V.int).length (ns.map V.int).length (some 63) = min 63 (ns.map V.int).length := HT.sIx_nat _ _ 63
  rw [HT.sIx_nat, e63, List.length_map, Nat.min_eq_right h, List.map_drop]
  by_cases hm : m ≤ ns.length
  · rw [Nat.min_eq_left hm, List.take_of_length_le (by rw [List.length_drop, List.length_map]; exact Nat.le_refl _)]
  · rw [Nat.min_eq_right (by omega), List.drop_eq_nil_of_le (by rw [List.length_map]; exact Nat.le_refl _), List.drop_eq_nil_of_le (by rw [List.length_map]; omega), List.take_nil]
def cells0 (ns : List Int) (m : Nat) : List Int := if ns.take m = [] then [0] else ns.take m
theorem cells0_pos {ns : List Int} {m : Nat} : 1 ≤ (cells0 ns m).length := by
  unfold cells0
  split
  · exact Nat.le_refl _
  · rename_i h
    exact List.length_pos_iff.mpr h
theorem cells0_le {ns : List Int} {m : Nat} (hm : 1 ≤ m) : (cells0 ns m).length ≤ m := by
  unfold cells0
  split
  · exact hm
  · rw [List.length_take]; omega
theorem cells0_full {ns : List Int} {m : Nat} (hm : 1 ≤ m) (h : m ≤ ns.length) : (cells0 ns m).length = m := by
  unfold cells0
  have e : (ns.take m).length = m := by rw [List.length_take]; omega
  rw [if_neg (fun z => by rw [z] at e; simp at e; omega), e]
def spCells (K : PySem.W.Frag) : Sp := fun vs H Q _ => ∃ (a : Addr) (ns : List Int) (m : Nat), vs = [.ref a, .int (m : Int)] ∧ SqL K H a (ns.map V.int) ∧ ns.length ≤ 63 ∧ 1 ≤ m ∧ m ≤ 63 ∧
  ∀ p (ms : List Int) H', H p = none → Same H H' → H' p = some (.lst (ms.map V.int)) → 1 ≤ ms.length → ms.length ≤ m → Q (.ref p) H'
theorem ok_cells {f : Addr} {fd : FuncData} {n : Nat} (F : Fun K "_law_cells" "_law_cells" sCells f fd) (ml : mg "list" = none) (me : mg "enumerate" = none) : FnOk P w K mg base CX0 (n + 1) f fd ["_law_script", "_law_most"] (spCells K) := by
  refine F.ok scCells (fun vs H Q E h => ?_) (fun cdv A outer s H vs Q E hr h => ?_)
  · obtain ⟨a, ns, m, rfl, _⟩ := h
    rfl
  obtain ⟨a, ns, m, rfl, hS, hn, m1, m2, q⟩ := h
  refine ⟨_, pss_cons (ps_set (i := 2) scCells.nd rfl (Or.inl rfl) (pe_orT (pe_callTy call_list_of rfl ml (by decide +kernel) (pa_cons (pe_slice sl_list (pv 0) po_none (po_some (pv 1))) pa_nil)) (pe_one (pe_lst (pa_cons pe_int pa_nil)))))
    (pss_cons (ps_for PassesOwn.never rfl (pi_enum rfl me (pa_cons (pe_slice sl_list (pv 0) (po_some (pv 1)) (po_some pe_int)) pa_nil)) (pg_tup rfl (pgs_cons (pg_name (i := 3) scCells.nd rfl (Or.inl rfl)) (pgs_cons (pg_name (i := 4) scCells.nd rfl (Or.inl rfl)) pgs_nil)))
      (pss_one (ps_asg (pe_op op_add (pe_ix ix_list (pv 2) (pe_op op_modN (pv 3) (pv 1)) (fun _ _ => rfl)) (pe_op op_mul (pv 4) (pe_op op_add (pv 3) pe_int))) (pg_sub (pv 2) (pe_op op_modN (pv 3) (pv 1)) set_list))))
    (pss_one (ps_ret (pv 2)))), ?_⟩
  refine ⟨_, rfl, _, rfl, _, rfl, a, _, rfl, hS, fun c nc => ?_⟩
  rw [cut_to]
  refine ⟨c, _, rfl, .inl (SqL.of upd_same), fun l nl => ?_⟩
  have sc1 : Same H (upd H c (.lst ((ns.take m).map V.int))) := same_up nc
  have sl1 := sc1.trans (same_up (o := .lst ((ns.take m).map V.int)) nl)
  have nl0 : H l = none := sc1.free nl
  refine ⟨_, .inl ⟨_, SqL.of upd_same, rfl⟩, ?_⟩
  refine ite2 (fun t => ?_) (fun t => ?_)
  rotate_left
  have et : ns.take m = [] := by
    cases e : ns.take m with
    | nil => rfl
    | cons z r => rw [e] at t; exact absurd rfl t
  refine ⟨by show 1 ≤ sizeLine; decide, fun p np => ?_⟩
  have nl0 : H p = none := sl1.free np
  have sl1 := sl1.trans (same_up (o := .lst [.int 0]) np)
  have hp : (upd (upd (upd H c (.lst ((ns.take m).map V.int))) l (.lst ((ns.take m).map V.int))) p (.lst [.int 0])) p = some (.lst ((cells0 ns m).map V.int)) := by rw [upd_same, cells0, if_pos et]; rfl
  generalize upd (upd (upd H c (.lst ((ns.take m).map V.int))) l (.lst ((ns.take m).map V.int))) p (.lst [.int 0]) = H1 at hp sl1 ⊢
  rotate_left
  have et : ns.take m ≠ [] := fun e => by
    rw [e] at t
    exact absurd t (by decide)
  have hp : (upd (upd H c (.lst ((ns.take m).map V.int))) l (.lst ((ns.take m).map V.int))) l = some (.lst ((cells0 ns m).map V.int)) := by rw [upd_same, cells0, if_neg et]
  generalize upd (upd H c (.lst ((ns.take m).map V.int))) l (.lst ((ns.take m).map V.int)) = H1 at hp sl1 ⊢
  obtain ⟨p, ep⟩ : ∃ p, p = l := ⟨_, rfl⟩
  subst ep
  all_goals
    refine ⟨_, rfl, _, rfl, _, rfl, 63, rfl, a, _, rfl, sl1.seq hS, fun d nd => ?_⟩
    rw [cut_from ns m hn]
    have sd := sl1.trans (same_up (o := .lst ((ns.drop m).map V.int)) nd)
    have hd : (upd H1 d (.lst ((ns.drop m).map V.int))) d = some (.lst ((ns.drop m).map V.int)) := upd_same
    have hpd : (upd H1 d (.lst ((ns.drop m).map V.int))) p = some (.lst ((cells0 ns m).map V.int)) := by rw [upd_ne (ne_of_none hp nd)]; exact hp
    have ndp : d ≠ p := (ne_of_none hp nd).symm
    generalize upd H1 d (.lst ((ns.drop m).map V.int)) = H2 at sd hd hpd ⊢
    refine ⟨d, _, rfl, SqL.of hd, for_it walk_enum (fun i σ H3 => ∃ y3 y4, ∃ ms : List Int, σ = [some (.ref a), some (.int (m : Int)), some (.ref p), y3, y4] ∧ Same H H3 ∧ H3 d = some (.lst ((ns.drop m).map V.int)) ∧ H3 p = some (.lst (ms.map V.int)) ∧ ms.length = (cells0 ns m).length)
      ⟨none, none, _, rfl, sd, hd, hpd, rfl⟩ (fun i σ H3 _ ⟨_, _, _, _, _, e, _⟩ => SqL.of e) ?_ ?_⟩
    · rintro i x σ H3 H4 hi ⟨y3, y4, ms, rfl, s3, e3, ep, el⟩ ⟨T, v1, v2, rfl, nT, rfl, f1, f2⟩
      cases f1
      have hi' : i < (ns.drop m).length := by rw [List.length_map] at hi; exact hi
      have f2' : some (V.int (ns.drop m)[i]) = some v2 := by rw [← f2]; show _ = (List.map V.int (List.drop m ns))[i]?; rw [List.getElem?_map, List.getElem?_eq_getElem hi'] <;> rfl
      cases f2'
      rw [List.length_drop] at hi'
      have lm : ms.length = m := by rw [el]; exact cells0_full m1 (by omega)
      have hk : i % m < ms.length := by rw [lm]; exact Nat.mod_lt _ (by omega)
      have hA : atI (ms.map V.int) ((i : Int).fmod (m : Int)) = some (.int ms[i % m]) := at_of (fm_nat i m) (by rw [List.getElem?_map, List.getElem?_eq_getElem hk] <;> rfl)
      have hX : ixN (ms.map V.int).length ((i : Int).fmod (m : Int)) = some (i % m) := by
        rw [fm_nat]
        unfold ixN
        rw [if_pos (Int.natCast_nonneg _), if_pos (by rw [List.length_map]; exact Int.ofNat_lt.mpr hk), Int.toNat_natCast]
      have mz : (m : Int) ≠ 0 := by omega
      have sT : Same H3 (upd H3 T (.tup [.int (i : Int), .int (ns.drop m)[i]])) := same_up nT
      have eT := sT _ _ ep
      refine ⟨T, _, rfl, .inl (.inl upd_same), rfl, _, _, rfl, _, _, rfl, rfl, ?_⟩
      refine ⟨_, rfl, _, rfl, _, rfl, _, _, rfl, rfl, mz, p, _, _, _, rfl, rfl, SqL.of eT, hA, _, rfl, _, rfl, _, _, rfl, rfl, _, _, rfl, rfl, .inr ⟨by omega, by omega⟩, _, _, rfl, rfl, _, rfl, _, rfl, _, rfl, _, _, rfl, rfl, mz, p, _, _, _, rfl, rfl, eT, hX, ?_⟩
      refine ⟨_, _, ms.set (i % m) (ms[i % m] + (ns.drop m)[i] * ((i : Int) + 2)), rfl, fun b z e => ?_, ?_, ?_, ?_⟩
      rotate_left 2
      · rw [upd_same, List.map_set]
      · rw [List.length_set]; exact el
      · rw [upd_ne (ne_of_none e nl0)]; exact sT _ _ (s3 _ _ e)
      · rw [upd_ne ndp]; exact sT _ _ e3
    · rintro σ H3 ⟨y3, y4, ms, rfl, s3, e3, ep, el⟩
      exact ⟨_, rfl, q p ms H3 nl0 s3 ep (by rw [el]; exact cells0_pos) (by rw [el]; exact cells0_le m1)⟩
abbrev p_l_take : List Str := ["_law_box_here", "_law_below"]
/-! the layer's promises of them -/
def domT (ds : List Dt) : Prop := ∃ m : Int, ds = [.int m] ∧ 1 ≤ m ∧ m ≤ 10000000
def postT (ds : List Dt) (d : Dt) : Prop := ∃ m v : Int, ds = [.int m] ∧ d = .int v ∧ 0 ≤ v ∧ v < m
theorem take_B {f : Addr} {fd : FuncData} {n : Nat} {ps : List Str} (C : FnOk P w K mg base CX0 n f fd ps spTake) : FnOk P w K mg base CX0 n f fd ps (spB K 1 domT postT) := C.imp fun vs H Q E h => by
  obtain ⟨G, ds, b, us, y, c, F, rfl, sm, hb, c0, c1, gb, rd, ⟨m, rfl, m1, m2⟩, q⟩ := h
  obtain ⟨x, rfl, e⟩ := rd.one
  have c2 : c + ((F + 1 : Nat) : Int) ≤ 1000000000000 := c1
  refine ⟨b, m, y, c, by rw [show x = V.int m from e], hb, c0, by omega, m1, m2, fun v c' H' v0 v1 e0 e1 hb' bt => ?_⟩
  refine q (.int v) (.int v) G H' y c' ⟨Same.refl _, fun a o z => bt a o (fun w => by rw [w, gb] at z; cases z) (sm _ _ z), bt, fun a h1 h2 => h1⟩ hb' (by omega) ?_ rfl ⟨m, v, rfl, rfl, v0, v1⟩
  show c' + (F : Int) ≤ 1000000000000
  omega
theorem ae_take {ρ : List En} {Ψ : Dt → List En → Prop} {E : XK} {te : TE} {i : Nat} {b : Addr} {f0 : Nat} (e0 : ρ[i]? = some (.bx b f0))
    (h : AE K te ρ fun d ρ1 => ∃ m : Int, d = .int m ∧ 1 ≤ m ∧ m ≤ 10000000 ∧ ∃ F, ρ1[i]? = some (.bx b (F + 1)) ∧ ∀ v : Int, 0 ≤ v → v < m → Ψ (.int v) (ρ1.set i (.bx b F))) : AE K (tCall (spB K 1 domT postT) [] E (tCons (tVar i) (tCons te tNil))) ρ Ψ :=
  ae_draw e0 (aa_cons (ae_mono h fun d ρ1 ⟨m, e, m1, m2, F, e1, k⟩ => aa_nil ⟨⟨m, by rw [e], m1, m2⟩, F, e1, fun d' hp => by
    obtain ⟨m', v, z1, z2, z3, z4⟩ := hp
    rw [e] at z1
    cases z1
    rw [z2]; exact k v z3 z4⟩))
def domO (ds : List Dt) : Prop := ∃ k l, ds = [sq k l] ∧ 1 ≤ l.length ∧ l.length ≤ 1000
def postO (ds : List Dt) (d : Dt) : Prop := ∀ k l, ds = [sq k l] → d ∈ l
theorem sq_inj {k k' : Bool} {l l' : List Dt} (h : sq k l = sq k' l') : l = l' := by
  cases k <;> cases k' <;> first | (cases h; rfl) | (exact absurd h (fun z => nomatch z))
theorem ae_ofL {ρ : List En} {Ψ : Dt → List En → Prop} {E : XK} {te : TE} {i : Nat} {b : Addr} {f0 : Nat} (e0 : ρ[i]? = some (.bx b f0))
    (h : AE K te ρ fun d ρ1 => ∃ l, d = .lst l ∧ 1 ≤ l.length ∧ l.length ≤ 1000 ∧ ∃ F, ρ1[i]? = some (.bx b (F + 1)) ∧ ∀ d, d ∈ l → Ψ d (ρ1.set i (.bx b F))) : AE K (tCall (spB K 1 domO postO) [] E (tCons (tVar i) (tCons te tNil))) ρ Ψ :=
  ae_draw e0 (aa_cons (ae_mono h fun d ρ1 ⟨l, e, m1, m2, F, e1, k⟩ => aa_nil ⟨⟨false, l, by rw [e]; rfl, m1, m2⟩, F, e1, fun d' hp => k d' (hp false l (by rw [e]; rfl))⟩))
abbrev s_l_of : Stmt := topS 26
abbrev N_l_of : List Str := ["_law_box_here", "_law_some"]
abbrev p_l_of : List Str := ["_law_box_here", "_law_some"]
theorem sc_l_of : FnScope N_l_of p_l_of (defScope s_l_of) := ⟨rfl, rfl, rfl, by decide +kernel, rfl, by decide +kernel, by decide +kernel⟩
theorem ok_l_of (bl : Blts mg) {g_l_take : Addr} {d_l_take : FuncData} (c_l_take : Cal P w K mg base 2 "_law_take" p_l_take (spB K 1 domT postT) g_l_take d_l_take)  {f : Addr} {fd : FuncData} (F : Fun K "_law_of" "_law_of" s_l_of f fd) : FnOk P w K mg base CX0 3 f fd p_l_of (spB K 1 (domO) (postO)) := by
  refine okB F sc_l_of (fun ds h => ?_) (fun cdv A outer s H E hr ds h => ?_)
  · obtain ⟨k, l, rfl, l0, l1⟩ := h
    rfl
  obtain ⟨k, l, rfl, l0, l1⟩ := h
  refine ⟨_, (pss_one (ps_ret (pe_ix ix_seq (pv 1) (pe_call c_l_take.ok (hr.mono (by decide)) rfl c_l_take.mg c_l_take.kp c_l_take.bi .nil pass0 (pa_cons (pv 0) (pa_cons (pe_callB call_len_seq rfl bl.len (by decide +kernel) (pa_cons (pv 1) pa_nil)) pa_nil))) (fun _ _ => rfl)))), fun b F => ?_⟩
  change AS K _ [En.bx _ _, En.da _] _ _
  try simp only [cxOf_K, cxOf_w]
  repeat' (first
    | ((with_reducible apply ae_take); · rfl)
    | with_reducible apply ac_len
    | refine ⟨_, rfl, by omega, by omega, _, rfl, fun v v0 v1 => ?_⟩
    | with_reducible apply as_seq
    | with_reducible apply as_ret
    | with_reducible apply as_next
    | with_reducible apply as_if
    | with_reducible apply as_set
    | with_reducible apply as_par
    | with_reducible apply as_par3
    | with_reducible apply as_asg
    | ((with_reducible apply ae_var); · rfl)
    | with_reducible apply ae_int
    | with_reducible apply ae_non
    | with_reducible apply ae_bl
    | with_reducible apply ae_str
    | with_reducible apply ae_ty
    | with_reducible apply ae_isi2
    | with_reducible apply ae_op
    | with_reducible apply ae_un
    | with_reducible apply aa_nil
    | with_reducible apply aa_cons
    | with_reducible apply ae_cb
    | with_reducible apply ae_tup
    | with_reducible apply ae_lst
    | with_reducible apply ae_if
    | with_reducible apply at_test
    | with_reducible apply at_b
    | with_reducible apply at_and
    | with_reducible apply at_or
    | with_reducible apply at_not
    | with_reducible apply at_yes
    | with_reducible apply ae_andV
    | with_reducible apply ae_orV
    | with_reducible apply ae_notV
    | with_reducible apply ar_I0i
    | with_reducible apply ar_I0b
    | with_reducible apply ar_isN
    | with_reducible apply ar_notN
    | with_reducible apply au_Ui
    | ((with_reducible apply ar_ixTs); · rfl)
    | ((with_reducible apply ar_ixLs); · rfl)
    | ((with_reducible apply ar_ix); · rfl)
    | ((with_reducible apply ar_ixT); · rfl)
    | ((with_reducible apply ar_ixL); · rfl)
    | with_reducible apply ac_abs
    | with_reducible apply ac_max2
    | with_reducible apply ac_min2
    | with_reducible apply ac_lenT
    | with_reducible apply ac_lenL
    | with_reducible apply ac_listT
    | with_reducible apply ac_listL
    | with_reducible apply ac_tupL
    | with_reducible apply ac_tupT
    | with_reducible apply ac_int
    | with_reducible apply ac_intB
    | ((with_reducible apply ar_eq3); · exact ⟨rfl, rfl, rfl⟩)
    | ((with_reducible apply ar_ne3); · exact ⟨rfl, rfl, rfl⟩)
    | with_reducible apply ag_name
    | with_reducible apply ags_nil
    | with_reducible apply ags_cons
    | ((with_reducible apply ag_tup); · rfl)
    | refine ⟨sz60 (Nat.le_of_ble_eq_true rfl), ?_⟩
    | refine ⟨_, rfl, ?_⟩
    | refine ⟨_, _, rfl, ?_⟩
    | refine ⟨_, _, _, rfl, ?_⟩
    | (refine ⟨fun hc => ?_, fun hc => ?_⟩ <;> (first | (exfalso; exact absurd (show false = true from hc) (by decide)) | (exfalso; exact absurd (show true = false from hc) (by decide)) | (exfalso; simp at hc; done) | skip))
    | rfl
    | exact trivial
    | simp only [oD_some, oD_none])
  have hv : v.toNat < l.length := by omega
  have ev : v = ((v.toNat : Nat) : Int) := by omega
  refine ar_ix (d := l[v.toNat]) ?_ ?_
  · have e := atI_nat (List.getElem?_eq_getElem hv)
    rw [← ev] at e; exact e
  · refine ⟨fun k' l' z => ?_, _, rfl, Nat.le_refl _⟩
    rw [← sq_inj (List.cons.inj z).1]
    exact List.getElem_mem hv
end
end Sh
set_option Elab.async false
set_option linter.all false
set_option maxRecDepth 100000
set_option maxHeartbeats 4000000
/-! bounds of differences made as small as they follow, in place (the program's shorten): what comes out. Mx: bounds as a function of two places; fw: stage by stage, row by row, place by place -/
namespace Fw
abbrev Mx := Nat → Nat → Option Int
def setM (M : Mx) (i j : Nat) (x : Int) : Mx := fun a b => if a = i ∧ b = j then some x else M a b
/-- one place -/
def stM (v i : Nat) (M : Mx) (j : Nat) : Mx :=
  match M i v, M v j with
  | some x, some y => match M i j with
    | none => setM M i j (x + y)
    | some z => if x + y < z then setM M i j (x + y) else M
  | _, _ => M
def rowM (n v : Nat) (M : Mx) (i : Nat) : Mx := (List.range n).foldl (stM v i) M
def viaM (n : Nat) (M : Mx) (v : Nat) : Mx := (List.range n).foldl (rowM n v) M
def fwM (n : Nat) (M : Mx) : Mx := (List.range n).foldl (viaM n) M
/-- at most: none is no bound -/
def le (a b : Option Int) : Prop := ∀ y, b = some y → ∃ x, a = some x ∧ x ≤ y
theorem le_refl (a : Option Int) : le a a := fun y h => ⟨y, h, Int.le_refl _⟩
theorem le_trans {a b c : Option Int} (h : le a b) (k : le b c) : le a c := fun z hz => by
  obtain ⟨y, e, l⟩ := k z hz
  obtain ⟨x, e2, l2⟩ := h y e
  exact ⟨x, e2, by omega⟩
def leM (M N : Mx) : Prop := ∀ a b, le (M a b) (N a b)
/-- what a place does: nothing, or the sum, which is less -/
theorem st_cases (v i j : Nat) (M : Mx) : stM v i M j = M ∨ ∃ x y, M i v = some x ∧ M v j = some y ∧ stM v i M j = setM M i j (x + y) ∧ le (some (x + y)) (M i j) := by
  unfold stM
  cases h1 : M i v with
  | none => exact .inl rfl
  | some x => cases h2 : M v j with
    | none => exact .inl rfl
    | some y => cases h3 : M i j with
      | none => exact .inr ⟨x, y, rfl, rfl, rfl, fun z h => by cases h⟩
      | some z =>
        by_cases l : x + y < z
        · exact .inr ⟨x, y, rfl, rfl, if_pos l, fun w h => by cases h; exact ⟨_, rfl, by omega⟩⟩
        · exact .inl (if_neg l)
theorem st_le (v i j : Nat) (M : Mx) : leM (stM v i M j) M := fun a b => by
  rcases st_cases v i j M with h | ⟨x, y, h1, h2, h3, h4⟩
  · rw [h]; exact le_refl _
  · rw [h3]
    unfold setM
    by_cases e : a = i ∧ b = j
    · rw [if_pos e, e.1, e.2]; exact h4
    · rw [if_neg e]; exact le_refl _
theorem fold_le {f : Mx → Nat → Mx} (h : ∀ M j, leM (f M j) M) : ∀ (l : List Nat) (M : Mx), leM (l.foldl f M) M
  | [], M => fun a b => le_refl _
  | j :: l, M => fun a b => le_trans (fold_le h l (f M j) a b) (h M j a b)
theorem row_le (n v i : Nat) (M : Mx) : leM (rowM n v M i) M := fold_le (fun M j => st_le v i j M) _ M
theorem via_le (n v : Nat) (M : Mx) : leM (viaM n M v) M := fold_le (fun M i => row_le n v i M) _ M
/-! what fulfils all bounds -/
def feas (x : Nat → Int) (M : Mx) : Prop := ∀ i j b, M i j = some b → x i - x j ≤ b
theorem feas_le {x : Nat → Int} {M N : Mx} (h : leM M N) (f : feas x M) : feas x N := fun i j b e => by
  obtain ⟨c, e2, l⟩ := h i j b e
  have := f i j c e2
  omega
theorem feas_st {x : Nat → Int} {v i j : Nat} {M : Mx} (f : feas x M) : feas x (stM v i M j) := by
  rcases st_cases v i j M with h | ⟨p, q, h1, h2, h3, h4⟩
  · rw [h]; exact f
  · rw [h3]
    intro a b c e
    unfold setM at e
    by_cases z : a = i ∧ b = j
    · rw [if_pos z] at e
      cases e
      have f1 := f i v p h1
      have f2 := f v j q h2
      rw [z.1, z.2]; omega
    · rw [if_neg z] at e
      exact f a b c e
theorem fold_feas {x : Nat → Int} {f : Mx → Nat → Mx} (h : ∀ M j, feas x M → feas x (f M j)) : ∀ (l : List Nat) (M : Mx), feas x M → feas x (l.foldl f M)
  | [], M, k => k
  | j :: l, M, k => fold_feas h l (f M j) (h M j k)
theorem fw_feas {x : Nat → Int} {n : Nat} {M : Mx} (f : feas x M) : feas x (fwM n M) :=
  fold_feas (fun M v => fold_feas (fun M i => fold_feas (fun M j => feas_st) _ M) _ M) _ M f
theorem fw_le (n : Nat) (M : Mx) : leM (fwM n M) M := fold_le (fun M v => via_le n v M) _ M
theorem fw_iff {x : Nat → Int} {n : Nat} {M : Mx} : feas x (fwM n M) ↔ feas x M := ⟨feas_le (fw_le n M), fw_feas⟩
/-! a stage, where the diagonal is 0 and stays so -/
def dg (n : Nat) (M : Mx) : Prop := ∀ i, i < n → ∀ b, M i i = some b → 0 ≤ b
theorem dg_le {n : Nat} {M N : Mx} (h : leM M N) (d : dg n M) (z : ∀ i, i < n → N i i = some 0) : ∀ i, i < n → M i i = some 0 := fun i hi => by
  obtain ⟨b, e, l⟩ := h i i 0 (z i hi)
  have := d i hi b e
  rw [e, show b = 0 by omega]
theorem dg_up {n : Nat} {M N : Mx} (h : leM M N) (d : dg n M) : dg n N := fun i hi b e => by
  obtain ⟨c, e2, l⟩ := h i i b e
  have := d i hi c e2
  omega
/-- the lesser of a bound and a sum -/
def mn (a : Option Int) (p q : Option Int) : Option Int := match p, q with
  | some x, some y => match a with
    | none => some (x + y)
    | some z => if x + y < z then some (x + y) else some z
  | _, _ => a
theorem st_at (v i j : Nat) (M : Mx) (a b : Nat) : stM v i M j a b = if a = i ∧ b = j then mn (M i j) (M i v) (M v j) else M a b := by
  unfold stM mn
  by_cases e : a = i ∧ b = j
  · rw [if_pos e]
    cases h1 : M i v with
    | none => rw [e.1, e.2]
    | some x => cases h2 : M v j with
      | none => rw [e.1, e.2]
      | some y => cases h3 : M i j with
        | none => show setM M i j (x + y) a b = _; unfold setM; rw [if_pos e]
        | some z =>
          show (if x + y < z then setM M i j (x + y) else M) a b = if x + y < z then some (x + y) else some z
          by_cases l : x + y < z
          · rw [if_pos l, if_pos l]; unfold setM; rw [if_pos e]
          · rw [if_neg l, if_neg l, e.1, e.2, h3]
  · rw [if_neg e]
    cases h1 : M i v with
    | none => rfl
    | some x => cases h2 : M v j with
      | none => rfl
      | some y => cases h3 : M i j with
        | none => show setM M i j (x + y) a b = _; unfold setM; rw [if_neg e]
        | some z =>
          show (if x + y < z then setM M i j (x + y) else M) a b = _
          by_cases l : x + y < z
          · rw [if_pos l]; unfold setM; rw [if_neg e]
          · rw [if_neg l]
theorem mn_0l {a p : Option Int} (h : le a p) : mn a (some 0) p = a := by
  unfold mn
  cases p with
  | none => rfl
  | some y =>
    obtain ⟨x, e, l⟩ := h y rfl
    rw [e]
    show (if 0 + y < x then some (0 + y) else some x) = some x
    rw [if_neg (by omega)]
theorem mn_0r {a p : Option Int} (h : le a p) : mn a p (some 0) = a := by
  unfold mn
  cases p with
  | none => rfl
  | some y =>
    obtain ⟨x, e, l⟩ := h y rfl
    rw [e]
    show (if y + 0 < x then some (y + 0) else some x) = some x
    rw [if_neg (by omega)]
/-- where M v v = 0 a row leaves row v and column v as they are, and makes each place of its own the lesser -/
theorem row_at {v i : Nat} {M : Mx} (hv : M v v = some 0) : ∀ (l : List Nat) (N : Mx), l.Nodup → (∀ a b, (a = i ∧ b ∈ l) ∨ N a b = if a = i then mn (M a b) (M a v) (M v b) else M a b) → (∀ a b, a = i → b ∈ l → N a b = M a b) →
    ∀ a b, (l.foldl (stM v i) N) a b = if a = i then mn (M a b) (M a v) (M v b) else M a b
  | [], N, _, h, _, a, b => by
    rcases h a b with ⟨_, h⟩ | h
    · cases h
    · exact h
  | j :: l, N, nd, h, k, a, b => by
    have nd2 := List.nodup_cons.mp nd
    -- what stands in row v and column v of N
    have hself : mn (M i v) (M i v) (M v v) = M i v := by rw [hv]; exact mn_0r (le_refl _)
    have hrow : ∀ b, mn (M v b) (M v v) (M v b) = M v b := fun b => by rw [hv]; exact mn_0l (le_refl _)
    have colv : N i v = M i v := by
      rcases h i v with ⟨_, z⟩ | z
      · exact k i v rfl z
      · rw [z, if_pos rfl, hself]
    have rowv : N v j = M v j := by
      rcases h v j with ⟨e, z⟩ | z
      · exact k v j e z
      · rw [z]
        by_cases e : v = i
        · rw [if_pos e, hrow]
        · rw [if_neg e]
    have own : N i j = M i j := k i j rfl List.mem_cons_self
    refine row_at hv l (stM v i N j) nd2.2 (fun a b => ?_) (fun a b ea hb => ?_) a b
    · rw [st_at, own, colv, rowv]
      by_cases e : a = i ∧ b = j
      · right
        rw [if_pos e, if_pos e.1, e.1, e.2]
      · rw [if_neg e]
        rcases h a b with ⟨ea, hb⟩ | z
        · rcases List.mem_cons.mp hb with hb | hb
          · exact absurd ⟨ea, hb⟩ e
          · exact .inl ⟨ea, hb⟩
        · exact .inr z
    · rw [st_at]
      have ne : ¬ (a = i ∧ b = j) := fun e => nd2.1 (by rw [← e.2]; exact hb)
      rw [if_neg ne]
      exact k a b ea (List.mem_cons_of_mem _ hb)
/-- nothing beyond n -/
def fin (n : Nat) (M : Mx) : Prop := ∀ a b, n ≤ a ∨ n ≤ b → M a b = none
theorem mn_no {a p : Option Int} : mn a p none = a := by unfold mn; cases p <;> rfl
theorem mn_no2 {a p : Option Int} : mn a none p = a := rfl
theorem row_is {n v i : Nat} {M : Mx} (f : fin n M) (hv : M v v = some 0) : rowM n v M i = fun a b => if a = i then mn (M a b) (M a v) (M v b) else M a b := by
  funext a b
  refine row_at hv (List.range n) M List.nodup_range (fun a b => ?_) (fun a b _ _ => rfl) a b
  by_cases e : a = i
  · by_cases hb : b < n
    · exact .inl ⟨e, List.mem_range.mpr hb⟩
    · right
      rw [if_pos e, f v b (.inr (by omega)), mn_no]
  · right; rw [if_neg e]
theorem fin_row {n v i : Nat} {M : Mx} (f : fin n M) (hv : M v v = some 0) : fin n (rowM n v M i) := fun a b h => by
  rw [row_is f hv]
  show (if a = i then mn (M a b) (M a v) (M v b) else M a b) = none
  rw [f a b h]
  split
  · rcases h with h | h
    · rw [f a v (.inl h), mn_no2]
    · rw [f v b (.inr h), mn_no]
  · rfl
theorem via_at {n v : Nat} {M : Mx} (f : fin n M) (hv : M v v = some 0) : ∀ (l : List Nat) (N : Mx), l.Nodup → fin n N → (∀ a b, N a b = if a ∈ l then M a b else mn (M a b) (M a v) (M v b)) → ∀ a b, (l.foldl (rowM n v) N) a b = mn (M a b) (M a v) (M v b)
  | [], N, _, _, h, a, b => by rw [List.foldl_nil, h a b, if_neg (fun z => nomatch z)]
  | i :: l, N, nd, fN, h, a, b => by
    have nd2 := List.nodup_cons.mp nd
    have hself : ∀ a, mn (M a v) (M a v) (M v v) = M a v := fun a => by rw [hv]; exact mn_0r (le_refl _)
    have hrow : ∀ b, mn (M v b) (M v v) (M v b) = M v b := fun b => by rw [hv]; exact mn_0l (le_refl _)
    have rowv : ∀ b, N v b = M v b := fun b => by
      rw [h v b]
      split
      · rfl
      · exact hrow b
    have nv : N v v = some 0 := by rw [rowv]; exact hv
    have own : ∀ b, N i b = M i b := fun b => by rw [h i b, if_pos List.mem_cons_self]
    refine via_at f hv l (rowM n v N i) nd2.2 (fin_row fN nv) (fun a b => ?_) a b
    rw [row_is fN nv]
    show (if a = i then mn (N a b) (N a v) (N v b) else N a b) = _
    by_cases e : a = i
    · rw [if_pos e, e, own, own, rowv, if_neg nd2.1]
    · rw [if_neg e, h a b]
      by_cases hl : a ∈ l
      · rw [if_pos (List.mem_cons_of_mem _ hl), if_pos hl]
      · rw [if_neg (fun z => (List.mem_cons.mp z).elim e hl), if_neg hl]
theorem via_is {n v : Nat} {M : Mx} (f : fin n M) (hv : M v v = some 0) : viaM n M v = fun a b => mn (M a b) (M a v) (M v b) := by
  funext a b
  refine via_at f hv (List.range n) M List.nodup_range f (fun a b => ?_) a b
  by_cases h : a < n
  · rw [if_pos (List.mem_range.mpr h)]
  · rw [if_neg (fun z => h (List.mem_range.mp z)), f a v (.inl (by omega)), mn_no2]
theorem fin_via {n v : Nat} {M : Mx} (f : fin n M) (hv : M v v = some 0) : fin n (viaM n M v) := fun a b h => by
  rw [via_is f hv]
  show mn (M a b) (M a v) (M v b) = none
  rw [f a b h]
  rcases h with h | h
  · rw [f a v (.inl h), mn_no2]
  · rw [f v b (.inr h), mn_no]
/-! triangles -/
def tri (k : Nat) (M : Mx) : Prop := ∀ v, v < k → ∀ i j x y, M i v = some x → M v j = some y → le (M i j) (some (x + y))
theorem mn_le1 {a p q : Option Int} : le (mn a p q) a := by
  unfold mn
  cases p with
  | none => exact le_refl _
  | some x => cases q with
    | none => exact le_refl _
    | some y => cases a with
      | none => exact fun z h => by cases h
      | some z =>
        show le (if x + y < z then some (x + y) else some z) (some z)
        by_cases l : x + y < z
        · rw [if_pos l]; exact fun w h => by cases h; exact ⟨_, rfl, by omega⟩
        · rw [if_neg l]; exact le_refl _
theorem mn_le2 {a : Option Int} {x y : Int} : le (mn a (some x) (some y)) (some (x + y)) := by
  unfold mn
  cases a with
  | none => exact le_refl _
  | some z =>
    show le (if x + y < z then some (x + y) else some z) (some (x + y))
    by_cases l : x + y < z
    · rw [if_pos l]; exact le_refl _
    · rw [if_neg l]; exact fun w h => by cases h; exact ⟨_, rfl, by omega⟩
theorem mn_cases {a p q : Option Int} {w : Int} (h : mn a p q = some w) : a = some w ∨ ∃ x y, p = some x ∧ q = some y ∧ w = x + y := by
  unfold mn at h
  cases p with
  | none => exact .inl h
  | some x => cases q with
    | none => exact .inl h
    | some y => cases a with
      | none => cases h; exact .inr ⟨x, y, rfl, rfl, rfl⟩
      | some z =>
        have h' : (if x + y < z then some (x + y) else some z) = some w := h
        by_cases l : x + y < z
        · rw [if_pos l] at h'; cases h'; exact .inr ⟨x, y, rfl, rfl, rfl⟩
        · rw [if_neg l] at h'; exact .inl h'
theorem le_lt {a : Option Int} {x y : Int} (h : le a (some x)) (l : x ≤ y) : le a (some y) := le_trans h fun w e => by cases e; exact ⟨x, rfl, l⟩
theorem tri_via {n k : Nat} {M : Mx} (f : fin n M) (hk : M k k = some 0) (t : tri k M) : tri (k + 1) (viaM n M k) := by
  rw [via_is f hk]
  intro v hv i j x y h1 h2
  dsimp only at h1 h2 ⊢
  by_cases e : v = k
  · subst e
    rw [hk] at h1 h2
    rw [mn_0r (le_refl _)] at h1
    rw [mn_0l (le_refl _)] at h2
    rw [h1, h2]
    exact mn_le2
  · have vk : v < k := by omega
    rcases mn_cases h1 with a1 | ⟨p, q, a1, a2, rfl⟩
    · rcases mn_cases h2 with b1 | ⟨r, s, b1, b2, rfl⟩
      · exact le_trans mn_le1 (t v vk i j x y a1 b1)
      · obtain ⟨w, c1, c2⟩ := t v vk i k x r a1 b1 _ rfl
        rw [c1, b2]
        exact le_lt mn_le2 (by omega)
    · rcases mn_cases h2 with b1 | ⟨r, s, b1, b2, rfl⟩
      · obtain ⟨w, c1, c2⟩ := t v vk k j q y a2 b1 _ rfl
        rw [c1, a1]
        exact le_lt mn_le2 (by omega)
      · obtain ⟨w, c1, c2⟩ := t v vk k k q r a2 b1 _ rfl
        rw [hk] at c1
        cases c1
        rw [a1, b2]
        exact le_lt mn_le2 (by omega)
def upto (n k : Nat) (M : Mx) : Mx := (List.range k).foldl (viaM n) M
theorem upto_succ (n k : Nat) (M : Mx) : upto n (k + 1) M = viaM n (upto n k M) k := by
  unfold upto
  rw [List.range_succ, List.foldl_append]; rfl
theorem upto_le (n : Nat) (M : Mx) : ∀ (m k : Nat), leM (upto n (k + m) M) (upto n k M)
  | 0, k => fun a b => le_refl _
  | m + 1, k => fun a b => by
    rw [← Nat.add_assoc, upto_succ]
    exact le_trans (via_le n (k + m) _ a b) (upto_le n M m k a b)
/-- closed, where no number below 0 stands in the diagonal -/
theorem fw_tri {n : Nat} {M : Mx} (f : fin n M) (z : ∀ i, i < n → M i i = some 0) (d : dg n (fwM n M)) : (∀ i, i < n → fwM n M i i = some 0) ∧ fin n (fwM n M) ∧ tri n (fwM n M) := by
  have st : ∀ k, k ≤ n → (∀ i, i < n → upto n k M i i = some 0) ∧ fin n (upto n k M) ∧ tri k (upto n k M) := fun k => by
    induction k with
    | zero => exact fun _ => ⟨z, f, fun v hv => absurd hv (Nat.not_lt_zero _)⟩
    | succ k ih =>
      intro hk
      obtain ⟨i1, i2, i3⟩ := ih (by omega)
      have l : leM (fwM n M) (upto n (k + 1) M) := by
        have := upto_le n M (n - (k + 1)) (k + 1)
        rw [show k + 1 + (n - (k + 1)) = n by omega] at this
        exact this
      have z1 := i1 k (by omega)
      have le1 : leM (upto n (k + 1) M) (upto n k M) := by rw [upto_succ]; exact via_le n k _
      have d1 : dg n (upto n (k + 1) M) := dg_up l d
      refine ⟨dg_le le1 d1 i1, ?_, ?_⟩
      · rw [upto_succ]; exact fin_via i2 z1
      · rw [upto_succ]; exact tri_via i2 z1 i3
  exact st n (Nat.le_refl _)
end Fw
set_option Elab.async false
set_option linter.all false
set_option maxRecDepth 100000
set_option maxHeartbeats 4000000
namespace Sh
open PySem PySem.Spec PyProof.Rows L2
abbrev s_shorten : Stmt := topS 10
abbrev N_shorten : List Str := ["ways", "many", "via", "onward", "i", "row", "j"]
abbrev p_shorten : List Str := ["ways"]
theorem sc_shorten : FnScope N_shorten p_shorten (defScope s_shorten) := ⟨rfl, rfl, rfl, by decide +kernel, rfl, by decide +kernel, by decide +kernel⟩
abbrev Mx := Fw.Mx
def ov : Option Int → V
  | none => .non
  | some x => .int x
def rowV (n : Nat) (M : Mx) (k : Nat) : List V := (List.range n).map fun j => ov (M k j)
theorem rowV_len {n : Nat} {M : Mx} {k : Nat} : (rowV n M k).length = n := by unfold rowV; rw [List.length_map, List.length_range]
theorem rowV_at {n : Nat} {M : Mx} {k j : Nat} (h : j < n) : (rowV n M k)[j]? = some (ov (M k j)) := by
  unfold rowV; rw [List.getElem?_map, List.getElem?_range h]; rfl
theorem rowV_set {n : Nat} {M : Mx} {i j : Nat} {x : Int} : (rowV n M i).set j (.int x) = rowV n (Fw.setM M i j x) i := by
  apply List.ext_getElem?
  intro b
  by_cases hb : b < n
  · rw [rowV_at hb, List.getElem?_set, rowV_len]
    unfold Fw.setM
    by_cases e : j = b
    · subst e; rw [if_pos rfl, if_pos hb, if_pos ⟨rfl, rfl⟩]; rfl
    · rw [if_neg e, rowV_at hb, if_neg (fun z => e z.2.symm)]
  · rw [List.getElem?_eq_none (by rw [List.length_set, rowV_len]; omega), List.getElem?_eq_none (by rw [rowV_len]; omega)]
theorem rowV_off {n : Nat} {M : Mx} {i j k : Nat} {x : Int} (h : k ≠ i) : rowV n (Fw.setM M i j x) k = rowV n M k := by
  unfold rowV
  refine List.map_congr_left fun b _ => ?_
  unfold Fw.setM
  rw [if_neg (fun z => h z.1)]
/-- a list of lists of one's own -/
structure Gr (H : Hp) (a : Addr) (rs : List Addr) (n : Nat) (M : Mx) : Prop where
  top : H a = some (.lst (rs.map V.ref))
  len : rs.length = n
  nd : rs.Nodup
  na : a ∉ rs
  row : ∀ k r, rs[k]? = some r → H r = some (.lst (rowV n M k))
theorem Gr.set {H : Hp} {a : Addr} {rs : List Addr} {n : Nat} {M : Mx} (g : Gr H a rs n M) {i j : Nat} {r : Addr} (hr : rs[i]? = some r) (x : Int) : Gr (upd H r (.lst ((rowV n M i).set j (.int x)))) a rs n (Fw.setM M i j x) where
  top := by
    rw [upd_ne (fun e => g.na (by rw [e]; exact List.mem_of_getElem? hr))]; exact g.top
  len := g.len
  nd := g.nd
  na := g.na
  row := fun k q hq => by
    by_cases e : k = i
    · subst e
      rw [hr] at hq
      cases hq
      rw [upd_same, rowV_set]
    · have ne : q ≠ r := fun z => by
        subst z
        have l1 := (List.getElem?_eq_some_iff.mp hr)
        have l2 := (List.getElem?_eq_some_iff.mp hq)
        obtain ⟨i1, i2⟩ := l1
        obtain ⟨k1, k2⟩ := l2
        exact e ((List.getElem_inj g.nd).mp (k2.trans i2.symm))
      rw [upd_ne ne, rowV_off e]
      exact g.row k q hq
def spShorten (K : PySem.W.Frag) : Sp := fun vs H Q _ => ∃ (a : Addr) (rs : List Addr) (n : Nat) (M : Mx), vs = [.ref a] ∧ Gr H a rs n M ∧ n ≤ 100 ∧ ∀ H', Gr H' a rs n (Fw.fwM n M) → (∀ b o, b ∉ rs → H b = some o → H' b = some o) → Q .non H'
theorem row_no {n v i : Nat} {M : Mx} (h : M i v = none) : Fw.rowM n v M i = M := by
  unfold Fw.rowM
  have : ∀ l : List Nat, l.foldl (Fw.stM v i) M = M := fun l => by
    induction l with
    | nil => rfl
    | cons j l ih =>
      have e : Fw.stM v i M j = M := by unfold Fw.stM; rw [h]
      rw [List.foldl_cons, e, ih]
  exact this _
section
variable {P : Program} {w : World} {K : PySem.W.Frag} {mg : Str → Option Value} {base : Heap}
abbrev isN : R2 := fun x y H Q => y = V.non ∧ Q (V.bl (decide (x = V.non))) H
abbrev isNot : R2 := fun x y H Q => y = V.non ∧ Q (V.bl (!decide (x = V.non))) H
def tI (K : PySem.W.Frag) : TS := tIfS (tAnd (tTest (tOp isNot (tOp (rIxL K) (tVar 3) (tVar 6)) (tC V.non))) (tOr (tTest (tOp isN (tOp (rIxL K) (tVar 5) (tVar 6)) (tC V.non)))
    (tTest (tOp (rI0 fun i j => V.bl (decide (i < j))) (tOp (rI0 fun i j => V.int (i + j)) (tOp (rIxL K) (tVar 5) (tVar 2)) (tOp (rIxL K) (tVar 3) (tVar 6))) (tOp (rIxL K) (tVar 5) (tVar 6))))))
  (tAsg (tOp (rI0 fun i j => V.int (i + j)) (tOp (rIxL K) (tVar 5) (tVar 2)) (tOp (rIxL K) (tVar 3) (tVar 6))) (gSub (tVar 5) (tVar 6) rSetL)) tNext
def tR (K : PySem.W.Frag) : TS := tSeq (tAsg (tOp (rIxL K) (tVar 0) (tVar 4)) (gName 5)) (tSeq (tIfS (tTest (tOp isN (tOp (rIxL K) (tVar 5) (tVar 2)) (tC V.non))) tCont tNext) (tFor (iRngV (tVar 1)) (gName 6) (tI K)))
def tW (K : PySem.W.Frag) : TS := tSeq (tAsg (tOp (rIxL K) (tVar 0) (tVar 2)) (gName 3)) (tFor (iRngV (tVar 1)) (gName 4) (tR K))
theorem ix_row {p q : Nat} {σ : L2.St} {H : Hp} {Q : VK} {r : Addr} {xs : List V} {k : Nat} {v : V} (h1 : σ[p]? = some (some (.ref r))) (h2 : σ[q]? = some (some (.int ((k : Nat) : Int)))) (hr : H r = some (.lst xs)) (hx : xs[k]? = some v) (h : Q v H) : tOp (rIxL K) (tVar p) (tVar q) σ H Q :=
  ⟨_, h1, _, h2, r, xs, _, _, rfl, rfl, SqL.of hr, atI_nat hx, h⟩
def Kp (rs : List Addr) (H H' : Hp) : Prop := ∀ b o, b ∉ rs → H b = some o → H' b = some o
theorem ov_some {o : Option Int} : decide (ov o = V.non) = o.isNone := by cases o <;> simp [ov]
theorem inner_step {D : Ends} {H : Hp} {a m rv ri : Addr} {rs : List Addr} {n v i j : Nat} {N : Mx} {x : Int} (g : Gr H a rs n N) (hv : v < n) (hi : i < n) (hj : j < n) (ev : rs[v]? = some rv) (ei : rs[i]? = some ri) (hx : N i v = some x)
    (h : ∀ H', Gr H' a rs n (Fw.stM v i N j) → Kp rs H H' → D.nx [some (.ref a), some (.ref m), some (.int ((v : Nat) : Int)), some (.ref rv), some (.int ((i : Nat) : Int)), some (.ref ri), some (.int ((j : Nat) : Int))] H') :
    tI K D [some (.ref a), some (.ref m), some (.int ((v : Nat) : Int)), some (.ref rv), some (.int ((i : Nat) : Int)), some (.ref ri), some (.int ((j : Nat) : Int))] H := by
  have rowv := g.row v rv ev
  have rowi := g.row i ri ei
  have avj := rowV_at (M := N) (k := v) hj
  have aij := rowV_at (M := N) (k := i) hj
  have aiv := rowV_at (M := N) (k := i) hv
  rw [hx] at aiv
  have setIt : ∀ y, N v j = some y → (N i j = none ∨ ∃ z, N i j = some z ∧ x + y < z) → Fw.stM v i N j = Fw.setM N i j (x + y) := fun y hy hz => by
    unfold Fw.stM
    rw [hx, hy]
    rcases hz with hz | ⟨z, hz, l⟩
    · rw [hz]
    · rw [hz]; exact if_pos l
  have wr : ∀ y, N v j = some y → (N i j = none ∨ ∃ z, N i j = some z ∧ x + y < z) → (tAsg (tOp (rI0 fun i j => V.int (i + j)) (tOp (rIxL K) (tVar 5) (tVar 2)) (tOp (rIxL K) (tVar 3) (tVar 6))) (gSub (tVar 5) (tVar 6) rSetL)) D [some (.ref a), some (.ref m), some (.int ((v : Nat) : Int)), some (.ref rv), some (.int ((i : Nat) : Int)), some (.ref ri), some (.int ((j : Nat) : Int))] H := fun y hy hz => by
    refine ix_row rfl rfl rowi aiv ?_
    refine ix_row rfl rfl rowv avj ?_
    rw [hy]
    refine ⟨x, y, rfl, rfl, _, rfl, _, rfl, ri, _, _, j, rfl, rfl, rowi, ?_, ?_⟩
    · rw [rowV_len]; unfold ixN; rw [if_pos (by omega), if_pos (by omega)]; congr 1
    · have g2 := g.set ei (j := j) (x + y)
      refine h _ (by rw [setIt y hy hz]; exact g2) fun b o hb e => ?_
      rw [upd_ne (fun z => hb (by rw [z]; exact List.mem_of_getElem? ei))]; exact e
  have no : Fw.stM v i N j = N → D.nx _ H := fun e => h H (by rw [e]; exact g) fun b o _ e => e
  show (tAnd _ _) _ _ _
  refine ix_row rfl rfl rowv avj ?_
  refine ⟨rfl, _, rfl, ?_⟩
  rw [ov_some]
  cases hy : N v j with
  | none =>
    rw [if_neg (by decide)]
    show (if (_ : Bool) = true then _ else _)
    rw [if_neg (by decide)]
    refine no ?_
    unfold Fw.stM
    rw [hx, hy]
  | some y =>
    rw [if_pos (show (!(some y).isNone) = true from rfl)]
    refine ix_row rfl rfl rowi aij ?_
    refine ⟨rfl, _, rfl, ?_⟩
    rw [ov_some]
    cases hz : N i j with
    | none =>
      rw [if_pos (by decide)]
      show (if (_ : Bool) = true then _ else _)
      rw [if_pos rfl]
      exact wr y hy (.inl hz)
    | some z =>
      rw [if_neg (fun h => nomatch h)]
      refine ix_row rfl rfl rowi aiv ?_
      refine ix_row rfl rfl rowv avj ?_
      rw [hy]
      refine ⟨x, y, rfl, rfl, ?_⟩
      refine ix_row rfl rfl rowi aij ?_
      rw [hz]
      refine ⟨x + y, z, rfl, rfl, _, rfl, ?_⟩
      show (if (_ : Bool) = true then _ else _)
      by_cases l : x + y < z
      · rw [if_pos (decide_eq_true l)]
        exact wr y hy (.inr ⟨z, hz, l⟩)
      · rw [if_neg (by rw [decide_eq_false l]; decide)]
        refine no ?_
        unfold Fw.stM
        rw [hx, hy, hz]
        exact if_neg l
theorem fold_succ {f : Mx → Nat → Mx} {M : Mx} (k : Nat) : (List.range (k + 1)).foldl f M = f ((List.range k).foldl f M) k := by
  rw [List.range_succ, List.foldl_append]; rfl
theorem row_step {D : Ends} {H : Hp} {a m rv : Addr} {rs : List Addr} {n v i : Nat} {N : Mx} {o5 o6 : Option V} (g : Gr H a rs n N) (n100 : n ≤ 100) (hm : H m = some (.rng 0 (n : Int))) (mr : m ∉ rs) (hv : v < n) (hi : i < n) (ev : rs[v]? = some rv)
    (h : ∀ o5 o6 H', Gr H' a rs n (Fw.rowM n v N i) → Kp rs H H' → D.nx [some (.ref a), some (.ref m), some (.int ((v : Nat) : Int)), some (.ref rv), some (.int ((i : Nat) : Int)), o5, o6] H')
    (hc : ∀ o5 o6 H', Gr H' a rs n (Fw.rowM n v N i) → Kp rs H H' → D.ct [some (.ref a), some (.ref m), some (.int ((v : Nat) : Int)), some (.ref rv), some (.int ((i : Nat) : Int)), o5, o6] H') :
    tR K D [some (.ref a), some (.ref m), some (.int ((v : Nat) : Int)), some (.ref rv), some (.int ((i : Nat) : Int)), o5, o6] H := by
  have li : i < rs.length := by rw [g.len]; exact hi
  have ei : rs[i]? = some rs[i] := List.getElem?_eq_getElem li
  have top : (rs.map V.ref)[i]? = some (V.ref rs[i]) := by rw [List.getElem?_map, ei]; rfl
  generalize rs[i] = ri at ei top
  refine ix_row rfl rfl g.top top ?_
  have rowi := g.row i ri ei
  have aiv := rowV_at (M := N) (k := i) hv
  refine ix_row rfl rfl rowi aiv ?_
  refine ⟨rfl, _, rfl, ?_⟩
  rw [ov_some]
  cases hx : N i v with
  | none =>
    rw [if_pos (by decide)]
    refine hc _ _ H ?_ fun b o _ e => e
    rw [row_no hx]; exact g
  | some x =>
    rw [if_neg (fun h => nomatch h)]
    refine ⟨_, rfl, m, 0, _, rfl, hm, ⟨by decide, by decide, by omega, by omega⟩, ?_⟩
    rw [show (((n : Int) - 0).toNat) = n by omega]
    refine for_range (lo := 0) (n := n) (fun j σ H' => ∃ o6, σ = [some (.ref a), some (.ref m), some (.int ((v : Nat) : Int)), some (.ref rv), some (.int ((i : Nat) : Int)), some (.ref ri), o6] ∧ Gr H' a rs n ((List.range j).foldl (Fw.stM v i) N) ∧ Kp rs H H')
      ⟨o6, rfl, g, fun b o _ e => e⟩ ?_ ?_
    · rintro j σ H1 hj ⟨o6, rfl, g1, k1⟩
      rw [Int.zero_add]
      have le := Fw.fold_le (f := Fw.stM v i) (fun M j => Fw.st_le v i j M) (List.range j) N i v
      obtain ⟨x', hx', _⟩ := le x hx
      refine inner_step g1 hv hi hj ev ei hx' fun H2 g2 k2 => ?_
      exact ⟨_, rfl, by rw [fold_succ]; exact g2, fun b o hb e => k2 b o hb (k1 b o hb e)⟩
    · rintro σ H1 ⟨o6, rfl, g1, k1⟩
      exact h _ _ H1 g1 k1
theorem via_step {D : Ends} {H : Hp} {a m : Addr} {rs : List Addr} {n v : Nat} {N : Mx} {o3 o4 o5 o6 : Option V} (g : Gr H a rs n N) (n100 : n ≤ 100) (hm : H m = some (.rng 0 (n : Int))) (mr : m ∉ rs) (hv : v < n)
    (h : ∀ o3 o4 o5 o6 H', Gr H' a rs n (Fw.viaM n N v) → Kp rs H H' → D.nx [some (.ref a), some (.ref m), some (.int ((v : Nat) : Int)), o3, o4, o5, o6] H') :
    tW K D [some (.ref a), some (.ref m), some (.int ((v : Nat) : Int)), o3, o4, o5, o6] H := by
  have lv : v < rs.length := by rw [g.len]; exact hv
  have ev : rs[v]? = some rs[v] := List.getElem?_eq_getElem lv
  have top : (rs.map V.ref)[v]? = some (V.ref rs[v]) := by rw [List.getElem?_map, ev]; rfl
  generalize rs[v] = rv at ev top
  refine ix_row rfl rfl g.top top ?_
  refine ⟨_, rfl, m, 0, _, rfl, hm, ⟨by decide, by decide, by omega, by omega⟩, ?_⟩
  rw [show (((n : Int) - 0).toNat) = n by omega]
  refine for_range (lo := 0) (n := n) (fun i σ H' => ∃ o4 o5 o6, σ = [some (.ref a), some (.ref m), some (.int ((v : Nat) : Int)), some (.ref rv), o4, o5, o6] ∧ Gr H' a rs n ((List.range i).foldl (Fw.rowM n v) N) ∧ Kp rs H H')
    ⟨o4, o5, o6, rfl, g, fun b o _ e => e⟩ ?_ ?_
  · rintro i σ H1 hi ⟨o4, o5, o6, rfl, g1, k1⟩
    rw [Int.zero_add]
    refine row_step g1 n100 (k1 _ _ mr hm) mr hv hi ev (fun o5 o6 H2 g2 k2 => ?_) (fun o5 o6 H2 g2 k2 => ?_)
    · exact ⟨_, o5, o6, rfl, by rw [fold_succ]; exact g2, fun b o hb e => k2 b o hb (k1 b o hb e)⟩
    · exact ⟨_, o5, o6, rfl, by rw [fold_succ]; exact g2, fun b o hb e => k2 b o hb (k1 b o hb e)⟩
  · rintro σ H1 ⟨o4, o5, o6, rfl, g1, k1⟩
    exact h _ _ _ _ H1 g1 k1
theorem ok_shorten (bl : Blts mg) {f : Addr} {fd : FuncData} (F : Fun K "shorten" "shorten" s_shorten f fd) : FnOk P w K mg base CX0 1 f fd p_shorten (spShorten K) := by
  refine F.ok sc_shorten (fun vs H Q E h => ?_) (fun cdv A outer s H vs Q E hr h => ?_)
  · obtain ⟨a, rs, n, M, rfl, _⟩ := h
    rfl
  obtain ⟨a, rs, n, M, rfl, g, n100, q⟩ := h
  refine ⟨_, (pss_cons (ps_set (i := 1) sc_shorten.nd rfl (by first | exact Or.inl rfl | exact Or.inr rfl) (pe_callTy cr_range1 rfl bl.range (by decide +kernel) (pa_cons (pe_callB call_len_seq rfl bl.len (by decide +kernel) (pa_cons (pv 0) pa_nil)) pa_nil)))
    (pss_one (ps_for PassesOwn.never rfl (pi_rngV (pv 1)) (pg_name (i := 2) sc_shorten.nd rfl (by first | exact Or.inl rfl | exact Or.inr rfl)) (pss_cons (ps_set (i := 3) sc_shorten.nd rfl (by first | exact Or.inl rfl | exact Or.inr rfl) (pe_ix ix_list (pv 0) (pv 2) (fun _ _ => rfl)))
    (pss_one (ps_for PassesOwn.never rfl (pi_rngV (pv 1)) (pg_name (i := 4) sc_shorten.nd rfl (by first | exact Or.inl rfl | exact Or.inr rfl)) (pss_cons (ps_set (i := 5) sc_shorten.nd rfl (by first | exact Or.inl rfl | exact Or.inr rfl) (pe_ix ix_list (pv 0) (pv 4) (fun _ _ => rfl)))
    (pss_cons (ps_if (pt_cmpR op_isN (pe_ix ix_list (pv 5) (pv 2) (fun _ _ => rfl)) pe_non (nomark _)) (pss_one ps_continue) pss_nil)
    (pss_one (ps_for PassesOwn.never rfl (pi_rngV (pv 1)) (pg_name (i := 6) sc_shorten.nd rfl (by first | exact Or.inl rfl | exact Or.inr rfl)) (pss_one (ps_if (PW.pt (pw_and (pt_cmpR op_notN (pe_ix ix_list (pv 3) (pv 6) (fun _ _ => rfl)) pe_non (nomark _)) (pw_and1 (PW.pt (pw_or (pt_cmpR op_isN (pe_ix ix_list (pv 5) (pv 6) (fun _ _ => rfl)) pe_non (nomark _)) (pw_or1 (pt_cmpR op_lt (pe_op op_add (pe_ix ix_list (pv 5) (pv 2) (fun _ _ => rfl)) (pe_ix ix_list (pv 3) (pv 6) (fun _ _ => rfl))) (pe_ix ix_list (pv 5) (pv 6) (fun _ _ => rfl)) (nomark _)))))))) (pss_one (ps_asg (pe_op op_add (pe_ix ix_list (pv 5) (pv 2) (fun _ _ => rfl)) (pe_ix ix_list (pv 3) (pv 6) (fun _ _ => rfl))) (pg_sub (pv 5) (pv 6) set_list))) pss_nil)))))))))))), ?_⟩
  refine ⟨_, rfl, a, _, rfl, .inl (SqL.of g.top), _, rfl, fun m hm => ?_⟩
  have sm : Same H (upd H m (.rng 0 (((rs.map V.ref).length : Nat) : Int))) := same_up hm
  have el : (rs.map V.ref).length = n := by rw [List.length_map, g.len]
  have na : m ≠ a := fun e => by rw [e, g.top] at hm; cases hm
  have nr : m ∉ rs := fun e => by
    obtain ⟨k, hk, e2⟩ := List.getElem_of_mem e
    have := g.row k m (by rw [List.getElem?_eq_getElem hk, e2])
    rw [this] at hm; cases hm
  have g1 : Gr (upd H m (.rng 0 (((rs.map V.ref).length : Nat) : Int))) a rs n M := ⟨sm _ _ g.top, g.len, g.nd, g.na, fun k r hk => sm _ _ (g.row k r hk)⟩
  have um : (upd H m (.rng 0 (((rs.map V.ref).length : Nat) : Int))) m = some (.rng 0 (((rs.map V.ref).length : Nat) : Int)) := upd_same
  generalize upd H m (.rng 0 (((rs.map V.ref).length : Nat) : Int)) = H1 at sm g1 um ⊢
  rw [el] at um
  refine ⟨_, rfl, m, 0, _, rfl, um, ⟨by decide, by decide, by omega, by omega⟩, ?_⟩
  rw [show (((n : Int) - 0).toNat) = n by omega]
  refine for_range (lo := 0) (n := n) (fun v σ H2 => ∃ o2 o3 o4 o5 o6, σ = [some (.ref a), some (.ref m), o2, o3, o4, o5, o6] ∧ Gr H2 a rs n ((List.range v).foldl (Fw.viaM n) M) ∧ Kp rs H1 H2)
    ⟨none, none, none, none, none, rfl, g1, fun b o _ e => e⟩ ?_ ?_
  · rintro v σ H2 hv ⟨o2, o3, o4, o5, o6, rfl, g2, k2⟩
    rw [Int.zero_add]
    refine via_step (K := K) g2 n100 (k2 _ _ nr um) nr hv fun o3 o4 o5 o6 H3 g3 k3 => ?_
    exact ⟨_, o3, o4, o5, o6, rfl, by rw [fold_succ]; exact g3, fun b o hb e => k3 b o hb (k2 b o hb e)⟩
  · rintro σ H2 ⟨o2, o3, o4, o5, o6, rfl, g2, k2⟩
    exact q H2 g2 fun b o hb e => k2 b o hb (sm _ _ e)
end
end Sh
set_option Elab.async false
set_option linter.all false
set_option maxRecDepth 100000
set_option maxHeartbeats 4000000
namespace Sh
open PySem PySem.Spec PyProof.Rows L2
abbrev s_opposite : Stmt := topS 6
abbrev N_opposite : List Str := ["bound"]
abbrev p_opposite : List Str := ["bound"]
theorem sc_opposite : FnScope N_opposite p_opposite (defScope s_opposite) := ⟨rfl, rfl, rfl, by decide +kernel, rfl, by decide +kernel, by decide +kernel⟩
abbrev s_with_zero : Stmt := topS 9
abbrev N_with_zero : List Str := ["gaps", "spans", "ways", "row", "span"]
abbrev p_with_zero : List Str := ["gaps", "spans"]
theorem sc_with_zero : FnScope N_with_zero p_with_zero (defScope s_with_zero) := ⟨rfl, rfl, rfl, by decide +kernel, rfl, by decide +kernel, by decide +kernel⟩
def ngO (o : Option Int) : Option Int := o.map fun x => -x
def spOpp (_ : PySem.W.Frag) : Sp := fun vs H Q _ => ∃ o, vs = [ov o] ∧ Q (ov (ngO o)) H
def wzM (n : Nat) (g : Mx) (lo hi : Nat → Option Int) : Mx := fun i j => if i < n then (if j < n then g i j else if j = n then hi i else none) else if i = n then (if j < n then ngO (lo j) else if j = n then some 0 else none) else none
theorem wz_row {n i : Nat} {g : Mx} {lo hi : Nat → Option Int} (h : i < n) : rowV (n + 1) (wzM n g lo hi) i = rowV n g i ++ [ov (hi i)] := by
  unfold rowV
  rw [List.range_succ, List.map_append]
  congr 1
  · refine List.map_congr_left fun j hj => ?_
    unfold wzM; rw [if_pos h, if_pos (List.mem_range.mp hj)]
  · show [ov _] = _
    unfold wzM; rw [if_pos h, if_neg (by omega), if_pos rfl]
theorem wz_last {n : Nat} {g : Mx} {lo hi : Nat → Option Int} : rowV (n + 1) (wzM n g lo hi) n = (List.range n).map (fun j => ov (ngO (lo j))) ++ [.int 0] := by
  unfold rowV
  rw [List.range_succ, List.map_append]
  congr 1
  · refine List.map_congr_left fun j hj => ?_
    unfold wzM; rw [if_neg (by omega), if_pos rfl, if_pos (List.mem_range.mp hj)]
  · show [ov _] = _
    unfold wzM; rw [if_neg (by omega), if_pos rfl, if_neg (by omega), if_pos rfl]; rfl
theorem wz_fin {n : Nat} {g : Mx} {lo hi : Nat → Option Int} : Fw.fin (n + 1) (wzM n g lo hi) := fun a b h => by
  unfold wzM
  by_cases h1 : a < n
  · rw [if_pos h1, if_neg (by omega), if_neg (by omega)]
  · by_cases h2 : a = n
    · rw [if_neg h1, if_pos h2, if_neg (by omega), if_neg (by omega)]
    · rw [if_neg h1, if_neg h2]
/-- what with_zero is given -/
def WzIn (K : PySem.W.Frag) (H : Hp) (a b : Addr) (n : Nat) (g : Mx) (lo hi : Nat → Option Int) : Prop := ∃ k1 k2 xs ys, SqK K k1 H a xs ∧ SqK K k2 H b ys ∧ xs.length = n ∧ ys.length = n ∧
  (∀ i x, xs[i]? = some x → ∃ k p, x = .ref p ∧ SqK K k H p (rowV n g i)) ∧ ∀ i y, ys[i]? = some y → ∃ k q, y = .ref q ∧ SqK K k H q [ov (lo i), ov (hi i)]
structure Pg (H0 H : Hp) (D : Addr) (rs : List Addr) (i m : Nat) (M : Mx) : Prop where
  top : H D = some (.lst (rs.map V.ref))
  len : rs.length = i
  nd : rs.Nodup
  na : D ∉ rs
  row : ∀ k r, rs[k]? = some r → H r = some (.lst (rowV m M k))
  fr : ∀ r ∈ rs, H0 r = none
  sm : Same H0 H
theorem Pg.same {H0 H H' : Hp} {D : Addr} {rs : List Addr} {i m : Nat} {M : Mx} (p : Pg H0 H D rs i m M) (s : Same H H') : Pg H0 H' D rs i m M :=
  ⟨s _ _ p.top, p.len, p.nd, p.na, fun k r h => s _ _ (p.row k r h), p.fr, p.sm.trans s⟩
theorem Pg.app {H0 H : Hp} {D q : Addr} {rs : List Addr} {i m : Nat} {M : Mx} (p : Pg H0 H D rs i m M) (nD : H0 D = none) (nq : H q = none) :
    Pg H0 (upd (upd H q (.lst (rowV m M i))) D (.lst (rs.map V.ref ++ [V.ref q]))) D (rs ++ [q]) (i + 1) m M := by
  have qD : q ≠ D := fun e => by rw [e, p.top] at nq; cases nq
  have nr : q ∉ rs := fun e => by
    obtain ⟨k, hk, e2⟩ := List.getElem_of_mem e
    have := p.row k q (by rw [List.getElem?_eq_getElem hk, e2])
    rw [this] at nq; cases nq
  refine ⟨by rw [upd_same, List.map_append]; rfl, by rw [List.length_append, p.len]; rfl, ?_, ?_, ?_, ?_, ?_⟩
  · rw [List.nodup_append]
    refine ⟨p.nd, by simp, fun x hx y hy e => ?_⟩
    rw [List.mem_singleton.mp hy] at e
    exact nr (e ▸ hx)
  · intro h
    rcases List.mem_append.mp h with h | h
    · exact p.na h
    · exact qD (List.mem_singleton.mp h).symm
  · intro k r h
    by_cases hk : k < rs.length
    · rw [List.getElem?_append_left hk] at h
      have hm : r ∈ rs := List.mem_of_getElem? h
      rw [upd_ne (fun e => p.na (by rw [← e]; exact hm)), upd_ne (fun e => nr (by rw [← e]; exact hm))]
      exact p.row k r h
    · rw [List.getElem?_append_right (by omega)] at h
      have e0 : k - rs.length = 0 := by
        rcases Nat.eq_zero_or_pos (k - rs.length) with z | z
        · exact z
        · rw [List.getElem?_eq_none (by simp; omega)] at h; cases h
      rw [e0] at h
      cases h
      rw [upd_ne qD, upd_same, show k = i by have := p.len; omega]
  · intro r h
    rcases List.mem_append.mp h with h | h
    · exact p.fr r h
    · rw [List.mem_singleton.mp h]
      cases e : H0 q with
      | none => rfl
      | some o => rw [p.sm _ _ e] at nq; cases nq
  · intro c o e
    have h1 := p.sm c o e
    rw [upd_ne (fun z => by rw [z, nD] at e; cases e), upd_ne (fun z => by rw [z, nq] at h1; cases h1)]
    exact h1
def spWz (K : PySem.W.Frag) : Sp := fun vs H Q _ => ∃ a b n g lo hi, vs = [.ref a, .ref b] ∧ WzIn K H a b n g lo hi ∧ n ≤ 99 ∧
  ∀ a' rs H', Gr H' a' rs (n + 1) (wzM n g lo hi) → H a' = none → (∀ r ∈ rs, H r = none) → Same H H' → Q (.ref a') H'
theorem walk_zipK {K : PySem.W.Frag} {k1 k2 : Bool} {a b : Addr} {xs ys : List V} {G : Hp} (h : SqK K k1 G a xs) (h' : SqK K k2 G b ys) : Walk (ItzK K k1 k2 a b) (min xs.length ys.length) (fun H => Same G H)
    (fun i H v H' => ∃ T x y, v = .ref T ∧ H T = none ∧ H' = upd H T (.tup [x, y]) ∧ xs[i]? = some x ∧ ys[i]? = some y) :=
  ⟨fun i H hi s => ⟨xs, ys, xs[i]'(by omega), ys[i]'(by omega), same_sqK s h, same_sqK s h', List.getElem?_eq_getElem _, List.getElem?_eq_getElem _⟩,
    fun H s => ⟨xs, ys, same_sqK s h, same_sqK s h', rfl⟩,
    fun i H v H' hi s y => by
      obtain ⟨T, x, z, e, n, e2, f1, f2⟩ := y
      exact ⟨T, x, z, e, n, e2, f1 xs (same_sqK s h), f2 ys (same_sqK s h')⟩⟩
section
variable {P : Program} {w : World} {K : PySem.W.Frag} {mg : Str → Option Value} {base : Heap}
theorem tConsI {t : TE} {u : TA} {σ : L2.St} {H : Hp} {Q : List V → Hp → Prop} (h : t σ H fun v H1 => u σ H1 fun vs H2 => Q (v :: vs) H2) : tCons t u σ H Q := h
theorem tOpI {r : R2} {t u : TE} {σ : L2.St} {H : Hp} {Q : VK} (h : t σ H fun x H1 => u σ H1 fun y H2 => r x y H2 Q) : tOp r t u σ H Q := h
theorem ix_pair {k : Bool} {H : Hp} {p : Addr} {x y v : V} {i : Int} {Q : VK} (h : SqK K k H p [x, y]) (hv : (i = 0 ∧ v = x) ∨ (i = 1 ∧ v = y)) (q : Q v H) : rIx K (.ref p) (.int i) H Q := by
  have at' : atI [x, y] i = some v := by
    rcases hv with ⟨rfl, rfl⟩ | ⟨rfl, rfl⟩ <;> rfl
  cases k
  · exact .inl ⟨p, _, _, _, rfl, rfl, h, at', q⟩
  · exact .inr (.inl ⟨p, _, _, _, rfl, rfl, h, at', q⟩)
theorem ok_oppV {f : Addr} {fd : FuncData} (F : Fun K "opposite" "opposite" s_opposite f fd) : FnOk P w K mg base CX0 1 f fd p_opposite (spOpp K) := by
  refine F.ok sc_opposite (fun vs H Q E h => ?_) (fun cdv A outer s H vs Q E hr h => ?_)
  · obtain ⟨o, rfl, _⟩ := h
    rfl
  obtain ⟨o, rfl, q⟩ := h
  refine ⟨_, (pss_cons (ps_if (pt_cmpR op_isN (pv 0) pe_non (nomark _)) (pss_one (ps_ret pe_non)) pss_nil)
    (pss_one (ps_ret (pe_un un_neg (pv 0))))), ?_⟩
  refine ⟨_, rfl, rfl, _, rfl, ?_⟩
  rw [ov_some]
  cases o with
  | none => rw [if_pos (show (none : Option Int).isNone = true from rfl)]; exact q
  | some x => rw [if_neg (fun h => nomatch h)]; exact ⟨_, rfl, x, rfl, q⟩
theorem lc_spans {k2 : Bool} {H : Hp} {b : Addr} {ys : List V} {n : Nat} {lo : Nat → Option Int} {o0 o2 o3 o4 : Option V} {Q : VK} (hy : SqK K k2 H b ys) (ly : ys.length = n)
    (fy : ∀ i y, ys[i]? = some y → ∃ k q h, y = .ref q ∧ SqK K k H q [ov (lo i), h]) (q : ∀ E H', Same H H' → H' E = some (.lst ((List.range n).map fun j => ov (ngO (lo j)))) → Q (.ref E) H') (z9 : n ≤ 99 := by assumption) :
    tLc (fun σ H R => iList K (tVar 1) σ H R ∨ iTup K (tVar 1) σ H R) (gName 4) tYes (tCall (spOpp K) [] E0 (tCons (tOp (rIx K) (tVar 4) (tC (.int 0))) tNil)) [4] [o0, some (.ref b), o2, o3, o4] H Q := by
  have z10 : 1000 ≤ sizeLine := by decide
  have step : ∀ (E : Addr) (i : Nat) (x : V) (H3 : Hp), H E = none → i < n → ys[i]? = some x → H3 E = some (.lst ((List.range i).map fun j => ov (ngO (lo j)))) → Same H H3 →
      tCall (spOpp K) [] E0 (tCons (tOp (rIx K) (tVar 4) (tC (.int 0))) tNil) [o0, some (.ref b), o2, o3, some x] H3 fun y H4 => ∃ acc, H4 E = some (.lst acc) ∧ acc.length < sizeLine ∧ ((upd H4 E (.lst (acc ++ [y]))) E = some (.lst ((List.range (i + 1)).map fun j => ov (ngO (lo j)))) ∧ Same H (upd H4 E (.lst (acc ++ [y])))) := by
    intro E i x H3 nE hi ex e s
    obtain ⟨k, p, h, rfl, hp⟩ := fy i x ex
    refine ⟨_, rfl, ix_pair (same_sqK s hp) (.inl ⟨rfl, rfl⟩) ⟨lo i, rfl, _, e, by rw [List.length_map, List.length_range]; omega, ?_, fun c o ho => ?_⟩⟩
    · rw [upd_same, List.range_succ, List.map_append]; rfl
    · rw [upd_ne (fun z => by rw [z, nE] at ho; cases ho)]; exact s c o ho
  cases k2
  · refine .inl ⟨_, rfl, b, rfl, ⟨ys, hy⟩, fun E nE => ?_⟩
    refine lc_it (walk_list (xs := ys)) (fun i H3 => H3 E = some (.lst ((List.range i).map fun j => ov (ngO (lo j)))) ∧ Same H H3) ⟨upd_same, same_up nE⟩ (fun i H3 _ h => same_sqL h.2 hy) ?_ (fun H3 h => q E H3 h.2 (by rw [← ly]; exact h.1))
    rintro i x H3 H4 hi ⟨e, s⟩ ⟨rfl, ex⟩
    refine ⟨rfl, ?_⟩
    unfold tYes
    show (if (true : Bool) = true then _ else _)
    rw [if_pos rfl]
    exact step E i x _ nE (by omega) ex e s
  · refine .inr ⟨_, rfl, b, rfl, ⟨ys, hy⟩, fun E nE => ?_⟩
    refine lc_it (walk_tup (xs := ys)) (fun i H3 => H3 E = some (.lst ((List.range i).map fun j => ov (ngO (lo j)))) ∧ Same H H3) ⟨upd_same, same_up nE⟩ (fun i H3 _ h => same_sqT h.2 hy) ?_ (fun H3 h => q E H3 h.2 (by rw [← ly]; exact h.1))
    rintro i x H3 H4 hi ⟨e, s⟩ ⟨rfl, ex⟩
    refine ⟨rfl, ?_⟩
    unfold tYes
    show (if (true : Bool) = true then _ else _)
    rw [if_pos rfl]
    exact step E i x _ nE (by omega) ex e s
theorem ok_wz (bl : Blts mg) {g_opposite : Addr} {d_opposite : FuncData} (c_opposite : Cal P w K mg base 1 "opposite" p_opposite (spOpp K) g_opposite d_opposite) {f : Addr} {fd : FuncData} (F : Fun K "with_zero" "with_zero" s_with_zero f fd) : FnOk P w K mg base CX0 2 f fd p_with_zero (spWz K) := by
  refine F.ok sc_with_zero (fun vs H Q E h => ?_) (fun cdv A outer s H vs Q E hr h => ?_)
  · obtain ⟨a, b, n, g, lo, hi, rfl, _⟩ := h
    rfl
  obtain ⟨a, b, n, g, lo, hi, rfl, ⟨k1, k2, xs, ys, hx, hy, lx, ly, fx, fy⟩, n99, q⟩ := h
  refine ⟨_, (pss_cons (ps_setLc (i := 2) (own := [("row", 3), ("span", 4)]) (g := (gTup K 2 (gCons (gName 3) (gCons (gName 4) gNil)))) (te := (tOp rCat (tCB (fun xs H Q => ∃ p ys, xs = [.ref p] ∧ (SqL K H p ys ∨ SqT K H p ys) ∧ ∀ l, H l = none → Q (.ref l) (upd H l (.lst ys))) (tCons (tVar 3) tNil)) (tLst (tCons (tOp (rIx K) (tVar 4) (tC (.int 1))) tNil)))) (tt := tYes) rfl sc_with_zero.nd rfl rfl (sw_true rfl rfl rfl (by decide +kernel)) (pi_zipK rfl bl.zip (pa_cons (pv 0) (pa_cons (pv 1) pa_nil))) (blkOk_by (N := N_with_zero) (sc := defScope s_with_zero) (by decide +kernel)) (fun _ _ _ _ _ => (pg_tup rfl (pgs_cons (pg_name (i := 3) sc_with_zero.nd rfl (by first | exact Or.inl rfl | exact Or.inr rfl)) (pgs_cons (pg_name (i := 4) sc_with_zero.nd rfl (by first | exact Or.inl rfl | exact Or.inr rfl)) pgs_nil)))) (fun _ _ _ _ _ => pts_nil) (fun _ _ _ _ _ => (pe_op op_cat (pe_callTy call_list_of rfl bl.list (by decide +kernel) (pa_cons (pv 3) pa_nil)) (pe_lst (pa_cons (pe_ix ix_seq (pv 4) pe_int (fun _ _ => rfl)) pa_nil)))))
    (pss_cons (ps_expr (pe_bm PySem.F.plainAttrs_list PySem.F.slot_list_append PySem.F.type_list_append mt_append (pv 2) (pa_cons (pe_op op_cat (pe_lc (own := [("span", 4)]) (g := (gName 4)) (te := (tCall (spOpp K) [] E0 (tCons (tOp (rIx K) (tVar 4) (tC (.int 0))) tNil))) (tt := tYes) rfl sc_with_zero.nd (pi_or (pi_list (pv 1)) (pi_tup (pv 1))) (blkOk_by (N := N_with_zero) (sc := defScope s_with_zero) (by decide +kernel)) (fun _ _ _ _ _ => (pg_name (i := 4) sc_with_zero.nd rfl (by first | exact Or.inl rfl | exact Or.inr rfl))) (fun _ _ _ _ _ => pts_nil) (fun _ _ _ _ _ => (pe_call c_opposite.ok (hr.mono (by decide)) rfl c_opposite.mg c_opposite.kp c_opposite.bi .nil pass0 (pa_cons (pe_ix ix_seq (pv 4) pe_int (fun _ _ => rfl)) pa_nil)))) (pe_lst (pa_cons pe_int pa_nil))) pa_nil)))
    (pss_one (ps_ret (pv 2))))), ?_⟩
  refine ⟨_, rfl, _, rfl, a, b, xs, ys, k1, k2, rfl, hx, hy, fun D nD => ?_⟩
  have z9 : 1000 ≤ sizeLine := by decide
  refine lc_it (walk_zipK (K := K) hx hy) (fun i H2 => ∃ rs, Pg H H2 D rs i (n + 1) (wzM n g lo hi)) ⟨[], upd_same, rfl, List.nodup_nil, List.not_mem_nil, fun k r h => (by cases h), fun r h => (by cases h), same_up nD⟩ (fun i H2 _ ⟨rs, p⟩ => p.sm) ?_ ?_
  · rintro i x H2 H3 hi' ⟨rs, p⟩ ⟨T, u, v, rfl, nT, rfl, e1, e2⟩
    have hin : i < n := by omega
    have p1 := p.same (same_up (o := .tup [u, v]) nT)
    have tT : (upd H2 T (.tup [u, v])) T = some (.tup [u, v]) := upd_same
    generalize upd H2 T (.tup [u, v]) = H3 at p1 tT ⊢
    obtain ⟨kr, pr, rfl, hr'⟩ := fx i u e1
    obtain ⟨ks, ps, rfl, hs'⟩ := fy i v e2
    refine ⟨T, _, rfl, SqT.of tT, rfl, _, _, rfl, _, _, rfl, ⟨rfl, ?_⟩⟩
    refine ⟨rfl, ?_⟩
    unfold tYes
    show (if (true : Bool) = true then _ else _)
    rw [if_pos rfl]
    refine ⟨_, rfl, pr, rowV n g i, rfl, ?_, fun l nl => ?_⟩
    · cases kr
      · exact .inl (same_sqK p1.sm hr')
      · exact .inr (same_sqK p1.sm hr')
    have p2 := p1.same (same_up (o := .lst (rowV n g i)) nl)
    have tl : (upd H3 l (.lst (rowV n g i))) l = some (.lst (rowV n g i)) := upd_same
    generalize upd H3 l (.lst (rowV n g i)) = H4 at p2 tl ⊢
    refine ⟨_, rfl, ix_pair (same_sqK p2.sm hs') (.inr ⟨rfl, rfl⟩) ⟨by show 1 ≤ sizeLine; omega, fun m nm => ?_⟩⟩
    have sm := same_up (o := .lst [ov (hi i)]) nm
    have p3 := p2.same sm
    have tl2 := sm _ _ tl
    have tm : (upd H4 m (.lst [ov (hi i)])) m = some (.lst [ov (hi i)]) := upd_same
    generalize upd H4 m (.lst [ov (hi i)]) = H5 at p3 tl2 tm ⊢
    refine ⟨l, m, _, _, rfl, rfl, tl2, tm, by rw [rowV_len]; show n + 1 ≤ sizeLine; omega, fun c nc => ?_⟩
    rw [← wz_row hin]
    have cD : D ≠ c := fun e => by rw [← e, p3.top] at nc; cases nc
    exact ⟨_, by rw [upd_ne cD]; exact p3.top, by rw [List.length_map, p3.len]; omega, _, p3.app nD nc⟩
  rintro H2 ⟨rs, p⟩
  rw [show min xs.length ys.length = n by omega] at p
  refine ⟨_, rfl, .inl ⟨rfl, _, SqL.of p.top⟩, ?_⟩
  refine tConsI (tOpI ?_)
  show tLc (fun σ H R => iList K (tVar 1) σ H R ∨ iTup K (tVar 1) σ H R) (gName 4) tYes (tCall (spOpp K) [] E0 (tCons (tOp (rIx K) (tVar 4) (tC (.int 0))) tNil)) [4] [some (.ref a), some (.ref b), some (.ref D), none, none] H2 _
  refine lc_spans (K := K) (same_sqK p.sm hy) ly (fun i y e => by
    obtain ⟨k, q, e1, h1⟩ := fy i y e
    exact ⟨k, q, _, e1, same_sqK p.sm h1⟩) fun E' H3 s3 tE => ⟨by show 1 ≤ sizeLine; omega, fun m nm => ?_⟩
  have p3 := p.same s3
  have sm := same_up (o := .lst [.int 0]) nm
  have p4 := p3.same sm
  have tE4 := sm _ _ tE
  have tm : (upd H3 m (.lst [.int 0])) m = some (.lst [.int 0]) := upd_same
  generalize upd H3 m (.lst [.int 0]) = H4 at p4 tE4 tm ⊢
  refine ⟨E', m, _, _, rfl, rfl, tE4, tm, by rw [List.length_map, List.length_range]; show n + 1 ≤ sizeLine; omega, fun c nc => ?_⟩
  rw [← wz_last (g := g) (hi := hi)]
  have cD : D ≠ c := fun e => by rw [← e, p4.top] at nc; cases nc
  have p5 := p4.app nD nc
  exact ⟨D, _, _, rfl, rfl, by rw [upd_ne cD]; exact p4.top, by rw [List.length_map, p4.len]; omega, _, rfl, q D _ _ ⟨p5.top, p5.len, p5.nd, p5.na, p5.row⟩ nD p5.fr p5.sm⟩
end
end Sh
set_option Elab.async false
set_option linter.all false
set_option maxRecDepth 100000
set_option maxHeartbeats 4000000
/-! the grid of gaps_closed, once it is small, as data -/
namespace Sh
open PySem PySem.Spec PyProof.Rows L2
section
variable {K : PySem.W.Frag} {ρ : List En} {N : List En → Prop} {R : Dt → List En → Prop}
theorem rd_ov {G : Hp} {o : Option Int} : RD K G (oD o) (ov o) := by
  cases o
  · exact rfl
  · exact rfl
theorem rd_ov' {G : Hp} {o : Option Int} {x : V} (r : RD K G (oD o) x) : x = ov o := by
  cases o
  · exact r
  · exact r
theorem rds_ov {G : Hp} : ∀ {l : List (Option Int)}, RDs K G (l.map oD) (l.map ov)
  | [] => rfl
  | o :: l => ⟨ov o, l.map ov, rfl, rd_ov, rds_ov (l := l)⟩
theorem rds_ov' {G : Hp} : ∀ {l : List (Option Int)} {xs : List V}, RDs K G (l.map oD) xs → xs = l.map ov
  | [], _, h => h
  | o :: l, _, ⟨x, r, e, h1, h2⟩ => by rw [e, rd_ov' h1, rds_ov' (l := l) h2]; rfl
theorem rds_of {G : Hp} : ∀ {ds : List Dt} {vs : List V}, ds.length = vs.length → (∀ (i : Nat) (d : Dt) (v : V), ds[i]? = some d → vs[i]? = some v → RD K G d v) → RDs K G ds vs
  | [], [], _, _ => rfl
  | [], _ :: _, h, _ => by cases h
  | _ :: _, [], h, _ => by cases h
  | d :: ds, v :: vs, h, f => ⟨v, vs, rfl, f 0 d v rfl rfl, rds_of (by simpa using h) fun i d' v' h1 h2 => f (i + 1) d' v' (by simpa using h1) (by simpa using h2)⟩
/-- a row, a grid as data -/
def rwD (m : Nat) (M : Mx) (k : Nat) : List Dt := ((List.range m).map fun j => M k j).map oD
def grD (m : Nat) (M : Mx) : List Dt := (List.range m).map fun k => .lst (rwD m M k)
theorem row_map {m : Nat} {M : Mx} {k : Nat} : rowV m M k = ((List.range m).map fun j => M k j).map ov := by
  unfold rowV; rw [List.map_map]; rfl
theorem grD_at {m : Nat} {M : Mx} {k : Nat} (h : k < m) : (grD m M)[k]? = some (.lst (rwD m M k)) := by
  unfold grD; rw [List.getElem?_map, List.getElem?_range h]; rfl
theorem rwD_at {m : Nat} {M : Mx} {k j : Nat} (h : j < m) : (rwD m M k)[j]? = some (oD (M k j)) := by
  unfold rwD; rw [List.map_map, List.getElem?_map, List.getElem?_range h]; rfl
theorem gr_nw {G H H' : Hp} {a : Addr} {rs : List Addr} {m : Nat} {M : Mx} (s : Same G H) (sm : Same H H') (g : Gr H' a rs m M) (na : H a = none) (nr : ∀ r ∈ rs, H r = none) : ∃ G', Nw G H G' H' ∧ RD K G' (.lst (grD m M)) (.ref a) := by
  classical
  have gN : ∀ c, (c = a ∨ c ∈ rs) → G c = none := fun c hc => by
    cases e : G c with
    | none => rfl
    | some o =>
      have h := s _ _ e
      rcases hc with rfl | hc
      · rw [na] at h; cases h
      · rw [nr _ hc] at h; cases h
  have sg : Same G (fun c => if c = a ∨ c ∈ rs then H' c else G c) := fun c o e => by
    show (if _ then _ else _) = _
    rw [if_neg (fun hc => by rw [gN c hc] at e; cases e)]; exact e
  refine ⟨fun c => if c = a ∨ c ∈ rs then H' c else G c, ⟨sg, fun c o e => ?_, sm, fun c e1 e2 => ?_⟩, ?_⟩
  · have e' : (if c = a ∨ c ∈ rs then H' c else G c) = some o := e
    by_cases hc : c = a ∨ c ∈ rs
    · rw [if_pos hc] at e'; exact e'
    · rw [if_neg hc] at e'; exact sm _ _ (s _ _ e')
  · show (if _ then _ else _) = _
    rw [if_neg (fun hc => by
      rcases hc with rfl | hc
      · exact e2 na
      · exact e2 (nr _ hc))]
    exact e1
  · refine ⟨a, rs.map V.ref, rfl, ?_, rds_of (by unfold grD; rw [List.length_map, List.length_map, List.length_range, g.len]) fun k d v h1 h2 => ?_⟩
    · show (if _ then _ else _) = _
      rw [if_pos (.inl rfl)]; exact g.top
    · have hk : k < m := by
        have := (List.getElem?_eq_some_iff.mp h1).1
        unfold grD at this; rw [List.length_map, List.length_range] at this; exact this
      rw [grD_at hk] at h1
      cases h1
      rw [List.getElem?_map] at h2
      cases er : rs[k]? with
      | none => rw [er] at h2; cases h2
      | some r =>
        rw [er] at h2
        cases h2
        refine ⟨r, rowV m M k, rfl, ?_, by rw [row_map]; exact rds_ov⟩
        show (if _ then _ else _) = _
        rw [if_pos (.inr (List.mem_of_getElem? er))]
        exact g.row k r er
/-- what with_zero is given, as data -/
def WzD (d1 d2 : Dt) (n : Nat) (g : Mx) (lo hi : Nat → Option Int) : Prop := ∃ k1 k2 l m, d1 = sq k1 l ∧ d2 = sq k2 m ∧ l.length = n ∧ m.length = n ∧
  (∀ (i : Nat) (d : Dt), l[i]? = some d → ∃ k, d = sq k (rwD n g i)) ∧ ∀ (i : Nat) (d : Dt), m[i]? = some d → ∃ k, d = sq k [oD (lo i), oD (hi i)]
theorem wz_in {G H : Hp} {d1 d2 : Dt} {x y : V} {n : Nat} {g : Mx} {lo hi : Nat → Option Int} (s : Same G H) (w : WzD d1 d2 n g lo hi) (r1 : RD K G d1 x) (r2 : RD K G d2 y) : ∃ a b, x = .ref a ∧ y = .ref b ∧ WzIn K H a b n g lo hi := by
  obtain ⟨k1, k2, l, m, rfl, rfl, ll, lm, f1, f2⟩ := w
  obtain ⟨a, xs, rfl, h1, q1⟩ := sqK_of s r1
  obtain ⟨b, ys, rfl, h2, q2⟩ := sqK_of s r2
  refine ⟨a, b, rfl, rfl, k1, k2, xs, ys, same_sqK s h1, same_sqK s h2, by rw [q1.length, ll], by rw [q2.length, lm], fun i x e => ?_, fun i y e => ?_⟩
  · obtain ⟨d, e1, rd⟩ := q1.back e
    obtain ⟨k, rfl⟩ := f1 i d e1
    obtain ⟨p, zs, rfl, h3, q3⟩ := sqK_of s rd
    refine ⟨k, p, rfl, ?_⟩
    rw [row_map, ← rds_ov' q3]
    exact same_sqK s h3
  · obtain ⟨d, e1, rd⟩ := q2.back e
    obtain ⟨k, rfl⟩ := f2 i d e1
    obtain ⟨p, zs, rfl, h3, q3⟩ := sqK_of s rd
    refine ⟨k, p, rfl, ?_⟩
    obtain ⟨u, v, rfl, r3, r4⟩ := q3.two
    rw [← rd_ov' r3, ← rd_ov' r4]
    exact same_sqK s h3
/-- ways = with_zero(gaps, spans); shorten(ways) -/
theorem as_grid {i j iw n : Nat} {d1 d2 : Dt} {g : Mx} {lo hi : Nat → Option Int} {rest : TS} (e1 : ρ[i]? = some (.da d1)) (e2 : ρ[j]? = some (.da d2)) (w : WzD d1 d2 n g lo hi) (n99 : n ≤ 99) (li : iw < ρ.length)
    (h : AS K rest (ρ.set iw (.da (.lst (grD (n + 1) (Fw.fwM (n + 1) (wzM n g lo hi)))))) N R) :
    AS K (tSeq (tAsg (tCall (spWz K) [] E0 (tCons (tVar i) (tCons (tVar j) tNil))) (gName iw)) (tSeq (tDrop (tCall (spShorten K) [] E0 (tCons (tVar iw) tNil))) rest)) ρ N R := fun B σ G H m D qn qr => by
  obtain ⟨x, x1, rx⟩ := m.da i d1 e1
  obtain ⟨y, y1, ry⟩ := m.da j d2 e2
  obtain ⟨a, b, rfl, rfl, wi⟩ := wz_in (K := K) m.sub w rx ry
  refine ⟨_, x1, _, y1, a, b, n, g, lo, hi, rfl, wi, n99, fun a' rs H1 gr na nr s1 => ?_⟩
  have lw : iw < σ.length := by rw [m.len]; exact li
  refine ⟨_, List.getElem?_set_self lw, a', rs, n + 1, _, rfl, gr, by omega, fun H2 gr2 k2 => ?_⟩
  have s2 : Same H H2 := fun c o e => k2 c o (fun hc => by rw [nr _ hc] at e; cases e) (s1 _ _ e)
  obtain ⟨G', nw, rd⟩ := gr_nw (K := K) m.sub s2 gr2 na nr
  exact h B _ G' H2 ((m.nw nw).set iw rd) D (fun σ' ρ' G2 H3 m3 s3 t3 => qn σ' ρ' G2 H3 m3 (nw.g.trans s3) ((Tr.same s2).trans t3)) (fun v d σ' ρ' G2 H3 m3 s3 t3 => qr v d σ' ρ' G2 H3 m3 (nw.g.trans s3) ((Tr.same s2).trans t3))
end
end Sh
set_option Elab.async false
set_option linter.all false
set_option maxRecDepth 100000
set_option maxHeartbeats 4000000
namespace Sh
open PySem PySem.Spec PyProof.Rows L2
abbrev s_gaps_closed : Stmt := topS 8
abbrev N_gaps_closed : List Str := ["gaps", "spans", "many", "ways", "closed", "i"]
abbrev p_gaps_closed : List Str := ["gaps", "spans"]
theorem sc_gaps_closed : FnScope N_gaps_closed p_gaps_closed (defScope s_gaps_closed) := ⟨rfl, rfl, rfl, by decide +kernel, rfl, by decide +kernel, by decide +kernel⟩
/-- what gaps_closed answers -/
def ngB (M : Mx) (i : Nat) : Bool := match M i i with
  | some x => decide (x < 0)
  | none => false
def clD (n : Nat) (M : Mx) : Dt := .tup ((List.range n).map fun i => .tup ((rwD (n + 1) M i).take n))
def prD (n : Nat) (M : Mx) : Dt := .lst ((List.range n).map fun i => .tup [oD (ngO (M n i)), oD (M i n)])
def gcD (n : Nat) (M : Mx) : Dt := if (List.range (n + 1)).any (ngB M) = true then .non else .tup [clD n M, prD n M]
def toF (f : Nat → Dt) : Dt → Dt
  | .int i => f i.toNat
  | _ => .non
theorem toF_k {f : Nat → Dt} {k : Nat} : toF f (.int (k : Int)) = f k := by show f (Int.toNat _) = _; rw [Int.toNat_natCast]
theorem toF_map {f : Nat → Dt} {k : Nat} : ((List.range k).map fun i => Dt.int ((i : Nat) : Int)).map (toF f) = (List.range k).map f := by
  rw [List.map_map]; exact List.map_congr_left fun i _ => toF_k
theorem ngB_of {M : Mx} {k : Nat} {x : Int} (h : M k k = some x) : ngB M k = decide (x < 0) := by unfold ngB; rw [h]
theorem cutD_to {l : List Dt} {n : Nat} : cutD l none (some (n : Int)) = l.take n := by
  unfold cutD
  rw [HT.sIx_none, HT.sIx_nat, List.drop_zero, Nat.sub_zero]
  by_cases h : n ≤ l.length
  · rw [Nat.min_eq_left h]
  · rw [Nat.min_eq_right (by omega), List.take_of_length_le (Nat.le_refl _), List.take_of_length_le (by omega)]
def S_ng : List Dt → Dt → Prop := fun ds r => ∃ a, ds = [oD a] ∧ r = oD (ngO a)
def S_gc : List Dt → Dt → Prop := fun ds r => ∃ d1 d2 n g lo hi, ds = [d1, d2] ∧ WzD d1 d2 n g lo hi ∧ n ≤ 98 ∧ (∀ i, i < n → ∃ x, g i i = some x) ∧ r = gcD n (Fw.fwM (n + 1) (wzM n g lo hi))
theorem wz_dg {n : Nat} {g : Mx} {lo hi : Nat → Option Int} (hg : ∀ i, i < n → ∃ x, g i i = some x) {i : Nat} (h : i < n + 1) : ∃ x, Fw.fwM (n + 1) (wzM n g lo hi) i i = some x := by
  have h2 : ∃ y, wzM n g lo hi i i = some y := by
    unfold wzM
    by_cases h1 : i < n
    · rw [if_pos h1, if_pos h1]; exact hg i h1
    · rw [if_neg h1, if_pos (by omega), if_neg h1, if_pos (by omega)]; exact ⟨0, rfl⟩
  obtain ⟨y, hy⟩ := h2
  obtain ⟨x, hx, _⟩ := Fw.fw_le (n + 1) (wzM n g lo hi) i i y hy
  exact ⟨x, hx⟩
section
variable {P : Program} {w : World} {K : PySem.W.Frag} {mg : Str → Option Value} {base : Heap}
theorem negP {f : Addr} {fd : FuncData} {k : Nat} {ps : List Str} (C : FnOk P w K mg base CX0 k f fd ps (spOpp K)) : FnOk P w K mg base CX0 k f fd ps (spP K S_ng) := C.imp fun vs H Q E h => by
  obtain ⟨G, ds, r, sm, rd, ⟨a, rfl, rfl⟩, q⟩ := h
  obtain ⟨x, rfl, e⟩ := rd.one
  exact ⟨a, by rw [rd_ov' e], q _ G H (Nw.refl sm) rd_ov⟩
theorem ok_gaps_closed (bl : Blts mg) {g_with_zero : Addr} {d_with_zero : FuncData} (c_with_zero : Cal P w K mg base 2 "with_zero" p_with_zero (spWz K) g_with_zero d_with_zero) {g_shorten : Addr} {d_shorten : FuncData} (c_shorten : Cal P w K mg base 1 "shorten" p_shorten (spShorten K) g_shorten d_shorten) {g_opposite : Addr} {d_opposite : FuncData} (c_opposite : Cal P w K mg base 1 "opposite" p_opposite (spP K S_ng) g_opposite d_opposite)  {f : Addr} {fd : FuncData} (F : Fun K "gaps_closed" "gaps_closed" s_gaps_closed f fd) : FnOk P w K mg base CX0 3 f fd p_gaps_closed (spP K (S_gc)) := by
  refine okP F sc_gaps_closed (fun ds r h => ?_) (fun cdv A outer s H E hr ds r h => ?_)
  · obtain ⟨d1, d2, n, g, lo, hi, rfl, hw, n98, hg, rfl⟩ := h
    rfl
  obtain ⟨d1, d2, n, g, lo, hi, rfl, hw, n98, hg, rfl⟩ := h
  refine ⟨_, (pss_cons (ps_set (i := 2) sc_gaps_closed.nd rfl (by first | exact Or.inl rfl | exact Or.inr rfl) (pe_callB call_len_seq rfl bl.len (by decide +kernel) (pa_cons (pv 1) pa_nil)))
    (pss_cons (ps_set (i := 3) sc_gaps_closed.nd rfl (by first | exact Or.inl rfl | exact Or.inr rfl) (pe_call c_with_zero.ok (hr.mono (by decide)) rfl c_with_zero.mg c_with_zero.kp c_with_zero.bi .nil pass0 (pa_cons (pv 0) (pa_cons (pv 1) pa_nil))))
    (pss_cons (ps_expr (pe_call c_shorten.ok (hr.mono (by decide)) rfl c_shorten.mg c_shorten.kp c_shorten.bi .nil pass0 (pa_cons (pv 3) pa_nil)))
    (pss_cons (ps_if (pt_val (pe_callB (cr_any rfl) rfl bl.any (by decide +kernel) (pa_cons (pe_lc (own := [("i", 5)]) (g := (gName 5)) (te := (tOp (rI0 fun i j => .bl (decide (i < j))) (tOp (rIxL K) (tOp (rIxL K) (tVar 3) (tVar 5)) (tVar 5)) (tC (.int 0)))) (tt := tYes) rfl sc_gaps_closed.nd (pi_range1 rfl bl.range (pa_cons (pe_op op_add (pv 2) pe_int) pa_nil)) (blkOk_by (N := N_gaps_closed) (sc := defScope s_gaps_closed) (by decide +kernel)) (fun _ _ _ _ _ => (pg_name (i := 5) sc_gaps_closed.nd rfl (by first | exact Or.inl rfl | exact Or.inr rfl))) (fun _ _ _ _ _ => pts_nil) (fun _ _ _ _ _ => (pe_cmpR op_lt (pe_ix ix_list (pe_ix ix_list (pv 3) (pv 5) (fun _ _ => rfl)) (pv 5) (fun _ _ => rfl)) pe_int (nomark _)))) pa_nil))) (pss_one (ps_ret pe_non)) pss_nil)
    (pss_cons (ps_set (i := 4) sc_gaps_closed.nd rfl (by first | exact Or.inl rfl | exact Or.inr rfl) (pe_callTy call_tuple_of rfl bl.tuple (by decide +kernel) (pa_cons (pe_lc (own := [("i", 5)]) (g := (gName 5)) (te := (tCB (fun xs H Q => ∃ p ys, xs = [.ref p] ∧ ((SqL K H p ys ∧ ∀ l, H l = none → Q (.ref l) (upd H l (.tup ys))) ∨ (SqT K H p ys ∧ Q (.ref p) H))) (tCons (tSl (rSlL K) (tOp (rIxL K) (tVar 3) (tVar 5)) tNoPart (tPart (tVar 2))) tNil))) (tt := tYes) rfl sc_gaps_closed.nd (pi_range1 rfl bl.range (pa_cons (pv 2) pa_nil)) (blkOk_by (N := N_gaps_closed) (sc := defScope s_gaps_closed) (by decide +kernel)) (fun _ _ _ _ _ => (pg_name (i := 5) sc_gaps_closed.nd rfl (by first | exact Or.inl rfl | exact Or.inr rfl))) (fun _ _ _ _ _ => pts_nil) (fun _ _ _ _ _ => (pe_callTy call_tuple_of rfl bl.tuple (by decide +kernel) (pa_cons (pe_slice sl_list (pe_ix ix_list (pv 3) (pv 5) (fun _ _ => rfl)) po_none (po_some (pv 2))) pa_nil)))) pa_nil)))
    (pss_one (ps_ret (pe_tup (pa_cons (pv 4) (pa_cons (pe_lc (own := [("i", 5)]) (g := (gName 5)) (te := (tTup (tCons (tCall (spP K S_ng) [] E0 (tCons (tOp (rIxL K) (tOp (rIxL K) (tVar 3) (tVar 2)) (tVar 5)) tNil)) (tCons (tOp (rIxL K) (tOp (rIxL K) (tVar 3) (tVar 5)) (tVar 2)) tNil)))) (tt := tYes) rfl sc_gaps_closed.nd (pi_range1 rfl bl.range (pa_cons (pv 2) pa_nil)) (blkOk_by (N := N_gaps_closed) (sc := defScope s_gaps_closed) (by decide +kernel)) (fun _ _ _ _ _ => (pg_name (i := 5) sc_gaps_closed.nd rfl (by first | exact Or.inl rfl | exact Or.inr rfl))) (fun _ _ _ _ _ => pts_nil) (fun _ _ _ _ _ => (pe_tup (pa_cons (pe_call c_opposite.ok (hr.mono (by decide)) rfl c_opposite.mg c_opposite.kp c_opposite.bi .nil pass0 (pa_cons (pe_ix ix_list (pe_ix ix_list (pv 3) (pv 2) (fun _ _ => rfl)) (pv 5) (fun _ _ => rfl)) pa_nil)) (pa_cons (pe_ix ix_list (pe_ix ix_list (pv 3) (pv 5) (fun _ _ => rfl)) (pv 2) (fun _ _ => rfl)) pa_nil))))) pa_nil)))))))))), ?_⟩
  change AS K _ [En.da _, En.da _, En.no, En.no, En.no, En.no] _ _
  try simp only [cxOf_K]
  obtain ⟨k1, k2, l, m, rfl, rfl, ll, lm, f1, f2⟩ := id hw
  refine as_seq (as_set (ae_cb (aa_cons (ae_var rfl (aa_nil (ac_len ?_))))))
  rw [lm]
  refine as_grid rfl rfl hw (by omega) (by simp) ?_
  have dgs := fun {i : Nat} (h : i < n + 1) => wz_dg (lo := lo) (hi := hi) hg h
  generalize Fw.fwM (n + 1) (wzM n g lo hi) = M at dgs ⊢
  have rg : ∀ k : Nat, (rgD 0 ((k : Nat) : Int).toNat) = (List.range k).map fun i => Dt.int ((i : Nat) : Int) := fun k => by
    unfold rgD
    rw [Int.toNat_natCast]
    exact List.map_congr_left fun i _ => by rw [Int.zero_add]
  have z9 : 1000 ≤ sizeLine := by decide
  have rl : ∀ k : Nat, ((List.range k).map fun i => Dt.int ((i : Nat) : Int)).length = k := fun k => by rw [List.length_map, List.length_range]
  refine as_seq (as_if (at_b (ae_cb (aa_cons (ae_lcMap (toF fun i => .bl (ngB M i)) ?_)))))
  repeat' (first
    | (refine ai_rng1 ?_)
    | (refine ⟨_, rfl, by omega, by omega, ?_⟩)
    | (rw [show (((n : Nat) : Int) + 1) = ((n + 1 : Nat) : Int) by omega, rg]; refine ⟨by rw [rl]; omega, fun d hd => ?_, ?_⟩)
    | (obtain ⟨k, hk, rfl⟩ := List.mem_map.mp hd; clear hd; have hk := List.mem_range.mp hk; refine agv_name (by decide) ?_)
    | (refine ar_ixL (atI_nat (grD_at (by omega))) ?_)
    | (refine ar_ixL (atI_nat (rwD_at (by omega))) ?_)
    | (obtain ⟨x, hx⟩ := dgs hk; rw [hx])
    | exact ⟨by rw [toF_k, ngB_of hx], rfl⟩
    | with_reducible apply as_seq
    | with_reducible apply as_ret
    | with_reducible apply as_next
    | with_reducible apply as_if
    | with_reducible apply as_set
    | with_reducible apply as_par
    | with_reducible apply as_par3
    | with_reducible apply as_asg
    | ((with_reducible apply ae_var); · rfl)
    | with_reducible apply ae_int
    | with_reducible apply ae_non
    | with_reducible apply ae_bl
    | with_reducible apply ae_str
    | with_reducible apply ae_ty
    | with_reducible apply ae_isi2
    | with_reducible apply ae_op
    | with_reducible apply ae_un
    | with_reducible apply aa_nil
    | with_reducible apply aa_cons
    | with_reducible apply ae_cb
    | with_reducible apply ae_tup
    | with_reducible apply ae_lst
    | with_reducible apply ae_if
    | with_reducible apply at_test
    | with_reducible apply at_b
    | with_reducible apply at_and
    | with_reducible apply at_or
    | with_reducible apply at_not
    | with_reducible apply at_yes
    | with_reducible apply ae_andV
    | with_reducible apply ae_orV
    | with_reducible apply ae_notV
    | with_reducible apply ar_I0i
    | with_reducible apply ar_I0b
    | with_reducible apply ar_isN
    | with_reducible apply ar_notN
    | with_reducible apply au_Ui
    | ((with_reducible apply ar_ixTs); · rfl)
    | ((with_reducible apply ar_ixLs); · rfl)
    | ((with_reducible apply ar_ix); · rfl)
    | ((with_reducible apply ar_ixT); · rfl)
    | ((with_reducible apply ar_ixL); · rfl)
    | with_reducible apply ac_abs
    | with_reducible apply ac_max2
    | with_reducible apply ac_min2
    | with_reducible apply ac_lenT
    | with_reducible apply ac_lenL
    | with_reducible apply ac_listT
    | with_reducible apply ac_listL
    | with_reducible apply ac_tupL
    | with_reducible apply ac_tupT
    | with_reducible apply ac_int
    | with_reducible apply ac_intB
    | ((with_reducible apply ar_eq3); · exact ⟨rfl, rfl, rfl⟩)
    | ((with_reducible apply ar_ne3); · exact ⟨rfl, rfl, rfl⟩)
    | with_reducible apply ag_name
    | with_reducible apply ags_nil
    | with_reducible apply ags_cons
    | ((with_reducible apply ag_tup); · rfl)
    | refine ⟨sz60 (Nat.le_of_ble_eq_true rfl), ?_⟩
    | refine ⟨_, rfl, ?_⟩
    | refine ⟨_, _, rfl, ?_⟩
    | refine ⟨_, _, _, rfl, ?_⟩
    | (refine ⟨fun hc => ?_, fun hc => ?_⟩ <;> (first | (exfalso; exact absurd (show false = true from hc) (by decide)) | (exfalso; exact absurd (show true = false from hc) (by decide)) | (exfalso; simp at hc; done) | skip))
    | rfl
    | exact trivial
    | simp only [oD_some, oD_none])
  rw [toF_map, show (List.range (n + 1)).map (fun i => Dt.bl (ngB M i)) = ((List.range (n + 1)).map (ngB M)).map Dt.bl by rw [List.map_map]; rfl]
  refine ac_any ?_
  rw [show ((List.range (n + 1)).map (ngB M)).any id = (List.range (n + 1)).any (ngB M) by rw [List.any_map]; rfl]
  refine ⟨_, rfl, fun hb => ?_, fun hb => ?_⟩
  · refine as_ret (ae_non ?_)
    unfold gcD; rw [if_pos hb]
  · have e : gcD n M = .tup [clD n M, prD n M] := by unfold gcD; rw [if_neg (by rw [hb]; decide)]
    rw [e]
    refine as_next ?_
    repeat' (first
      | (with_reducible refine ae_lcMap (te := tTup _) (toF fun i => .tup [oD (ngO (M n i)), oD (M i n)]) ?_)
      | (with_reducible refine ae_lcMap (toF fun i => .tup ((rwD (n + 1) M i).take n)) ?_)
      | (refine ai_rng1 ?_)
      | (refine ⟨_, rfl, by omega, by omega, ?_⟩)
      | (rw [rg]; refine ⟨by rw [rl]; omega, fun d hd => ?_, ?_⟩)
      | (obtain ⟨k, hk, rfl⟩ := List.mem_map.mp hd; clear hd; have hk := List.mem_range.mp hk; refine agv_name (by decide) ?_)
      | (refine ar_ixL (atI_nat (grD_at (by omega))) ?_)
      | (refine ar_ixL (atI_nat (rwD_at (by omega))) ?_)
      | with_reducible apply ae_call
      | (refine ⟨_, ⟨_, rfl, rfl⟩, ?_⟩)
      | with_reducible apply ae_slD
      | (refine ao_none ?_)
      | with_reducible apply ao_some
      | exact ⟨by rw [toF_k, cutD_to], rfl⟩
      | exact ⟨by rw [toF_k], rfl⟩
      | rw [toF_map]
      | with_reducible apply as_seq
      | with_reducible apply as_ret
      | with_reducible apply as_next
      | with_reducible apply as_if
      | with_reducible apply as_set
      | with_reducible apply as_par
      | with_reducible apply as_par3
      | with_reducible apply as_asg
      | ((with_reducible apply ae_var); · rfl)
      | with_reducible apply ae_int
      | with_reducible apply ae_non
      | with_reducible apply ae_bl
      | with_reducible apply ae_str
      | with_reducible apply ae_ty
      | with_reducible apply ae_isi2
      | with_reducible apply ae_op
      | with_reducible apply ae_un
      | with_reducible apply aa_nil
      | with_reducible apply aa_cons
      | with_reducible apply ae_cb
      | with_reducible apply ae_tup
      | with_reducible apply ae_lst
      | with_reducible apply ae_if
      | with_reducible apply at_test
      | with_reducible apply at_b
      | with_reducible apply at_and
      | with_reducible apply at_or
      | with_reducible apply at_not
      | with_reducible apply at_yes
      | with_reducible apply ae_andV
      | with_reducible apply ae_orV
      | with_reducible apply ae_notV
      | with_reducible apply ar_I0i
      | with_reducible apply ar_I0b
      | with_reducible apply ar_isN
      | with_reducible apply ar_notN
      | with_reducible apply au_Ui
      | ((with_reducible apply ar_ixTs); · rfl)
      | ((with_reducible apply ar_ixLs); · rfl)
      | ((with_reducible apply ar_ix); · rfl)
      | ((with_reducible apply ar_ixT); · rfl)
      | ((with_reducible apply ar_ixL); · rfl)
      | with_reducible apply ac_abs
      | with_reducible apply ac_max2
      | with_reducible apply ac_min2
      | with_reducible apply ac_lenT
      | with_reducible apply ac_lenL
      | with_reducible apply ac_listT
      | with_reducible apply ac_listL
      | with_reducible apply ac_tupL
      | with_reducible apply ac_tupT
      | with_reducible apply ac_int
      | with_reducible apply ac_intB
      | ((with_reducible apply ar_eq3); · exact ⟨rfl, rfl, rfl⟩)
      | ((with_reducible apply ar_ne3); · exact ⟨rfl, rfl, rfl⟩)
      | with_reducible apply ag_name
      | with_reducible apply ags_nil
      | with_reducible apply ags_cons
      | ((with_reducible apply ag_tup); · rfl)
      | refine ⟨sz60 (Nat.le_of_ble_eq_true rfl), ?_⟩
      | refine ⟨_, rfl, ?_⟩
      | refine ⟨_, _, rfl, ?_⟩
      | refine ⟨_, _, _, rfl, ?_⟩
      | (refine ⟨fun hc => ?_, fun hc => ?_⟩ <;> (first | (exfalso; exact absurd (show false = true from hc) (by decide)) | (exfalso; exact absurd (show true = false from hc) (by decide)) | (exfalso; simp at hc; done) | skip))
      | rfl
      | exact trivial
      | simp only [oD_some, oD_none])
end
end Sh
set_option Elab.async false
set_option linter.all false
set_option maxRecDepth 100000
set_option maxHeartbeats 4000000
namespace Sh
open PySem PySem.Spec PyProof.Rows L2
def S2b (g : Option Int → Option Int → Bool) (ds : List Dt) (r : Dt) : Prop := ∃ a b, ds = [oD a, oD b] ∧ r = .bl (g a b)
def S2o (g : Option Int → Option Int → Option Int) (ds : List Dt) (r : Dt) : Prop := ∃ a b, ds = [oD a, oD b] ∧ r = oD (g a b)
def S_lets (ds : List Dt) (r : Dt) : Prop := ∃ a b n, ds = [oD a, oD b, .int n] ∧ r = .bl (letsB a b n)
def S_sing (ds : List Dt) (res : Dt) : Prop := ∃ n : Int, ds = [.int n] ∧ res = vD (some n) (some n) 0 n
def S_vo (ds : List Dt) (res : Dt) : Prop := ∃ lo hi, ∃ m r : Int, ds = [oD lo, oD hi, .int m, .int r] ∧ res = voD lo hi m r
def S_vc (ds : List Dt) (res : Dt) : Prop := ∃ v lo hi, ds = [vlD v, oD lo, oD hi] ∧ res = ovD (cutVl v lo hi)
def S_so (ds : List Dt) (res : Dt) : Prop := ∃ (os : List (Option Vl)) (g : Dt) (ps : List (List (Nat × Vl))), ds = [.lst (os.map ovD), g, .tup (ps.map pcD)] ∧ os.length ≤ 8000 ∧ ps.length ≤ 8000 ∧ res = soD os g (ps.map pcD)
abbrev s_tightest_low : Stmt := topS 1
abbrev N_tightest_low : List Str := ["one", "other"]
abbrev p_tightest_low : List Str := ["one", "other"]
theorem sc_tightest_low : FnScope N_tightest_low p_tightest_low (defScope s_tightest_low) := ⟨rfl, rfl, rfl, by decide +kernel, rfl, by decide +kernel, by decide +kernel⟩
abbrev s_tightest_high : Stmt := topS 2
abbrev N_tightest_high : List Str := ["one", "other"]
abbrev p_tightest_high : List Str := ["one", "other"]
theorem sc_tightest_high : FnScope N_tightest_high p_tightest_high (defScope s_tightest_high) := ⟨rfl, rfl, rfl, by decide +kernel, rfl, by decide +kernel, by decide +kernel⟩
abbrev s_low_within : Stmt := topS 3
abbrev N_low_within : List Str := ["one", "other"]
abbrev p_low_within : List Str := ["one", "other"]
theorem sc_low_within : FnScope N_low_within p_low_within (defScope s_low_within) := ⟨rfl, rfl, rfl, by decide +kernel, rfl, by decide +kernel, by decide +kernel⟩
abbrev s_high_within : Stmt := topS 4
abbrev N_high_within : List Str := ["one", "other"]
abbrev p_high_within : List Str := ["one", "other"]
theorem sc_high_within : FnScope N_high_within p_high_within (defScope s_high_within) := ⟨rfl, rfl, rfl, by decide +kernel, rfl, by decide +kernel, by decide +kernel⟩
abbrev s_lets_in : Stmt := topS 5
abbrev N_lets_in : List Str := ["low", "high", "n"]
abbrev p_lets_in : List Str := ["low", "high", "n"]
theorem sc_lets_in : FnScope N_lets_in p_lets_in (defScope s_lets_in) := ⟨rfl, rfl, rfl, by decide +kernel, rfl, by decide +kernel, by decide +kernel⟩
abbrev s_single : Stmt := topS 14
abbrev N_single : List Str := ["n"]
abbrev p_single : List Str := ["n"]
theorem sc_single : FnScope N_single p_single (defScope s_single) := ⟨rfl, rfl, rfl, by decide +kernel, rfl, by decide +kernel, by decide +kernel⟩
abbrev s_value_of : Stmt := topS 15
abbrev N_value_of : List Str := ["low", "high", "m", "r"]
abbrev p_value_of : List Str := ["low", "high", "m", "r"]
theorem sc_value_of : FnScope N_value_of p_value_of (defScope s_value_of) := ⟨rfl, rfl, rfl, by decide +kernel, rfl, by decide +kernel, by decide +kernel⟩
abbrev s_value_cut : Stmt := topS 16
abbrev N_value_cut : List Str := ["value", "low", "high"]
abbrev p_value_cut : List Str := ["value", "low", "high"]
theorem sc_value_cut : FnScope N_value_cut p_value_cut (defScope s_value_cut) := ⟨rfl, rfl, rfl, by decide +kernel, rfl, by decide +kernel, by decide +kernel⟩
abbrev s_state_of : Stmt := topS 19
abbrev N_state_of : List Str := ["values", "gaps", "items", "value", "pieces"]
abbrev p_state_of : List Str := ["values", "gaps", "items"]
theorem sc_state_of : FnScope N_state_of p_state_of (defScope s_state_of) := ⟨rfl, rfl, rfl, by decide +kernel, rfl, by decide +kernel, by decide +kernel⟩
section
variable {P : Program} {w : World} {K : PySem.W.Frag} {mg : Str → Option Value} {base : Heap}
theorem ok_low_within (bl : Blts mg)   {f : Addr} {fd : FuncData} (F : Fun K "low_within" "low_within" s_low_within f fd) : FnOk P w K mg base CX0 1 f fd p_low_within (spP K (S2b lwB)) := by
  refine okP F sc_low_within (fun ds r h => ?_) (fun cdv A outer s H E hr ds r h => ?_)
  · obtain ⟨a, b, rfl, rfl⟩ := h
    rfl
  obtain ⟨a, b, rfl, rfl⟩ := h
  refine ⟨_, (pss_one (ps_ret (pe_or (pe_cmpR op_isN (pv 1) pe_non (nomark _)) (pe_one (pe_and (pe_cmpR op_notN (pv 0) pe_non (nomark _)) (pe_one (pe_cmpR op_ge (pv 0) (pv 1) (nomark _)))))))), ?_⟩
  change AS K _ [En.da _, En.da _] _ _
  try simp only [cxOf_K]
  cases a <;> cases b
  all_goals
    repeat' (first
      | with_reducible apply as_seq
      | with_reducible apply as_ret
      | with_reducible apply as_next
      | with_reducible apply as_if
      | with_reducible apply as_set
      | with_reducible apply as_par
      | with_reducible apply as_par3
      | with_reducible apply as_asg
      | ((with_reducible apply ae_var); · rfl)
      | with_reducible apply ae_int
      | with_reducible apply ae_non
      | with_reducible apply ae_bl
      | with_reducible apply ae_str
      | with_reducible apply ae_ty
      | with_reducible apply ae_isi2
      | with_reducible apply ae_op
      | with_reducible apply ae_un
      | with_reducible apply aa_nil
      | with_reducible apply aa_cons
      | with_reducible apply ae_cb
      | with_reducible apply ae_tup
      | with_reducible apply ae_lst
      | with_reducible apply ae_if
      | with_reducible apply at_test
      | with_reducible apply at_b
      | with_reducible apply at_and
      | with_reducible apply at_or
      | with_reducible apply at_not
      | with_reducible apply at_yes
      | with_reducible apply ae_andV
      | with_reducible apply ae_orV
      | with_reducible apply ae_notV
      | with_reducible apply ar_I0i
      | with_reducible apply ar_I0b
      | with_reducible apply ar_isN
      | with_reducible apply ar_notN
      | with_reducible apply au_Ui
      | ((with_reducible apply ar_ixTs); · rfl)
      | ((with_reducible apply ar_ixLs); · rfl)
      | ((with_reducible apply ar_ix); · rfl)
      | ((with_reducible apply ar_ixT); · rfl)
      | ((with_reducible apply ar_ixL); · rfl)
      | with_reducible apply ac_abs
      | with_reducible apply ac_max2
      | with_reducible apply ac_min2
      | with_reducible apply ac_lenT
      | with_reducible apply ac_lenL
      | with_reducible apply ac_listT
      | with_reducible apply ac_listL
      | with_reducible apply ac_tupL
      | with_reducible apply ac_tupT
      | with_reducible apply ac_int
      | with_reducible apply ac_intB
      | ((with_reducible apply ar_eq3); · exact ⟨rfl, rfl, rfl⟩)
      | ((with_reducible apply ar_ne3); · exact ⟨rfl, rfl, rfl⟩)
      | with_reducible apply ag_name
      | with_reducible apply ags_nil
      | with_reducible apply ags_cons
      | ((with_reducible apply ag_tup); · rfl)
      | refine ⟨sz60 (Nat.le_of_ble_eq_true rfl), ?_⟩
      | refine ⟨_, rfl, ?_⟩
      | refine ⟨_, _, rfl, ?_⟩
      | refine ⟨_, _, _, rfl, ?_⟩
      | (refine ⟨fun hc => ?_, fun hc => ?_⟩ <;> (first | (exfalso; exact absurd (show false = true from hc) (by decide)) | (exfalso; exact absurd (show true = false from hc) (by decide)) | (exfalso; simp at hc; done) | skip))
      | rfl
      | exact trivial
      | simp only [oD_some, oD_none])
theorem ok_high_within (bl : Blts mg)   {f : Addr} {fd : FuncData} (F : Fun K "high_within" "high_within" s_high_within f fd) : FnOk P w K mg base CX0 1 f fd p_high_within (spP K (S2b hwB)) := by
  refine okP F sc_high_within (fun ds r h => ?_) (fun cdv A outer s H E hr ds r h => ?_)
  · obtain ⟨a, b, rfl, rfl⟩ := h
    rfl
  obtain ⟨a, b, rfl, rfl⟩ := h
  refine ⟨_, (pss_one (ps_ret (pe_or (pe_cmpR op_isN (pv 1) pe_non (nomark _)) (pe_one (pe_and (pe_cmpR op_notN (pv 0) pe_non (nomark _)) (pe_one (pe_cmpR op_le (pv 0) (pv 1) (nomark _)))))))), ?_⟩
  change AS K _ [En.da _, En.da _] _ _
  try simp only [cxOf_K]
  cases a <;> cases b
  all_goals
    repeat' (first
      | with_reducible apply as_seq
      | with_reducible apply as_ret
      | with_reducible apply as_next
      | with_reducible apply as_if
      | with_reducible apply as_set
      | with_reducible apply as_par
      | with_reducible apply as_par3
      | with_reducible apply as_asg
      | ((with_reducible apply ae_var); · rfl)
      | with_reducible apply ae_int
      | with_reducible apply ae_non
      | with_reducible apply ae_bl
      | with_reducible apply ae_str
      | with_reducible apply ae_ty
      | with_reducible apply ae_isi2
      | with_reducible apply ae_op
      | with_reducible apply ae_un
      | with_reducible apply aa_nil
      | with_reducible apply aa_cons
      | with_reducible apply ae_cb
      | with_reducible apply ae_tup
      | with_reducible apply ae_lst
      | with_reducible apply ae_if
      | with_reducible apply at_test
      | with_reducible apply at_b
      | with_reducible apply at_and
      | with_reducible apply at_or
      | with_reducible apply at_not
      | with_reducible apply at_yes
      | with_reducible apply ae_andV
      | with_reducible apply ae_orV
      | with_reducible apply ae_notV
      | with_reducible apply ar_I0i
      | with_reducible apply ar_I0b
      | with_reducible apply ar_isN
      | with_reducible apply ar_notN
      | with_reducible apply au_Ui
      | ((with_reducible apply ar_ixTs); · rfl)
      | ((with_reducible apply ar_ixLs); · rfl)
      | ((with_reducible apply ar_ix); · rfl)
      | ((with_reducible apply ar_ixT); · rfl)
      | ((with_reducible apply ar_ixL); · rfl)
      | with_reducible apply ac_abs
      | with_reducible apply ac_max2
      | with_reducible apply ac_min2
      | with_reducible apply ac_lenT
      | with_reducible apply ac_lenL
      | with_reducible apply ac_listT
      | with_reducible apply ac_listL
      | with_reducible apply ac_tupL
      | with_reducible apply ac_tupT
      | with_reducible apply ac_int
      | with_reducible apply ac_intB
      | ((with_reducible apply ar_eq3); · exact ⟨rfl, rfl, rfl⟩)
      | ((with_reducible apply ar_ne3); · exact ⟨rfl, rfl, rfl⟩)
      | with_reducible apply ag_name
      | with_reducible apply ags_nil
      | with_reducible apply ags_cons
      | ((with_reducible apply ag_tup); · rfl)
      | refine ⟨sz60 (Nat.le_of_ble_eq_true rfl), ?_⟩
      | refine ⟨_, rfl, ?_⟩
      | refine ⟨_, _, rfl, ?_⟩
      | refine ⟨_, _, _, rfl, ?_⟩
      | (refine ⟨fun hc => ?_, fun hc => ?_⟩ <;> (first | (exfalso; exact absurd (show false = true from hc) (by decide)) | (exfalso; exact absurd (show true = false from hc) (by decide)) | (exfalso; simp at hc; done) | skip))
      | rfl
      | exact trivial
      | simp only [oD_some, oD_none])
theorem ok_tightest_low (bl : Blts mg)   {f : Addr} {fd : FuncData} (F : Fun K "tightest_low" "tightest_low" s_tightest_low f fd) : FnOk P w K mg base CX0 1 f fd p_tightest_low (spP K (S2o tmL)) := by
  refine okP F sc_tightest_low (fun ds r h => ?_) (fun cdv A outer s H E hr ds r h => ?_)
  · obtain ⟨a, b, rfl, rfl⟩ := h
    rfl
  obtain ⟨a, b, rfl, rfl⟩ := h
  refine ⟨_, (pss_cons (ps_if (pt_cmpR op_isN (pv 0) pe_non (nomark _)) (pss_one (ps_ret (pv 1))) pss_nil)
    (pss_cons (ps_if (pt_cmpR op_isN (pv 1) pe_non (nomark _)) (pss_one (ps_ret (pv 0))) pss_nil)
    (pss_one (ps_ret (pe_callB (call_max2 rfl) rfl bl.max (by decide +kernel) (pa_cons (pv 0) (pa_cons (pv 1) pa_nil))))))), ?_⟩
  change AS K _ [En.da _, En.da _] _ _
  try simp only [cxOf_K]
  cases a <;> cases b
  all_goals
    repeat' (first
      | with_reducible apply as_seq
      | with_reducible apply as_ret
      | with_reducible apply as_next
      | with_reducible apply as_if
      | with_reducible apply as_set
      | with_reducible apply as_par
      | with_reducible apply as_par3
      | with_reducible apply as_asg
      | ((with_reducible apply ae_var); · rfl)
      | with_reducible apply ae_int
      | with_reducible apply ae_non
      | with_reducible apply ae_bl
      | with_reducible apply ae_str
      | with_reducible apply ae_ty
      | with_reducible apply ae_isi2
      | with_reducible apply ae_op
      | with_reducible apply ae_un
      | with_reducible apply aa_nil
      | with_reducible apply aa_cons
      | with_reducible apply ae_cb
      | with_reducible apply ae_tup
      | with_reducible apply ae_lst
      | with_reducible apply ae_if
      | with_reducible apply at_test
      | with_reducible apply at_b
      | with_reducible apply at_and
      | with_reducible apply at_or
      | with_reducible apply at_not
      | with_reducible apply at_yes
      | with_reducible apply ae_andV
      | with_reducible apply ae_orV
      | with_reducible apply ae_notV
      | with_reducible apply ar_I0i
      | with_reducible apply ar_I0b
      | with_reducible apply ar_isN
      | with_reducible apply ar_notN
      | with_reducible apply au_Ui
      | ((with_reducible apply ar_ixTs); · rfl)
      | ((with_reducible apply ar_ixLs); · rfl)
      | ((with_reducible apply ar_ix); · rfl)
      | ((with_reducible apply ar_ixT); · rfl)
      | ((with_reducible apply ar_ixL); · rfl)
      | with_reducible apply ac_abs
      | with_reducible apply ac_max2
      | with_reducible apply ac_min2
      | with_reducible apply ac_lenT
      | with_reducible apply ac_lenL
      | with_reducible apply ac_listT
      | with_reducible apply ac_listL
      | with_reducible apply ac_tupL
      | with_reducible apply ac_tupT
      | with_reducible apply ac_int
      | with_reducible apply ac_intB
      | ((with_reducible apply ar_eq3); · exact ⟨rfl, rfl, rfl⟩)
      | ((with_reducible apply ar_ne3); · exact ⟨rfl, rfl, rfl⟩)
      | with_reducible apply ag_name
      | with_reducible apply ags_nil
      | with_reducible apply ags_cons
      | ((with_reducible apply ag_tup); · rfl)
      | refine ⟨sz60 (Nat.le_of_ble_eq_true rfl), ?_⟩
      | refine ⟨_, rfl, ?_⟩
      | refine ⟨_, _, rfl, ?_⟩
      | refine ⟨_, _, _, rfl, ?_⟩
      | (refine ⟨fun hc => ?_, fun hc => ?_⟩ <;> (first | (exfalso; exact absurd (show false = true from hc) (by decide)) | (exfalso; exact absurd (show true = false from hc) (by decide)) | (exfalso; simp at hc; done) | skip))
      | rfl
      | exact trivial
      | simp only [oD_some, oD_none])
theorem ok_tightest_high (bl : Blts mg)   {f : Addr} {fd : FuncData} (F : Fun K "tightest_high" "tightest_high" s_tightest_high f fd) : FnOk P w K mg base CX0 1 f fd p_tightest_high (spP K (S2o tmH2)) := by
  refine okP F sc_tightest_high (fun ds r h => ?_) (fun cdv A outer s H E hr ds r h => ?_)
  · obtain ⟨a, b, rfl, rfl⟩ := h
    rfl
  obtain ⟨a, b, rfl, rfl⟩ := h
  refine ⟨_, (pss_cons (ps_if (pt_cmpR op_isN (pv 0) pe_non (nomark _)) (pss_one (ps_ret (pv 1))) pss_nil)
    (pss_cons (ps_if (pt_cmpR op_isN (pv 1) pe_non (nomark _)) (pss_one (ps_ret (pv 0))) pss_nil)
    (pss_one (ps_ret (pe_callB (call_min2 rfl) rfl bl.min (by decide +kernel) (pa_cons (pv 0) (pa_cons (pv 1) pa_nil))))))), ?_⟩
  change AS K _ [En.da _, En.da _] _ _
  try simp only [cxOf_K]
  cases a <;> cases b
  all_goals
    repeat' (first
      | with_reducible apply as_seq
      | with_reducible apply as_ret
      | with_reducible apply as_next
      | with_reducible apply as_if
      | with_reducible apply as_set
      | with_reducible apply as_par
      | with_reducible apply as_par3
      | with_reducible apply as_asg
      | ((with_reducible apply ae_var); · rfl)
      | with_reducible apply ae_int
      | with_reducible apply ae_non
      | with_reducible apply ae_bl
      | with_reducible apply ae_str
      | with_reducible apply ae_ty
      | with_reducible apply ae_isi2
      | with_reducible apply ae_op
      | with_reducible apply ae_un
      | with_reducible apply aa_nil
      | with_reducible apply aa_cons
      | with_reducible apply ae_cb
      | with_reducible apply ae_tup
      | with_reducible apply ae_lst
      | with_reducible apply ae_if
      | with_reducible apply at_test
      | with_reducible apply at_b
      | with_reducible apply at_and
      | with_reducible apply at_or
      | with_reducible apply at_not
      | with_reducible apply at_yes
      | with_reducible apply ae_andV
      | with_reducible apply ae_orV
      | with_reducible apply ae_notV
      | with_reducible apply ar_I0i
      | with_reducible apply ar_I0b
      | with_reducible apply ar_isN
      | with_reducible apply ar_notN
      | with_reducible apply au_Ui
      | ((with_reducible apply ar_ixTs); · rfl)
      | ((with_reducible apply ar_ixLs); · rfl)
      | ((with_reducible apply ar_ix); · rfl)
      | ((with_reducible apply ar_ixT); · rfl)
      | ((with_reducible apply ar_ixL); · rfl)
      | with_reducible apply ac_abs
      | with_reducible apply ac_max2
      | with_reducible apply ac_min2
      | with_reducible apply ac_lenT
      | with_reducible apply ac_lenL
      | with_reducible apply ac_listT
      | with_reducible apply ac_listL
      | with_reducible apply ac_tupL
      | with_reducible apply ac_tupT
      | with_reducible apply ac_int
      | with_reducible apply ac_intB
      | ((with_reducible apply ar_eq3); · exact ⟨rfl, rfl, rfl⟩)
      | ((with_reducible apply ar_ne3); · exact ⟨rfl, rfl, rfl⟩)
      | with_reducible apply ag_name
      | with_reducible apply ags_nil
      | with_reducible apply ags_cons
      | ((with_reducible apply ag_tup); · rfl)
      | refine ⟨sz60 (Nat.le_of_ble_eq_true rfl), ?_⟩
      | refine ⟨_, rfl, ?_⟩
      | refine ⟨_, _, rfl, ?_⟩
      | refine ⟨_, _, _, rfl, ?_⟩
      | (refine ⟨fun hc => ?_, fun hc => ?_⟩ <;> (first | (exfalso; exact absurd (show false = true from hc) (by decide)) | (exfalso; exact absurd (show true = false from hc) (by decide)) | (exfalso; simp at hc; done) | skip))
      | rfl
      | exact trivial
      | simp only [oD_some, oD_none])
theorem ok_lets_in (bl : Blts mg) {g_low_within : Addr} {d_low_within : FuncData} (c_low_within : Cal P w K mg base 1 "low_within" p_low_within (spP K (S2b lwB)) g_low_within d_low_within) {g_high_within : Addr} {d_high_within : FuncData} (c_high_within : Cal P w K mg base 1 "high_within" p_high_within (spP K (S2b hwB)) g_high_within d_high_within)  {f : Addr} {fd : FuncData} (F : Fun K "lets_in" "lets_in" s_lets_in f fd) : FnOk P w K mg base CX0 2 f fd p_lets_in (spP K (S_lets)) := by
  refine okP F sc_lets_in (fun ds r h => ?_) (fun cdv A outer s H E hr ds r h => ?_)
  · obtain ⟨a, b, n, rfl, rfl⟩ := h
    rfl
  obtain ⟨a, b, n, rfl, rfl⟩ := h
  refine ⟨_, (pss_one (ps_ret (pe_and (pe_call c_low_within.ok (hr.mono (by decide)) rfl c_low_within.mg c_low_within.kp c_low_within.bi .nil pass0 (pa_cons (pv 2) (pa_cons (pv 0) pa_nil))) (pe_one (pe_call c_high_within.ok (hr.mono (by decide)) rfl c_high_within.mg c_high_within.kp c_high_within.bi .nil pass0 (pa_cons (pv 2) (pa_cons (pv 1) pa_nil))))))), ?_⟩
  change AS K _ [En.da _, En.da _, En.da _] _ _
  try simp only [cxOf_K]
  repeat' (first
    | with_reducible apply ae_call
    | (refine ⟨_, ⟨some _, _, rfl, rfl⟩, ?_⟩)
    | with_reducible apply as_seq
    | with_reducible apply as_ret
    | with_reducible apply as_next
    | with_reducible apply as_if
    | with_reducible apply as_set
    | with_reducible apply as_par
    | with_reducible apply as_par3
    | with_reducible apply as_asg
    | ((with_reducible apply ae_var); · rfl)
    | with_reducible apply ae_int
    | with_reducible apply ae_non
    | with_reducible apply ae_bl
    | with_reducible apply ae_str
    | with_reducible apply ae_ty
    | with_reducible apply ae_isi2
    | with_reducible apply ae_op
    | with_reducible apply ae_un
    | with_reducible apply aa_nil
    | with_reducible apply aa_cons
    | with_reducible apply ae_cb
    | with_reducible apply ae_tup
    | with_reducible apply ae_lst
    | with_reducible apply ae_if
    | with_reducible apply at_test
    | with_reducible apply at_b
    | with_reducible apply at_and
    | with_reducible apply at_or
    | with_reducible apply at_not
    | with_reducible apply at_yes
    | with_reducible apply ae_andV
    | with_reducible apply ae_orV
    | with_reducible apply ae_notV
    | with_reducible apply ar_I0i
    | with_reducible apply ar_I0b
    | with_reducible apply ar_isN
    | with_reducible apply ar_notN
    | with_reducible apply au_Ui
    | ((with_reducible apply ar_ixTs); · rfl)
    | ((with_reducible apply ar_ixLs); · rfl)
    | ((with_reducible apply ar_ix); · rfl)
    | ((with_reducible apply ar_ixT); · rfl)
    | ((with_reducible apply ar_ixL); · rfl)
    | with_reducible apply ac_abs
    | with_reducible apply ac_max2
    | with_reducible apply ac_min2
    | with_reducible apply ac_lenT
    | with_reducible apply ac_lenL
    | with_reducible apply ac_listT
    | with_reducible apply ac_listL
    | with_reducible apply ac_tupL
    | with_reducible apply ac_tupT
    | with_reducible apply ac_int
    | with_reducible apply ac_intB
    | ((with_reducible apply ar_eq3); · exact ⟨rfl, rfl, rfl⟩)
    | ((with_reducible apply ar_ne3); · exact ⟨rfl, rfl, rfl⟩)
    | with_reducible apply ag_name
    | with_reducible apply ags_nil
    | with_reducible apply ags_cons
    | ((with_reducible apply ag_tup); · rfl)
    | refine ⟨sz60 (Nat.le_of_ble_eq_true rfl), ?_⟩
    | refine ⟨_, rfl, ?_⟩
    | refine ⟨_, _, rfl, ?_⟩
    | refine ⟨_, _, _, rfl, ?_⟩
    | (refine ⟨fun hc => ?_, fun hc => ?_⟩ <;> (first | (exfalso; exact absurd (show false = true from hc) (by decide)) | (exfalso; exact absurd (show true = false from hc) (by decide)) | (exfalso; simp at hc; done) | skip))
    | rfl
    | exact trivial
    | simp only [oD_some, oD_none])
  all_goals (unfold letsB; first | (rw [show lwB (some n) a = true from hc]; rfl) | (rw [show lwB (some n) a = false from hc]; rfl) | trace_state)
theorem ok_single (bl : Blts mg)   {f : Addr} {fd : FuncData} (F : Fun K "single" "single" s_single f fd) : FnOk P w K mg base CX0 1 f fd p_single (spP K (S_sing)) := by
  refine okP F sc_single (fun ds r h => ?_) (fun cdv A outer s H E hr ds r h => ?_)
  · obtain ⟨n, rfl, rfl⟩ := h
    rfl
  obtain ⟨n, rfl, rfl⟩ := h
  refine ⟨_, (pss_one (ps_ret (pe_tup (pa_cons (pv 0) (pa_cons (pv 0) (pa_cons pe_int (pa_cons (pv 0) pa_nil))))))), ?_⟩
  change AS K _ [En.da _] _ _
  try simp only [cxOf_K]
  repeat' (first
    | with_reducible apply as_seq
    | with_reducible apply as_ret
    | with_reducible apply as_next
    | with_reducible apply as_if
    | with_reducible apply as_set
    | with_reducible apply as_par
    | with_reducible apply as_par3
    | with_reducible apply as_asg
    | ((with_reducible apply ae_var); · rfl)
    | with_reducible apply ae_int
    | with_reducible apply ae_non
    | with_reducible apply ae_bl
    | with_reducible apply ae_str
    | with_reducible apply ae_ty
    | with_reducible apply ae_isi2
    | with_reducible apply ae_op
    | with_reducible apply ae_un
    | with_reducible apply aa_nil
    | with_reducible apply aa_cons
    | with_reducible apply ae_cb
    | with_reducible apply ae_tup
    | with_reducible apply ae_lst
    | with_reducible apply ae_if
    | with_reducible apply at_test
    | with_reducible apply at_b
    | with_reducible apply at_and
    | with_reducible apply at_or
    | with_reducible apply at_not
    | with_reducible apply at_yes
    | with_reducible apply ae_andV
    | with_reducible apply ae_orV
    | with_reducible apply ae_notV
    | with_reducible apply ar_I0i
    | with_reducible apply ar_I0b
    | with_reducible apply ar_isN
    | with_reducible apply ar_notN
    | with_reducible apply au_Ui
    | ((with_reducible apply ar_ixTs); · rfl)
    | ((with_reducible apply ar_ixLs); · rfl)
    | ((with_reducible apply ar_ix); · rfl)
    | ((with_reducible apply ar_ixT); · rfl)
    | ((with_reducible apply ar_ixL); · rfl)
    | with_reducible apply ac_abs
    | with_reducible apply ac_max2
    | with_reducible apply ac_min2
    | with_reducible apply ac_lenT
    | with_reducible apply ac_lenL
    | with_reducible apply ac_listT
    | with_reducible apply ac_listL
    | with_reducible apply ac_tupL
    | with_reducible apply ac_tupT
    | with_reducible apply ac_int
    | with_reducible apply ac_intB
    | ((with_reducible apply ar_eq3); · exact ⟨rfl, rfl, rfl⟩)
    | ((with_reducible apply ar_ne3); · exact ⟨rfl, rfl, rfl⟩)
    | with_reducible apply ag_name
    | with_reducible apply ags_nil
    | with_reducible apply ags_cons
    | ((with_reducible apply ag_tup); · rfl)
    | refine ⟨sz60 (Nat.le_of_ble_eq_true rfl), ?_⟩
    | refine ⟨_, rfl, ?_⟩
    | refine ⟨_, _, rfl, ?_⟩
    | refine ⟨_, _, _, rfl, ?_⟩
    | (refine ⟨fun hc => ?_, fun hc => ?_⟩ <;> (first | (exfalso; exact absurd (show false = true from hc) (by decide)) | (exfalso; exact absurd (show true = false from hc) (by decide)) | (exfalso; simp at hc; done) | skip))
    | rfl
    | exact trivial
    | simp only [oD_some, oD_none])
theorem ok_value_of (bl : Blts mg) {g_lets_in : Addr} {d_lets_in : FuncData} (c_lets_in : Cal P w K mg base 2 "lets_in" p_lets_in (spP K S_lets) g_lets_in d_lets_in) {g_single : Addr} {d_single : FuncData} (c_single : Cal P w K mg base 1 "single" p_single (spP K S_sing) g_single d_single)  {f : Addr} {fd : FuncData} (F : Fun K "value_of" "value_of" s_value_of f fd) : FnOk P w K mg base CX0 3 f fd p_value_of (spP K (S_vo)) := by
  refine okP F sc_value_of (fun ds r h => ?_) (fun cdv A outer s H E hr ds r h => ?_)
  · obtain ⟨lo, hi, m, r, rfl, rfl⟩ := h
    rfl
  obtain ⟨lo, hi, m, r, rfl, rfl⟩ := h
  refine ⟨_, (pss_cons (ps_if (pt_cmpR op_eq (pv 2) pe_int (nomark _)) (pss_one (ps_ret (pe_ifExp (pt_val (pe_call c_lets_in.ok (hr.mono (by decide)) rfl c_lets_in.mg c_lets_in.kp c_lets_in.bi .nil pass0 (pa_cons (pv 0) (pa_cons (pv 1) (pa_cons (pv 3) pa_nil))))) (pe_call c_single.ok (hr.mono (by decide)) rfl c_single.mg c_single.kp c_single.bi .nil pass0 (pa_cons (pv 3) pa_nil)) pe_non))) pss_nil)
    (pss_cons (ps_if (pt_cmpR op_notN (pv 0) pe_non (nomark _)) (pss_one (ps_set (i := 0) sc_value_of.nd rfl (by first | exact Or.inl rfl | exact Or.inr rfl) (pe_op op_add (pv 0) (pe_op op_modN (pe_op op_sub (pv 3) (pv 0)) (pv 2))))) pss_nil)
    (pss_cons (ps_if (pt_cmpR op_notN (pv 1) pe_non (nomark _)) (pss_one (ps_set (i := 1) sc_value_of.nd rfl (by first | exact Or.inl rfl | exact Or.inr rfl) (pe_op op_sub (pv 1) (pe_op op_modN (pe_op op_sub (pv 1) (pv 3)) (pv 2))))) pss_nil)
    (pss_cons (ps_if (PW.pt (pw_and (pt_cmpR op_notN (pv 0) pe_non (nomark _)) (pw_and (pt_cmpR op_notN (pv 1) pe_non (nomark _)) (pw_and1 (pt_cmpR op_ge (pv 0) (pv 1) (nomark _)))))) (pss_one (ps_ret (pe_ifExp (pt_cmpR op_eq (pv 0) (pv 1) (nomark _)) (pe_call c_single.ok (hr.mono (by decide)) rfl c_single.mg c_single.kp c_single.bi .nil pass0 (pa_cons (pv 0) pa_nil)) pe_non))) pss_nil)
    (pss_one (ps_ret (pe_tup (pa_cons (pv 0) (pa_cons (pv 1) (pa_cons (pv 2) (pa_cons (pv 3) pa_nil))))))))))), ?_⟩
  change AS K _ [En.da _, En.da _, En.da _, En.da _] _ _
  try simp only [cxOf_K]
  by_cases h0 : m = 0
  · subst h0
    cases hl : letsB lo hi r
    all_goals
      repeat' (first
        | with_reducible apply ae_call
        | (refine ⟨.bl true, ⟨lo, hi, r, rfl, (congrArg Dt.bl hl.symm)⟩, ?_⟩)
        | (refine ⟨.bl false, ⟨lo, hi, r, rfl, (congrArg Dt.bl hl.symm)⟩, ?_⟩)
        | (refine ⟨_, ⟨_, rfl, rfl⟩, ?_⟩)
        | with_reducible apply as_seq
        | with_reducible apply as_ret
        | with_reducible apply as_next
        | with_reducible apply as_if
        | with_reducible apply as_set
        | with_reducible apply as_par
        | with_reducible apply as_par3
        | with_reducible apply as_asg
        | ((with_reducible apply ae_var); · rfl)
        | with_reducible apply ae_int
        | with_reducible apply ae_non
        | with_reducible apply ae_bl
        | with_reducible apply ae_str
        | with_reducible apply ae_ty
        | with_reducible apply ae_isi2
        | with_reducible apply ae_op
        | with_reducible apply ae_un
        | with_reducible apply aa_nil
        | with_reducible apply aa_cons
        | with_reducible apply ae_cb
        | with_reducible apply ae_tup
        | with_reducible apply ae_lst
        | with_reducible apply ae_if
        | with_reducible apply at_test
        | with_reducible apply at_b
        | with_reducible apply at_and
        | with_reducible apply at_or
        | with_reducible apply at_not
        | with_reducible apply at_yes
        | with_reducible apply ae_andV
        | with_reducible apply ae_orV
        | with_reducible apply ae_notV
        | with_reducible apply ar_I0i
        | with_reducible apply ar_I0b
        | with_reducible apply ar_isN
        | with_reducible apply ar_notN
        | with_reducible apply au_Ui
        | ((with_reducible apply ar_ixTs); · rfl)
        | ((with_reducible apply ar_ixLs); · rfl)
        | ((with_reducible apply ar_ix); · rfl)
        | ((with_reducible apply ar_ixT); · rfl)
        | ((with_reducible apply ar_ixL); · rfl)
        | with_reducible apply ac_abs
        | with_reducible apply ac_max2
        | with_reducible apply ac_min2
        | with_reducible apply ac_lenT
        | with_reducible apply ac_lenL
        | with_reducible apply ac_listT
        | with_reducible apply ac_listL
        | with_reducible apply ac_tupL
        | with_reducible apply ac_tupT
        | with_reducible apply ac_int
        | with_reducible apply ac_intB
        | ((with_reducible apply ar_eq3); · exact ⟨rfl, rfl, rfl⟩)
        | ((with_reducible apply ar_ne3); · exact ⟨rfl, rfl, rfl⟩)
        | with_reducible apply ag_name
        | with_reducible apply ags_nil
        | with_reducible apply ags_cons
        | ((with_reducible apply ag_tup); · rfl)
        | refine ⟨sz60 (Nat.le_of_ble_eq_true rfl), ?_⟩
        | refine ⟨_, rfl, ?_⟩
        | refine ⟨_, _, rfl, ?_⟩
        | refine ⟨_, _, _, rfl, ?_⟩
        | (refine ⟨fun hc => ?_, fun hc => ?_⟩ <;> (first | (exfalso; exact absurd (show false = true from hc) (by decide)) | (exfalso; exact absurd (show true = false from hc) (by decide)) | (exfalso; simp at hc; done) | skip))
        | rfl
        | exact trivial
        | simp only [oD_some, oD_none])
    all_goals simp [voD, hl]
  · have hd : decide (V.int m = V.int 0) = false := decide_eq_false (fun z => h0 (by cases z; rfl))
    cases lo with
    | none => cases hi with
      | none =>
        repeat' (first
          | (refine ⟨_, rfl, ?_⟩; rw [hd]; refine ⟨fun hc => (nomatch hc), fun hc => ?_⟩)
          | refine ar_Ii (C := fun _ j => j ≠ 0) (by first | assumption | omega) ?_
          | with_reducible apply ae_call
          | (refine ⟨_, ⟨_, rfl, rfl⟩, ?_⟩)
          | with_reducible apply as_seq
          | with_reducible apply as_ret
          | with_reducible apply as_next
          | with_reducible apply as_if
          | with_reducible apply as_set
          | with_reducible apply as_par
          | with_reducible apply as_par3
          | with_reducible apply as_asg
          | ((with_reducible apply ae_var); · rfl)
          | with_reducible apply ae_int
          | with_reducible apply ae_non
          | with_reducible apply ae_bl
          | with_reducible apply ae_str
          | with_reducible apply ae_ty
          | with_reducible apply ae_isi2
          | with_reducible apply ae_op
          | with_reducible apply ae_un
          | with_reducible apply aa_nil
          | with_reducible apply aa_cons
          | with_reducible apply ae_cb
          | with_reducible apply ae_tup
          | with_reducible apply ae_lst
          | with_reducible apply ae_if
          | with_reducible apply at_test
          | with_reducible apply at_b
          | with_reducible apply at_and
          | with_reducible apply at_or
          | with_reducible apply at_not
          | with_reducible apply at_yes
          | with_reducible apply ae_andV
          | with_reducible apply ae_orV
          | with_reducible apply ae_notV
          | with_reducible apply ar_I0i
          | with_reducible apply ar_I0b
          | with_reducible apply ar_isN
          | with_reducible apply ar_notN
          | with_reducible apply au_Ui
          | ((with_reducible apply ar_ixTs); · rfl)
          | ((with_reducible apply ar_ixLs); · rfl)
          | ((with_reducible apply ar_ix); · rfl)
          | ((with_reducible apply ar_ixT); · rfl)
          | ((with_reducible apply ar_ixL); · rfl)
          | with_reducible apply ac_abs
          | with_reducible apply ac_max2
          | with_reducible apply ac_min2
          | with_reducible apply ac_lenT
          | with_reducible apply ac_lenL
          | with_reducible apply ac_listT
          | with_reducible apply ac_listL
          | with_reducible apply ac_tupL
          | with_reducible apply ac_tupT
          | with_reducible apply ac_int
          | with_reducible apply ac_intB
          | ((with_reducible apply ar_eq3); · exact ⟨rfl, rfl, rfl⟩)
          | ((with_reducible apply ar_ne3); · exact ⟨rfl, rfl, rfl⟩)
          | with_reducible apply ag_name
          | with_reducible apply ags_nil
          | with_reducible apply ags_cons
          | ((with_reducible apply ag_tup); · rfl)
          | refine ⟨sz60 (Nat.le_of_ble_eq_true rfl), ?_⟩
          | refine ⟨_, rfl, ?_⟩
          | refine ⟨_, _, rfl, ?_⟩
          | refine ⟨_, _, _, rfl, ?_⟩
          | (refine ⟨fun hc => ?_, fun hc => ?_⟩ <;> (first | (exfalso; exact absurd (show false = true from hc) (by decide)) | (exfalso; exact absurd (show true = false from hc) (by decide)) | (exfalso; simp at hc; done) | skip))
          | rfl
          | exact trivial
          | simp only [oD_some, oD_none])
        all_goals (simp [voD, h0, oD]; done)
      | some y =>
        repeat' (first
          | (refine ⟨_, rfl, ?_⟩; rw [hd]; refine ⟨fun hc => (nomatch hc), fun hc => ?_⟩)
          | refine ar_Ii (C := fun _ j => j ≠ 0) (by first | assumption | omega) ?_
          | with_reducible apply ae_call
          | (refine ⟨_, ⟨_, rfl, rfl⟩, ?_⟩)
          | with_reducible apply as_seq
          | with_reducible apply as_ret
          | with_reducible apply as_next
          | with_reducible apply as_if
          | with_reducible apply as_set
          | with_reducible apply as_par
          | with_reducible apply as_par3
          | with_reducible apply as_asg
          | ((with_reducible apply ae_var); · rfl)
          | with_reducible apply ae_int
          | with_reducible apply ae_non
          | with_reducible apply ae_bl
          | with_reducible apply ae_str
          | with_reducible apply ae_ty
          | with_reducible apply ae_isi2
          | with_reducible apply ae_op
          | with_reducible apply ae_un
          | with_reducible apply aa_nil
          | with_reducible apply aa_cons
          | with_reducible apply ae_cb
          | with_reducible apply ae_tup
          | with_reducible apply ae_lst
          | with_reducible apply ae_if
          | with_reducible apply at_test
          | with_reducible apply at_b
          | with_reducible apply at_and
          | with_reducible apply at_or
          | with_reducible apply at_not
          | with_reducible apply at_yes
          | with_reducible apply ae_andV
          | with_reducible apply ae_orV
          | with_reducible apply ae_notV
          | with_reducible apply ar_I0i
          | with_reducible apply ar_I0b
          | with_reducible apply ar_isN
          | with_reducible apply ar_notN
          | with_reducible apply au_Ui
          | ((with_reducible apply ar_ixTs); · rfl)
          | ((with_reducible apply ar_ixLs); · rfl)
          | ((with_reducible apply ar_ix); · rfl)
          | ((with_reducible apply ar_ixT); · rfl)
          | ((with_reducible apply ar_ixL); · rfl)
          | with_reducible apply ac_abs
          | with_reducible apply ac_max2
          | with_reducible apply ac_min2
          | with_reducible apply ac_lenT
          | with_reducible apply ac_lenL
          | with_reducible apply ac_listT
          | with_reducible apply ac_listL
          | with_reducible apply ac_tupL
          | with_reducible apply ac_tupT
          | with_reducible apply ac_int
          | with_reducible apply ac_intB
          | ((with_reducible apply ar_eq3); · exact ⟨rfl, rfl, rfl⟩)
          | ((with_reducible apply ar_ne3); · exact ⟨rfl, rfl, rfl⟩)
          | with_reducible apply ag_name
          | with_reducible apply ags_nil
          | with_reducible apply ags_cons
          | ((with_reducible apply ag_tup); · rfl)
          | refine ⟨sz60 (Nat.le_of_ble_eq_true rfl), ?_⟩
          | refine ⟨_, rfl, ?_⟩
          | refine ⟨_, _, rfl, ?_⟩
          | refine ⟨_, _, _, rfl, ?_⟩
          | (refine ⟨fun hc => ?_, fun hc => ?_⟩ <;> (first | (exfalso; exact absurd (show false = true from hc) (by decide)) | (exfalso; exact absurd (show true = false from hc) (by decide)) | (exfalso; simp at hc; done) | skip))
          | rfl
          | exact trivial
          | simp only [oD_some, oD_none])
        all_goals (simp [voD, h0, dnR, oD]; done)
    | some x => cases hi with
      | none =>
        repeat' (first
          | (refine ⟨_, rfl, ?_⟩; rw [hd]; refine ⟨fun hc => (nomatch hc), fun hc => ?_⟩)
          | refine ar_Ii (C := fun _ j => j ≠ 0) (by first | assumption | omega) ?_
          | with_reducible apply ae_call
          | (refine ⟨_, ⟨_, rfl, rfl⟩, ?_⟩)
          | with_reducible apply as_seq
          | with_reducible apply as_ret
          | with_reducible apply as_next
          | with_reducible apply as_if
          | with_reducible apply as_set
          | with_reducible apply as_par
          | with_reducible apply as_par3
          | with_reducible apply as_asg
          | ((with_reducible apply ae_var); · rfl)
          | with_reducible apply ae_int
          | with_reducible apply ae_non
          | with_reducible apply ae_bl
          | with_reducible apply ae_str
          | with_reducible apply ae_ty
          | with_reducible apply ae_isi2
          | with_reducible apply ae_op
          | with_reducible apply ae_un
          | with_reducible apply aa_nil
          | with_reducible apply aa_cons
          | with_reducible apply ae_cb
          | with_reducible apply ae_tup
          | with_reducible apply ae_lst
          | with_reducible apply ae_if
          | with_reducible apply at_test
          | with_reducible apply at_b
          | with_reducible apply at_and
          | with_reducible apply at_or
          | with_reducible apply at_not
          | with_reducible apply at_yes
          | with_reducible apply ae_andV
          | with_reducible apply ae_orV
          | with_reducible apply ae_notV
          | with_reducible apply ar_I0i
          | with_reducible apply ar_I0b
          | with_reducible apply ar_isN
          | with_reducible apply ar_notN
          | with_reducible apply au_Ui
          | ((with_reducible apply ar_ixTs); · rfl)
          | ((with_reducible apply ar_ixLs); · rfl)
          | ((with_reducible apply ar_ix); · rfl)
          | ((with_reducible apply ar_ixT); · rfl)
          | ((with_reducible apply ar_ixL); · rfl)
          | with_reducible apply ac_abs
          | with_reducible apply ac_max2
          | with_reducible apply ac_min2
          | with_reducible apply ac_lenT
          | with_reducible apply ac_lenL
          | with_reducible apply ac_listT
          | with_reducible apply ac_listL
          | with_reducible apply ac_tupL
          | with_reducible apply ac_tupT
          | with_reducible apply ac_int
          | with_reducible apply ac_intB
          | ((with_reducible apply ar_eq3); · exact ⟨rfl, rfl, rfl⟩)
          | ((with_reducible apply ar_ne3); · exact ⟨rfl, rfl, rfl⟩)
          | with_reducible apply ag_name
          | with_reducible apply ags_nil
          | with_reducible apply ags_cons
          | ((with_reducible apply ag_tup); · rfl)
          | refine ⟨sz60 (Nat.le_of_ble_eq_true rfl), ?_⟩
          | refine ⟨_, rfl, ?_⟩
          | refine ⟨_, _, rfl, ?_⟩
          | refine ⟨_, _, _, rfl, ?_⟩
          | (refine ⟨fun hc => ?_, fun hc => ?_⟩ <;> (first | (exfalso; exact absurd (show false = true from hc) (by decide)) | (exfalso; exact absurd (show true = false from hc) (by decide)) | (exfalso; simp at hc; done) | skip))
          | rfl
          | exact trivial
          | simp only [oD_some, oD_none])
        all_goals (simp [voD, h0, upR, oD]; done)
      | some y =>
        repeat' (first
          | (refine ⟨_, rfl, ?_⟩; rw [hd]; refine ⟨fun hc => (nomatch hc), fun hc => ?_⟩)
          | refine ar_Ii (C := fun _ j => j ≠ 0) (by first | assumption | omega) ?_
          | with_reducible apply ae_call
          | (refine ⟨_, ⟨_, rfl, rfl⟩, ?_⟩)
          | with_reducible apply as_seq
          | with_reducible apply as_ret
          | with_reducible apply as_next
          | with_reducible apply as_if
          | with_reducible apply as_set
          | with_reducible apply as_par
          | with_reducible apply as_par3
          | with_reducible apply as_asg
          | ((with_reducible apply ae_var); · rfl)
          | with_reducible apply ae_int
          | with_reducible apply ae_non
          | with_reducible apply ae_bl
          | with_reducible apply ae_str
          | with_reducible apply ae_ty
          | with_reducible apply ae_isi2
          | with_reducible apply ae_op
          | with_reducible apply ae_un
          | with_reducible apply aa_nil
          | with_reducible apply aa_cons
          | with_reducible apply ae_cb
          | with_reducible apply ae_tup
          | with_reducible apply ae_lst
          | with_reducible apply ae_if
          | with_reducible apply at_test
          | with_reducible apply at_b
          | with_reducible apply at_and
          | with_reducible apply at_or
          | with_reducible apply at_not
          | with_reducible apply at_yes
          | with_reducible apply ae_andV
          | with_reducible apply ae_orV
          | with_reducible apply ae_notV
          | with_reducible apply ar_I0i
          | with_reducible apply ar_I0b
          | with_reducible apply ar_isN
          | with_reducible apply ar_notN
          | with_reducible apply au_Ui
          | ((with_reducible apply ar_ixTs); · rfl)
          | ((with_reducible apply ar_ixLs); · rfl)
          | ((with_reducible apply ar_ix); · rfl)
          | ((with_reducible apply ar_ixT); · rfl)
          | ((with_reducible apply ar_ixL); · rfl)
          | with_reducible apply ac_abs
          | with_reducible apply ac_max2
          | with_reducible apply ac_min2
          | with_reducible apply ac_lenT
          | with_reducible apply ac_lenL
          | with_reducible apply ac_listT
          | with_reducible apply ac_listL
          | with_reducible apply ac_tupL
          | with_reducible apply ac_tupT
          | with_reducible apply ac_int
          | with_reducible apply ac_intB
          | ((with_reducible apply ar_eq3); · exact ⟨rfl, rfl, rfl⟩)
          | ((with_reducible apply ar_ne3); · exact ⟨rfl, rfl, rfl⟩)
          | with_reducible apply ag_name
          | with_reducible apply ags_nil
          | with_reducible apply ags_cons
          | ((with_reducible apply ag_tup); · rfl)
          | refine ⟨sz60 (Nat.le_of_ble_eq_true rfl), ?_⟩
          | refine ⟨_, rfl, ?_⟩
          | refine ⟨_, _, rfl, ?_⟩
          | refine ⟨_, _, _, rfl, ?_⟩
          | (refine ⟨fun hc => ?_, fun hc => ?_⟩ <;> (first | (exfalso; exact absurd (show false = true from hc) (by decide)) | (exfalso; exact absurd (show true = false from hc) (by decide)) | (exfalso; simp at hc; done) | skip))
          | rfl
          | exact trivial
          | simp only [oD_some, oD_none])
        all_goals (clear F hr c_lets_in c_single bl; unfold voD; rw [if_neg h0]; simp_all [upR, dnR, oD])
        all_goals (repeat (first | rw [if_neg (by omega)] | rw [if_pos (by omega)])); (try rfl)
theorem ok_value_cut (bl : Blts mg) {g_tightest_low : Addr} {d_tightest_low : FuncData} (c_tightest_low : Cal P w K mg base 1 "tightest_low" p_tightest_low (spP K (S2o tmL)) g_tightest_low d_tightest_low) {g_tightest_high : Addr} {d_tightest_high : FuncData} (c_tightest_high : Cal P w K mg base 1 "tightest_high" p_tightest_high (spP K (S2o tmH2)) g_tightest_high d_tightest_high) {g_value_of : Addr} {d_value_of : FuncData} (c_value_of : Cal P w K mg base 3 "value_of" p_value_of (spP K S_vo) g_value_of d_value_of)  {f : Addr} {fd : FuncData} (F : Fun K "value_cut" "value_cut" s_value_cut f fd) : FnOk P w K mg base CX0 4 f fd p_value_cut (spP K (S_vc)) := by
  refine okP F sc_value_cut (fun ds r h => ?_) (fun cdv A outer s H E hr ds r h => ?_)
  · obtain ⟨v, lo, hi, rfl, rfl⟩ := h
    rfl
  obtain ⟨v, lo, hi, rfl, rfl⟩ := h
  refine ⟨_, (pss_one (ps_ret (pe_call c_value_of.ok (hr.mono (by decide)) rfl c_value_of.mg c_value_of.kp c_value_of.bi .nil pass0 (pa_cons (pe_call c_tightest_low.ok (hr.mono (by decide)) rfl c_tightest_low.mg c_tightest_low.kp c_tightest_low.bi .nil pass0 (pa_cons (pe_ix ix_tup (pv 0) pe_int (fun _ _ => rfl)) (pa_cons (pv 1) pa_nil))) (pa_cons (pe_call c_tightest_high.ok (hr.mono (by decide)) rfl c_tightest_high.mg c_tightest_high.kp c_tightest_high.bi .nil pass0 (pa_cons (pe_ix ix_tup (pv 0) pe_int (fun _ _ => rfl)) (pa_cons (pv 2) pa_nil))) (pa_cons (pe_ix ix_tup (pv 0) pe_int (fun _ _ => rfl)) (pa_cons (pe_ix ix_tup (pv 0) pe_int (fun _ _ => rfl)) pa_nil))))))), ?_⟩
  change AS K _ [En.da _, En.da _, En.da _] _ _
  try simp only [cxOf_K]
  refine as_ret (ae_call (aa_cons (ae_call (aa_cons (ae_op (ae_var rfl (ae_int (ar_ixT rfl (aa_cons (ae_var rfl (aa_nil ⟨_, ⟨v.lo, lo, rfl, rfl⟩, ?_⟩)))))))))))
  refine aa_cons (ae_call (aa_cons (ae_op (ae_var rfl (ae_int (ar_ixT rfl (aa_cons (ae_var rfl (aa_nil ⟨_, ⟨v.hi, hi, rfl, rfl⟩, ?_⟩)))))))))
  refine aa_cons (ae_op (ae_var rfl (ae_int (ar_ixT rfl (aa_cons (ae_op (ae_var rfl (ae_int (ar_ixT rfl (aa_nil ⟨_, ⟨_, _, v.m, v.r, rfl, rfl⟩, voD_V _ _ _ _⟩))))))))))
theorem ok_state_of (bl : Blts mg)   {f : Addr} {fd : FuncData} (F : Fun K "state_of" "state_of" s_state_of f fd) : FnOk P w K mg base CX0 1 f fd p_state_of (spP K (S_so)) := by
  refine okP F sc_state_of (fun ds r h => ?_) (fun cdv A outer s H E hr ds r h => ?_)
  · obtain ⟨os, g, ps, rfl, ho, hp, rfl⟩ := h
    rfl
  obtain ⟨os, g, ps, rfl, ho, hp, rfl⟩ := h
  refine ⟨_, (pss_cons (ps_if (PW.pt (pw_or (pt_val (pe_callB (cr_any rfl) rfl bl.any (by decide +kernel) (pa_cons (pe_lc (own := [("value", 3)]) (g := (gName 3)) (te := (tOp (fun x y H Q => y = .non ∧ Q (.bl (decide (x = .non))) H) (tVar 3) (tC .non))) (tt := tYes) rfl sc_state_of.nd (pi_list (pv 0)) (blkOk_by (N := N_state_of) (sc := defScope s_state_of) (by decide +kernel)) (fun _ _ _ _ _ => (pg_name (i := 3) sc_state_of.nd rfl (by first | exact Or.inl rfl | exact Or.inr rfl))) (fun _ _ _ _ _ => pts_nil) (fun _ _ _ _ _ => (pe_cmpR op_isN (pv 3) pe_non (nomark _)))) pa_nil))) (pw_or1 (pt_val (pe_callB (cr_any rfl) rfl bl.any (by decide +kernel) (pa_cons (pe_lc (own := [("pieces", 4)]) (g := (gName 4)) (te := (tOp (fun x y H Q => y = .non ∧ Q (.bl (decide (x = .non))) H) (tVar 4) (tC .non))) (tt := tYes) rfl sc_state_of.nd (pi_tup (pv 2)) (blkOk_by (N := N_state_of) (sc := defScope s_state_of) (by decide +kernel)) (fun _ _ _ _ _ => (pg_name (i := 4) sc_state_of.nd rfl (by first | exact Or.inl rfl | exact Or.inr rfl))) (fun _ _ _ _ _ => pts_nil) (fun _ _ _ _ _ => (pe_cmpR op_isN (pv 4) pe_non (nomark _)))) pa_nil)))))) (pss_one (ps_ret pe_non)) pss_nil)
    (pss_one (ps_ret (pe_tup (pa_cons (pe_callTy call_tuple_of rfl bl.tuple (by decide +kernel) (pa_cons (pv 0) pa_nil)) (pa_cons (pv 1) (pa_cons (pe_callTy call_tuple_of rfl bl.tuple (by decide +kernel) (pa_cons (pv 2) pa_nil)) pa_nil))))))), ?_⟩
  change AS K _ [En.da _, En.da _, En.da _, En.no, En.no] _ _
  try simp only [cxOf_K]
  have z9 : 9000 ≤ sizeLine := by decide
  refine as_seq (as_if (at_or (at_b (ae_cb (aa_cons (ae_lcMap (fun d => .bl d.isNon) (ai_list (ae_var rfl ⟨_, rfl, by rw [List.length_map]; omega, fun d hd => ?_, ?_⟩))))))))
  · refine agv_name (by simp) (ae_op (ae_var rfl (ae_non (ar_isN ⟨rfl, rfl⟩))))
  have e1 : (os.map ovD).map (fun d => Dt.bl d.isNon) = (os.map Option.isNone).map Dt.bl := by
    rw [List.map_map, List.map_map]
    exact List.map_congr_left fun o _ => by cases o <;> rfl
  have e2 : (os.map Option.isNone).any id = os.any Option.isNone := by rw [List.any_map]; rfl
  rw [e1]
  refine aa_nil (ac_any ?_)
  rw [e2]
  unfold soD
  cases h : allS os with
  | none =>
    rw [(allS_none os).mp h]
    exact ⟨true, rfl, fun _ => ⟨fun _ => as_ret (ae_non rfl), (fun h => absurd (show true = false from h) (by decide))⟩, (fun h => absurd (show true = false from h) (by decide))⟩
  | some vs =>
    have hb : os.any Option.isNone = false := by
      cases e : os.any Option.isNone with
      | false => rfl
      | true => rw [(allS_none os).mpr e] at h; cases h
    rw [hb]
    refine ⟨false, rfl, (fun h => absurd (show false = true from h) (by decide)), fun _ => ?_⟩
    refine at_b (ae_cb (aa_cons (ae_lcMap (fun d => .bl d.isNon) (ai_tup (ae_var rfl ⟨_, rfl, by rw [List.length_map]; omega, fun d hd => ?_, ?_⟩)))))
    · refine agv_name (by simp) (ae_op (ae_var rfl (ae_non (ar_isN ⟨rfl, rfl⟩))))
    have e3 : (ps.map pcD).map (fun d => Dt.bl d.isNon) = (ps.map fun _ => false).map Dt.bl := by
      rw [List.map_map, List.map_map]
      rfl
    have e4 : (ps.map fun _ => false).any id = false := by rw [List.any_map]; simp
    rw [e3]
    refine aa_nil (ac_any ?_)
    rw [e4]
    refine ⟨false, rfl, (fun h => absurd (show false = true from h) (by decide)), fun _ => as_next ?_⟩
    refine as_ret (ae_tup (aa_cons (ae_cb (aa_cons (ae_var rfl (aa_nil (ac_tupL (aa_cons (ae_var rfl (aa_cons (ae_cb (aa_cons (ae_var rfl (aa_nil (ac_tupT (aa_nil ⟨by show 3 ≤ sizeLine; omega, ?_⟩))))))))))))))))
    rw [allS_some os vs h, List.map_map]
    rfl
end
end Sh
set_option Elab.async false
set_option linter.all false
set_option maxRecDepth 100000
set_option maxHeartbeats 4000000
namespace Sh
open PySem PySem.Spec PyProof.Rows L2
abbrev s_as_tuples : Stmt := topS 12
abbrev N_as_tuples : List Str := ["thing"]
abbrev p_as_tuples : List Str := ["thing"]
theorem sc_as_tuples : FnScope N_as_tuples p_as_tuples (defScope s_as_tuples) := ⟨rfl, rfl, rfl, by decide +kernel, rfl, by decide +kernel, by decide +kernel⟩
section
variable {P : Program} {w : World} {K : PySem.W.Frag} {mg : Str → Option Value} {base : Heap}
theorem ok_as_tuples (bl : Blts mg) {n k : Nat} {g_as_tuples : Addr} {d_as_tuples : FuncData} (c_as_tuples : Cal P w K mg base k "as_tuples" p_as_tuples (spP K (S_as n)) g_as_tuples d_as_tuples) (hmap : mg "map" = none) {f : Addr} {fd : FuncData} (F : Fun K "as_tuples" "as_tuples" s_as_tuples f fd) : FnOk P w K mg base CX0 (k + 5) f fd p_as_tuples (spP K (S_as (n + 1))) := by
  refine okP F sc_as_tuples (fun ds r h => ?_) (fun cdv A outer s H E hr ds r h => ?_)
  · obtain ⟨d, rfl, hd, rfl⟩ := h
    rfl
  obtain ⟨d, rfl, hd, rfl⟩ := h
  refine ⟨_, (pss_cons (ps_if (pt_val (pe_callB call_isiT rfl bl.isinstance (by decide +kernel) (pa_cons (pv 0) (pa_cons (pe_tup (pa_cons (pe_bltn (v := .ty "list") rfl bl.list (by decide +kernel) rfl) (pa_cons (pe_bltn (v := .ty "tuple") rfl bl.tuple (by decide +kernel) rfl) pa_nil))) pa_nil)))) (pss_one (ps_ret (MpT.pe_tupMap rfl rfl bl.tuple rfl hmap (pf_glob rfl c_as_tuples.mg) (pv 0) (MpT.raw0 c_as_tuples.ok c_as_tuples.bi) hr))) pss_nil)
    (pss_one (ps_ret (pv 0)))), ?_⟩
  change AS K _ [En.da _] _ _
  try simp only [cxOf_K]
  cases d with
  | non =>
    repeat' (first
      | (refine ⟨rfl, false, .inr ⟨kb_NoneType_list, kb_NoneType_tuple⟩, ?_⟩)
      | with_reducible apply as_seq
      | with_reducible apply as_ret
      | with_reducible apply as_next
      | with_reducible apply as_if
      | with_reducible apply as_set
      | with_reducible apply as_par
      | with_reducible apply as_par3
      | with_reducible apply as_asg
      | ((with_reducible apply ae_var); · rfl)
      | with_reducible apply ae_int
      | with_reducible apply ae_non
      | with_reducible apply ae_bl
      | with_reducible apply ae_str
      | with_reducible apply ae_ty
      | with_reducible apply ae_isi2
      | with_reducible apply ae_op
      | with_reducible apply ae_un
      | with_reducible apply aa_nil
      | with_reducible apply aa_cons
      | with_reducible apply ae_cb
      | with_reducible apply ae_tup
      | with_reducible apply ae_lst
      | with_reducible apply ae_if
      | with_reducible apply at_test
      | with_reducible apply at_b
      | with_reducible apply at_and
      | with_reducible apply at_or
      | with_reducible apply at_not
      | with_reducible apply at_yes
      | with_reducible apply ae_andV
      | with_reducible apply ae_orV
      | with_reducible apply ae_notV
      | with_reducible apply ar_I0i
      | with_reducible apply ar_I0b
      | with_reducible apply ar_isN
      | with_reducible apply ar_notN
      | with_reducible apply au_Ui
      | ((with_reducible apply ar_ixTs); · rfl)
      | ((with_reducible apply ar_ixLs); · rfl)
      | ((with_reducible apply ar_ix); · rfl)
      | ((with_reducible apply ar_ixT); · rfl)
      | ((with_reducible apply ar_ixL); · rfl)
      | with_reducible apply ac_abs
      | with_reducible apply ac_max2
      | with_reducible apply ac_min2
      | with_reducible apply ac_lenT
      | with_reducible apply ac_lenL
      | with_reducible apply ac_listT
      | with_reducible apply ac_listL
      | with_reducible apply ac_tupL
      | with_reducible apply ac_tupT
      | with_reducible apply ac_int
      | with_reducible apply ac_intB
      | ((with_reducible apply ar_eq3); · exact ⟨rfl, rfl, rfl⟩)
      | ((with_reducible apply ar_ne3); · exact ⟨rfl, rfl, rfl⟩)
      | with_reducible apply ag_name
      | with_reducible apply ags_nil
      | with_reducible apply ags_cons
      | ((with_reducible apply ag_tup); · rfl)
      | refine ⟨sz60 (Nat.le_of_ble_eq_true rfl), ?_⟩
      | refine ⟨_, rfl, ?_⟩
      | refine ⟨_, _, rfl, ?_⟩
      | refine ⟨_, _, _, rfl, ?_⟩
      | (refine ⟨fun hc => ?_, fun hc => ?_⟩ <;> (first | (exfalso; exact absurd (show false = true from hc) (by decide)) | (exfalso; exact absurd (show true = false from hc) (by decide)) | (exfalso; simp at hc; done) | skip))
      | rfl
      | exact trivial
      | simp only [oD_some, oD_none])
  | bl b =>
    repeat' (first
      | (refine ⟨rfl, false, .inr ⟨kb_bool_list, kb_bool_tuple⟩, ?_⟩)
      | with_reducible apply as_seq
      | with_reducible apply as_ret
      | with_reducible apply as_next
      | with_reducible apply as_if
      | with_reducible apply as_set
      | with_reducible apply as_par
      | with_reducible apply as_par3
      | with_reducible apply as_asg
      | ((with_reducible apply ae_var); · rfl)
      | with_reducible apply ae_int
      | with_reducible apply ae_non
      | with_reducible apply ae_bl
      | with_reducible apply ae_str
      | with_reducible apply ae_ty
      | with_reducible apply ae_isi2
      | with_reducible apply ae_op
      | with_reducible apply ae_un
      | with_reducible apply aa_nil
      | with_reducible apply aa_cons
      | with_reducible apply ae_cb
      | with_reducible apply ae_tup
      | with_reducible apply ae_lst
      | with_reducible apply ae_if
      | with_reducible apply at_test
      | with_reducible apply at_b
      | with_reducible apply at_and
      | with_reducible apply at_or
      | with_reducible apply at_not
      | with_reducible apply at_yes
      | with_reducible apply ae_andV
      | with_reducible apply ae_orV
      | with_reducible apply ae_notV
      | with_reducible apply ar_I0i
      | with_reducible apply ar_I0b
      | with_reducible apply ar_isN
      | with_reducible apply ar_notN
      | with_reducible apply au_Ui
      | ((with_reducible apply ar_ixTs); · rfl)
      | ((with_reducible apply ar_ixLs); · rfl)
      | ((with_reducible apply ar_ix); · rfl)
      | ((with_reducible apply ar_ixT); · rfl)
      | ((with_reducible apply ar_ixL); · rfl)
      | with_reducible apply ac_abs
      | with_reducible apply ac_max2
      | with_reducible apply ac_min2
      | with_reducible apply ac_lenT
      | with_reducible apply ac_lenL
      | with_reducible apply ac_listT
      | with_reducible apply ac_listL
      | with_reducible apply ac_tupL
      | with_reducible apply ac_tupT
      | with_reducible apply ac_int
      | with_reducible apply ac_intB
      | ((with_reducible apply ar_eq3); · exact ⟨rfl, rfl, rfl⟩)
      | ((with_reducible apply ar_ne3); · exact ⟨rfl, rfl, rfl⟩)
      | with_reducible apply ag_name
      | with_reducible apply ags_nil
      | with_reducible apply ags_cons
      | ((with_reducible apply ag_tup); · rfl)
      | refine ⟨sz60 (Nat.le_of_ble_eq_true rfl), ?_⟩
      | refine ⟨_, rfl, ?_⟩
      | refine ⟨_, _, rfl, ?_⟩
      | refine ⟨_, _, _, rfl, ?_⟩
      | (refine ⟨fun hc => ?_, fun hc => ?_⟩ <;> (first | (exfalso; exact absurd (show false = true from hc) (by decide)) | (exfalso; exact absurd (show true = false from hc) (by decide)) | (exfalso; simp at hc; done) | skip))
      | rfl
      | exact trivial
      | simp only [oD_some, oD_none])
  | int i =>
    repeat' (first
      | (refine ⟨rfl, false, .inr ⟨kb_int_list, kb_int_tuple⟩, ?_⟩)
      | with_reducible apply as_seq
      | with_reducible apply as_ret
      | with_reducible apply as_next
      | with_reducible apply as_if
      | with_reducible apply as_set
      | with_reducible apply as_par
      | with_reducible apply as_par3
      | with_reducible apply as_asg
      | ((with_reducible apply ae_var); · rfl)
      | with_reducible apply ae_int
      | with_reducible apply ae_non
      | with_reducible apply ae_bl
      | with_reducible apply ae_str
      | with_reducible apply ae_ty
      | with_reducible apply ae_isi2
      | with_reducible apply ae_op
      | with_reducible apply ae_un
      | with_reducible apply aa_nil
      | with_reducible apply aa_cons
      | with_reducible apply ae_cb
      | with_reducible apply ae_tup
      | with_reducible apply ae_lst
      | with_reducible apply ae_if
      | with_reducible apply at_test
      | with_reducible apply at_b
      | with_reducible apply at_and
      | with_reducible apply at_or
      | with_reducible apply at_not
      | with_reducible apply at_yes
      | with_reducible apply ae_andV
      | with_reducible apply ae_orV
      | with_reducible apply ae_notV
      | with_reducible apply ar_I0i
      | with_reducible apply ar_I0b
      | with_reducible apply ar_isN
      | with_reducible apply ar_notN
      | with_reducible apply au_Ui
      | ((with_reducible apply ar_ixTs); · rfl)
      | ((with_reducible apply ar_ixLs); · rfl)
      | ((with_reducible apply ar_ix); · rfl)
      | ((with_reducible apply ar_ixT); · rfl)
      | ((with_reducible apply ar_ixL); · rfl)
      | with_reducible apply ac_abs
      | with_reducible apply ac_max2
      | with_reducible apply ac_min2
      | with_reducible apply ac_lenT
      | with_reducible apply ac_lenL
      | with_reducible apply ac_listT
      | with_reducible apply ac_listL
      | with_reducible apply ac_tupL
      | with_reducible apply ac_tupT
      | with_reducible apply ac_int
      | with_reducible apply ac_intB
      | ((with_reducible apply ar_eq3); · exact ⟨rfl, rfl, rfl⟩)
      | ((with_reducible apply ar_ne3); · exact ⟨rfl, rfl, rfl⟩)
      | with_reducible apply ag_name
      | with_reducible apply ags_nil
      | with_reducible apply ags_cons
      | ((with_reducible apply ag_tup); · rfl)
      | refine ⟨sz60 (Nat.le_of_ble_eq_true rfl), ?_⟩
      | refine ⟨_, rfl, ?_⟩
      | refine ⟨_, _, rfl, ?_⟩
      | refine ⟨_, _, _, rfl, ?_⟩
      | (refine ⟨fun hc => ?_, fun hc => ?_⟩ <;> (first | (exfalso; exact absurd (show false = true from hc) (by decide)) | (exfalso; exact absurd (show true = false from hc) (by decide)) | (exfalso; simp at hc; done) | skip))
      | rfl
      | exact trivial
      | simp only [oD_some, oD_none])
  | str s =>
    repeat' (first
      | (refine ⟨rfl, false, .inr ⟨kb_str_list, kb_str_tuple⟩, ?_⟩)
      | with_reducible apply as_seq
      | with_reducible apply as_ret
      | with_reducible apply as_next
      | with_reducible apply as_if
      | with_reducible apply as_set
      | with_reducible apply as_par
      | with_reducible apply as_par3
      | with_reducible apply as_asg
      | ((with_reducible apply ae_var); · rfl)
      | with_reducible apply ae_int
      | with_reducible apply ae_non
      | with_reducible apply ae_bl
      | with_reducible apply ae_str
      | with_reducible apply ae_ty
      | with_reducible apply ae_isi2
      | with_reducible apply ae_op
      | with_reducible apply ae_un
      | with_reducible apply aa_nil
      | with_reducible apply aa_cons
      | with_reducible apply ae_cb
      | with_reducible apply ae_tup
      | with_reducible apply ae_lst
      | with_reducible apply ae_if
      | with_reducible apply at_test
      | with_reducible apply at_b
      | with_reducible apply at_and
      | with_reducible apply at_or
      | with_reducible apply at_not
      | with_reducible apply at_yes
      | with_reducible apply ae_andV
      | with_reducible apply ae_orV
      | with_reducible apply ae_notV
      | with_reducible apply ar_I0i
      | with_reducible apply ar_I0b
      | with_reducible apply ar_isN
      | with_reducible apply ar_notN
      | with_reducible apply au_Ui
      | ((with_reducible apply ar_ixTs); · rfl)
      | ((with_reducible apply ar_ixLs); · rfl)
      | ((with_reducible apply ar_ix); · rfl)
      | ((with_reducible apply ar_ixT); · rfl)
      | ((with_reducible apply ar_ixL); · rfl)
      | with_reducible apply ac_abs
      | with_reducible apply ac_max2
      | with_reducible apply ac_min2
      | with_reducible apply ac_lenT
      | with_reducible apply ac_lenL
      | with_reducible apply ac_listT
      | with_reducible apply ac_listL
      | with_reducible apply ac_tupL
      | with_reducible apply ac_tupT
      | with_reducible apply ac_int
      | with_reducible apply ac_intB
      | ((with_reducible apply ar_eq3); · exact ⟨rfl, rfl, rfl⟩)
      | ((with_reducible apply ar_ne3); · exact ⟨rfl, rfl, rfl⟩)
      | with_reducible apply ag_name
      | with_reducible apply ags_nil
      | with_reducible apply ags_cons
      | ((with_reducible apply ag_tup); · rfl)
      | refine ⟨sz60 (Nat.le_of_ble_eq_true rfl), ?_⟩
      | refine ⟨_, rfl, ?_⟩
      | refine ⟨_, _, rfl, ?_⟩
      | refine ⟨_, _, _, rfl, ?_⟩
      | (refine ⟨fun hc => ?_, fun hc => ?_⟩ <;> (first | (exfalso; exact absurd (show false = true from hc) (by decide)) | (exfalso; exact absurd (show true = false from hc) (by decide)) | (exfalso; simp at hc; done) | skip))
      | rfl
      | exact trivial
      | simp only [oD_some, oD_none])
  | ty t =>
    exact hd.elim
  | tup l =>
    repeat' (first
      | (refine ⟨rfl, true, .inr ⟨kb_tuple_list, kb_tuple_tuple⟩, ?_⟩)
      | (refine ae_tupMap ?_)
      | (refine ⟨true, l, rfl, tus l, all2_as hd, ?_⟩)
      | with_reducible apply as_seq
      | with_reducible apply as_ret
      | with_reducible apply as_next
      | with_reducible apply as_if
      | with_reducible apply as_set
      | with_reducible apply as_par
      | with_reducible apply as_par3
      | with_reducible apply as_asg
      | ((with_reducible apply ae_var); · rfl)
      | with_reducible apply ae_int
      | with_reducible apply ae_non
      | with_reducible apply ae_bl
      | with_reducible apply ae_str
      | with_reducible apply ae_ty
      | with_reducible apply ae_isi2
      | with_reducible apply ae_op
      | with_reducible apply ae_un
      | with_reducible apply aa_nil
      | with_reducible apply aa_cons
      | with_reducible apply ae_cb
      | with_reducible apply ae_tup
      | with_reducible apply ae_lst
      | with_reducible apply ae_if
      | with_reducible apply at_test
      | with_reducible apply at_b
      | with_reducible apply at_and
      | with_reducible apply at_or
      | with_reducible apply at_not
      | with_reducible apply at_yes
      | with_reducible apply ae_andV
      | with_reducible apply ae_orV
      | with_reducible apply ae_notV
      | with_reducible apply ar_I0i
      | with_reducible apply ar_I0b
      | with_reducible apply ar_isN
      | with_reducible apply ar_notN
      | with_reducible apply au_Ui
      | ((with_reducible apply ar_ixTs); · rfl)
      | ((with_reducible apply ar_ixLs); · rfl)
      | ((with_reducible apply ar_ix); · rfl)
      | ((with_reducible apply ar_ixT); · rfl)
      | ((with_reducible apply ar_ixL); · rfl)
      | with_reducible apply ac_abs
      | with_reducible apply ac_max2
      | with_reducible apply ac_min2
      | with_reducible apply ac_lenT
      | with_reducible apply ac_lenL
      | with_reducible apply ac_listT
      | with_reducible apply ac_listL
      | with_reducible apply ac_tupL
      | with_reducible apply ac_tupT
      | with_reducible apply ac_int
      | with_reducible apply ac_intB
      | ((with_reducible apply ar_eq3); · exact ⟨rfl, rfl, rfl⟩)
      | ((with_reducible apply ar_ne3); · exact ⟨rfl, rfl, rfl⟩)
      | with_reducible apply ag_name
      | with_reducible apply ags_nil
      | with_reducible apply ags_cons
      | ((with_reducible apply ag_tup); · rfl)
      | refine ⟨sz60 (Nat.le_of_ble_eq_true rfl), ?_⟩
      | refine ⟨_, rfl, ?_⟩
      | refine ⟨_, _, rfl, ?_⟩
      | refine ⟨_, _, _, rfl, ?_⟩
      | (refine ⟨fun hc => ?_, fun hc => ?_⟩ <;> (first | (exfalso; exact absurd (show false = true from hc) (by decide)) | (exfalso; exact absurd (show true = false from hc) (by decide)) | (exfalso; simp at hc; done) | skip))
      | rfl
      | exact trivial
      | simp only [oD_some, oD_none])
  | lst l =>
    repeat' (first
      | (refine ⟨rfl, true, .inl ⟨kb_list_list, rfl⟩, ?_⟩)
      | (refine ae_tupMap ?_)
      | (refine ⟨false, l, rfl, tus l, all2_as hd, ?_⟩)
      | with_reducible apply as_seq
      | with_reducible apply as_ret
      | with_reducible apply as_next
      | with_reducible apply as_if
      | with_reducible apply as_set
      | with_reducible apply as_par
      | with_reducible apply as_par3
      | with_reducible apply as_asg
      | ((with_reducible apply ae_var); · rfl)
      | with_reducible apply ae_int
      | with_reducible apply ae_non
      | with_reducible apply ae_bl
      | with_reducible apply ae_str
      | with_reducible apply ae_ty
      | with_reducible apply ae_isi2
      | with_reducible apply ae_op
      | with_reducible apply ae_un
      | with_reducible apply aa_nil
      | with_reducible apply aa_cons
      | with_reducible apply ae_cb
      | with_reducible apply ae_tup
      | with_reducible apply ae_lst
      | with_reducible apply ae_if
      | with_reducible apply at_test
      | with_reducible apply at_b
      | with_reducible apply at_and
      | with_reducible apply at_or
      | with_reducible apply at_not
      | with_reducible apply at_yes
      | with_reducible apply ae_andV
      | with_reducible apply ae_orV
      | with_reducible apply ae_notV
      | with_reducible apply ar_I0i
      | with_reducible apply ar_I0b
      | with_reducible apply ar_isN
      | with_reducible apply ar_notN
      | with_reducible apply au_Ui
      | ((with_reducible apply ar_ixTs); · rfl)
      | ((with_reducible apply ar_ixLs); · rfl)
      | ((with_reducible apply ar_ix); · rfl)
      | ((with_reducible apply ar_ixT); · rfl)
      | ((with_reducible apply ar_ixL); · rfl)
      | with_reducible apply ac_abs
      | with_reducible apply ac_max2
      | with_reducible apply ac_min2
      | with_reducible apply ac_lenT
      | with_reducible apply ac_lenL
      | with_reducible apply ac_listT
      | with_reducible apply ac_listL
      | with_reducible apply ac_tupL
      | with_reducible apply ac_tupT
      | with_reducible apply ac_int
      | with_reducible apply ac_intB
      | ((with_reducible apply ar_eq3); · exact ⟨rfl, rfl, rfl⟩)
      | ((with_reducible apply ar_ne3); · exact ⟨rfl, rfl, rfl⟩)
      | with_reducible apply ag_name
      | with_reducible apply ags_nil
      | with_reducible apply ags_cons
      | ((with_reducible apply ag_tup); · rfl)
      | refine ⟨sz60 (Nat.le_of_ble_eq_true rfl), ?_⟩
      | refine ⟨_, rfl, ?_⟩
      | refine ⟨_, _, rfl, ?_⟩
      | refine ⟨_, _, _, rfl, ?_⟩
      | (refine ⟨fun hc => ?_, fun hc => ?_⟩ <;> (first | (exfalso; exact absurd (show false = true from hc) (by decide)) | (exfalso; exact absurd (show true = false from hc) (by decide)) | (exfalso; simp at hc; done) | skip))
      | rfl
      | exact trivial
      | simp only [oD_some, oD_none])
theorem as0 {ps : List Str} {f : Addr} {fd : FuncData} : FnOk P w K mg base CX0 0 f fd ps (spP K (S_as 0)) :=
  ⟨fun vs H Q E h => by obtain ⟨_, _, _, _, _, ⟨_, _, hd, _⟩, _⟩ := h; exact hd.elim, fun A outer s H args us vs Q E _ _ _ _ h => by obtain ⟨_, _, _, _, _, ⟨_, _, hd, _⟩, _⟩ := h; exact hd.elim⟩
theorem all_as (bl : Blts mg) (hmap : mg "map" = none) {f : Addr} {fd : FuncData} (F : Fun K "as_tuples" "as_tuples" s_as_tuples f fd) (b : Binds K fd p_as_tuples []) (m : mg "as_tuples" = some (.ref f)) : ∀ n : Nat, FnOk P w K mg base CX0 (5 * n) f fd p_as_tuples (spP K (S_as n))
  | 0 => as0
  | n + 1 => ok_as_tuples bl ⟨all_as bl hmap F b m n, b, F.kp, m⟩ hmap F
end
end Sh
set_option Elab.async false
set_option linter.all false
set_option maxRecDepth 100000
set_option maxHeartbeats 4000000
namespace Sh
open PySem PySem.Spec PyProof.Rows L2
abbrev s_tighten : Stmt := topS 18
abbrev N_tighten : List Str := ["state", "closed", "gaps", "spans", "value", "low", "high"]
abbrev p_tighten : List Str := ["state"]
theorem sc_tighten : FnScope N_tighten p_tighten (defScope s_tighten) := ⟨rfl, rfl, rfl, by decide +kernel, rfl, by decide +kernel, by decide +kernel⟩
abbrev s_tightened : Stmt := topS 21
abbrev N_tightened : List Str := ["state"]
abbrev p_tightened : List Str := ["state"]
theorem sc_tightened : FnScope N_tightened p_tightened (defScope s_tightened) := ⟨rfl, rfl, rfl, by decide +kernel, rfl, by decide +kernel, by decide +kernel⟩
def loS (s : Sta) (i : Nat) : Option Int := (s.vs[i]?).bind (·.lo)
def hiS (s : Sta) (i : Nat) : Option Int := (s.vs[i]?).bind (·.hi)
def cloS (s : Sta) (g : Mx) : Mx := Fw.fwM (s.vs.length + 1) (wzM s.vs.length g (loS s) (hiS s))
def tiD (s : Sta) : Dt := match s.gp with
  | none => s.d
  | some g => if (List.range (s.vs.length + 1)).any (ngB (cloS s g)) = true then .non else
    soD (s.vs.mapIdx fun i v => cutVl v (ngO (cloS s g s.vs.length i)) (cloS s g i s.vs.length)) (clD s.vs.length (cloS s g)) (s.its.map pcD)
structure StaOk (s : Sta) : Prop where
  n : s.vs.length ≤ 90
  l : s.its.length ≤ 8000
  g : ∀ g, s.gp = some g → ∀ i, i < s.vs.length → ∃ x, g i i = some x
def osD : Option Sta → Dt
  | none => .non
  | some s => s.d
def otD : Option Sta → Dt
  | none => .non
  | some s => tiD s
def S_ti (ds : List Dt) (res : Dt) : Prop := ∃ o, ds = [osD o] ∧ (∀ s, o = some s → StaOk s) ∧ res = otD o
theorem wz_sta (s : Sta) (g : Mx) : WzD (gpD s.vs.length g) (.lst (s.vs.map fun v => .tup [oD v.lo, oD v.hi])) s.vs.length g (loS s) (hiS s) := by
  refine ⟨true, false, _, _, rfl, rfl, by simp, by simp, ?_, ?_⟩
  · intro i d h
    refine ⟨true, ?_⟩
    rw [List.getElem?_map] at h
    cases e : (List.range s.vs.length)[i]? with
    | none => rw [e] at h; cases h
    | some k =>
      have hk : k = i := by
        have lt := (List.getElem?_eq_some_iff.mp e).1
        rw [List.length_range] at lt
        rw [List.getElem?_range lt] at e
        cases e
        rfl
      rw [e] at h
      cases h
      subst hk
      show Dt.tup _ = Dt.tup (rwD s.vs.length g k)
      unfold rwD
      rw [List.map_map]
      rfl
  · intro i d h
    refine ⟨true, ?_⟩
    rw [List.getElem?_map] at h
    unfold loS hiS
    cases e : s.vs[i]? with
    | none => rw [e] at h; cases h
    | some v => rw [e] at h; cases h; rfl
def sp2 : Dt → Dt
  | .tup [lo, hi, _, _] => .tup [lo, hi]
  | _ => .non
theorem clo_spans (s : Sta) (F : Mx) : (zpD (s.vs.map vlD) ((List.range s.vs.length).map fun i => Dt.tup [oD (ngO (F s.vs.length i)), oD (F i s.vs.length)])).map cutF = (s.vs.mapIdx fun i v => cutVl v (ngO (F s.vs.length i)) (F i s.vs.length)).map ovD := by
  refine List.ext_getElem? fun i => ?_
  rcases Nat.lt_or_ge i s.vs.length with c | c
  · have e : s.vs[i]? = some s.vs[i] := List.getElem?_eq_getElem c
    rw [List.getElem?_map, zpD_get (d := vlD s.vs[i]) (e := .tup [oD (ngO (F s.vs.length i)), oD (F i s.vs.length)]) (by rw [List.getElem?_map, e]; rfl) (by rw [List.getElem?_map, List.getElem?_range c]; rfl), List.getElem?_map, List.getElem?_mapIdx, e]
    show some (ovD (cutVl (toV (vlD s.vs[i])) (toO (oD _)) (toO (oD _)))) = _
    rw [toV_vlD, toO_oD, toO_oD]
    rfl
  · rw [List.getElem?_eq_none (by rw [List.length_map, zpD_len, List.length_map]; omega), List.getElem?_eq_none (by rw [List.length_map, List.length_mapIdx]; exact c)]
section
variable {P : Program} {w : World} {K : PySem.W.Frag} {mg : Str → Option Value} {base : Heap}
theorem ok_tighten (bl : Blts mg) {g_gaps_closed : Addr} {d_gaps_closed : FuncData} (c_gaps_closed : Cal P w K mg base 3 "gaps_closed" p_gaps_closed (spP K S_gc) g_gaps_closed d_gaps_closed) {g_value_cut : Addr} {d_value_cut : FuncData} (c_value_cut : Cal P w K mg base 4 "value_cut" p_value_cut (spP K S_vc) g_value_cut d_value_cut) {g_state_of : Addr} {d_state_of : FuncData} (c_state_of : Cal P w K mg base 1 "state_of" p_state_of (spP K S_so) g_state_of d_state_of)  {f : Addr} {fd : FuncData} (F : Fun K "tighten" "tighten" s_tighten f fd) : FnOk P w K mg base CX0 5 f fd p_tighten (spP K (S_ti)) := by
  refine okP F sc_tighten (fun ds r h => ?_) (fun cdv A outer s H E hr ds r h => ?_)
  · obtain ⟨o, rfl, ho, rfl⟩ := h
    rfl
  obtain ⟨o, rfl, ho, rfl⟩ := h
  refine ⟨_, (pss_cons (ps_if (PW.pt (pw_or (pt_cmpR op_isN (pv 0) pe_non (nomark _)) (pw_or1 (pt_cmpR op_isN (pe_ix ix_tup (pv 0) pe_int (fun _ _ => rfl)) pe_non (nomark _))))) (pss_one (ps_ret (pv 0))) pss_nil)
    (pss_cons (ps_set (i := 1) sc_tighten.nd rfl (by first | exact Or.inl rfl | exact Or.inr rfl) (pe_call c_gaps_closed.ok (hr.mono (by decide)) rfl c_gaps_closed.mg c_gaps_closed.kp c_gaps_closed.bi .nil pass0 (pa_cons (pe_ix ix_tup (pv 0) pe_int (fun _ _ => rfl)) (pa_cons (pe_lc (own := [("value", 4)]) (g := (gName 4)) (te := (tSl (rSlA K) (tVar 4) tNoPart (tPart (tC (.int 2))))) (tt := tYes) rfl sc_tighten.nd (pi_tup (pe_ix ix_tup (pv 0) pe_int (fun _ _ => rfl))) (blkOk_by (N := N_tighten) (sc := defScope s_tighten) (by decide +kernel)) (fun _ _ _ _ _ => (pg_name (i := 4) sc_tighten.nd rfl (by first | exact Or.inl rfl | exact Or.inr rfl))) (fun _ _ _ _ _ => pts_nil) (fun _ _ _ _ _ => (pe_slice sl_tupA (pv 4) po_none (po_some pe_int)))) pa_nil))))
    (pss_cons (ps_if (pt_cmpR op_isN (pv 1) pe_non (nomark _)) (pss_one (ps_ret pe_non)) pss_nil)
    (pss_cons (ps_asg (pv 1) (pg_tup rfl (pgs_cons (pg_name (i := 2) sc_tighten.nd rfl (by first | exact Or.inl rfl | exact Or.inr rfl)) (pgs_cons (pg_name (i := 3) sc_tighten.nd rfl (by first | exact Or.inl rfl | exact Or.inr rfl)) pgs_nil))))
    (pss_one (ps_ret (pe_call c_state_of.ok (hr.mono (by decide)) rfl c_state_of.mg c_state_of.kp c_state_of.bi .nil pass0 (pa_cons (pe_lc (own := [("value", 4), ("low", 5), ("high", 6)]) (g := (gTup K 2 (gCons (gName 4) (gCons (gTup K 2 (gCons (gName 5) (gCons (gName 6) gNil))) gNil)))) (te := (tCall (spP K S_vc) [] E0 (tCons (tVar 4) (tCons (tVar 5) (tCons (tVar 6) tNil))))) (tt := tYes) rfl sc_tighten.nd (pi_zipK rfl bl.zip (pa_cons (pe_ix ix_tup (pv 0) pe_int (fun _ _ => rfl)) (pa_cons (pv 3) pa_nil))) (blkOk_by (N := N_tighten) (sc := defScope s_tighten) (by decide +kernel)) (fun _ _ _ _ _ => (pg_tup rfl (pgs_cons (pg_name (i := 4) sc_tighten.nd rfl (by first | exact Or.inl rfl | exact Or.inr rfl)) (pgs_cons (pg_tup rfl (pgs_cons (pg_name (i := 5) sc_tighten.nd rfl (by first | exact Or.inl rfl | exact Or.inr rfl)) (pgs_cons (pg_name (i := 6) sc_tighten.nd rfl (by first | exact Or.inl rfl | exact Or.inr rfl)) pgs_nil))) pgs_nil)))) (fun _ _ _ _ _ => pts_nil) (fun _ _ _ _ _ => (pe_call c_value_cut.ok (hr.mono (by decide)) rfl c_value_cut.mg c_value_cut.kp c_value_cut.bi .nil pass0 (pa_cons (pv 4) (pa_cons (pv 5) (pa_cons (pv 6) pa_nil)))))) (pa_cons (pv 2) (pa_cons (pe_ix ix_tup (pv 0) pe_int (fun _ _ => rfl)) pa_nil)))))))))), ?_⟩
  change AS K _ [En.da _, En.no, En.no, En.no, En.no, En.no, En.no] _ _
  try simp only [cxOf_K]
  have z9 : 9000 ≤ sizeLine := by decide
  cases o with
  | none =>
    refine as_seq (as_if (at_or (at_test (ae_op (ae_var rfl (ae_non (ar_isN ⟨true, rfl, fun _ => ⟨fun _ => as_ret (ae_var rfl rfl), (fun h => absurd (show true = false from h) (by decide))⟩, (fun h => absurd (show true = false from h) (by decide))⟩)))))))
  | some s =>
    obtain ⟨hn, hl, hg⟩ := ho s rfl
    refine as_seq (as_if (at_or (at_test (ae_op (ae_var rfl (ae_non (ar_isN ⟨false, rfl, (fun h => absurd (show false = true from h) (by decide)), fun _ => ?_⟩)))))))
    refine at_test (ae_op (ae_op (ae_var rfl (ae_int (ar_ixT rfl (ae_non ?_))))))
    show AR K _ (ogD s.vs.length s.gp) _ _
    cases he : s.gp with
    | none =>
      refine ar_isN ⟨true, rfl, fun _ => as_ret (ae_var rfl ?_), (fun h => absurd (show true = false from h) (by decide))⟩
      show s.d = tiD s
      unfold tiD
      rw [he]
    | some g =>
      refine ar_isN ⟨false, rfl, (fun h => absurd (show false = true from h) (by decide)), fun _ => as_next ?_⟩
      refine as_seq (as_set (ae_call (aa_cons (ae_op (ae_var rfl (ae_int (ar_ixT rfl ?_)))))))
      show AA K _ _ fun ds ρ1 => ∃ r, S_gc (ogD s.vs.length s.gp :: ds) r ∧ _
      rw [he]
      refine aa_cons (ae_lcMap sp2 (ai_tup (ae_op (ae_var rfl (ae_int (ar_ixT rfl ⟨_, rfl, by rw [List.length_map]; omega, fun d hd => ?_, ?_⟩))))))
      · obtain ⟨v, hv, rfl⟩ := List.mem_map.mp hd
        refine agv_name (by simp) (ae_slT (ae_var rfl ⟨_, rfl, ao_none (ao_some (ae_int ⟨_, rfl, rfl, rfl⟩))⟩))
      have e1 : (s.vs.map vlD).map sp2 = s.vs.map fun v => Dt.tup [oD v.lo, oD v.hi] := by rw [List.map_map]; rfl
      rw [e1]
      refine aa_nil ⟨_, ⟨_, _, s.vs.length, g, loS s, hiS s, rfl, wz_sta s g, by omega, hg g he, rfl⟩, ?_⟩
      show AS K _ [.da s.d, .da (gcD s.vs.length (cloS s g)), .no, .no, .no, .no, .no] _ fun d _ => d = tiD s
      have et : tiD s = if (List.range (s.vs.length + 1)).any (ngB (cloS s g)) = true then .non else
          soD (s.vs.mapIdx fun i v => cutVl v (ngO (cloS s g s.vs.length i)) (cloS s g i s.vs.length)) (clD s.vs.length (cloS s g)) (s.its.map pcD) := by
        unfold tiD
        rw [he]
      rw [et]
      unfold gcD
      generalize cloS s g = F
      by_cases c : (List.range (s.vs.length + 1)).any (ngB F) = true
      · rw [if_pos c, if_pos c]
        refine as_seq (as_if (at_test (ae_op (ae_var rfl (ae_non (ar_isN ⟨true, rfl, fun _ => as_ret (ae_non rfl), (fun h => absurd (show true = false from h) (by decide))⟩))))))
      · rw [if_neg c, if_neg c]
        refine as_seq (as_if (at_test (ae_op (ae_var rfl (ae_non (ar_isN ⟨false, rfl, (fun h => absurd (show false = true from h) (by decide)), fun _ => as_next ?_⟩))))))
        refine as_seq (as_asg (ae_var rfl ?_))
        refine ag_tup rfl (ags_cons (ag_name (ags_cons (ag_name (ags_nil ?_)))))
        refine as_ret (ae_call (aa_cons (ae_lcMap cutF (ai_zipK (aa_cons (ae_op (ae_var rfl (ae_int (ar_ixT rfl (aa_cons (ae_var rfl (aa_nil ⟨true, false, _, _, rfl, by rw [zpD_len, List.length_map]; omega, fun d hd => ?_, ?_⟩))))))))))))
        · obtain ⟨i, hi⟩ := List.getElem?_of_mem hd
          have lt := (List.getElem?_eq_some_iff.mp hi).1
          rw [zpD_len, List.length_map] at lt
          have lt2 : i < s.vs.length := by omega
          rw [zpD_get (d := vlD s.vs[i]) (e := .tup [oD (ngO (F s.vs.length i)), oD (F i s.vs.length)]) (by rw [List.getElem?_map, List.getElem?_eq_getElem lt2]; rfl) (by rw [List.getElem?_map, List.getElem?_range lt2]; rfl)] at hi
          cases hi
          refine agv_tup rfl (agvs_cons (agv_name (by simp) (agvs_cons (agv_tup rfl (agvs_cons (agv_name (by simp) (agvs_cons (agv_name (by simp) (agvs_nil (agvs_nil ?_))))))))))
          refine ae_call (aa_cons (ae_var rfl (aa_cons (ae_var rfl (aa_cons (ae_var rfl (aa_nil ⟨_, ⟨s.vs[i], _, _, rfl, rfl⟩, ?_, rfl⟩)))))))
          show ovD _ = ovD (cutVl (toV (vlD s.vs[i])) (toO (oD _)) (toO (oD _)))
          rw [toV_vlD, toO_oD, toO_oD]
        · rw [clo_spans]
          refine aa_cons (ae_var rfl (aa_cons (ae_op (ae_var rfl (ae_int (ar_ixT rfl (aa_nil ⟨_, ⟨_, _, s.its, rfl, by rw [List.length_mapIdx]; omega, hl, rfl⟩, rfl⟩)))))))
end
theorem tus_fix : ∀ {l : List Dt}, (∀ d, d ∈ l → d.tu = d) → tus l = l
  | [], _ => rfl
  | d :: l, h => by
    show d.tu :: tus l = d :: l
    rw [h d List.mem_cons_self, tus_fix fun e he => h e (List.mem_cons_of_mem _ he)]
theorem tu_tup {l : List Dt} (h : ∀ d, d ∈ l → d.tu = d) : (Dt.tup l).tu = .tup l := by
  show Dt.tup (tus l) = _
  rw [tus_fix h]
theorem tu_oD (o : Option Int) : (oD o).tu = oD o := by cases o <;> rfl
theorem tu_vlD (v : Vl) : (vlD v).tu = vlD v := tu_tup fun d hd => by
  simp only [List.mem_cons, List.not_mem_nil, or_false] at hd
  rcases hd with rfl | rfl | rfl | rfl
  · exact tu_oD _
  · exact tu_oD _
  · rfl
  · rfl
theorem asN_oD (o : Option Int) {n : Nat} : AsN (n + 1) (oD o) := by cases o <;> trivial
theorem asN_vlD (v : Vl) {n : Nat} : AsN (n + 2) (vlD v) := fun d hd => by
  simp only [List.mem_cons, List.not_mem_nil, or_false] at hd
  rcases hd with rfl | rfl | rfl | rfl
  · exact asN_oD _
  · exact asN_oD _
  · trivial
  · trivial
theorem tu_pcD (ps : List (Nat × Vl)) : (pcD ps).tu = pcD ps := tu_tup fun d hd => by
  obtain ⟨p, _, rfl⟩ := List.mem_map.mp hd
  refine tu_tup fun d hd => ?_
  simp only [List.mem_cons, List.not_mem_nil, or_false] at hd
  rcases hd with rfl | rfl
  · rfl
  · exact tu_vlD _
theorem asN_pcD (ps : List (Nat × Vl)) {n : Nat} : AsN (n + 4) (pcD ps) := fun d hd => by
  obtain ⟨p, _, rfl⟩ := List.mem_map.mp hd
  intro d hd
  simp only [List.mem_cons, List.not_mem_nil, or_false] at hd
  rcases hd with rfl | rfl
  · trivial
  · exact asN_vlD _
theorem tu_gpD (n : Nat) (g : Nat → Nat → Option Int) : (gpD n g).tu = gpD n g := tu_tup fun d hd => by
  obtain ⟨i, _, rfl⟩ := List.mem_map.mp hd
  refine tu_tup fun d hd => ?_
  obtain ⟨j, _, rfl⟩ := List.mem_map.mp hd
  exact tu_oD _
theorem asN_gpD (m : Nat) (g : Nat → Nat → Option Int) {n : Nat} : AsN (n + 3) (gpD m g) := fun d hd => by
  obtain ⟨i, _, rfl⟩ := List.mem_map.mp hd
  intro d hd
  obtain ⟨j, _, rfl⟩ := List.mem_map.mp hd
  exact asN_oD _
theorem tu_sta (s : Sta) : s.d.tu = s.d := tu_tup fun d hd => by
  simp only [List.mem_cons, List.not_mem_nil, or_false] at hd
  rcases hd with rfl | rfl | rfl
  · refine tu_tup fun d hd => ?_
    obtain ⟨v, _, rfl⟩ := List.mem_map.mp hd
    exact tu_vlD v
  · cases s.gp with
    | none => rfl
    | some g => exact tu_gpD _ g
  · refine tu_tup fun d hd => ?_
    obtain ⟨p, _, rfl⟩ := List.mem_map.mp hd
    exact tu_pcD p
theorem asN_sta (s : Sta) : AsN 7 s.d := fun d hd => by
  simp only [List.mem_cons, List.not_mem_nil, or_false] at hd
  rcases hd with rfl | rfl | rfl
  · intro d hd
    obtain ⟨v, _, rfl⟩ := List.mem_map.mp hd
    exact asN_vlD v
  · cases s.gp with
    | none => trivial
    | some g => exact asN_gpD _ g
  · intro d hd
    obtain ⟨p, _, rfl⟩ := List.mem_map.mp hd
    exact asN_pcD p
theorem tu_osD (o : Option Sta) : (osD o).tu = osD o := by
  cases o with
  | none => rfl
  | some s => exact tu_sta s
theorem asN_osD (o : Option Sta) : AsN 7 (osD o) := by
  cases o with
  | none => trivial
  | some s => exact asN_sta s
section
variable {P : Program} {w : World} {K : PySem.W.Frag} {mg : Str → Option Value} {base : Heap}
theorem ok_tightened (bl : Blts mg) {g_tighten : Addr} {d_tighten : FuncData} (c_tighten : Cal P w K mg base 5 "tighten" p_tighten (spP K S_ti) g_tighten d_tighten) {g_as_tuples : Addr} {d_as_tuples : FuncData} (c_as_tuples : Cal P w K mg base 35 "as_tuples" p_as_tuples (spP K (S_as 7)) g_as_tuples d_as_tuples)  {f : Addr} {fd : FuncData} (F : Fun K "tightened" "tightened" s_tightened f fd) : FnOk P w K mg base CX0 36 f fd p_tightened (spP K (S_ti)) := by
  refine okP F sc_tightened (fun ds r h => ?_) (fun cdv A outer s H E hr ds r h => ?_)
  · obtain ⟨o, rfl, ho, rfl⟩ := h
    rfl
  obtain ⟨o, rfl, ho, rfl⟩ := h
  refine ⟨_, (pss_one (ps_ret (pe_call c_tighten.ok (hr.mono (by decide)) rfl c_tighten.mg c_tighten.kp c_tighten.bi .nil pass0 (pa_cons (pe_call c_as_tuples.ok (hr.mono (by decide)) rfl c_as_tuples.mg c_as_tuples.kp c_as_tuples.bi .nil pass0 (pa_cons (pv 0) pa_nil)) pa_nil)))), ?_⟩
  change AS K _ [En.da _] _ _
  try simp only [cxOf_K]
  refine as_ret (ae_call (aa_cons (ae_call (aa_cons (ae_var rfl (aa_nil ⟨_, ⟨_, rfl, asN_osD o, rfl⟩, ?_⟩))))))
  rw [tu_osD]
  refine aa_nil ⟨_, ⟨o, rfl, ho, rfl⟩, rfl⟩
end
end Sh
set_option Elab.async false
set_option linter.all false
set_option maxRecDepth 100000
set_option maxHeartbeats 4000000
/-! what a frame is, what describes it -/
namespace Sh
open PySem PySem.Spec PyProof.Rows L2
def inLo (o : Option Int) (x : Int) : Bool := match o with | none => true | some a => decide (a ≤ x)
def inHi (o : Option Int) (x : Int) : Bool := match o with | none => true | some a => decide (x ≤ a)
def rsB (m r x : Int) : Bool := if m = 0 then decide (x = r) else decide (x.fmod m = r)
def hasV (v : Vl) (x : Int) : Bool := inLo v.lo x && (inHi v.hi x && rsB v.m v.r x)
structure Frm where
  xs : List Int
  its : List (List Int)
def Frm.d (f : Frm) : Dt := .tup [.tup (f.xs.map Dt.int), .tup (f.its.map fun l => .tup (l.map Dt.int))]
def limB (o : Option Int) (x y : Int) : Bool := match o with | none => true | some b => decide (x - y ≤ b)
def valsB (vs : List Vl) (xs : List Int) : Bool := (vs.zip xs).all fun p => hasV p.1 p.2
def gapB (n : Nat) (g : Nat → Nat → Option Int) (xs : List Int) : Bool := (List.range n).all fun i => (List.range n).all fun j => limB (g i j) (xs.getD i 0) (xs.getD j 0)
def ogapB (n : Nat) : Option (Nat → Nat → Option Int) → List Int → Bool
  | none, _ => true
  | some g, xs => gapB n g xs
def pcsB : Nat → List (Nat × Vl) → List Int → Bool
  | _, [], _ => true
  | b, p :: ps, xs => ((xs.drop b).take (p.1 - b)).all (hasV p.2) && pcsB p.1 ps xs
def itsB (its : List (List (Nat × Vl))) (xs : List (List Int)) : Bool := (its.zip xs).all fun p => pcsB 0 p.1 p.2
def descB : Option Sta → Frm → Bool
  | none, _ => false
  | some s, f => valsB s.vs f.xs && (ogapB s.vs.length s.gp f.xs && itsB s.its f.its)
/-- ends that rise up to L -/
def EndsOk (L : Nat) : Nat → List (Nat × Vl) → Prop
  | b, [] => b ≤ L
  | b, p :: ps => b ≤ p.1 ∧ EndsOk L p.1 ps
theorem EndsOk.le {L : Nat} : ∀ {ps : List (Nat × Vl)} {b : Nat}, EndsOk L b ps → b ≤ L
  | [], _, h => h
  | _ :: _, _, ⟨h1, h2⟩ => Nat.le_trans h1 h2.le
/-- a value as the law draws them -/
structure VlOk (v : Vl) : Prop where
  m0 : 0 ≤ v.m ∧ v.m ≤ 10
  one : v.m = 0 → v.lo = some v.r ∧ v.hi = some v.r
  rest : v.m ≠ 0 → 0 ≤ v.r ∧ v.r < v.m
  lo : ∀ a, v.lo = some a → -1000 ≤ a ∧ a ≤ 1000
  hi : ∀ a, v.hi = some a → -1000 ≤ a ∧ a ≤ 1000
  r : -1000 ≤ v.r ∧ v.r ≤ 1000
theorem up_mod3 {r m x : Int} (hm : 0 < m) (h0 : 0 ≤ r) (h1 : r < m) : (upR r m x).fmod m = r ∧ x ≤ upR r m x ∧ upR r m x < x + m := by
  unfold upR
  have e : ∀ y : Int, y.fmod m = y % m := fun y => Int.fmod_eq_emod_of_nonneg y (by omega)
  rw [e, e]
  have a := Int.emod_nonneg (r - x) (show m ≠ 0 by omega)
  have b := Int.emod_lt_of_pos (r - x) hm
  refine ⟨?_, by omega, by omega⟩
  rw [Int.add_emod, Int.emod_emod_of_dvd _ (Int.dvd_refl m), ← Int.add_emod, show x + (r - x) = r by omega]
  exact Int.emod_eq_of_lt h0 h1
theorem dn_mod3 {r m x : Int} (hm : 0 < m) (h0 : 0 ≤ r) (h1 : r < m) : (dnR r m x).fmod m = r ∧ dnR r m x ≤ x ∧ x - m < dnR r m x := by
  unfold dnR
  have e : ∀ y : Int, y.fmod m = y % m := fun y => Int.fmod_eq_emod_of_nonneg y (by omega)
  rw [e, e]
  have a := Int.emod_nonneg (x - r) (show m ≠ 0 by omega)
  have b := Int.emod_lt_of_pos (x - r) hm
  refine ⟨?_, by omega, by omega⟩
  rw [Int.sub_emod, Int.emod_emod_of_dvd _ (Int.dvd_refl m), ← Int.sub_emod, show x - (x - r) = r by omega]
  exact Int.emod_eq_of_lt h0 h1
theorem mod_apart {a b m r : Int} (hm : 0 < m) (ha : a.fmod m = r) (hb : b.fmod m = r) (h1 : a < b + m) (h2 : b < a + m) : a = b := by
  have e : ∀ y : Int, y.fmod m = y % m := fun y => Int.fmod_eq_emod_of_nonneg y (by omega)
  rw [e] at ha hb
  have h3 := Int.emod_add_mul_ediv a m
  have h4 := Int.emod_add_mul_ediv b m
  have q : a / m = b / m := by
    apply Classical.byContradiction
    intro z
    rcases (by omega : a / m ≤ b / m - 1 ∨ b / m ≤ a / m - 1) with c | c
    · have := Int.mul_le_mul_of_nonneg_left c (show 0 ≤ m by omega)
      rw [Int.mul_sub, Int.mul_one] at this
      omega
    · have := Int.mul_le_mul_of_nonneg_left c (show 0 ≤ m by omega)
      rw [Int.mul_sub, Int.mul_one] at this
      omega
  rw [q] at h3
  omega
/-- the integers of value_of's value -/
theorem voV_has {lo hi : Option Int} {m r : Int} (h0 : 0 ≤ m) (hr : m ≠ 0 → 0 ≤ r ∧ r < m) (x : Int) :
    (match voV lo hi m r with | none => false | some w => hasV w x) = (inLo lo x && (inHi hi x && rsB m r x)) := by
  unfold voV
  by_cases hm : m = 0
  · subst hm
    rw [if_pos rfl]
    have e : rsB 0 r x = decide (x = r) := rfl
    rw [e]
    cases hl : letsB lo hi r with
    | true =>
      rw [if_pos rfl]
      show (decide (r ≤ x) && (decide (x ≤ r) && decide (x = r))) = _
      by_cases c : x = r
      · subst c
        have h1 : inLo lo x = true := by
          cases lo with
          | none => rfl
          | some a =>
            unfold letsB lwB at hl
            simp only [Bool.and_eq_true, decide_eq_true_eq] at hl
            exact decide_eq_true hl.1
        have h2 : inHi hi x = true := by
          cases hi with
          | none => rfl
          | some a =>
            unfold letsB hwB at hl
            simp only [Bool.and_eq_true, decide_eq_true_eq] at hl
            exact decide_eq_true hl.2
        rw [h1, h2]
        simp
      · rw [decide_eq_false c]
        simp
    | false =>
      rw [if_neg (by decide)]
      show false = _
      by_cases c : x = r
      · subst c
        have : (inLo lo x && inHi hi x) = false := by
          rw [← hl]
          unfold letsB inLo inHi lwB hwB
          cases lo <;> cases hi <;> rfl
        rw [decide_eq_true rfl, Bool.and_true, this]
      · rw [decide_eq_false c]
        simp
  · have hp : 0 < m := by omega
    obtain ⟨r0, r1⟩ := hr hm
    rw [if_neg hm]
    have er : ∀ y, rsB m r y = decide (y.fmod m = r) := fun y => by unfold rsB; rw [if_neg hm]
    have lo_iff : ∀ a, x.fmod m = r → (a ≤ x ↔ upR r m a ≤ x) := fun a hx => by
      obtain ⟨u1, u2, u3⟩ := up_mod3 (x := a) hp r0 r1
      refine ⟨fun h => ?_, fun h => by omega⟩
      rcases (by omega : upR r m a ≤ x ∨ x < upR r m a) with c | c
      · exact c
      · have := mod_apart hp hx u1 (by omega) (by omega)
        omega
    have hi_iff : ∀ b, x.fmod m = r → (x ≤ b ↔ x ≤ dnR r m b) := fun b hx => by
      obtain ⟨u1, u2, u3⟩ := dn_mod3 (x := b) hp r0 r1
      refine ⟨fun h => ?_, fun h => by omega⟩
      rcases (by omega : x ≤ dnR r m b ∨ dnR r m b < x) with c | c
      · exact c
      · have := mod_apart hp hx u1 (by omega) (by omega)
        omega
    by_cases hx : x.fmod m = r
    · have er2 : rsB m r x = true := by rw [er, decide_eq_true hx]
      cases lo with
      | none =>
        cases hi with
        | none => rfl
        | some b =>
          show (true && (decide (x ≤ dnR r m b) && rsB m r x)) = (true && (decide (x ≤ b) && rsB m r x))
          rw [decide_eq_decide.mpr (hi_iff b hx).symm]
      | some a =>
        cases hi with
        | none =>
          show (decide (upR r m a ≤ x) && (true && rsB m r x)) = (decide (a ≤ x) && (true && rsB m r x))
          rw [decide_eq_decide.mpr (lo_iff a hx).symm]
        | some b =>
          show (match (if dnR r m b ≤ upR r m a then (if upR r m a = dnR r m b then _ else _) else _) with | none => false | some w => hasV w x) = (decide (a ≤ x) && (decide (x ≤ b) && rsB m r x))
          rw [decide_eq_decide.mpr (lo_iff a hx), decide_eq_decide.mpr (hi_iff b hx), er2]
          by_cases c1 : dnR r m b ≤ upR r m a
          · rw [if_pos c1]
            by_cases c2 : upR r m a = dnR r m b
            · rw [if_pos c2]
              show (decide (upR r m a ≤ x) && (decide (x ≤ upR r m a) && decide (x = upR r m a))) = _
              have q : decide (x ≤ dnR r m b) = decide (x ≤ upR r m a) := decide_eq_decide.mpr (by rw [c2])
              rw [q]
              by_cases c3 : x = upR r m a
              · rw [decide_eq_true c3]
              · have : (decide (upR r m a ≤ x) && decide (x ≤ upR r m a)) = false := by
                  rw [Bool.and_eq_false_iff]
                  rcases (by omega : ¬ upR r m a ≤ x ∨ ¬ x ≤ upR r m a) with q | q
                  · exact .inl (decide_eq_false q)
                  · exact .inr (decide_eq_false q)
                rw [decide_eq_false c3, Bool.and_true, this, Bool.and_false, Bool.and_false]
            · rw [if_neg c2]
              show false = _
              symm
              rw [Bool.and_true, Bool.and_eq_false_iff]
              rcases (by omega : ¬ upR r m a ≤ x ∨ ¬ x ≤ dnR r m b) with q | q
              · exact .inl (decide_eq_false q)
              · exact .inr (decide_eq_false q)
          · rw [if_neg c1]
            show (decide (upR r m a ≤ x) && (decide (x ≤ dnR r m b) && rsB m r x)) = _
            rw [er2]
    · have er2 : rsB m r x = false := by rw [er, decide_eq_false hx]
      rw [er2, Bool.and_false, Bool.and_false]
      cases lo with
      | none =>
        cases hi with
        | none => show (true && (true && rsB m r x)) = false; rw [er2]; rfl
        | some b => show (true && (_ && rsB m r x)) = false; rw [er2, Bool.and_false]; rfl
      | some a =>
        cases hi with
        | none => show (_ && (true && rsB m r x)) = false; rw [er2]; simp
        | some b =>
          show (match (if dnR r m b ≤ upR r m a then (if upR r m a = dnR r m b then _ else _) else _) with | none => false | some w => hasV w x) = false
          by_cases c1 : dnR r m b ≤ upR r m a
          · rw [if_pos c1]
            by_cases c2 : upR r m a = dnR r m b
            · rw [if_pos c2]
              show (decide (upR r m a ≤ x) && (decide (x ≤ upR r m a) && decide (x = upR r m a))) = false
              have : ¬ x = upR r m a := fun z => hx (by rw [z]; exact (up_mod3 hp r0 r1).1)
              rw [decide_eq_false this]
              simp
            · rw [if_neg c2]
          · rw [if_neg c1]
            show (_ && (_ && rsB m r x)) = false
            rw [er2]
            simp
end Sh
set_option Elab.async false
set_option linter.all false
set_option maxRecDepth 100000
set_option maxHeartbeats 4000000
namespace Sh
open PySem PySem.Spec PyProof.Rows L2
section
variable {P : Program} {w : World} {K : PySem.W.Frag} {mg : Str → Option Value} {base : Heap}
mutual
def Dt.dep : Dt → Nat
  | .tup l => deps l + 1 | .lst l => deps l + 1 | _ => 1
def deps : List Dt → Nat
  | [] => 0
  | d :: l => max d.dep (deps l)
end
mutual
/-- no classes, short -/
def Dt.fit : Dt → Bool
  | .ty _ => false
  | .tup l => decide (l.length ≤ 9000) && fits l
  | .lst l => decide (l.length ≤ 9000) && fits l
  | _ => true
def fits : List Dt → Bool
  | [] => true
  | d :: l => d.fit && fits l
end
theorem deps_mem : ∀ {l : List Dt} {d : Dt}, d ∈ l → d.dep ≤ deps l
  | e :: l, d, h => by
    unfold deps
    rcases List.mem_cons.mp h with rfl | h
    · omega
    · have := deps_mem h; omega
theorem fits_mem : ∀ {l : List Dt} {d : Dt}, fits l = true → d ∈ l → d.fit = true
  | e :: l, d, f, h => by
    unfold fits at f
    rw [Bool.and_eq_true] at f
    rcases List.mem_cons.mp h with rfl | h
    · exact f.1
    · exact fits_mem f.2 h
def S_same (n : Nat) (ds : List Dt) (r : Dt) : Prop := ∃ d, ds = [d, d] ∧ d.dep ≤ n ∧ d.fit = true ∧ r = .bl true
theorem zp_self : ∀ {l : List Dt} {d : Dt}, d ∈ zpD l l → ∃ e, e ∈ l ∧ d = .tup [e, e]
  | [], d, h => by simp [zpD] at h
  | a :: l, d, h => by
    rcases List.mem_cons.mp (show d ∈ Dt.tup [a, a] :: zpD l l from h) with rfl | h
    · exact ⟨a, List.mem_cons_self, rfl⟩
    · obtain ⟨e, h1, h2⟩ := zp_self h
      exact ⟨e, List.mem_cons_of_mem _ h1, h2⟩
theorem none0 {ps : List Str} {f : Addr} {fd : FuncData} {sp : Sp} (no : ∀ vs H Q E, ¬ sp vs H Q E) : FnOk P w K mg base CX0 0 f fd ps sp :=
  ⟨fun vs H Q E h => absurd h (no vs H Q E), fun A outer s H args us vs Q E _ _ _ _ h => absurd h (no vs H Q E)⟩
theorem dep_pos (d : Dt) : 1 ≤ d.dep := by cases d <;> simp [Dt.dep]
theorem map_true {l : List Dt} : (l.map fun _ => Dt.bl true) = (List.replicate l.length true).map Dt.bl := by rw [List.map_const', List.map_replicate]
theorem all_true (n : Nat) : (List.replicate n true).all id = true := by simp
abbrev s_l_same : Stmt := topS 27
abbrev N_l_same : List Str := ["_law_found", "_law_due_here", "_law_mine", "_law_its"]
abbrev p_l_same : List Str := ["_law_found", "_law_due_here"]
theorem sc_l_same : FnScope N_l_same p_l_same (defScope s_l_same) := ⟨rfl, rfl, rfl, by decide +kernel, rfl, by decide +kernel, by decide +kernel⟩
theorem ok_l_same (bl : Blts mg) {n : Nat} {g_l_same : Addr} {d_l_same : FuncData} (c_l_same : Cal P w K mg base n "_law_same" p_l_same (spP K (S_same n)) g_l_same d_l_same) {f : Addr} {fd : FuncData} (F : Fun K "_law_same" "_law_same" s_l_same f fd) : FnOk P w K mg base CX0 (n + 1) f fd p_l_same (spP K (S_same (n + 1))) := by
  refine okP F sc_l_same (fun ds r h => ?_) (fun cdv A outer s H E hr ds r h => ?_)
  · obtain ⟨d, rfl, n1, f1, rfl⟩ := h
    rfl
  obtain ⟨d, rfl, n1, f1, rfl⟩ := h
  refine ⟨_, (pss_cons (ps_if (pt_val (pe_callB call_isiT rfl bl.isinstance (by decide +kernel) (pa_cons (pv 1) (pa_cons (pe_tup (pa_cons (pe_bltn (v := .ty "list") rfl bl.list (by decide +kernel) rfl) (pa_cons (pe_bltn (v := .ty "tuple") rfl bl.tuple (by decide +kernel) rfl) pa_nil))) pa_nil)))) (pss_cons (ps_if (PW.pt (pw_or (pt_cmpR op_ne (pe_callB call_isi rfl bl.isinstance (by decide +kernel) (pa_cons (pv 0) (pa_cons (pe_bltn (v := .ty "list") rfl bl.list (by decide +kernel) rfl) pa_nil))) (pe_callB call_isi rfl bl.isinstance (by decide +kernel) (pa_cons (pv 1) (pa_cons (pe_bltn (v := .ty "list") rfl bl.list (by decide +kernel) rfl) pa_nil))) (nomark _)) (pw_or1 (pt_cmpR op_ne (pe_callB call_isi rfl bl.isinstance (by decide +kernel) (pa_cons (pv 0) (pa_cons (pe_bltn (v := .ty "tuple") rfl bl.tuple (by decide +kernel) rfl) pa_nil))) (pe_callB call_isi rfl bl.isinstance (by decide +kernel) (pa_cons (pv 1) (pa_cons (pe_bltn (v := .ty "tuple") rfl bl.tuple (by decide +kernel) rfl) pa_nil))) (nomark _))))) (pss_one (ps_ret pe_bl)) pss_nil)
    (pss_one (ps_ret (pe_and (pe_cmpR op_eq (pe_callB call_len_seq rfl bl.len (by decide +kernel) (pa_cons (pv 0) pa_nil)) (pe_callB call_len_seq rfl bl.len (by decide +kernel) (pa_cons (pv 1) pa_nil)) (nomark _)) (pe_one (pe_callB (cr_all rfl) rfl bl.all (by decide +kernel) (pa_cons (pe_lc (own := [("_law_mine", 2), ("_law_its", 3)]) (g := (gTup K 2 (gCons (gName 2) (gCons (gName 3) gNil)))) (tt := tYes) rfl sc_l_same.nd (RZ.pi_zipA rfl bl.zip (pa_cons (pv 0) (pa_cons (pv 1) pa_nil))) (blkOk_by (N := N_l_same) (sc := defScope s_l_same) (by decide +kernel)) (fun _ _ _ _ _ => (pg_tup rfl (pgs_cons (pg_name (i := 2) sc_l_same.nd rfl (by first | exact Or.inl rfl | exact Or.inr rfl)) (pgs_cons (pg_name (i := 3) sc_l_same.nd rfl (by first | exact Or.inl rfl | exact Or.inr rfl)) pgs_nil)))) (fun _ _ _ _ _ => pts_nil) (fun _ _ _ _ _ => (pe_call c_l_same.ok hr rfl c_l_same.mg c_l_same.kp c_l_same.bi .nil pass0 (pa_cons (pv 2) (pa_cons (pv 3) pa_nil))))) pa_nil))))))) pss_nil)
    (pss_cons (ps_if (PW.pt (pw_or (pt_cmpR op_isN (pv 1) pe_non (nomark _)) (pw_or1 (pt_val (pe_callB call_isiT rfl bl.isinstance (by decide +kernel) (pa_cons (pv 1) (pa_cons (pe_tup (pa_cons (pe_bltn (v := .ty "bool") rfl bl.bool (by decide +kernel) rfl) (pa_cons (pe_bltn (v := .ty "str") rfl bl.str (by decide +kernel) rfl) pa_nil))) pa_nil))))))) (pss_one (ps_ret (pe_and (pe_cmpR op_eq (pv 0) (pv 1) (nomark _)) (pe_and (pe_cmpR op_eq (pe_callB call_isi rfl bl.isinstance (by decide +kernel) (pa_cons (pv 0) (pa_cons (pe_bltn (v := .ty "bool") rfl bl.bool (by decide +kernel) rfl) pa_nil))) (pe_callB call_isi rfl bl.isinstance (by decide +kernel) (pa_cons (pv 1) (pa_cons (pe_bltn (v := .ty "bool") rfl bl.bool (by decide +kernel) rfl) pa_nil))) (nomark _)) (pe_one (pe_cmpR op_eq (pe_cmpR op_isN (pv 0) pe_non (nomark _)) (pe_cmpR op_isN (pv 1) pe_non (nomark _)) (nomark _))))))) pss_nil)
    (pss_one (ps_ret (pe_and (pe_callB call_isi rfl bl.isinstance (by decide +kernel) (pa_cons (pv 0) (pa_cons (pe_bltn (v := .ty "int") rfl bl.int (by decide +kernel) rfl) pa_nil))) (pe_and (pe_not (pe_callB call_isi rfl bl.isinstance (by decide +kernel) (pa_cons (pv 0) (pa_cons (pe_bltn (v := .ty "bool") rfl bl.bool (by decide +kernel) rfl) pa_nil)))) (pe_one (pe_cmpR op_eq (pv 0) (pv 1) (nomark _))))))))), ?_⟩
  change AS K _ [En.da _, En.da _, En.no, En.no] _ _
  try simp only [cxOf_K]
  cases d with
  | non =>
    repeat' (first
      | ((with_reducible apply ac_isi1); · first | exact ⟨rfl, kb_NoneType_list⟩ | exact ⟨rfl, kb_NoneType_tuple⟩ | exact ⟨rfl, kb_NoneType_bool⟩ | exact ⟨rfl, kb_NoneType_int⟩ | exact ⟨rfl, kb_NoneType_str⟩)
      | (first | refine ⟨rfl, false, .inr ⟨kb_NoneType_list, kb_NoneType_tuple⟩, ?_⟩ | refine ⟨rfl, false, .inr ⟨kb_NoneType_bool, kb_NoneType_str⟩, ?_⟩)
      | with_reducible apply as_seq
      | with_reducible apply as_ret
      | with_reducible apply as_next
      | with_reducible apply as_if
      | with_reducible apply as_set
      | with_reducible apply as_par
      | with_reducible apply as_par3
      | with_reducible apply as_asg
      | ((with_reducible apply ae_var); · rfl)
      | with_reducible apply ae_int
      | with_reducible apply ae_non
      | with_reducible apply ae_bl
      | with_reducible apply ae_str
      | with_reducible apply ae_ty
      | with_reducible apply ae_isi2
      | with_reducible apply ae_op
      | with_reducible apply ae_un
      | with_reducible apply aa_nil
      | with_reducible apply aa_cons
      | with_reducible apply ae_cb
      | with_reducible apply ae_tup
      | with_reducible apply ae_lst
      | with_reducible apply ae_if
      | with_reducible apply at_test
      | with_reducible apply at_b
      | with_reducible apply at_and
      | with_reducible apply at_or
      | with_reducible apply at_not
      | with_reducible apply at_yes
      | with_reducible apply ae_andV
      | with_reducible apply ae_orV
      | with_reducible apply ae_notV
      | with_reducible apply ar_I0i
      | with_reducible apply ar_I0b
      | with_reducible apply ar_isN
      | with_reducible apply ar_notN
      | with_reducible apply au_Ui
      | ((with_reducible apply ar_ixTs); · rfl)
      | ((with_reducible apply ar_ixLs); · rfl)
      | ((with_reducible apply ar_ix); · rfl)
      | ((with_reducible apply ar_ixT); · rfl)
      | ((with_reducible apply ar_ixL); · rfl)
      | with_reducible apply ac_abs
      | with_reducible apply ac_max2
      | with_reducible apply ac_min2
      | with_reducible apply ac_lenT
      | with_reducible apply ac_lenL
      | with_reducible apply ac_listT
      | with_reducible apply ac_listL
      | with_reducible apply ac_tupL
      | with_reducible apply ac_tupT
      | with_reducible apply ac_int
      | with_reducible apply ac_intB
      | ((with_reducible apply ar_eq3); · exact ⟨rfl, rfl, rfl⟩)
      | ((with_reducible apply ar_ne3); · exact ⟨rfl, rfl, rfl⟩)
      | with_reducible apply ag_name
      | with_reducible apply ags_nil
      | with_reducible apply ags_cons
      | ((with_reducible apply ag_tup); · rfl)
      | refine ⟨sz60 (Nat.le_of_ble_eq_true rfl), ?_⟩
      | refine ⟨_, rfl, ?_⟩
      | refine ⟨_, _, rfl, ?_⟩
      | refine ⟨_, _, _, rfl, ?_⟩
      | (refine ⟨fun hc => ?_, fun hc => ?_⟩ <;> (first | (exfalso; exact absurd (show false = true from hc) (by decide)) | (exfalso; exact absurd (show true = false from hc) (by decide)) | (exfalso; simp at hc; done) | skip))
      | rfl
      | exact trivial
      | simp only [oD_some, oD_none])
  | bl b =>
    repeat' (first
      | ((with_reducible apply ac_isi1); · first | exact ⟨rfl, kb_bool_list⟩ | exact ⟨rfl, kb_bool_tuple⟩ | exact ⟨rfl, kb_bool_bool⟩ | exact ⟨rfl, kb_bool_int⟩ | exact ⟨rfl, kb_bool_str⟩)
      | (first | refine ⟨rfl, false, .inr ⟨kb_bool_list, kb_bool_tuple⟩, ?_⟩ | refine ⟨rfl, true, .inl ⟨kb_bool_bool, rfl⟩, ?_⟩)
      | with_reducible apply as_seq
      | with_reducible apply as_ret
      | with_reducible apply as_next
      | with_reducible apply as_if
      | with_reducible apply as_set
      | with_reducible apply as_par
      | with_reducible apply as_par3
      | with_reducible apply as_asg
      | ((with_reducible apply ae_var); · rfl)
      | with_reducible apply ae_int
      | with_reducible apply ae_non
      | with_reducible apply ae_bl
      | with_reducible apply ae_str
      | with_reducible apply ae_ty
      | with_reducible apply ae_isi2
      | with_reducible apply ae_op
      | with_reducible apply ae_un
      | with_reducible apply aa_nil
      | with_reducible apply aa_cons
      | with_reducible apply ae_cb
      | with_reducible apply ae_tup
      | with_reducible apply ae_lst
      | with_reducible apply ae_if
      | with_reducible apply at_test
      | with_reducible apply at_b
      | with_reducible apply at_and
      | with_reducible apply at_or
      | with_reducible apply at_not
      | with_reducible apply at_yes
      | with_reducible apply ae_andV
      | with_reducible apply ae_orV
      | with_reducible apply ae_notV
      | with_reducible apply ar_I0i
      | with_reducible apply ar_I0b
      | with_reducible apply ar_isN
      | with_reducible apply ar_notN
      | with_reducible apply au_Ui
      | ((with_reducible apply ar_ixTs); · rfl)
      | ((with_reducible apply ar_ixLs); · rfl)
      | ((with_reducible apply ar_ix); · rfl)
      | ((with_reducible apply ar_ixT); · rfl)
      | ((with_reducible apply ar_ixL); · rfl)
      | with_reducible apply ac_abs
      | with_reducible apply ac_max2
      | with_reducible apply ac_min2
      | with_reducible apply ac_lenT
      | with_reducible apply ac_lenL
      | with_reducible apply ac_listT
      | with_reducible apply ac_listL
      | with_reducible apply ac_tupL
      | with_reducible apply ac_tupT
      | with_reducible apply ac_int
      | with_reducible apply ac_intB
      | ((with_reducible apply ar_eq3); · exact ⟨rfl, rfl, rfl⟩)
      | ((with_reducible apply ar_ne3); · exact ⟨rfl, rfl, rfl⟩)
      | with_reducible apply ag_name
      | with_reducible apply ags_nil
      | with_reducible apply ags_cons
      | ((with_reducible apply ag_tup); · rfl)
      | refine ⟨sz60 (Nat.le_of_ble_eq_true rfl), ?_⟩
      | refine ⟨_, rfl, ?_⟩
      | refine ⟨_, _, rfl, ?_⟩
      | refine ⟨_, _, _, rfl, ?_⟩
      | (refine ⟨fun hc => ?_, fun hc => ?_⟩ <;> (first | (exfalso; exact absurd (show false = true from hc) (by decide)) | (exfalso; exact absurd (show true = false from hc) (by decide)) | (exfalso; simp at hc; done) | skip))
      | rfl
      | exact trivial
      | simp only [oD_some, oD_none])
  | int i =>
    repeat' (first
      | ((with_reducible apply ac_isi1); · first | exact ⟨rfl, kb_int_list⟩ | exact ⟨rfl, kb_int_tuple⟩ | exact ⟨rfl, kb_int_bool⟩ | exact ⟨rfl, kb_int_int⟩ | exact ⟨rfl, kb_int_str⟩)
      | (first | refine ⟨rfl, false, .inr ⟨kb_int_list, kb_int_tuple⟩, ?_⟩ | refine ⟨rfl, false, .inr ⟨kb_int_bool, kb_int_str⟩, ?_⟩)
      | with_reducible apply as_seq
      | with_reducible apply as_ret
      | with_reducible apply as_next
      | with_reducible apply as_if
      | with_reducible apply as_set
      | with_reducible apply as_par
      | with_reducible apply as_par3
      | with_reducible apply as_asg
      | ((with_reducible apply ae_var); · rfl)
      | with_reducible apply ae_int
      | with_reducible apply ae_non
      | with_reducible apply ae_bl
      | with_reducible apply ae_str
      | with_reducible apply ae_ty
      | with_reducible apply ae_isi2
      | with_reducible apply ae_op
      | with_reducible apply ae_un
      | with_reducible apply aa_nil
      | with_reducible apply aa_cons
      | with_reducible apply ae_cb
      | with_reducible apply ae_tup
      | with_reducible apply ae_lst
      | with_reducible apply ae_if
      | with_reducible apply at_test
      | with_reducible apply at_b
      | with_reducible apply at_and
      | with_reducible apply at_or
      | with_reducible apply at_not
      | with_reducible apply at_yes
      | with_reducible apply ae_andV
      | with_reducible apply ae_orV
      | with_reducible apply ae_notV
      | with_reducible apply ar_I0i
      | with_reducible apply ar_I0b
      | with_reducible apply ar_isN
      | with_reducible apply ar_notN
      | with_reducible apply au_Ui
      | ((with_reducible apply ar_ixTs); · rfl)
      | ((with_reducible apply ar_ixLs); · rfl)
      | ((with_reducible apply ar_ix); · rfl)
      | ((with_reducible apply ar_ixT); · rfl)
      | ((with_reducible apply ar_ixL); · rfl)
      | with_reducible apply ac_abs
      | with_reducible apply ac_max2
      | with_reducible apply ac_min2
      | with_reducible apply ac_lenT
      | with_reducible apply ac_lenL
      | with_reducible apply ac_listT
      | with_reducible apply ac_listL
      | with_reducible apply ac_tupL
      | with_reducible apply ac_tupT
      | with_reducible apply ac_int
      | with_reducible apply ac_intB
      | ((with_reducible apply ar_eq3); · exact ⟨rfl, rfl, rfl⟩)
      | ((with_reducible apply ar_ne3); · exact ⟨rfl, rfl, rfl⟩)
      | with_reducible apply ag_name
      | with_reducible apply ags_nil
      | with_reducible apply ags_cons
      | ((with_reducible apply ag_tup); · rfl)
      | refine ⟨sz60 (Nat.le_of_ble_eq_true rfl), ?_⟩
      | refine ⟨_, rfl, ?_⟩
      | refine ⟨_, _, rfl, ?_⟩
      | refine ⟨_, _, _, rfl, ?_⟩
      | (refine ⟨fun hc => ?_, fun hc => ?_⟩ <;> (first | (exfalso; exact absurd (show false = true from hc) (by decide)) | (exfalso; exact absurd (show true = false from hc) (by decide)) | (exfalso; simp at hc; done) | skip))
      | rfl
      | exact trivial
      | simp only [oD_some, oD_none])
  | str z =>
    repeat' (first
      | ((with_reducible apply ac_isi1); · first | exact ⟨rfl, kb_str_list⟩ | exact ⟨rfl, kb_str_tuple⟩ | exact ⟨rfl, kb_str_bool⟩ | exact ⟨rfl, kb_str_int⟩ | exact ⟨rfl, kb_str_str⟩)
      | (first | refine ⟨rfl, false, .inr ⟨kb_str_list, kb_str_tuple⟩, ?_⟩ | refine ⟨rfl, true, .inr ⟨kb_str_bool, kb_str_str⟩, ?_⟩)
      | with_reducible apply as_seq
      | with_reducible apply as_ret
      | with_reducible apply as_next
      | with_reducible apply as_if
      | with_reducible apply as_set
      | with_reducible apply as_par
      | with_reducible apply as_par3
      | with_reducible apply as_asg
      | ((with_reducible apply ae_var); · rfl)
      | with_reducible apply ae_int
      | with_reducible apply ae_non
      | with_reducible apply ae_bl
      | with_reducible apply ae_str
      | with_reducible apply ae_ty
      | with_reducible apply ae_isi2
      | with_reducible apply ae_op
      | with_reducible apply ae_un
      | with_reducible apply aa_nil
      | with_reducible apply aa_cons
      | with_reducible apply ae_cb
      | with_reducible apply ae_tup
      | with_reducible apply ae_lst
      | with_reducible apply ae_if
      | with_reducible apply at_test
      | with_reducible apply at_b
      | with_reducible apply at_and
      | with_reducible apply at_or
      | with_reducible apply at_not
      | with_reducible apply at_yes
      | with_reducible apply ae_andV
      | with_reducible apply ae_orV
      | with_reducible apply ae_notV
      | with_reducible apply ar_I0i
      | with_reducible apply ar_I0b
      | with_reducible apply ar_isN
      | with_reducible apply ar_notN
      | with_reducible apply au_Ui
      | ((with_reducible apply ar_ixTs); · rfl)
      | ((with_reducible apply ar_ixLs); · rfl)
      | ((with_reducible apply ar_ix); · rfl)
      | ((with_reducible apply ar_ixT); · rfl)
      | ((with_reducible apply ar_ixL); · rfl)
      | with_reducible apply ac_abs
      | with_reducible apply ac_max2
      | with_reducible apply ac_min2
      | with_reducible apply ac_lenT
      | with_reducible apply ac_lenL
      | with_reducible apply ac_listT
      | with_reducible apply ac_listL
      | with_reducible apply ac_tupL
      | with_reducible apply ac_tupT
      | with_reducible apply ac_int
      | with_reducible apply ac_intB
      | ((with_reducible apply ar_eq3); · exact ⟨rfl, rfl, rfl⟩)
      | ((with_reducible apply ar_ne3); · exact ⟨rfl, rfl, rfl⟩)
      | with_reducible apply ag_name
      | with_reducible apply ags_nil
      | with_reducible apply ags_cons
      | ((with_reducible apply ag_tup); · rfl)
      | refine ⟨sz60 (Nat.le_of_ble_eq_true rfl), ?_⟩
      | refine ⟨_, rfl, ?_⟩
      | refine ⟨_, _, rfl, ?_⟩
      | refine ⟨_, _, _, rfl, ?_⟩
      | (refine ⟨fun hc => ?_, fun hc => ?_⟩ <;> (first | (exfalso; exact absurd (show false = true from hc) (by decide)) | (exfalso; exact absurd (show true = false from hc) (by decide)) | (exfalso; simp at hc; done) | skip))
      | rfl
      | exact trivial
      | simp only [oD_some, oD_none])
  | ty T => exact absurd f1 (fun z => nomatch z)
  | tup l =>
    have hl : l.length ≤ 9000 := by
      have f2 : (decide (l.length ≤ 9000) && fits l) = true := f1
      rw [Bool.and_eq_true] at f2; exact of_decide_eq_true f2.1
    have hf : fits l = true := by
      have f2 : (decide (l.length ≤ 9000) && fits l) = true := f1
      rw [Bool.and_eq_true] at f2; exact f2.2
    have hd : deps l ≤ n := Nat.le_of_succ_le_succ (show deps l + 1 ≤ n + 1 from n1)
    repeat' (first
      | ((with_reducible apply ac_isi1); · first | exact ⟨rfl, kb_tuple_list⟩ | exact ⟨rfl, kb_tuple_tuple⟩ | exact ⟨rfl, kb_tuple_bool⟩ | exact ⟨rfl, kb_tuple_int⟩ | exact ⟨rfl, kb_tuple_str⟩)
      | (first | refine ⟨rfl, true, .inr ⟨kb_tuple_list, kb_tuple_tuple⟩, ?_⟩ | refine ⟨rfl, false, .inr ⟨kb_tuple_bool, kb_tuple_str⟩, ?_⟩)
      | with_reducible apply as_seq
      | with_reducible apply as_ret
      | with_reducible apply as_next
      | with_reducible apply as_if
      | with_reducible apply as_set
      | with_reducible apply as_par
      | with_reducible apply as_par3
      | with_reducible apply as_asg
      | ((with_reducible apply ae_var); · rfl)
      | with_reducible apply ae_int
      | with_reducible apply ae_non
      | with_reducible apply ae_bl
      | with_reducible apply ae_str
      | with_reducible apply ae_ty
      | with_reducible apply ae_isi2
      | with_reducible apply ae_op
      | with_reducible apply ae_un
      | with_reducible apply aa_nil
      | with_reducible apply aa_cons
      | with_reducible apply ae_cb
      | with_reducible apply ae_tup
      | with_reducible apply ae_lst
      | with_reducible apply ae_if
      | with_reducible apply at_test
      | with_reducible apply at_b
      | with_reducible apply at_and
      | with_reducible apply at_or
      | with_reducible apply at_not
      | with_reducible apply at_yes
      | with_reducible apply ae_andV
      | with_reducible apply ae_orV
      | with_reducible apply ae_notV
      | with_reducible apply ar_I0i
      | with_reducible apply ar_I0b
      | with_reducible apply ar_isN
      | with_reducible apply ar_notN
      | with_reducible apply au_Ui
      | ((with_reducible apply ar_ixTs); · rfl)
      | ((with_reducible apply ar_ixLs); · rfl)
      | ((with_reducible apply ar_ix); · rfl)
      | ((with_reducible apply ar_ixT); · rfl)
      | ((with_reducible apply ar_ixL); · rfl)
      | with_reducible apply ac_abs
      | with_reducible apply ac_max2
      | with_reducible apply ac_min2
      | with_reducible apply ac_lenT
      | with_reducible apply ac_lenL
      | with_reducible apply ac_listT
      | with_reducible apply ac_listL
      | with_reducible apply ac_tupL
      | with_reducible apply ac_tupT
      | with_reducible apply ac_int
      | with_reducible apply ac_intB
      | ((with_reducible apply ar_eq3); · exact ⟨rfl, rfl, rfl⟩)
      | ((with_reducible apply ar_ne3); · exact ⟨rfl, rfl, rfl⟩)
      | with_reducible apply ag_name
      | with_reducible apply ags_nil
      | with_reducible apply ags_cons
      | ((with_reducible apply ag_tup); · rfl)
      | refine ⟨sz60 (Nat.le_of_ble_eq_true rfl), ?_⟩
      | refine ⟨_, rfl, ?_⟩
      | refine ⟨_, _, rfl, ?_⟩
      | refine ⟨_, _, _, rfl, ?_⟩
      | (refine ⟨fun hc => ?_, fun hc => ?_⟩ <;> (first | (exfalso; exact absurd (show false = true from hc) (by decide)) | (exfalso; exact absurd (show true = false from hc) (by decide)) | (exfalso; simp at hc; done) | skip))
      | rfl
      | exact trivial
      | simp only [oD_some, oD_none])
    refine ae_lcMap (fun _ => .bl true) ?_
    refine ai_zipT ?_
    repeat' (first | (with_reducible apply aa_cons) | ((with_reducible apply ae_var); · rfl) | (with_reducible apply aa_nil))
    refine ⟨l, l, rfl, ?_, fun d hm => ?_, ?_⟩
    · rw [zpD_len, Nat.min_self]; exact Nat.lt_of_le_of_lt hl (by decide)
    · obtain ⟨e, he, rfl⟩ := zp_self hm
      refine agv_tup rfl (agvs_cons (agv_name (by decide) (agvs_cons (agv_name (by decide) (agvs_nil ?_)))))
      refine ae_call ?_
      repeat' (first | (with_reducible apply aa_cons) | ((with_reducible apply ae_var); · rfl) | (with_reducible apply aa_nil))
      exact ⟨.bl true, ⟨e, rfl, Nat.le_trans (deps_mem he) hd, fits_mem hf he, rfl⟩, rfl, rfl⟩
    · refine aa_nil ?_
      rw [map_true]
      refine ac_all ?_
      rw [all_true]
  | lst l =>
    have hl : l.length ≤ 9000 := by
      have f2 : (decide (l.length ≤ 9000) && fits l) = true := f1
      rw [Bool.and_eq_true] at f2; exact of_decide_eq_true f2.1
    have hf : fits l = true := by
      have f2 : (decide (l.length ≤ 9000) && fits l) = true := f1
      rw [Bool.and_eq_true] at f2; exact f2.2
    have hd : deps l ≤ n := Nat.le_of_succ_le_succ (show deps l + 1 ≤ n + 1 from n1)
    repeat' (first
      | ((with_reducible apply ac_isi1); · first | exact ⟨rfl, kb_list_list⟩ | exact ⟨rfl, kb_list_tuple⟩ | exact ⟨rfl, kb_list_bool⟩ | exact ⟨rfl, kb_list_int⟩ | exact ⟨rfl, kb_list_str⟩)
      | (first | refine ⟨rfl, true, .inl ⟨kb_list_list, rfl⟩, ?_⟩ | refine ⟨rfl, false, .inr ⟨kb_list_bool, kb_list_str⟩, ?_⟩)
      | with_reducible apply as_seq
      | with_reducible apply as_ret
      | with_reducible apply as_next
      | with_reducible apply as_if
      | with_reducible apply as_set
      | with_reducible apply as_par
      | with_reducible apply as_par3
      | with_reducible apply as_asg
      | ((with_reducible apply ae_var); · rfl)
      | with_reducible apply ae_int
      | with_reducible apply ae_non
      | with_reducible apply ae_bl
      | with_reducible apply ae_str
      | with_reducible apply ae_ty
      | with_reducible apply ae_isi2
      | with_reducible apply ae_op
      | with_reducible apply ae_un
      | with_reducible apply aa_nil
      | with_reducible apply aa_cons
      | with_reducible apply ae_cb
      | with_reducible apply ae_tup
      | with_reducible apply ae_lst
      | with_reducible apply ae_if
      | with_reducible apply at_test
      | with_reducible apply at_b
      | with_reducible apply at_and
      | with_reducible apply at_or
      | with_reducible apply at_not
      | with_reducible apply at_yes
      | with_reducible apply ae_andV
      | with_reducible apply ae_orV
      | with_reducible apply ae_notV
      | with_reducible apply ar_I0i
      | with_reducible apply ar_I0b
      | with_reducible apply ar_isN
      | with_reducible apply ar_notN
      | with_reducible apply au_Ui
      | ((with_reducible apply ar_ixTs); · rfl)
      | ((with_reducible apply ar_ixLs); · rfl)
      | ((with_reducible apply ar_ix); · rfl)
      | ((with_reducible apply ar_ixT); · rfl)
      | ((with_reducible apply ar_ixL); · rfl)
      | with_reducible apply ac_abs
      | with_reducible apply ac_max2
      | with_reducible apply ac_min2
      | with_reducible apply ac_lenT
      | with_reducible apply ac_lenL
      | with_reducible apply ac_listT
      | with_reducible apply ac_listL
      | with_reducible apply ac_tupL
      | with_reducible apply ac_tupT
      | with_reducible apply ac_int
      | with_reducible apply ac_intB
      | ((with_reducible apply ar_eq3); · exact ⟨rfl, rfl, rfl⟩)
      | ((with_reducible apply ar_ne3); · exact ⟨rfl, rfl, rfl⟩)
      | with_reducible apply ag_name
      | with_reducible apply ags_nil
      | with_reducible apply ags_cons
      | ((with_reducible apply ag_tup); · rfl)
      | refine ⟨sz60 (Nat.le_of_ble_eq_true rfl), ?_⟩
      | refine ⟨_, rfl, ?_⟩
      | refine ⟨_, _, rfl, ?_⟩
      | refine ⟨_, _, _, rfl, ?_⟩
      | (refine ⟨fun hc => ?_, fun hc => ?_⟩ <;> (first | (exfalso; exact absurd (show false = true from hc) (by decide)) | (exfalso; exact absurd (show true = false from hc) (by decide)) | (exfalso; simp at hc; done) | skip))
      | rfl
      | exact trivial
      | simp only [oD_some, oD_none])
    refine ae_lcMap (fun _ => .bl true) ?_
    refine ai_zipL ?_
    repeat' (first | (with_reducible apply aa_cons) | ((with_reducible apply ae_var); · rfl) | (with_reducible apply aa_nil))
    refine ⟨l, l, rfl, ?_, fun d hm => ?_, ?_⟩
    · rw [zpD_len, Nat.min_self]; exact Nat.lt_of_le_of_lt hl (by decide)
    · obtain ⟨e, he, rfl⟩ := zp_self hm
      refine agv_tup rfl (agvs_cons (agv_name (by decide) (agvs_cons (agv_name (by decide) (agvs_nil ?_)))))
      refine ae_call ?_
      repeat' (first | (with_reducible apply aa_cons) | ((with_reducible apply ae_var); · rfl) | (with_reducible apply aa_nil))
      exact ⟨.bl true, ⟨e, rfl, Nat.le_trans (deps_mem he) hd, fits_mem hf he, rfl⟩, rfl, rfl⟩
    · refine aa_nil ?_
      rw [map_true]
      refine ac_all ?_
      rw [all_true]
theorem all_same (bl : Blts mg) {f : Addr} {fd : FuncData} (F : Fun K "_law_same" "_law_same" s_l_same f fd) (bG : Binds K fd p_l_same []) (mG : mg "_law_same" = some (.ref f)) : ∀ n : Nat, FnOk P w K mg base CX0 n f fd p_l_same (spP K (S_same n))
  | 0 => none0 fun vs H Q E h => by
    obtain ⟨G, ds, r, _, _, ⟨d, _, h1, _⟩, _⟩ := h
    have := dep_pos d
    omega
  | n + 1 => ok_l_same bl ⟨all_same bl F bG mG n, bG, F.kp, mG⟩ F
end
end Sh
set_option Elab.async false
set_option linter.all false
set_option maxRecDepth 100000
set_option maxHeartbeats 4000000
namespace Sh
open PySem PySem.Spec PyProof.Rows L2
abbrev s_l_has : Stmt := topS 28
abbrev N_l_has : List Str := ["_law_value_so", "_law_number_so", "_law_low", "_law_high", "_law_m", "_law_r"]
abbrev p_l_has : List Str := ["_law_value_so", "_law_number_so"]
theorem sc_l_has : FnScope N_l_has p_l_has (defScope s_l_has) := ⟨rfl, rfl, rfl, by decide +kernel, rfl, by decide +kernel, by decide +kernel⟩
abbrev s_l_settled : Stmt := topS 30
abbrev N_l_settled : List Str := ["_law_low", "_law_high", "_law_m", "_law_r"]
abbrev p_l_settled : List Str := ["_law_low", "_law_high", "_law_m", "_law_r"]
theorem sc_l_settled : FnScope N_l_settled p_l_settled (defScope s_l_settled) := ⟨rfl, rfl, rfl, by decide +kernel, rfl, by decide +kernel, by decide +kernel⟩
abbrev s_l_less : Stmt := topS 38
abbrev N_l_less : List Str := ["_law_one", "_law_other"]
abbrev p_l_less : List Str := ["_law_one", "_law_other"]
theorem sc_l_less : FnScope N_l_less p_l_less (defScope s_l_less) := ⟨rfl, rfl, rfl, by decide +kernel, rfl, by decide +kernel, by decide +kernel⟩
def S_hv (ds : List Dt) (res : Dt) : Prop := ∃ v, ∃ x : Int, ds = [vlD v, .int x] ∧ 0 ≤ v.m ∧ res = .bl (hasV v x)
def S_set (ds : List Dt) (res : Dt) : Prop := ∃ lo hi, ∃ m r : Int, ds = [oD lo, oD hi, .int m, .int r] ∧ 0 ≤ m ∧ (m ≠ 0 → 0 ≤ r ∧ r < m) ∧ res = ovD (voV lo hi m r)
def lsO (a b : Option Int) : Option Int := match a, b with
  | none, b => b
  | some x, none => some x
  | some x, some y => some (if y < x then y else x)
def S_ls (ds : List Dt) (res : Dt) : Prop := ∃ a b, ds = [oD a, oD b] ∧ res = oD (lsO a b)
/-- what a frame must be beside a state -/
structure FitsF (s : Sta) (f : Frm) : Prop where
  n : f.xs.length = s.vs.length
  m : s.vs.length ≤ 90 ∧ s.its.length ≤ 90
  v : ∀ v, v ∈ s.vs → 0 ≤ v.m
  i : s.its.length = f.its.length ∧ ∀ (j : Nat) ps xs, s.its[j]? = some ps → f.its[j]? = some xs → xs.length ≤ 90 ∧ ps.length ≤ 90 ∧ EndsOk xs.length 0 ps ∧ ∀ p, p ∈ ps → 0 ≤ p.2.m
def S_desc (ds : List Dt) (res : Dt) : Prop := ∃ o f, ds = [osD o, Frm.d f] ∧ (∀ s, o = some s → FitsF s f) ∧ res = .bl (descB o f)
section
variable {P : Program} {w : World} {K : PySem.W.Frag} {mg : Str → Option Value} {base : Heap}
theorem ok_l_less (bl : Blts mg)   {f : Addr} {fd : FuncData} (F : Fun K "_law_less" "_law_less" s_l_less f fd) : FnOk P w K mg base CX0 1 f fd p_l_less (spP K (S_ls)) := by
  refine okP F sc_l_less (fun ds r h => ?_) (fun cdv A outer s H E hr ds r h => ?_)
  · obtain ⟨a, b, rfl, rfl⟩ := h
    rfl
  obtain ⟨a, b, rfl, rfl⟩ := h
  refine ⟨_, (pss_one (ps_ret (pe_ifExp (pt_cmpR op_isN (pv 0) pe_non (nomark _)) (pv 1) (pe_ifExp (pt_cmpR op_isN (pv 1) pe_non (nomark _)) (pv 0) (pe_callB (call_min2 rfl) rfl bl.min (by decide +kernel) (pa_cons (pv 0) (pa_cons (pv 1) pa_nil))))))), ?_⟩
  change AS K _ [En.da _, En.da _] _ _
  try simp only [cxOf_K]
  cases a <;> cases b
  all_goals
    repeat' (first
      | with_reducible apply as_seq
      | with_reducible apply as_ret
      | with_reducible apply as_next
      | with_reducible apply as_if
      | with_reducible apply as_set
      | with_reducible apply as_par
      | with_reducible apply as_par3
      | with_reducible apply as_asg
      | ((with_reducible apply ae_var); · rfl)
      | with_reducible apply ae_int
      | with_reducible apply ae_non
      | with_reducible apply ae_bl
      | with_reducible apply ae_str
      | with_reducible apply ae_ty
      | with_reducible apply ae_isi2
      | with_reducible apply ae_op
      | with_reducible apply ae_un
      | with_reducible apply aa_nil
      | with_reducible apply aa_cons
      | with_reducible apply ae_cb
      | with_reducible apply ae_tup
      | with_reducible apply ae_lst
      | with_reducible apply ae_if
      | with_reducible apply at_test
      | with_reducible apply at_b
      | with_reducible apply at_and
      | with_reducible apply at_or
      | with_reducible apply at_not
      | with_reducible apply at_yes
      | with_reducible apply ae_andV
      | with_reducible apply ae_orV
      | with_reducible apply ae_notV
      | with_reducible apply ar_I0i
      | with_reducible apply ar_I0b
      | with_reducible apply ar_isN
      | with_reducible apply ar_notN
      | with_reducible apply au_Ui
      | ((with_reducible apply ar_ixTs); · rfl)
      | ((with_reducible apply ar_ixLs); · rfl)
      | ((with_reducible apply ar_ix); · rfl)
      | ((with_reducible apply ar_ixT); · rfl)
      | ((with_reducible apply ar_ixL); · rfl)
      | with_reducible apply ac_abs
      | with_reducible apply ac_max2
      | with_reducible apply ac_min2
      | with_reducible apply ac_lenT
      | with_reducible apply ac_lenL
      | with_reducible apply ac_listT
      | with_reducible apply ac_listL
      | with_reducible apply ac_tupL
      | with_reducible apply ac_tupT
      | with_reducible apply ac_int
      | with_reducible apply ac_intB
      | ((with_reducible apply ar_eq3); · exact ⟨rfl, rfl, rfl⟩)
      | ((with_reducible apply ar_ne3); · exact ⟨rfl, rfl, rfl⟩)
      | with_reducible apply ag_name
      | with_reducible apply ags_nil
      | with_reducible apply ags_cons
      | ((with_reducible apply ag_tup); · rfl)
      | refine ⟨sz60 (Nat.le_of_ble_eq_true rfl), ?_⟩
      | refine ⟨_, rfl, ?_⟩
      | refine ⟨_, _, rfl, ?_⟩
      | refine ⟨_, _, _, rfl, ?_⟩
      | (refine ⟨fun hc => ?_, fun hc => ?_⟩ <;> (first | (exfalso; exact absurd (show false = true from hc) (by decide)) | (exfalso; exact absurd (show true = false from hc) (by decide)) | (exfalso; simp at hc; done) | skip))
      | rfl
      | exact trivial
      | simp only [oD_some, oD_none])
theorem ok_l_has (bl : Blts mg)   {f : Addr} {fd : FuncData} (F : Fun K "_law_has" "_law_has" s_l_has f fd) : FnOk P w K mg base CX0 1 f fd p_l_has (spP K (S_hv)) := by
  refine okP F sc_l_has (fun ds r h => ?_) (fun cdv A outer s H E hr ds r h => ?_)
  · obtain ⟨v, x, rfl, hv0, rfl⟩ := h
    rfl
  obtain ⟨v, x, rfl, hv0, rfl⟩ := h
  refine ⟨_, (pss_cons (ps_asg (pv 0) (pg_tup rfl (pgs_cons (pg_name (i := 2) sc_l_has.nd rfl (by first | exact Or.inl rfl | exact Or.inr rfl)) (pgs_cons (pg_name (i := 3) sc_l_has.nd rfl (by first | exact Or.inl rfl | exact Or.inr rfl)) (pgs_cons (pg_name (i := 4) sc_l_has.nd rfl (by first | exact Or.inl rfl | exact Or.inr rfl)) (pgs_cons (pg_name (i := 5) sc_l_has.nd rfl (by first | exact Or.inl rfl | exact Or.inr rfl)) pgs_nil))))))
    (pss_cons (ps_if (PW.pt (pw_or (PW.pt (pw_and (pt_cmpR op_notN (pv 2) pe_non (nomark _)) (pw_and1 (pt_cmpR op_lt (pv 1) (pv 2) (nomark _))))) (pw_or1 (PW.pt (pw_and (pt_cmpR op_notN (pv 3) pe_non (nomark _)) (pw_and1 (pt_cmpR op_gt (pv 1) (pv 3) (nomark _)))))))) (pss_one (ps_ret pe_bl)) pss_nil)
    (pss_one (ps_ret (pe_ifExp (pt_cmpR op_eq (pv 4) pe_int (nomark _)) (pe_cmpR op_eq (pv 1) (pv 5) (nomark _)) (pe_cmpR op_eq (pe_op op_modN (pv 1) (pv 4)) (pv 5) (nomark _))))))), ?_⟩
  change AS K _ [En.da _, En.da _, En.no, En.no, En.no, En.no] _ _
  try simp only [cxOf_K]
  obtain ⟨lo, hi, m, r⟩ := v
  by_cases h0 : m = 0
  · subst h0
    cases lo <;> cases hi
    all_goals
      repeat' (first
        | with_reducible apply as_seq
        | with_reducible apply as_ret
        | with_reducible apply as_next
        | with_reducible apply as_if
        | with_reducible apply as_set
        | with_reducible apply as_par
        | with_reducible apply as_par3
        | with_reducible apply as_asg
        | ((with_reducible apply ae_var); · rfl)
        | with_reducible apply ae_int
        | with_reducible apply ae_non
        | with_reducible apply ae_bl
        | with_reducible apply ae_str
        | with_reducible apply ae_ty
        | with_reducible apply ae_isi2
        | with_reducible apply ae_op
        | with_reducible apply ae_un
        | with_reducible apply aa_nil
        | with_reducible apply aa_cons
        | with_reducible apply ae_cb
        | with_reducible apply ae_tup
        | with_reducible apply ae_lst
        | with_reducible apply ae_if
        | with_reducible apply at_test
        | with_reducible apply at_b
        | with_reducible apply at_and
        | with_reducible apply at_or
        | with_reducible apply at_not
        | with_reducible apply at_yes
        | with_reducible apply ae_andV
        | with_reducible apply ae_orV
        | with_reducible apply ae_notV
        | with_reducible apply ar_I0i
        | with_reducible apply ar_I0b
        | with_reducible apply ar_isN
        | with_reducible apply ar_notN
        | with_reducible apply au_Ui
        | ((with_reducible apply ar_ixTs); · rfl)
        | ((with_reducible apply ar_ixLs); · rfl)
        | ((with_reducible apply ar_ix); · rfl)
        | ((with_reducible apply ar_ixT); · rfl)
        | ((with_reducible apply ar_ixL); · rfl)
        | with_reducible apply ac_abs
        | with_reducible apply ac_max2
        | with_reducible apply ac_min2
        | with_reducible apply ac_lenT
        | with_reducible apply ac_lenL
        | with_reducible apply ac_listT
        | with_reducible apply ac_listL
        | with_reducible apply ac_tupL
        | with_reducible apply ac_tupT
        | with_reducible apply ac_int
        | with_reducible apply ac_intB
        | ((with_reducible apply ar_eq3); · exact ⟨rfl, rfl, rfl⟩)
        | ((with_reducible apply ar_ne3); · exact ⟨rfl, rfl, rfl⟩)
        | with_reducible apply ag_name
        | with_reducible apply ags_nil
        | with_reducible apply ags_cons
        | ((with_reducible apply ag_tup); · rfl)
        | refine ⟨sz60 (Nat.le_of_ble_eq_true rfl), ?_⟩
        | refine ⟨_, rfl, ?_⟩
        | refine ⟨_, _, rfl, ?_⟩
        | refine ⟨_, _, _, rfl, ?_⟩
        | (refine ⟨fun hc => ?_, fun hc => ?_⟩ <;> (first | (exfalso; exact absurd (show false = true from hc) (by decide)) | (exfalso; exact absurd (show true = false from hc) (by decide)) | (exfalso; simp at hc; done) | skip))
        | rfl
        | exact trivial
        | simp only [oD_some, oD_none])
    all_goals (simp only [hasV, inLo, inHi, rsB])
    all_goals first | (simp_all; done) | (simp_all; omega) | trace_state
  · have hd : decide (V.int m = V.int 0) = false := decide_eq_false (fun z => h0 (by cases z; rfl))
    cases lo <;> cases hi
    all_goals
      repeat' (first
        | (refine ⟨_, rfl, ?_⟩; rw [hd]; refine ⟨fun hc => (nomatch hc), fun hc => ?_⟩)
        | refine ar_Ii (C := fun _ j => j ≠ 0) (by first | assumption | omega) ?_
        | with_reducible apply as_seq
        | with_reducible apply as_ret
        | with_reducible apply as_next
        | with_reducible apply as_if
        | with_reducible apply as_set
        | with_reducible apply as_par
        | with_reducible apply as_par3
        | with_reducible apply as_asg
        | ((with_reducible apply ae_var); · rfl)
        | with_reducible apply ae_int
        | with_reducible apply ae_non
        | with_reducible apply ae_bl
        | with_reducible apply ae_str
        | with_reducible apply ae_ty
        | with_reducible apply ae_isi2
        | with_reducible apply ae_op
        | with_reducible apply ae_un
        | with_reducible apply aa_nil
        | with_reducible apply aa_cons
        | with_reducible apply ae_cb
        | with_reducible apply ae_tup
        | with_reducible apply ae_lst
        | with_reducible apply ae_if
        | with_reducible apply at_test
        | with_reducible apply at_b
        | with_reducible apply at_and
        | with_reducible apply at_or
        | with_reducible apply at_not
        | with_reducible apply at_yes
        | with_reducible apply ae_andV
        | with_reducible apply ae_orV
        | with_reducible apply ae_notV
        | with_reducible apply ar_I0i
        | with_reducible apply ar_I0b
        | with_reducible apply ar_isN
        | with_reducible apply ar_notN
        | with_reducible apply au_Ui
        | ((with_reducible apply ar_ixTs); · rfl)
        | ((with_reducible apply ar_ixLs); · rfl)
        | ((with_reducible apply ar_ix); · rfl)
        | ((with_reducible apply ar_ixT); · rfl)
        | ((with_reducible apply ar_ixL); · rfl)
        | with_reducible apply ac_abs
        | with_reducible apply ac_max2
        | with_reducible apply ac_min2
        | with_reducible apply ac_lenT
        | with_reducible apply ac_lenL
        | with_reducible apply ac_listT
        | with_reducible apply ac_listL
        | with_reducible apply ac_tupL
        | with_reducible apply ac_tupT
        | with_reducible apply ac_int
        | with_reducible apply ac_intB
        | ((with_reducible apply ar_eq3); · exact ⟨rfl, rfl, rfl⟩)
        | ((with_reducible apply ar_ne3); · exact ⟨rfl, rfl, rfl⟩)
        | with_reducible apply ag_name
        | with_reducible apply ags_nil
        | with_reducible apply ags_cons
        | ((with_reducible apply ag_tup); · rfl)
        | refine ⟨sz60 (Nat.le_of_ble_eq_true rfl), ?_⟩
        | refine ⟨_, rfl, ?_⟩
        | refine ⟨_, _, rfl, ?_⟩
        | refine ⟨_, _, _, rfl, ?_⟩
        | (refine ⟨fun hc => ?_, fun hc => ?_⟩ <;> (first | (exfalso; exact absurd (show false = true from hc) (by decide)) | (exfalso; exact absurd (show true = false from hc) (by decide)) | (exfalso; simp at hc; done) | skip))
        | rfl
        | exact trivial
        | simp only [oD_some, oD_none])
    all_goals (simp only [hasV, inLo, inHi, rsB, if_neg h0])
    all_goals first | (simp_all; done) | (simp_all; omega) | trace_state
theorem ok_l_settled (bl : Blts mg)   {f : Addr} {fd : FuncData} (F : Fun K "_law_settled" "_law_settled" s_l_settled f fd) : FnOk P w K mg base CX0 1 f fd p_l_settled (spP K (S_set)) := by
  refine okP F sc_l_settled (fun ds r h => ?_) (fun cdv A outer s H E hr ds r h => ?_)
  · obtain ⟨lo, hi, m, r, rfl, hm, hr2, rfl⟩ := h
    rfl
  obtain ⟨lo, hi, m, r, rfl, hm, hr2, rfl⟩ := h
  refine ⟨_, (pss_cons (ps_if (pt_cmpR op_eq (pv 2) pe_int (nomark _)) (pss_cons (ps_par (i := 0) (j := 1) (by rfl) sc_l_settled.nd rfl rfl (by decide) rfl rfl (pa_cons (pe_ifExp (pt_cmpR op_isN (pv 0) pe_non (nomark _)) (pv 3) (pe_callB (call_max2 rfl) rfl bl.max (by decide +kernel) (pa_cons (pv 0) (pa_cons (pv 3) pa_nil)))) (pa_cons (pe_ifExp (pt_cmpR op_isN (pv 1) pe_non (nomark _)) (pv 3) (pe_callB (call_min2 rfl) rfl bl.min (by decide +kernel) (pa_cons (pv 1) (pa_cons (pv 3) pa_nil)))) pa_nil)) (by rfl))
    (pss_one (ps_ret (pe_ifExp (PW.pt (pw_and (pt_chain op_le op_le (pv 0) (pv 3) (pv 1)) (pw_and1 (pt_cmpR op_le (pv 0) (pv 1) (nomark _))))) (pe_tup (pa_cons (pv 3) (pa_cons (pv 3) (pa_cons pe_int (pa_cons (pv 3) pa_nil))))) pe_non)))) pss_nil)
    (pss_cons (ps_set (i := 0) sc_l_settled.nd rfl (by first | exact Or.inl rfl | exact Or.inr rfl) (pe_ifExp (pt_cmpR op_isN (pv 0) pe_non (nomark _)) pe_non (pe_op op_add (pv 0) (pe_op op_modN (pe_op op_sub (pv 3) (pv 0)) (pv 2)))))
    (pss_cons (ps_set (i := 1) sc_l_settled.nd rfl (by first | exact Or.inl rfl | exact Or.inr rfl) (pe_ifExp (pt_cmpR op_isN (pv 1) pe_non (nomark _)) pe_non (pe_op op_sub (pv 1) (pe_op op_modN (pe_op op_sub (pv 1) (pv 3)) (pv 2)))))
    (pss_cons (ps_if (PW.pt (pw_and (pt_cmpR op_notN (pv 0) pe_non (nomark _)) (pw_and (pt_cmpR op_notN (pv 1) pe_non (nomark _)) (pw_and1 (pt_cmpR op_ge (pv 0) (pv 1) (nomark _)))))) (pss_one (ps_ret (pe_ifExp (pt_cmpR op_eq (pv 0) (pv 1) (nomark _)) (pe_tup (pa_cons (pv 0) (pa_cons (pv 0) (pa_cons pe_int (pa_cons (pv 0) pa_nil))))) pe_non))) pss_nil)
    (pss_one (ps_ret (pe_tup (pa_cons (pv 0) (pa_cons (pv 1) (pa_cons (pv 2) (pa_cons (pe_op op_modN (pv 3) (pv 2)) pa_nil))))))))))), ?_⟩
  change AS K _ [En.da _, En.da _, En.da _, En.da _] _ _
  try simp only [cxOf_K]
  by_cases h0 : m = 0
  · subst h0
    cases lo <;> cases hi
    all_goals
      repeat' (first
        | with_reducible apply ae_chain
        | with_reducible apply as_seq
        | with_reducible apply as_ret
        | with_reducible apply as_next
        | with_reducible apply as_if
        | with_reducible apply as_set
        | with_reducible apply as_par
        | with_reducible apply as_par3
        | with_reducible apply as_asg
        | ((with_reducible apply ae_var); · rfl)
        | with_reducible apply ae_int
        | with_reducible apply ae_non
        | with_reducible apply ae_bl
        | with_reducible apply ae_str
        | with_reducible apply ae_ty
        | with_reducible apply ae_isi2
        | with_reducible apply ae_op
        | with_reducible apply ae_un
        | with_reducible apply aa_nil
        | with_reducible apply aa_cons
        | with_reducible apply ae_cb
        | with_reducible apply ae_tup
        | with_reducible apply ae_lst
        | with_reducible apply ae_if
        | with_reducible apply at_test
        | with_reducible apply at_b
        | with_reducible apply at_and
        | with_reducible apply at_or
        | with_reducible apply at_not
        | with_reducible apply at_yes
        | with_reducible apply ae_andV
        | with_reducible apply ae_orV
        | with_reducible apply ae_notV
        | with_reducible apply ar_I0i
        | with_reducible apply ar_I0b
        | with_reducible apply ar_isN
        | with_reducible apply ar_notN
        | with_reducible apply au_Ui
        | ((with_reducible apply ar_ixTs); · rfl)
        | ((with_reducible apply ar_ixLs); · rfl)
        | ((with_reducible apply ar_ix); · rfl)
        | ((with_reducible apply ar_ixT); · rfl)
        | ((with_reducible apply ar_ixL); · rfl)
        | with_reducible apply ac_abs
        | with_reducible apply ac_max2
        | with_reducible apply ac_min2
        | with_reducible apply ac_lenT
        | with_reducible apply ac_lenL
        | with_reducible apply ac_listT
        | with_reducible apply ac_listL
        | with_reducible apply ac_tupL
        | with_reducible apply ac_tupT
        | with_reducible apply ac_int
        | with_reducible apply ac_intB
        | ((with_reducible apply ar_eq3); · exact ⟨rfl, rfl, rfl⟩)
        | ((with_reducible apply ar_ne3); · exact ⟨rfl, rfl, rfl⟩)
        | with_reducible apply ag_name
        | with_reducible apply ags_nil
        | with_reducible apply ags_cons
        | ((with_reducible apply ag_tup); · rfl)
        | refine ⟨sz60 (Nat.le_of_ble_eq_true rfl), ?_⟩
        | refine ⟨_, rfl, ?_⟩
        | refine ⟨_, _, rfl, ?_⟩
        | refine ⟨_, _, _, rfl, ?_⟩
        | (refine ⟨fun hc => ?_, fun hc => ?_⟩ <;> (first | (exfalso; exact absurd (show false = true from hc) (by decide)) | (exfalso; exact absurd (show true = false from hc) (by decide)) | (exfalso; simp at hc; done) | skip))
        | rfl
        | exact trivial
        | simp only [oD_some, oD_none])
    all_goals (simp only [voV, letsB, lwB, hwB, if_pos rfl])
    all_goals first | (simp_all [ovD, oD]; done) | (simp_all [ovD, oD]; omega) | (simp_all [ovD, oD]; first | (rw [if_pos (by omega)]; rfl) | (rw [if_neg (by omega)]; rfl) | rw [if_neg (by omega)]) | trace_state
  · have hd : decide (V.int m = V.int 0) = false := decide_eq_false (fun z => h0 (by cases z; rfl))
    obtain ⟨r0, r1⟩ := hr2 h0
    have hm1 : 0 < m := by omega
    have rm : r.fmod m = r := by rw [Int.fmod_eq_emod_of_nonneg r (by omega)]; exact Int.emod_eq_of_lt r0 r1
    cases lo <;> cases hi
    all_goals
      repeat' (first
        | (refine ⟨_, rfl, ?_⟩; rw [hd]; refine ⟨fun hc => (nomatch hc), fun hc => ?_⟩)
        | refine ar_Ii (C := fun _ j => j ≠ 0) (by first | assumption | omega) ?_
        | with_reducible apply as_seq
        | with_reducible apply as_ret
        | with_reducible apply as_next
        | with_reducible apply as_if
        | with_reducible apply as_set
        | with_reducible apply as_par
        | with_reducible apply as_par3
        | with_reducible apply as_asg
        | ((with_reducible apply ae_var); · rfl)
        | with_reducible apply ae_int
        | with_reducible apply ae_non
        | with_reducible apply ae_bl
        | with_reducible apply ae_str
        | with_reducible apply ae_ty
        | with_reducible apply ae_isi2
        | with_reducible apply ae_op
        | with_reducible apply ae_un
        | with_reducible apply aa_nil
        | with_reducible apply aa_cons
        | with_reducible apply ae_cb
        | with_reducible apply ae_tup
        | with_reducible apply ae_lst
        | with_reducible apply ae_if
        | with_reducible apply at_test
        | with_reducible apply at_b
        | with_reducible apply at_and
        | with_reducible apply at_or
        | with_reducible apply at_not
        | with_reducible apply at_yes
        | with_reducible apply ae_andV
        | with_reducible apply ae_orV
        | with_reducible apply ae_notV
        | with_reducible apply ar_I0i
        | with_reducible apply ar_I0b
        | with_reducible apply ar_isN
        | with_reducible apply ar_notN
        | with_reducible apply au_Ui
        | ((with_reducible apply ar_ixTs); · rfl)
        | ((with_reducible apply ar_ixLs); · rfl)
        | ((with_reducible apply ar_ix); · rfl)
        | ((with_reducible apply ar_ixT); · rfl)
        | ((with_reducible apply ar_ixL); · rfl)
        | with_reducible apply ac_abs
        | with_reducible apply ac_max2
        | with_reducible apply ac_min2
        | with_reducible apply ac_lenT
        | with_reducible apply ac_lenL
        | with_reducible apply ac_listT
        | with_reducible apply ac_listL
        | with_reducible apply ac_tupL
        | with_reducible apply ac_tupT
        | with_reducible apply ac_int
        | with_reducible apply ac_intB
        | ((with_reducible apply ar_eq3); · exact ⟨rfl, rfl, rfl⟩)
        | ((with_reducible apply ar_ne3); · exact ⟨rfl, rfl, rfl⟩)
        | with_reducible apply ag_name
        | with_reducible apply ags_nil
        | with_reducible apply ags_cons
        | ((with_reducible apply ag_tup); · rfl)
        | refine ⟨sz60 (Nat.le_of_ble_eq_true rfl), ?_⟩
        | refine ⟨_, rfl, ?_⟩
        | refine ⟨_, _, rfl, ?_⟩
        | refine ⟨_, _, _, rfl, ?_⟩
        | (refine ⟨fun hc => ?_, fun hc => ?_⟩ <;> (first | (exfalso; exact absurd (show false = true from hc) (by decide)) | (exfalso; exact absurd (show true = false from hc) (by decide)) | (exfalso; simp at hc; done) | skip))
        | rfl
        | exact trivial
        | simp only [oD_some, oD_none])
    all_goals (simp only [voV, if_neg h0, rm])
    all_goals first | (simp_all [ovD, oD, upR, dnR]; done) | (simp_all [ovD, oD, upR, dnR]; omega) | (simp_all [ovD, oD, upR, dnR]; first | (rw [if_neg (by omega)]; rfl) | rw [if_neg (by omega)]) | trace_state
end
end Sh
set_option Elab.async false
set_option linter.all false
set_option maxRecDepth 100000
set_option maxHeartbeats 4000000
namespace Sh
open PySem PySem.Spec PyProof.Rows L2
abbrev s_l_describes : Stmt := topS 29
abbrev N_l_describes : List Str := ["_law_state_so", "_law_frame_here", "_law_pieces_so", "_law_items", "_law_begin_so", "_law_row", "_law_one", "_law_end_so", "_law_value_so", "_law_limit_so", "_law_other", "_law_number_so", "_law_item"]
abbrev p_l_describes : List Str := ["_law_state_so", "_law_frame_here"]
theorem sc_l_describes : FnScope N_l_describes p_l_describes (defScope s_l_describes) := ⟨rfl, rfl, rfl, by decide +kernel, rfl, by decide +kernel, by decide +kernel⟩
def hvF : Dt → Dt
  | .tup [v, .int x] => .bl (hasV (toV v) x)
  | _ => .non
theorem hv_zip (vs : List Vl) (xs : List Int) : (zpD (vs.map vlD) (xs.map Dt.int)).map hvF = ((vs.zip xs).map fun p => hasV p.1 p.2).map Dt.bl := by
  unfold zpD
  rw [List.zip_map, List.map_map, List.map_map, List.map_map]
  refine List.map_congr_left fun p _ => ?_
  show Dt.bl (hasV (toV (vlD p.1)) p.2) = _
  rw [toV_vlD]
  rfl
theorem zp_mem {l m : List Dt} {d : Dt} (h : d ∈ zpD l m) : ∃ (i : Nat) (a b : Dt), l[i]? = some a ∧ m[i]? = some b ∧ d = .tup [a, b] := by
  obtain ⟨i, hi⟩ := List.getElem?_of_mem h
  have lt := (List.getElem?_eq_some_iff.mp hi).1
  rw [zpD_len] at lt
  have e1 : l[i]? = some l[i] := List.getElem?_eq_getElem (by omega)
  have e2 : m[i]? = some m[i] := List.getElem?_eq_getElem (by omega)
  rw [zpD_get e1 e2] at hi
  cases hi
  exact ⟨i, _, _, e1, e2, rfl⟩
theorem zp_at {l m : List Dt} {i : Nat} {d : Dt} (h : (zpD l m)[i]? = some d) : ∃ a b, l[i]? = some a ∧ m[i]? = some b ∧ d = .tup [a, b] := by
  have lt := (List.getElem?_eq_some_iff.mp h).1
  rw [zpD_len] at lt
  have e1 : l[i]? = some l[i] := List.getElem?_eq_getElem (by omega)
  have e2 : m[i]? = some m[i] := List.getElem?_eq_getElem (by omega)
  rw [zpD_get e1 e2] at h
  cases h
  exact ⟨_, _, e1, e2, rfl⟩
theorem map_at {α : Type} {f : α → Dt} {l : List α} {i : Nat} {d : Dt} (h : (l.map f)[i]? = some d) : ∃ a, l[i]? = some a ∧ d = f a := by
  rw [List.getElem?_map] at h
  cases e : l[i]? with
  | none => rw [e] at h; cases h
  | some a => rw [e] at h; cases h; exact ⟨a, rfl, rfl⟩
def toJ : Dt → Int
  | .int i => i
  | _ => 0
theorem gap_iff {n : Nat} {g : Nat → Nat → Option Int} {xs : List Int} : gapB n g xs = true ↔ ∀ i j, i < n → j < n → limB (g i j) (xs.getD i 0) (xs.getD j 0) = true := by
  unfold gapB
  rw [List.all_eq_true]
  refine ⟨fun h i j hi hj => List.all_eq_true.mp (h i (List.mem_range.mpr hi)) j (List.mem_range.mpr hj), fun h i hi => List.all_eq_true.mpr fun j hj => h i j (List.mem_range.mp hi) (List.mem_range.mp hj)⟩
theorem its_iff {its : List (List (Nat × Vl))} {xs : List (List Int)} : itsB its xs = true ↔ ∀ (i : Nat) p x, its[i]? = some p → xs[i]? = some x → pcsB 0 p x = true := by
  unfold itsB
  rw [List.all_eq_true]
  refine ⟨fun h i p x h1 h2 => h (p, x) ?_, fun h q hq => ?_⟩
  · exact List.mem_of_getElem? (by rw [List.getElem?_zip_eq_some]; exact ⟨h1, h2⟩)
  · obtain ⟨i, hi⟩ := List.getElem?_of_mem hq
    rw [List.getElem?_zip_eq_some] at hi
    exact h i q.1 q.2 hi.1 hi.2
theorem cut_ab {l : List Dt} {a b : Nat} (h : a ≤ b) (hb : b ≤ l.length) : cutD l (some (a : Int)) (some (b : Int)) = (l.drop a).take (b - a) := by
  unfold cutD
  rw [HT.sIx_nat, HT.sIx_nat, Nat.min_eq_left hb, Nat.min_eq_left (by omega)]
section
variable {P : Program} {w : World} {K : PySem.W.Frag} {mg : Str → Option Value} {base : Heap}
theorem ok_l_describes (bl : Blts mg) {g_l_has : Addr} {d_l_has : FuncData} (c_l_has : Cal P w K mg base 1 "_law_has" p_l_has (spP K S_hv) g_l_has d_l_has)  {f : Addr} {fd : FuncData} (F : Fun K "_law_describes" "_law_describes" s_l_describes f fd) : FnOk P w K mg base CX0 2 f fd p_l_describes (spP K (S_desc)) := by
  refine okP F sc_l_describes (fun ds r h => ?_) (fun cdv A outer s H E hr ds r h => ?_)
  · obtain ⟨o, f, rfl, ho, rfl⟩ := h
    rfl
  obtain ⟨o, f, rfl, ho, rfl⟩ := h
  refine ⟨_, (pss_cons (ps_if (pt_cmpR op_isN (pv 0) pe_non (nomark _)) (pss_one (ps_ret pe_bl)) pss_nil)
    (pss_cons (ps_if (pt_not (pt_val (pe_callB (cr_all rfl) rfl bl.all (by decide +kernel) (pa_cons (pe_lc (own := [("_law_value_so", 8), ("_law_number_so", 11)]) (g := (gTup K 2 (gCons (gName 8) (gCons (gName 11) gNil)))) (te := (tCall (spP K S_hv) [] E0 (tCons (tVar 8) (tCons (tVar 11) tNil)))) (tt := tYes) rfl sc_l_describes.nd (pi_zipK rfl bl.zip (pa_cons (pe_ix ix_tup (pv 0) pe_int (fun _ _ => rfl)) (pa_cons (pe_ix ix_tup (pv 1) pe_int (fun _ _ => rfl)) pa_nil))) (blkOk_by (N := N_l_describes) (sc := defScope s_l_describes) (by decide +kernel)) (fun _ _ _ _ _ => (pg_tup rfl (pgs_cons (pg_name (i := 8) sc_l_describes.nd rfl (by first | exact Or.inl rfl | exact Or.inr rfl)) (pgs_cons (pg_name (i := 11) sc_l_describes.nd rfl (by first | exact Or.inl rfl | exact Or.inr rfl)) pgs_nil)))) (fun _ _ _ _ _ => pts_nil) (fun _ _ _ _ _ => (pe_call c_l_has.ok (hr.mono (by decide)) rfl c_l_has.mg c_l_has.kp c_l_has.bi .nil pass0 (pa_cons (pv 8) (pa_cons (pv 11) pa_nil))))) pa_nil)))) (pss_one (ps_ret pe_bl)) pss_nil)
    (pss_cons (ps_if (pt_cmpR op_notN (pe_ix ix_tup (pv 0) pe_int (fun _ _ => rfl)) pe_non (nomark _)) (pss_one (ps_for PassesOwn.never rfl (pi_zipK rfl bl.zip (pa_cons (pe_ix ix_tup (pv 0) pe_int (fun _ _ => rfl)) (pa_cons (pe_ix ix_tup (pv 1) pe_int (fun _ _ => rfl)) pa_nil))) (pg_tup rfl (pgs_cons (pg_name (i := 5) sc_l_describes.nd rfl (by first | exact Or.inl rfl | exact Or.inr rfl)) (pgs_cons (pg_name (i := 6) sc_l_describes.nd rfl (by first | exact Or.inl rfl | exact Or.inr rfl)) pgs_nil))) (pss_one (ps_for PassesOwn.never rfl (pi_zipK rfl bl.zip (pa_cons (pv 5) (pa_cons (pe_ix ix_tup (pv 1) pe_int (fun _ _ => rfl)) pa_nil))) (pg_tup rfl (pgs_cons (pg_name (i := 9) sc_l_describes.nd rfl (by first | exact Or.inl rfl | exact Or.inr rfl)) (pgs_cons (pg_name (i := 10) sc_l_describes.nd rfl (by first | exact Or.inl rfl | exact Or.inr rfl)) pgs_nil))) (pss_one (ps_if (PW.pt (pw_and (pt_cmpR op_notN (pv 9) pe_non (nomark _)) (pw_and1 (pt_cmpR op_gt (pe_op op_sub (pv 6) (pv 10)) (pv 9) (nomark _))))) (pss_one (ps_ret pe_bl)) pss_nil)))))) pss_nil)
    (pss_cons (ps_for PassesOwn.never rfl (pi_zipK rfl bl.zip (pa_cons (pe_ix ix_tup (pv 0) pe_int (fun _ _ => rfl)) (pa_cons (pe_ix ix_tup (pv 1) pe_int (fun _ _ => rfl)) pa_nil))) (pg_tup rfl (pgs_cons (pg_name (i := 2) sc_l_describes.nd rfl (by first | exact Or.inl rfl | exact Or.inr rfl)) (pgs_cons (pg_name (i := 3) sc_l_describes.nd rfl (by first | exact Or.inl rfl | exact Or.inr rfl)) pgs_nil))) (pss_cons (ps_set (i := 4) sc_l_describes.nd rfl (by first | exact Or.inl rfl | exact Or.inr rfl) pe_int)
    (pss_one (ps_for PassesOwn.never rfl (pi_tup (pv 2)) (pg_tup rfl (pgs_cons (pg_name (i := 7) sc_l_describes.nd rfl (by first | exact Or.inl rfl | exact Or.inr rfl)) (pgs_cons (pg_name (i := 8) sc_l_describes.nd rfl (by first | exact Or.inl rfl | exact Or.inr rfl)) pgs_nil))) (pss_cons (ps_if (pt_not (pt_val (pe_callB (cr_all rfl) rfl bl.all (by decide +kernel) (pa_cons (pe_lc (own := [("_law_item", 12)]) (g := (gName 12)) (te := (tCall (spP K S_hv) [] E0 (tCons (tVar 8) (tCons (tVar 12) tNil)))) (tt := tYes) rfl sc_l_describes.nd (pi_tup (pe_slice sl_tupA (pv 3) (po_some (pv 4)) (po_some (pv 7)))) (blkOk_by (N := N_l_describes) (sc := defScope s_l_describes) (by decide +kernel)) (fun _ _ _ _ _ => (pg_name (i := 12) sc_l_describes.nd rfl (by first | exact Or.inl rfl | exact Or.inr rfl))) (fun _ _ _ _ _ => pts_nil) (fun _ _ _ _ _ => (pe_call c_l_has.ok (hr.mono (by decide)) rfl c_l_has.mg c_l_has.kp c_l_has.bi .nil pass0 (pa_cons (pv 8) (pa_cons (pv 12) pa_nil))))) pa_nil)))) (pss_one (ps_ret pe_bl)) pss_nil)
    (pss_one (ps_set (i := 4) sc_l_describes.nd rfl (by first | exact Or.inl rfl | exact Or.inr rfl) (pv 7))))))))
    (pss_one (ps_ret pe_bl)))))), ?_⟩
  change AS K _ [En.da _, En.da _, En.no, En.no, En.no, En.no, En.no, En.no, En.no, En.no, En.no, En.no, En.no] _ _
  try simp only [cxOf_K]
  have z9 : 9000 ≤ sizeLine := by decide
  cases o with
  | none =>
    refine as_seq (as_if (at_test (ae_op (ae_var rfl (ae_non (ar_isN ⟨true, rfl, fun _ => as_ret (ae_bl rfl), (fun h => absurd (show true = false from h) (by decide))⟩))))))
  | some s =>
    obtain ⟨h1, ⟨h2, h2'⟩, h3, h4, h5⟩ := ho s rfl
    have res : descB (some s) f = (valsB s.vs f.xs && (ogapB s.vs.length s.gp f.xs && itsB s.its f.its)) := rfl
    refine as_seq (as_if (at_test (ae_op (ae_var rfl (ae_non (ar_isN ⟨false, rfl, (fun h => absurd (show false = true from h) (by decide)), fun _ => as_next ?_⟩))))))
    refine as_seq (as_if (at_not (at_b (ae_cb (aa_cons (ae_lcMap hvF (ai_zipK (aa_cons (ae_op (ae_var rfl (ae_int (ar_ixT rfl (aa_cons (ae_op (ae_var rfl (ae_int (ar_ixT rfl (aa_nil ⟨true, true, _, _, rfl, by rw [zpD_len, List.length_map]; omega, fun d hd => ?_, ?_⟩))))))))))))))))))
    · obtain ⟨i, a, b, ea, eb, rfl⟩ := zp_mem hd
      obtain ⟨v, hv, rfl⟩ := map_at ea
      obtain ⟨x, hx, rfl⟩ := map_at eb
      refine agv_tup rfl (agvs_cons (agv_name (by simp) (agvs_cons (agv_name (by simp) (agvs_nil (ae_call (aa_cons (ae_var rfl (aa_cons (ae_var rfl (aa_nil ⟨_, ⟨v, x, rfl, h3 v (List.mem_of_getElem? hv), rfl⟩, ?_, rfl⟩)))))))))))
      show Dt.bl (hasV v x) = Dt.bl (hasV (toV (vlD v)) x)
      rw [toV_vlD]
    rw [hv_zip]
    refine aa_nil (ac_all ?_)
    rw [show ((s.vs.zip f.xs).map fun p => hasV p.1 p.2).all id = valsB s.vs f.xs by rw [List.all_map]; rfl]
    cases hv : valsB s.vs f.xs with
    | false =>
      refine ⟨false, rfl, fun _ => as_ret (ae_bl ?_), (fun h => absurd (show true = false from h) (by decide))⟩
      rw [res, hv]
      rfl
    | true =>
      rw [hv, Bool.true_and] at res
      refine ⟨true, rfl, (fun h => absurd (show false = true from h) (by decide)), fun _ => as_next ?_⟩
      show AS K _ [.da s.d, .da f.d, .no, .no, .no, .no, .no, .no, .no, .no, .no, .no, .no] _ _
      refine as_seq (as_mono (N' := fun ρ => ogapB s.vs.length s.gp f.xs = true ∧ ∃ e2 e3 e4 e5 e6 e7 e8 e9 e10 e11 e12, ρ = [.da s.d, .da f.d, e2, e3, e4, e5, e6, e7, e8, e9, e10, e11, e12]) (R' := fun d _ => d = .bl (descB (some s) f)) ?_ ?_ fun d ρ h => h)
      · refine as_if (at_test (ae_op (ae_op (ae_var rfl (ae_int ?_)))))
        refine ar_ixT (d := ogD s.vs.length s.gp) rfl (ae_non ?_)
        cases he : s.gp with
        | none => exact ar_notN ⟨false, rfl, (fun h => absurd (show false = true from h) (by decide)), fun _ => as_next ⟨rfl, .no, .no, .no, .no, .no, .no, .no, .no, .no, .no, .no, rfl⟩⟩
        | some g =>
          have res2 : descB (some s) f = (gapB s.vs.length g f.xs && itsB s.its f.its) := by rw [res, he]; rfl
          have bad : ∀ i j, i < s.vs.length → j < s.vs.length → limB (g i j) (f.xs.getD i 0) (f.xs.getD j 0) = false → Dt.bl false = Dt.bl (descB (some s) f) := fun i j hi hj hf => by
            rw [res2]
            cases e : gapB s.vs.length g f.xs with
            | false => rfl
            | true => rw [gap_iff.mp e i j hi hj] at hf; cases hf
          refine ar_notN ⟨true, rfl, fun _ => ?_, (fun h => absurd (show true = false from h) (by decide))⟩
          refine as_for (ai_zipK (aa_cons (ae_op (ae_var rfl (ae_int ?_)))))
          refine ar_ixT (d := gpD s.vs.length g) (by show atI [.tup (s.vs.map vlD), ogD s.vs.length s.gp, .tup (s.its.map pcD)] 1 = _; rw [he]; rfl) ?_
          refine aa_cons (ae_op (ae_var rfl (ae_int (ar_ixT rfl (aa_nil ⟨true, true, _, _, rfl, fun i ρ => (∀ i' j, i' < i → i' < s.vs.length → j < s.vs.length → limB (g i' j) (f.xs.getD i' 0) (f.xs.getD j 0) = true) ∧ ∃ e2 e3 e4 e5 e6 e7 e8 e9 e10 e11 e12, ρ = [.da s.d, .da f.d, e2, e3, e4, e5, e6, e7, e8, e9, e10, e11, e12], ⟨fun i' j h => absurd h (Nat.not_lt_zero _), _, _, _, _, _, _, _, _, _, _, _, rfl⟩, ?_, ?_⟩)))))
          · rintro i d ρ hd ⟨hI, e2, e3, e4, e5, e6, e7, e8, e9, e10, e11, e12, rfl⟩
            obtain ⟨a, b, ea, eb, rfl⟩ := zp_at hd
            obtain ⟨i', hi', rfl⟩ := map_at ea
            obtain ⟨x, hx, rfl⟩ := map_at eb
            have li := (List.getElem?_eq_some_iff.mp hi').1
            rw [List.length_range] at li
            rw [List.getElem?_range li] at hi'
            cases hi'
            have gx : f.xs.getD i 0 = x := by rw [List.getD_eq_getElem?_getD, hx]; rfl
            refine ag_tup rfl (ags_cons (ag_name (ags_cons (ag_name (ags_nil ?_)))))
            refine as_for (ai_zipK (aa_cons (ae_var rfl (aa_cons (ae_op (ae_var rfl (ae_int (ar_ixT rfl (aa_nil ⟨true, true, _, _, rfl, fun k ρ => (∀ j, j < k → j < s.vs.length → limB (g i j) x (f.xs.getD j 0) = true) ∧ ∃ e2 e3 e4 e7 e8 e9 e10 e11 e12, ρ = [.da s.d, .da f.d, e2, e3, e4, .da (.tup ((List.range s.vs.length).map fun j => oD (g i j))), .da (.int x), e7, e8, e9, e10, e11, e12], ⟨fun j h => absurd h (Nat.not_lt_zero _), _, _, _, _, _, _, _, _, _, rfl⟩, ?_, ?_⟩)))))))))
            · rintro k d ρ hd ⟨hJ, e2, e3, e4, e7, e8, e9, e10, e11, e12, rfl⟩
              obtain ⟨a, b, ea, eb, rfl⟩ := zp_at hd
              obtain ⟨j, hj, rfl⟩ := map_at ea
              obtain ⟨y, hy, rfl⟩ := map_at eb
              have lj := (List.getElem?_eq_some_iff.mp hj).1
              rw [List.length_range] at lj
              rw [List.getElem?_range lj] at hj
              cases hj
              have gy : f.xs.getD k 0 = y := by rw [List.getD_eq_getElem?_getD, hy]; rfl
              have more : limB (g i k) x y = true → ∀ j, j < k + 1 → j < s.vs.length → limB (g i j) x (f.xs.getD j 0) = true := fun q j hj hj2 => by
                rcases (by omega : j < k ∨ j = k) with z | z
                · exact hJ j z hj2
                · rw [z, gy]; exact q
              refine ag_tup rfl (ags_cons (ag_name (ags_cons (ag_name (ags_nil ?_)))))
              refine as_if (at_and (at_test (ae_op (ae_var rfl (ae_non ?_)))))
              cases hg : g i k with
              | none =>
                refine ar_notN ⟨false, rfl, (fun h => absurd (show false = true from h) (by decide)), fun _ => ⟨(fun h => absurd (show false = true from h) (by decide)), fun _ => as_next ⟨more (by rw [hg]; rfl), _, _, _, _, _, _, _, _, _, rfl⟩⟩⟩
              | some z =>
                refine ar_notN ⟨true, rfl, fun _ => ?_, (fun h => absurd (show true = false from h) (by decide))⟩
                refine at_test (ae_op (ae_op (ae_var rfl (ae_var rfl (ar_I0i (ae_var rfl (ar_I0b ?_)))))))
                by_cases c : z < x - y
                · rw [decide_eq_true c]
                  refine ⟨true, rfl, fun _ => as_ret (ae_bl (bad i k li lj ?_)), (fun h => absurd (show true = false from h) (by decide))⟩
                  rw [gx, gy, hg]
                  exact decide_eq_false (by omega)
                · rw [decide_eq_false c]
                  refine ⟨false, rfl, (fun h => absurd (show false = true from h) (by decide)), fun _ => as_next ⟨more ?_, _, _, _, _, _, _, _, _, _, rfl⟩⟩
                  rw [hg]
                  exact decide_eq_true (by omega)
            · rintro ρ ⟨hJ, e2, e3, e4, e7, e8, e9, e10, e11, e12, rfl⟩
              rw [zpD_len, List.length_map, List.length_map, List.length_range] at hJ
              refine ⟨fun i2 j h1 h2 h3 => ?_, _, _, _, _, _, _, _, _, _, _, _, rfl⟩
              rcases (by omega : i2 < i ∨ i2 = i) with z | z
              · exact hI i2 j z h2 h3
              · subst z
                rw [gx]
                exact hJ j (by omega) h3
          · rintro ρ ⟨hI, e2, e3, e4, e5, e6, e7, e8, e9, e10, e11, e12, rfl⟩
            rw [zpD_len, List.length_map, List.length_map, List.length_range] at hI
            refine ⟨gap_iff.mpr fun i j hi hj => hI i j (by omega) hi hj, _, _, _, _, _, _, _, _, _, _, _, rfl⟩
      · rintro ρ ⟨hg, e2, e3, e4, e5, e6, e7, e8, e9, e10, e11, e12, rfl⟩
        rw [hg, Bool.true_and] at res
        have bad : ∀ (i : Nat) p x, s.its[i]? = some p → f.its[i]? = some x → pcsB 0 p x = false → Dt.bl false = Dt.bl (descB (some s) f) := fun i p x hp hx hf => by
          rw [res]
          cases e : itsB s.its f.its with
          | false => rfl
          | true => rw [its_iff.mp e i p x hp hx] at hf; cases hf
        refine as_seq (as_for (ai_zipK (aa_cons (ae_op (ae_var rfl (ae_int (ar_ixT rfl (aa_cons (ae_op (ae_var rfl (ae_int (ar_ixT rfl (aa_nil ⟨true, true, _, _, rfl, fun i ρ => (∀ (i' : Nat) p x, i' < i → s.its[i']? = some p → f.its[i']? = some x → pcsB 0 p x = true) ∧ ∃ e2 e3 e4 e5 e6 e7 e8 e9 e10 e11 e12, ρ = [.da s.d, .da f.d, e2, e3, e4, e5, e6, e7, e8, e9, e10, e11, e12], ⟨fun i' p x h => absurd h (Nat.not_lt_zero _), _, _, _, _, _, _, _, _, _, _, _, rfl⟩, ?_, ?_⟩)))))))))))))
        · rintro i d ρ hd ⟨hI, e2, e3, e4, e5, e6, e7, e8, e9, e10, e11, e12, rfl⟩
          obtain ⟨a, b, ea, eb, rfl⟩ := zp_at hd
          obtain ⟨ps, hps, rfl⟩ := map_at ea
          obtain ⟨ys, hys, rfl⟩ := map_at eb
          obtain ⟨y90, p90, ends, pm⟩ := h5 i ps ys hps hys
          refine ag_tup rfl (ags_cons (ag_name (ags_cons (ag_name (ags_nil ?_)))))
          refine as_seq (as_set (ae_int ?_))
          refine as_for (ai_tup (ae_var rfl ⟨_, rfl, fun k ρ => ∃ bk : Nat, EndsOk ys.length bk (ps.drop k) ∧ pcsB 0 ps ys = pcsB bk (ps.drop k) ys ∧ ∃ e5 e6 e7 e8 e9 e10 e11 e12, ρ = [.da s.d, .da f.d, .da (pcD ps), .da (.tup (ys.map Dt.int)), .da (.int (bk : Int)), e5, e6, e7, e8, e9, e10, e11, e12], ⟨0, ends, rfl, _, _, _, _, _, _, _, _, rfl⟩, ?_, ?_⟩))
          · rintro k d ρ hd ⟨bk, he, hp, e5, e6, e7, e8, e9, e10, e11, e12, rfl⟩
            obtain ⟨p, hpk, rfl⟩ := map_at hd
            have lk := (List.getElem?_eq_some_iff.mp hpk).1
            have dk : ps.drop k = p :: ps.drop (k + 1) := by
              rw [List.drop_eq_getElem_cons lk]
              have := (List.getElem?_eq_some_iff.mp hpk).2
              rw [this]
            rw [dk] at he hp
            obtain ⟨b1, b2⟩ := he
            have b3 := b2.le
            have hm := pm p (List.mem_of_getElem? hpk)
            refine ag_tup rfl (ags_cons (ag_name (ags_cons (ag_name (ags_nil ?_)))))
            refine as_seq (as_if (at_not (at_b (ae_cb (aa_cons (ae_lcMap (fun d => .bl (hasV p.2 (toJ d))) (ai_tup (ae_slT (ae_var rfl ⟨_, rfl, ao_some (ae_var rfl ⟨_, rfl, ao_some (ae_var rfl ⟨_, rfl, _, rfl, ?_, fun d hd => ?_, ?_⟩)⟩)⟩)))))))))
            · rw [cut_ab b1 (by rw [List.length_map]; exact b3), List.length_take, List.length_drop, List.length_map]
              omega
            · rw [cut_ab b1 (by rw [List.length_map]; exact b3)] at hd
              obtain ⟨z, hz, rfl⟩ := List.mem_map.mp (List.mem_of_mem_drop (List.mem_of_mem_take hd))
              refine agv_name (by simp) (ae_call (aa_cons (ae_var rfl (aa_cons (ae_var rfl (aa_nil ⟨_, ⟨p.2, z, rfl, hm, rfl⟩, rfl, rfl⟩))))))
            rw [cut_ab b1 (by rw [List.length_map]; exact b3), ← List.map_drop, ← List.map_take, List.map_map]
            rw [show ((ys.drop bk).take (p.1 - bk)).map ((fun d => Dt.bl (hasV p.2 (toJ d))) ∘ Dt.int) = (((ys.drop bk).take (p.1 - bk)).map (hasV p.2)).map Dt.bl by rw [List.map_map]; rfl]
            refine aa_nil (ac_all ?_)
            rw [show (((ys.drop bk).take (p.1 - bk)).map (hasV p.2)).all id = ((ys.drop bk).take (p.1 - bk)).all (hasV p.2) by rw [List.all_map]; rfl]
            have step : pcsB bk (p :: ps.drop (k + 1)) ys = (((ys.drop bk).take (p.1 - bk)).all (hasV p.2) && pcsB p.1 (ps.drop (k + 1)) ys) := rfl
            rw [step] at hp
            cases hh : ((ys.drop bk).take (p.1 - bk)).all (hasV p.2) with
            | false =>
              rw [hh] at hp
              exact ⟨false, rfl, fun _ => as_ret (ae_bl (bad i ps ys hps hys hp)), (fun h => absurd (show true = false from h) (by decide))⟩
            | true =>
              rw [hh, Bool.true_and] at hp
              refine ⟨true, rfl, (fun h => absurd (show false = true from h) (by decide)), fun _ => as_next ?_⟩
              refine as_set (ae_var rfl ⟨p.1, b2, hp, _, _, _, _, _, _, _, _, rfl⟩)
          · rintro ρ ⟨bk, he, hp, e5, e6, e7, e8, e9, e10, e11, e12, rfl⟩
            rw [List.length_map, List.drop_length] at hp
            refine ⟨fun i2 p x h1 h2 h3 => ?_, _, _, _, _, _, _, _, _, _, _, _, rfl⟩
            rcases (by omega : i2 < i ∨ i2 = i) with z | z
            · exact hI i2 p x z h2 h3
            · subst z
              rw [hps] at h2
              rw [hys] at h3
              cases h2
              cases h3
              exact hp
        · rintro ρ ⟨hI, e2, e3, e4, e5, e6, e7, e8, e9, e10, e11, e12, rfl⟩
          rw [zpD_len, List.length_map, List.length_map] at hI
          refine as_ret (ae_bl ?_)
          rw [res]
          exact congrArg Dt.bl (its_iff.mpr fun i p x h1 h2 => hI i p x (by have := (List.getElem?_eq_some_iff.mp h1).1; have := (List.getElem?_eq_some_iff.mp h2).1; omega) h1 h2).symm
end
end Sh
set_option Elab.async false
set_option linter.all false
set_option maxRecDepth 100000
set_option maxHeartbeats 4000000
/-! the values that are drawn -/
namespace Sh
open PySem PySem.Spec PyProof.Rows L2
theorem voV_ok {lo hi : Option Int} {m r : Int} {w : Vl} (h1 : 1 ≤ m) (h2 : m ≤ 10) (r0 : 0 ≤ r) (r1 : r < m) (hl : ∀ a, lo = some a → -900 ≤ a ∧ a ≤ 900) (hh : ∀ a, hi = some a → -900 ≤ a ∧ a ≤ 900) (e : voV lo hi m r = some w) : VlOk w := by
  have ne : m ≠ 0 := by omega
  have up : ∀ a, -900 ≤ a ∧ a ≤ 900 → -1000 ≤ upR r m a ∧ upR r m a ≤ 1000 := fun a h => by
    have := up_mod3 (x := a) (by omega : 0 < m) r0 r1
    omega
  have dn : ∀ a, -900 ≤ a ∧ a ≤ 900 → -1000 ≤ dnR r m a ∧ dnR r m a ≤ 1000 := fun a h => by
    have := dn_mod3 (x := a) (by omega : 0 < m) r0 r1
    omega
  unfold voV at e
  rw [if_neg ne] at e
  cases lo with
  | none =>
    cases hi with
    | none =>
      cases e
      exact ⟨⟨(by show 0 ≤ m; omega), h2⟩, fun z => absurd z ne, fun _ => ⟨r0, r1⟩, fun a h => (by cases h), fun a h => (by cases h), (by show -1000 ≤ r ∧ r ≤ 1000; omega)⟩
    | some b =>
      cases e
      exact ⟨⟨(by show 0 ≤ m; omega), h2⟩, fun z => absurd z ne, fun _ => ⟨r0, r1⟩, fun a h => (by cases h), fun a h => (by cases h; exact dn b (hh b rfl)), (by show -1000 ≤ r ∧ r ≤ 1000; omega)⟩
  | some a =>
    cases hi with
    | none =>
      cases e
      exact ⟨⟨(by show 0 ≤ m; omega), h2⟩, fun z => absurd z ne, fun _ => ⟨r0, r1⟩, fun x h => (by cases h; exact up a (hl a rfl)), fun x h => (by cases h), (by show -1000 ≤ r ∧ r ≤ 1000; omega)⟩
    | some b =>
      have e : (if dnR r m b ≤ upR r m a then (if upR r m a = dnR r m b then some (⟨some (upR r m a), some (upR r m a), 0, upR r m a⟩ : Vl) else none) else some ⟨some (upR r m a), some (dnR r m b), m, r⟩) = some w := e
      have ua := up a (hl a rfl)
      have db := dn b (hh b rfl)
      by_cases c1 : dnR r m b ≤ upR r m a
      · rw [if_pos c1] at e
        by_cases c2 : upR r m a = dnR r m b
        · rw [if_pos c2] at e
          cases e
          exact ⟨⟨Int.le_refl _, (by show (0 : Int) ≤ 10; decide)⟩, fun _ => ⟨rfl, rfl⟩, fun z => absurd rfl z, fun x h => (by cases h; exact ua), fun x h => (by cases h; exact ua), ua⟩
        · rw [if_neg c2] at e
          cases e
      · rw [if_neg c1] at e
        cases e
        exact ⟨⟨(by show 0 ≤ m; omega), h2⟩, fun z => absurd z ne, fun _ => ⟨r0, r1⟩, fun x h => (by cases h; exact ua), fun x h => (by cases h; exact db), (by show -1000 ≤ r ∧ r ≤ 1000; omega)⟩
theorem one_ok {a : Int} (h : -1000 ≤ a ∧ a ≤ 1000) : VlOk ⟨some a, some a, 0, a⟩ := ⟨⟨Int.le_refl _, (by show (0 : Int) ≤ 10; decide)⟩, fun _ => ⟨rfl, rfl⟩, fun z => absurd rfl z, fun x q => (by cases q; exact h), fun x q => (by cases q; exact h), h⟩
end Sh
set_option Elab.async false
set_option linter.all false
set_option maxRecDepth 100000
set_option maxHeartbeats 4000000
namespace Sh
open PySem PySem.Spec PyProof.Rows L2
abbrev s_l_value : Stmt := topS 31
abbrev N_l_value : List Str := ["_law_box_here", "_law_high", "_law_way", "_law_made", "_law_low", "_law_m"]
abbrev p_l_value : List Str := ["_law_box_here"]
theorem sc_l_value : FnScope N_l_value p_l_value (defScope s_l_value) := ⟨rfl, rfl, rfl, by decide +kernel, rfl, by decide +kernel, by decide +kernel⟩
abbrev s_l_member : Stmt := topS 32
abbrev N_l_member : List Str := ["_law_box_here", "_law_value_so", "_law_far", "_law_low", "_law_high", "_law_m", "_law_r", "_law_top"]
abbrev p_l_member : List Str := ["_law_box_here", "_law_value_so"]
theorem sc_l_member : FnScope N_l_member p_l_member (defScope s_l_member) := ⟨rfl, rfl, rfl, by decide +kernel, rfl, by decide +kernel, by decide +kernel⟩
def domVa (ds : List Dt) : Prop := ds = []
def postVa (ds : List Dt) (d : Dt) : Prop := ∃ v, d = vlD v ∧ VlOk v
def domMe (ds : List Dt) : Prop := ∃ v, ds = [vlD v] ∧ VlOk v
def postMe (ds : List Dt) (d : Dt) : Prop := ∃ x : Int, d = .int x
theorem ar_inTP {K : PySem.W.Frag} {Φ : Dt → Prop} {x : Int} {ns : List Int} (h : Φ (.bl (decide (x ∈ ns)))) : AR K (rIn K false) (.int x) (.tup (ns.map Dt.int)) Φ := by
  refine ar_inT (d := .int x) (x := .int x) rfl vs_intsP rfl flat_intsP ?_
  rw [inV_intsP]; exact h
theorem ae_ifNo {K : PySem.W.Frag} {ρ : List En} {Ψ : Dt → List En → Prop} {tt : TT} {i : Nat} {x : Int} (c : Bool) (ht : AT K tt ρ fun b ρ1 => b = c ∧ ρ1 = ρ) (hv : ρ[i]? = some (.da (.int x))) (h : Ψ (oD (if c = true then none else some x)) ρ) : AE K (tIf tt (tC .non) (tVar i)) ρ Ψ :=
  ae_if (at_mono ht fun b ρ1 ⟨e1, e2⟩ => by
    subst e1
    subst e2
    exact ⟨fun e => ae_non (by rw [if_pos e] at h; exact h), fun e => ae_var hv (by rw [if_neg (by rw [e]; decide)] at h; exact h)⟩)
section
variable {P : Program} {w : World} {K : PySem.W.Frag} {mg : Str → Option Value} {base : Heap}
theorem ok_l_value (bl : Blts mg) {g_l_take : Addr} {d_l_take : FuncData} (c_l_take : Cal P w K mg base 2 "_law_take" p_l_take (spB K 1 domT postT) g_l_take d_l_take) {g_l_of : Addr} {d_l_of : FuncData} (c_l_of : Cal P w K mg base 3 "_law_of" p_l_of (spB K 1 domO postO) g_l_of d_l_of) {g_l_settled : Addr} {d_l_settled : FuncData} (c_l_settled : Cal P w K mg base 1 "_law_settled" p_l_settled (spP K S_set) g_l_settled d_l_settled)  {f : Addr} {fd : FuncData} (F : Fun K "_law_value" "_law_value" s_l_value f fd) : FnOk P w K mg base CX0 4 f fd p_l_value (spB K 5 (domVa) (postVa)) := by
  refine okB F sc_l_value (fun ds h => ?_) (fun cdv A outer s H E hr ds h => ?_)
  · obtain ⟨rfl⟩ := h
    rfl
  obtain ⟨rfl⟩ := h
  refine ⟨_, (pss_cons (ps_par (i := 4) (j := 5) (by rfl) sc_l_value.nd rfl rfl (by decide) rfl rfl (pa_cons (pe_op op_sub (pe_call c_l_take.ok (hr.mono (by decide)) rfl c_l_take.mg c_l_take.kp c_l_take.bi .nil pass0 (pa_cons (pv 0) (pa_cons pe_int pa_nil))) pe_int) (pa_cons (pe_call c_l_of.ok (hr.mono (by decide)) rfl c_l_of.mg c_l_of.kp c_l_of.bi .nil pass0 (pa_cons (pv 0) (pa_cons (pe_lst (pa_cons pe_int (pa_cons pe_int (pa_cons pe_int (pa_cons pe_int (pa_cons pe_int (pa_cons pe_int (pa_cons pe_int pa_nil)))))))) pa_nil))) pa_nil)) (by rfl))
    (pss_cons (ps_set (i := 1) sc_l_value.nd rfl (by first | exact Or.inl rfl | exact Or.inr rfl) (pe_op op_add (pv 4) (pe_call c_l_of.ok (hr.mono (by decide)) rfl c_l_of.mg c_l_of.kp c_l_of.bi .nil pass0 (pa_cons (pv 0) (pa_cons (pe_lst (pa_cons pe_int (pa_cons pe_int (pa_cons pe_int (pa_cons pe_int (pa_cons pe_int (pa_cons pe_int pa_nil))))))) pa_nil)))))
    (pss_cons (ps_set (i := 2) sc_l_value.nd rfl (by first | exact Or.inl rfl | exact Or.inr rfl) (pe_call c_l_take.ok (hr.mono (by decide)) rfl c_l_take.mg c_l_take.kp c_l_take.bi .nil pass0 (pa_cons (pv 0) (pa_cons pe_int pa_nil))))
    (pss_cons (ps_set (i := 3) sc_l_value.nd rfl (by first | exact Or.inl rfl | exact Or.inr rfl) (pe_call c_l_settled.ok (hr.mono (by decide)) rfl c_l_settled.mg c_l_settled.kp c_l_settled.bi .nil pass0 (pa_cons (pe_ifExp (pt_cmpR op_in_seq (pv 2) (pe_tup (pa_cons pe_int (pa_cons pe_int pa_nil))) rfl) pe_non (pv 4)) (pa_cons (pe_ifExp (pt_cmpR op_in_seq (pv 2) (pe_tup (pa_cons pe_int (pa_cons pe_int pa_nil))) rfl) pe_non (pv 1)) (pa_cons (pv 5) (pa_cons (pe_call c_l_take.ok (hr.mono (by decide)) rfl c_l_take.mg c_l_take.kp c_l_take.bi .nil pass0 (pa_cons (pv 0) (pa_cons (pv 5) pa_nil))) pa_nil))))))
    (pss_one (ps_ret (pe_ifExp (pt_cmpR op_isN (pv 3) pe_non (nomark _)) (pe_tup (pa_cons (pv 4) (pa_cons (pv 4) (pa_cons pe_int (pa_cons (pv 4) pa_nil))))) (pv 3)))))))), fun b F => ?_⟩
  change AS K _ [En.bx _ _, En.no, En.no, En.no, En.no, En.no] _ _
  try simp only [cxOf_K, cxOf_w]
  have z9 : 9000 ≤ sizeLine := by decide
  refine as_seq (as_par (aa_cons (ae_op (ae_take rfl (ae_int ⟨_, rfl, by decide, by decide, F + 4, rfl, fun v0 a0 a1 => ?_⟩)))))
  refine ae_int (ar_I0i (aa_cons (ae_ofL rfl (ae_lst (aa_cons (ae_int (aa_cons (ae_int (aa_cons (ae_int (aa_cons (ae_int (aa_cons (ae_int (aa_cons (ae_int (aa_cons (ae_int (aa_nil ⟨(by show 7 ≤ sizeLine; omega), _, rfl, (by show 1 ≤ 7; decide), (by show 7 ≤ 1000; decide), F + 3, rfl, fun d hd => ?_⟩)))))))))))))))))))
  obtain ⟨m, rfl, m1, m6⟩ : ∃ m : Int, d = .int m ∧ 1 ≤ m ∧ m ≤ 6 := by
    have hd : d ∈ [Dt.int 1, Dt.int 1, Dt.int 1, Dt.int 2, Dt.int 3, Dt.int 4, Dt.int 6] := hd
    simp only [List.mem_cons, List.not_mem_nil, or_false] at hd
    rcases hd with rfl | rfl | rfl | rfl | rfl | rfl | rfl <;> exact ⟨_, rfl, by decide, by decide⟩
  clear hd
  refine aa_nil ⟨_, _, rfl, ?_⟩
  refine as_seq (as_set (ae_op (ae_var rfl (ae_ofL rfl (ae_lst (aa_cons (ae_int (aa_cons (ae_int (aa_cons (ae_int (aa_cons (ae_int (aa_cons (ae_int (aa_cons (ae_int (aa_nil ⟨(by show 6 ≤ sizeLine; omega), _, rfl, (by show 1 ≤ 6; decide), (by show 6 ≤ 1000; decide), F + 2, rfl, fun d hd => ?_⟩))))))))))))))))))
  obtain ⟨w, rfl, w0, w12⟩ : ∃ w : Int, d = .int w ∧ 0 ≤ w ∧ w ≤ 12 := by
    have hd : d ∈ [Dt.int 0, Dt.int 0, Dt.int 1, Dt.int 3, Dt.int 7, Dt.int 12] := hd
    simp only [List.mem_cons, List.not_mem_nil, or_false] at hd
    rcases hd with rfl | rfl | rfl | rfl | rfl | rfl <;> exact ⟨_, rfl, by decide, by decide⟩
  clear hd
  refine ar_I0i ?_
  refine as_seq (as_set (ae_take rfl (ae_int ⟨_, rfl, by decide, by decide, F + 1, rfl, fun y y0 y1 => ?_⟩)))
  refine as_seq (as_set (ae_call (aa_cons (ae_ifNo (x := v0 - 10) (decide (y ∈ [0, 1])) (at_test (ae_op (ae_var rfl (ae_tup (aa_cons (ae_int (aa_cons (ae_int (aa_nil ⟨(by show 2 ≤ sizeLine; omega), ar_inTP (ns := [0, 1]) ⟨_, rfl, rfl, rfl⟩⟩))))))))) rfl ?_))))
  refine aa_cons (ae_ifNo (x := v0 - 10 + w) (decide (y ∈ [1, 2])) (at_test (ae_op (ae_var rfl (ae_tup (aa_cons (ae_int (aa_cons (ae_int (aa_nil ⟨(by show 2 ≤ sizeLine; omega), ar_inTP (ns := [1, 2]) ⟨_, rfl, rfl, rfl⟩⟩))))))))) rfl ?_)
  generalize (decide (y ∈ [0, 1])) = b1
  generalize (decide (y ∈ [1, 2])) = b2
  refine aa_cons (ae_var rfl (aa_cons (ae_take rfl (ae_var rfl ⟨m, rfl, m1, by omega, F, rfl, fun r r0 r1 => aa_nil ⟨_, ⟨_, _, m, r, rfl, by omega, fun _ => ⟨r0, r1⟩, rfl⟩, ?_⟩⟩))))
  have ok : ∀ u, voV (if b1 = true then none else some (v0 - 10)) (if b2 = true then none else some (v0 - 10 + w)) m r = some u → VlOk u := fun u e => voV_ok m1 (by omega) r0 r1 (fun a h => by
    cases b1 with
    | true => cases h
    | false => cases h; omega) (fun a h => by
    cases b2 with
    | true => cases h
    | false => cases h; omega) e
  generalize voV (if b1 = true then none else some (v0 - 10)) (if b2 = true then none else some (v0 - 10 + w)) m r = o at ok
  refine as_ret (ae_if (at_test (ae_op (ae_var rfl (ae_non ?_)))))
  cases o with
  | none =>
    refine ar_isN ⟨true, rfl, fun _ => ?_, (fun h => absurd (show true = false from h) (by decide))⟩
    refine ae_tup (aa_cons (ae_var rfl (aa_cons (ae_var rfl (aa_cons (ae_int (aa_cons (ae_var rfl (aa_nil ⟨(by show 4 ≤ sizeLine; omega), ⟨⟨some (v0 - 10), some (v0 - 10), 0, v0 - 10⟩, rfl, one_ok (by omega)⟩, F, rfl, by omega⟩)))))))))
  | some u =>
    refine ar_isN ⟨false, rfl, (fun h => absurd (show false = true from h) (by decide)), fun _ => ae_var rfl ⟨⟨u, rfl, ok u rfl⟩, F, rfl, by omega⟩⟩
theorem ok_l_member (bl : Blts mg) {g_l_take : Addr} {d_l_take : FuncData} (c_l_take : Cal P w K mg base 2 "_law_take" p_l_take (spB K 1 domT postT) g_l_take d_l_take) {g_l_of : Addr} {d_l_of : FuncData} (c_l_of : Cal P w K mg base 3 "_law_of" p_l_of (spB K 1 domO postO) g_l_of d_l_of)  {f : Addr} {fd : FuncData} (F : Fun K "_law_member" "_law_member" s_l_member f fd) : FnOk P w K mg base CX0 4 f fd p_l_member (spB K 2 (domMe) (postMe)) := by
  refine okB F sc_l_member (fun ds h => ?_) (fun cdv A outer s H E hr ds h => ?_)
  · obtain ⟨v, rfl, hv⟩ := h
    rfl
  obtain ⟨v, rfl, hv⟩ := h
  refine ⟨_, (pss_cons (ps_asg (pv 1) (pg_tup rfl (pgs_cons (pg_name (i := 3) sc_l_member.nd rfl (by first | exact Or.inl rfl | exact Or.inr rfl)) (pgs_cons (pg_name (i := 4) sc_l_member.nd rfl (by first | exact Or.inl rfl | exact Or.inr rfl)) (pgs_cons (pg_name (i := 5) sc_l_member.nd rfl (by first | exact Or.inl rfl | exact Or.inr rfl)) (pgs_cons (pg_name (i := 6) sc_l_member.nd rfl (by first | exact Or.inl rfl | exact Or.inr rfl)) pgs_nil))))))
    (pss_cons (ps_if (pt_cmpR op_eq (pv 5) pe_int (nomark _)) (pss_one (ps_ret (pv 6))) pss_nil)
    (pss_cons (ps_set (i := 2) sc_l_member.nd rfl (by first | exact Or.inl rfl | exact Or.inr rfl) (pe_call c_l_take.ok (hr.mono (by decide)) rfl c_l_take.mg c_l_take.kp c_l_take.bi .nil pass0 (pa_cons (pv 0) (pa_cons pe_int pa_nil))))
    (pss_cons (ps_if (pt_cmpR op_isN (pv 3) pe_non (nomark _)) (pss_cons (ps_set (i := 7) sc_l_member.nd rfl (by first | exact Or.inl rfl | exact Or.inr rfl) (pe_ifExp (pt_cmpR op_isN (pv 4) pe_non (nomark _)) (pv 6) (pv 4)))
    (pss_one (ps_ret (pe_op op_add (pe_op op_sub (pv 7) (pe_op op_mul (pv 5) (pv 2))) (pe_op op_mul (pe_op op_mul (pv 5) (pe_call c_l_take.ok (hr.mono (by decide)) rfl c_l_take.mg c_l_take.kp c_l_take.bi .nil pass0 (pa_cons (pv 0) (pa_cons pe_int pa_nil)))) (pe_callTy call_int1 rfl bl.int (by decide +kernel) (pa_cons (pe_cmpR op_isN (pv 4) pe_non (nomark _)) pa_nil))))))) pss_nil)
    (pss_one (ps_ret (pe_ifExp (PW.pt (pw_or (pt_cmpR op_isN (pv 4) pe_non (nomark _)) (pw_or1 (pt_cmpR op_le (pe_op op_add (pv 3) (pe_op op_mul (pv 5) (pv 2))) (pv 4) (nomark _))))) (pe_op op_add (pv 3) (pe_op op_mul (pv 5) (pv 2))) (pe_call c_l_of.ok (hr.mono (by decide)) rfl c_l_of.mg c_l_of.kp c_l_of.bi .nil pass0 (pa_cons (pv 0) (pa_cons (pe_lst (pa_cons (pv 3) (pa_cons (pv 4) pa_nil))) pa_nil)))))))))), fun b F => ?_⟩
  change AS K _ [En.bx _ _, En.da _, En.no, En.no, En.no, En.no, En.no, En.no] _ _
  try simp only [cxOf_K, cxOf_w]
  have z9 : 9000 ≤ sizeLine := by decide
  obtain ⟨lo, hi, m, r⟩ := v
  obtain ⟨⟨m0, m10⟩, _, _, hlo, hhi, hr⟩ := hv
  have m0 : 0 ≤ m := m0
  have m10 : m ≤ 10 := m10
  refine as_seq (as_asg (ae_var rfl ?_))
  refine ag_tup rfl (ags_cons (ag_name (ags_cons (ag_name (ags_cons (ag_name (ags_cons (ag_name (ags_nil ?_)))))))))
  refine as_seq (as_if (at_test (ae_op (ae_var rfl (ae_int (ar_eq3 ⟨rfl, rfl, rfl⟩ ?_))))))
  by_cases h0 : m = 0
  · rw [decide_eq_true (show V.int m = V.int 0 by rw [h0])]
    refine ⟨true, rfl, fun _ => as_ret (ae_var rfl ⟨⟨r, rfl⟩, F + 2, rfl, by omega⟩), (fun h => absurd (show true = false from h) (by decide))⟩
  rw [decide_eq_false (fun z => h0 (by injection z))]
  refine ⟨false, rfl, (fun h => absurd (show false = true from h) (by decide)), fun _ => as_next ?_⟩
  refine as_seq (as_set (ae_take rfl (ae_int ⟨_, rfl, by decide, by decide, F + 1, rfl, fun t t0 t1 => ?_⟩)))
  cases lo with
  | none =>
    refine as_seq (as_if (at_test (ae_op (ae_var rfl (ae_non (ar_isN ⟨true, rfl, fun _ => ?_, (fun h => absurd (show true = false from h) (by decide))⟩))))))
    cases hi with
    | none =>
      refine as_seq (as_set (ae_if (at_test (ae_op (ae_var rfl (ae_non (ar_isN ⟨true, rfl, fun _ => ae_var rfl ?_, (fun h => absurd (show true = false from h) (by decide))⟩)))))))
      refine as_ret (ae_op (ae_op (ae_var rfl (ae_op (ae_var rfl (ae_var rfl (ar_Ii (C := CMul) (.inl ⟨by omega, by omega⟩) (ar_I0i (ae_op (ae_op (ae_var rfl (ae_take rfl (ae_int ⟨_, rfl, by decide, by decide, F, rfl, fun g g0 g1 => ?_⟩)))))))))))))
      refine ar_Ii (C := CMul) (.inl ⟨by omega, by omega⟩) (ae_cb (aa_cons (ae_op (ae_var rfl (ae_non (ar_isN (aa_nil (ac_intB (ar_Ii (C := CMul) (.inr (b01s _)) (ar_I0i ⟨⟨_, rfl⟩, F, rfl, by omega⟩))))))))))
    | some y =>
      refine as_seq (as_set (ae_if (at_test (ae_op (ae_var rfl (ae_non (ar_isN ⟨false, rfl, (fun h => absurd (show false = true from h) (by decide)), fun _ => ae_var rfl ?_⟩)))))))
      refine as_ret (ae_op (ae_op (ae_var rfl (ae_op (ae_var rfl (ae_var rfl (ar_Ii (C := CMul) (.inl ⟨by omega, by omega⟩) (ar_I0i (ae_op (ae_op (ae_var rfl (ae_take rfl (ae_int ⟨_, rfl, by decide, by decide, F, rfl, fun g g0 g1 => ?_⟩)))))))))))))
      refine ar_Ii (C := CMul) (.inl ⟨by omega, by omega⟩) (ae_cb (aa_cons (ae_op (ae_var rfl (ae_non (ar_isN (aa_nil (ac_intB (ar_Ii (C := CMul) (.inr (b01s _)) (ar_I0i ⟨⟨_, rfl⟩, F, rfl, by omega⟩))))))))))
  | some x =>
    refine as_seq (as_if (at_test (ae_op (ae_var rfl (ae_non (ar_isN ⟨false, rfl, (fun h => absurd (show false = true from h) (by decide)), fun _ => as_next ?_⟩))))))
    cases hi with
    | none =>
      refine as_ret (ae_if (at_or (at_test (ae_op (ae_var rfl (ae_non (ar_isN ⟨true, rfl, fun _ => ⟨fun _ => ?_, (fun h => absurd (show true = false from h) (by decide))⟩, (fun h => absurd (show true = false from h) (by decide))⟩)))))))
      refine ae_op (ae_var rfl (ae_op (ae_var rfl (ae_var rfl (ar_Ii (C := CMul) (.inl ⟨by omega, by omega⟩) (ar_I0i ⟨⟨_, rfl⟩, F + 1, rfl, by omega⟩))))))
    | some y =>
      refine as_ret (ae_if (at_or (at_test (ae_op (ae_var rfl (ae_non (ar_isN ⟨false, rfl, (fun h => absurd (show false = true from h) (by decide)), fun _ => ?_⟩)))))))
      refine at_test (ae_op (ae_op (ae_var rfl (ae_op (ae_var rfl (ae_var rfl (ar_Ii (C := CMul) (.inl ⟨by omega, by omega⟩) (ar_I0i (ae_var rfl (ar_I0b ⟨_, rfl, fun _ => ?_, fun _ => ?_⟩))))))))))
      · refine ae_op (ae_var rfl (ae_op (ae_var rfl (ae_var rfl (ar_Ii (C := CMul) (.inl ⟨by omega, by omega⟩) (ar_I0i ⟨⟨_, rfl⟩, F + 1, rfl, by omega⟩))))))
      · refine ae_ofL rfl (ae_lst (aa_cons (ae_var rfl (aa_cons (ae_var rfl (aa_nil ⟨(by show 2 ≤ sizeLine; omega), _, rfl, (by show 1 ≤ 2; decide), (by show 2 ≤ 1000; decide), F, rfl, fun d hd => ?_⟩))))))
        have hd : d ∈ [Dt.int x, Dt.int y] := hd
        simp only [List.mem_cons, List.not_mem_nil, or_false] at hd
        rcases hd with rfl | rfl
        · exact ⟨⟨_, rfl⟩, F, rfl, by omega⟩
        · exact ⟨⟨_, rfl⟩, F, rfl, by omega⟩
end
abbrev s_l_gaps : Stmt := topS 33
abbrev N_l_gaps : List Str := ["_law_box_here", "_law_many_so", "_law_found", "_law_i", "_law_row", "_law_j"]
abbrev p_l_gaps : List Str := ["_law_box_here", "_law_many_so"]
theorem sc_l_gaps : FnScope N_l_gaps p_l_gaps (defScope s_l_gaps) := ⟨rfl, rfl, rfl, by decide +kernel, rfl, by decide +kernel, by decide +kernel⟩
def gOf (rs : List (List (Option Int))) (i j : Nat) : Option Int := match rs[i]? with
  | some r => (match r[j]? with
    | some o => o
    | none => none)
  | none => none
theorem gOf_at {rs : List (List (Option Int))} {i j : Nat} {r : List (Option Int)} {o : Option Int} (h1 : rs[i]? = some r) (h2 : r[j]? = some o) : gOf rs i j = o := by
  unfold gOf
  rw [h1]
  show (match r[j]? with | some o => o | none => none) = o
  rw [h2]
theorem gp_of {n : Nat} {rs : List (List (Option Int))} (h1 : rs.length = n) (h2 : ∀ r, r ∈ rs → r.length = n) : Dt.tup (rs.map fun r => .tup (r.map oD)) = gpD n (gOf rs) := by
  unfold gpD
  refine congrArg Dt.tup (List.ext_getElem? fun i => ?_)
  rcases Nat.lt_or_ge i n with c | c
  · have e : rs[i]? = some rs[i] := List.getElem?_eq_getElem (by omega)
    rw [List.getElem?_map, e, List.getElem?_map, List.getElem?_range c]
    refine congrArg some (congrArg Dt.tup (List.ext_getElem? fun j => ?_))
    have l := h2 _ (List.mem_of_getElem? e)
    rcases Nat.lt_or_ge j n with d | d
    · have e2 : rs[i][j]? = some (rs[i])[j] := List.getElem?_eq_getElem (by omega)
      rw [List.getElem?_map, e2, List.getElem?_map, List.getElem?_range d]
      show some (oD _) = some (oD (gOf rs i j))
      rw [gOf_at e e2]
    · rw [List.getElem?_eq_none (by rw [List.length_map]; omega), List.getElem?_eq_none (by rw [List.length_map, List.length_range]; exact d)]
  · rw [List.getElem?_eq_none (by rw [List.length_map]; omega), List.getElem?_eq_none (by rw [List.length_map, List.length_range]; exact c)]
theorem cutT {l : List Dt} {n : Nat} : cutD l none (some (n : Int)) = l.take n := by
  unfold cutD
  rw [HT.sIx_none, HT.sIx_nat, List.drop_zero, Nat.sub_zero]
  rcases Nat.le_total n l.length with h | h
  · rw [Nat.min_eq_left h]
  · rw [Nat.min_eq_right h, List.take_of_length_le (Nat.le_refl _), List.take_of_length_le h]
theorem cutE {l : List Dt} {n : Nat} (h : n ≤ l.length) : cutD l (some (n : Int)) none = l.drop n := by
  unfold cutD
  rw [HT.sIx_none, HT.sIx_nat, Nat.min_eq_left h, List.take_of_length_le (by rw [List.length_drop]; exact Nat.le_refl _)]
theorem rg_at {n i : Nat} {f : Nat → Dt} {d : Dt} (h : ((List.range n).map f)[i]? = some d) : i < n ∧ d = f i := by
  have l := (List.getElem?_eq_some_iff.mp h).1
  rw [List.length_map, List.length_range] at l
  rw [List.getElem?_map, List.getElem?_range l] at h
  exact ⟨l, by cases h; rfl⟩
def domGp (ds : List Dt) : Prop := ∃ n : Nat, ds = [.int (n : Int)] ∧ n ≤ 4
def postGp (ds : List Dt) (d : Dt) : Prop := ∀ n : Nat, ds = [.int (n : Int)] → ∃ g, d = gpD n g ∧ ∀ i, i < n → g i i = some 0
section
variable {P : Program} {w : World} {K : PySem.W.Frag} {mg : Str → Option Value} {base : Heap}
theorem ok_l_gaps (bl : Blts mg) {g_l_take : Addr} {d_l_take : FuncData} (c_l_take : Cal P w K mg base 2 "_law_take" p_l_take (spB K 1 domT postT) g_l_take d_l_take) {g_l_of : Addr} {d_l_of : FuncData} (c_l_of : Cal P w K mg base 3 "_law_of" p_l_of (spB K 1 domO postO) g_l_of d_l_of)  {f : Addr} {fd : FuncData} (F : Fun K "_law_gaps" "_law_gaps" s_l_gaps f fd) : FnOk P w K mg base CX0 4 f fd p_l_gaps (spB K 32 (domGp) (postGp)) := by
  refine okB F sc_l_gaps (fun ds h => ?_) (fun cdv A outer s H E hr ds h => ?_)
  · obtain ⟨n, rfl, n4⟩ := h
    rfl
  obtain ⟨n, rfl, n4⟩ := h
  refine ⟨_, (pss_cons (ps_set (i := 2) sc_l_gaps.nd rfl (by first | exact Or.inl rfl | exact Or.inr rfl) (pe_lst pa_nil))
    (pss_cons (ps_for PassesOwn.never rfl (pi_range1 rfl bl.range (pa_cons (pv 1) pa_nil)) (pg_name (i := 3) sc_l_gaps.nd rfl (by first | exact Or.inl rfl | exact Or.inr rfl)) (pss_cons (ps_setLc (i := 4) (own := [("_law_j", 5)]) (g := (gName 5)) (te := (tCall (spB K 1 domO postO) [] E0 (tCons (tVar 0) (tCons (tLst (tCons (tC .non) (tCons (tC .non) (tCons (tOp (rI0 fun i j => .int (i - j)) (tCall (spB K 1 domT postT) [] E0 (tCons (tVar 0) (tCons (tC (.int 13)) tNil))) (tC (.int 3))) tNil)))) tNil)))) (tt := tYes) rfl sc_l_gaps.nd rfl rfl (sw_true rfl rfl rfl (by decide +kernel)) (pi_range1 rfl bl.range (pa_cons (pv 1) pa_nil)) (blkOk_by (N := N_l_gaps) (sc := defScope s_l_gaps) (by decide +kernel)) (fun _ _ _ _ _ => (pg_name (i := 5) sc_l_gaps.nd rfl (by first | exact Or.inl rfl | exact Or.inr rfl))) (fun _ _ _ _ _ => pts_nil) (fun _ _ _ _ _ => (pe_call c_l_of.ok (hr.mono (by decide)) rfl c_l_of.mg c_l_of.kp c_l_of.bi .nil pass0 (pa_cons (pv 0) (pa_cons (pe_lst (pa_cons pe_non (pa_cons pe_non (pa_cons (pe_op op_sub (pe_call c_l_take.ok (hr.mono (by decide)) rfl c_l_take.mg c_l_take.kp c_l_take.bi .nil pass0 (pa_cons (pv 0) (pa_cons pe_int pa_nil))) pe_int) pa_nil)))) pa_nil)))))
    (pss_one (ps_expr (pe_bm PySem.F.plainAttrs_list PySem.F.slot_list_append PySem.F.type_list_append mt_append (pv 2) (pa_cons (pe_callTy call_tuple_of rfl bl.tuple (by decide +kernel) (pa_cons (pe_op op_cat (pe_op op_cat (pe_slice sl_list (pv 4) po_none (po_some (pv 3))) (pe_lst (pa_cons pe_int pa_nil))) (pe_slice sl_list (pv 4) (po_some (pe_op op_add (pv 3) pe_int)) po_none)) pa_nil)) pa_nil))))))
    (pss_one (ps_ret (pe_callTy call_tuple_of rfl bl.tuple (by decide +kernel) (pa_cons (pv 2) pa_nil)))))), fun b F => ?_⟩
  change AS K _ [En.bx _ _, En.da _, En.no, En.no, En.no, En.no] _ _
  try simp only [cxOf_K, cxOf_w]
  have z9 : 9000 ≤ sizeLine := by decide
  have rg : ∀ k : Nat, (rgD 0 ((k : Nat) : Int).toNat) = (List.range k).map fun i => Dt.int ((i : Nat) : Int) := fun k => by
    unfold rgD
    rw [Int.toNat_natCast]
    exact List.map_congr_left fun i _ => by rw [Int.zero_add]
  have rl : ∀ k : Nat, ((List.range k).map fun i => Dt.int ((i : Nat) : Int)).length = k := fun k => by rw [List.length_map, List.length_range]
  refine as_seq (as_own (aa_nil ⟨Nat.zero_le _, ?_⟩))
  refine as_seq (as_for (ai_rng1 (aa_cons (ae_var rfl (aa_nil ⟨_, rfl, by omega, by omega, ?_⟩)))))
  rw [rg]
  refine ⟨fun i ρ => ∃ (f : Nat) (rs : List (List (Option Int))) (e3 e4 e5 : En), ρ = [.bx b f, .da (.int (n : Int)), .own (rs.map fun r => .tup (r.map oD)), e3, e4, e5] ∧ F + 8 * (n - i) ≤ f ∧ rs.length = i ∧ (∀ r, r ∈ rs → r.length = n) ∧ ∀ (k : Nat) r, rs[k]? = some r → r[k]? = some (some 0), ⟨F + 32, [], .no, .no, .no, rfl, by omega, rfl, fun r h => (by cases h), fun k r h => by simp at h⟩, ?_, ?_⟩
  · rintro i d ρ hd ⟨f, rs, e3, e4, e5, rfl, hf, hl, hr, hk⟩
    obtain ⟨lt, rfl⟩ := rg_at hd
    obtain ⟨f1, rfl⟩ : ∃ f1, f = f1 + 8 := ⟨f - 8, by omega⟩
    refine ag_name (as_seq (as_set (ae_lc (ai_rng1 (aa_cons (ae_var rfl (aa_nil ⟨_, rfl, by omega, by omega, ?_⟩)))))))
    rw [rg]
    refine ⟨fun j acc ρ => ∃ (f2 : Nat) (xs : List (Option Int)), ρ = [.bx b f2, .da (.int (n : Int)), .own (rs.map fun r => .tup (r.map oD)), .da (.int ((i : Nat) : Int)), e4, .no] ∧ f1 + 2 * (4 - j) ≤ f2 ∧ acc = xs.map oD ∧ xs.length = j, ⟨f1 + 8, [], rfl, by omega, rfl, rfl⟩, ?_, ?_⟩
    · rintro j d acc ρ hd ⟨f2, xs, rfl, hf2, rfl, hx⟩
      obtain ⟨lt2, rfl⟩ := rg_at hd
      obtain ⟨f3, rfl⟩ : ∃ f3, f2 = f3 + 2 := ⟨f2 - 2, by omega⟩
      refine agv_name (by simp) (at_yes ⟨fun _ => ?_, fun z => nomatch z⟩)
      refine ae_ofL rfl (ae_lst (aa_cons (ae_non (aa_cons (ae_non (aa_cons (ae_op (ae_take rfl (ae_int ⟨_, rfl, by decide, by decide, f3 + 1, rfl, fun v v0 v1 => ?_⟩)))))))))
      refine ae_int (ar_I0i (aa_nil ⟨(by show 3 ≤ sizeLine; omega), _, rfl, (by show 1 ≤ 3; decide), (by show 3 ≤ 1000; decide), f3, rfl, fun d hd => ?_⟩))
      obtain ⟨o, rfl⟩ : ∃ o, d = oD o := by
        have hd : d ∈ [Dt.non, Dt.non, Dt.int (v - 3)] := hd
        simp only [List.mem_cons, List.not_mem_nil, or_false] at hd
        rcases hd with rfl | rfl | rfl
        · exact ⟨none, rfl⟩
        · exact ⟨none, rfl⟩
        · exact ⟨some _, rfl⟩
      exact ⟨by rw [List.length_map]; omega, f3, xs ++ [o], rfl, by omega, by rw [List.map_append]; rfl, by rw [List.length_append, hx]; rfl⟩
    rintro acc ρ ⟨f2, xs, rfl, hf2, rfl, hx⟩
    rw [rl] at hf2 hx
    refine ⟨fun q hq lt => ?_, ?_⟩
    · obtain rfl : q = 5 := by simpa using hq
      rfl
    refine as_append ?_ ⟨_, rfl⟩
    refine ae_cb (aa_cons (ae_op (ae_op (ae_slD (ae_var rfl ⟨_, rfl, ao_none (ao_some (ae_var rfl ⟨_, rfl, ?_⟩))⟩)))))
    rw [cutT]
    refine ae_lst (aa_cons (ae_int (aa_nil ⟨(by show 1 ≤ sizeLine; omega), ar_catL (by rw [List.length_take, List.length_map]; show _ + 1 ≤ sizeLine; omega) ?_⟩)))
    refine ae_slD (ae_var rfl ⟨_, rfl, ao_some (ae_op (ae_var rfl (ae_int (ar_I0i ⟨_, rfl, ao_none ?_⟩))))⟩)
    rw [show ((i : Nat) : Int) + 1 = ((i + 1 : Nat) : Int) by omega, cutE (by rw [List.length_map]; omega)]
    refine ar_catL (by rw [List.length_append, List.length_take, List.length_drop, List.length_map]; show _ + 1 + _ ≤ sizeLine; omega) (aa_nil (ac_tupL ?_))
    refine ⟨_, rfl, by rw [List.length_map]; omega, f2, rs ++ [xs.take i ++ [some 0] ++ xs.drop (i + 1)], .da (.int ((i : Nat) : Int)), .da (.lst (xs.map oD)), .no, ?_, by omega, by rw [List.length_append, hl]; rfl, fun r h => ?_, fun k r h => ?_⟩
    · rw [List.map_append, List.map_cons, List.map_append, List.map_append, List.map_take, List.map_drop]
      rfl
    · rcases List.mem_append.mp h with h | h
      · exact hr r h
      · rw [List.mem_singleton.mp h, List.length_append, List.length_append, List.length_take, List.length_drop]
        show _ + 1 + _ = n
        omega
    · rcases Nat.lt_or_ge k rs.length with c | c
      · rw [List.getElem?_append_left c] at h
        exact hk k r h
      · have ek : k = rs.length := by
          have := (List.getElem?_eq_some_iff.mp h).1
          rw [List.length_append] at this
          have e1 : ([xs.take i ++ [some 0] ++ xs.drop (i + 1)] : List (List (Option Int))).length = 1 := rfl
          omega
        subst ek
        rw [List.getElem?_append_right (Nat.le_refl _), Nat.sub_self] at h
        cases h
        rw [hl, List.append_assoc, List.getElem?_append_right (by rw [List.length_take]; omega), List.length_take, show i - min i xs.length = 0 by omega]
        rfl
  · rintro ρ ⟨f, rs, e3, e4, e5, rfl, hf, hl, hr, hk⟩
    rw [rl] at hf hl
    refine as_ret (ae_frz (i := 2) rfl (ae_cb (aa_cons (ae_var rfl (aa_nil (ac_tupL ⟨fun n' e => ?_, f, rfl, by omega⟩))))))
    have en : n' = n := by injection e with e; injection e with e; omega
    subst en
    refine ⟨gOf rs, gp_of hl hr, fun i hi => ?_⟩
    have e1 : rs[i]? = some rs[i] := List.getElem?_eq_getElem (by omega)
    exact gOf_at e1 (hk i _ e1)
end
end Sh
set_option Elab.async false
set_option linter.all false
set_option maxRecDepth 100000
set_option maxHeartbeats 4000000
/-! a walk whose turn may be left by continue -/
namespace Sh
open PySem PySem.Spec PyProof.Rows L2
section
variable {K : PySem.W.Frag} {ρ : List En} {N C : List En → Prop} {R : Dt → List En → Prop}
def ASC (K : PySem.W.Frag) (ts : TS) (ρ : List En) (N C : List En → Prop) (R : Dt → List En → Prop) : Prop := ∀ B σ G H, Mt K B ρ σ G H → ∀ D : Ends,
  (∀ σ' ρ' G' H', Mt K B ρ' σ' G' H' → Same G G' → Tr B H H' → N ρ' → D.nx σ' H') →
  (∀ σ' ρ' G' H', Mt K B ρ' σ' G' H' → Same G G' → Tr B H H' → C ρ' → D.ct σ' H') →
  (∀ v d σ' ρ' G' H', Mt K B ρ' σ' G' H' → Same G G' → Tr B H H' → RD K G' d v → R d ρ' → D.rt v H') → ts D σ H
theorem asc_as {ts : TS} (h : AS K ts ρ N R) : ASC K ts ρ N C R := fun B σ G H m D qn _ qr => h B σ G H m D qn qr
theorem asc_seq {a b : TS} (h : ASC K a ρ (fun ρ1 => ASC K b ρ1 N C R) C R) : ASC K (tSeq a b) ρ N C R := fun B σ G H m D qn qc qr =>
  h B σ G H m { D with nx := b D } (fun σ1 ρ1 G1 H1 m1 s1 t1 h1 => h1 B σ1 G1 H1 m1 D (fun σ' ρ' G' H' m' s t n => qn σ' ρ' G' H' m' (s1.trans s) (t1.trans t) n) (fun σ' ρ' G' H' m' s t n => qc σ' ρ' G' H' m' (s1.trans s) (t1.trans t) n) fun v d σ' ρ' G' H' m' s t r n => qr v d σ' ρ' G' H' m' (s1.trans s) (t1.trans t) r n) qc qr
theorem asc_cont (h : C ρ) : ASC K tCont ρ N C R := fun B σ G H m D _ qc _ => qc σ ρ G H m (Same.refl _) Tr.refl h
theorem asc_if {tt : TT} {ta tb : TS} (h : AT K tt ρ fun b ρ1 => (b = true → ASC K ta ρ1 N C R) ∧ (b = false → ASC K tb ρ1 N C R)) : ASC K (tIfS tt ta tb) ρ N C R := fun B σ G H m D qn qc qr =>
  h B σ G H m _ fun b ρ1 G1 H1 m1 s1 t1 h1 => by
    cases b
    · rw [if_neg (by decide)]
      exact h1.2 rfl B σ G1 H1 m1 D (fun σ' ρ' G' H' m' s t n => qn σ' ρ' G' H' m' (s1.trans s) (t1.trans t) n) (fun σ' ρ' G' H' m' s t n => qc σ' ρ' G' H' m' (s1.trans s) (t1.trans t) n) fun v d σ' ρ' G' H' m' s t r n => qr v d σ' ρ' G' H' m' (s1.trans s) (t1.trans t) r n
    · rw [if_pos rfl]
      exact h1.1 rfl B σ G1 H1 m1 D (fun σ' ρ' G' H' m' s t n => qn σ' ρ' G' H' m' (s1.trans s) (t1.trans t) n) (fun σ' ρ' G' H' m' s t n => qc σ' ρ' G' H' m' (s1.trans s) (t1.trans t) n) fun v d σ' ρ' G' H' m' s t r n => qr v d σ' ρ' G' H' m' (s1.trans s) (t1.trans t) r n
theorem as_forC {wi : TI} {g : TG} {tb : TS} (h : AI K wi ρ fun l ρ1 => ∃ I : Nat → List En → Prop, I 0 ρ1 ∧ (∀ i d ρ2, l[i]? = some d → I i ρ2 → AG K g d ρ2 fun ρ3 => ASC K tb ρ3 (I (i + 1)) (I (i + 1)) R) ∧ ∀ ρ2, I l.length ρ2 → N ρ2) : AS K (tFor wi g tb) ρ N R := fun B σ G H m D qn qr =>
  h B σ G H m _ fun J l ρ1 G1 H1 m1 s1 t1 w ⟨I, i0, is, ie⟩ => by
    refine for_it w.walk (fun i σ2 H2 => ∃ ρ2 G2, Mt K B ρ2 σ2 G2 H2 ∧ Same G1 G2 ∧ Tr B H1 H2 ∧ I i ρ2) ⟨ρ1, G1, m1, Same.refl _, Tr.refl, i0⟩ (fun i σ2 H2 _ ⟨ρ2, G2, m2, s2, t2, p⟩ => s2.trans m2.sub) ?_ ?_
    · rintro i x σ2 H2 H3 hi ⟨ρ2, G2, m2, s2, t2, p⟩ y
      obtain ⟨G3, d, n3, hd, rd⟩ := y G2 s2 m2.sub
      refine is i d ρ2 hd p B σ2 G3 H3 (m2.nw n3) x rd _ fun σ4 ρ4 G4 H4 m4 s4 t4 h4 => ?_
      have to : ∀ σ5 ρ5 G5 H5, Mt K B ρ5 σ5 G5 H5 → Same G4 G5 → Tr B H4 H5 → I (i + 1) ρ5 → ∃ ρ2 G2, Mt K B ρ2 σ5 G2 H5 ∧ Same G1 G2 ∧ Tr B H1 H5 ∧ I (i + 1) ρ2 := fun σ5 ρ5 G5 H5 m5 s5 t5 p5 => ⟨ρ5, G5, m5, (((s2.trans n3.g).trans s4).trans s5), (((t2.trans (Tr.same n3.h)).trans t4).trans t5), p5⟩
      refine h4 B σ4 G4 H4 m4 _ to to ?_
      exact fun v d σ5 ρ5 G5 H5 m5 s5 t5 r5 p5 => qr v d σ5 ρ5 G5 H5 m5 ((((s1.trans s2).trans n3.g).trans s4).trans s5) ((((t1.trans t2).trans (Tr.same n3.h)).trans t4).trans t5) r5 p5
    · rintro σ2 H2 ⟨ρ2, G2, m2, s2, t2, p⟩
      exact qn σ2 ρ2 G2 H2 m2 (s1.trans s2) (t1.trans t2) (ie ρ2 p)
end
end Sh
set_option Elab.async false
set_option linter.all false
set_option maxRecDepth 100000
set_option maxHeartbeats 4000000
namespace Sh
open PySem PySem.Spec PyProof.Rows L2
abbrev s_l_pieces : Stmt := topS 34
abbrev N_l_pieces : List Str := ["_law_box_here", "_law_length", "_law_found", "_law_spot", "_law_value_so"]
abbrev p_l_pieces : List Str := ["_law_box_here", "_law_length"]
theorem sc_l_pieces : FnScope N_l_pieces p_l_pieces (defScope s_l_pieces) := ⟨rfl, rfl, rfl, by decide +kernel, rfl, by decide +kernel, by decide +kernel⟩
theorem EndsOk.snoc {L M e : Nat} {v : Vl} (h1 : L ≤ e) (h2 : e ≤ M) : ∀ {ps : List (Nat × Vl)} {b : Nat}, EndsOk L b ps → EndsOk M b (ps ++ [(e, v)])
  | [], _, h => ⟨Nat.le_trans h h1, h2⟩
  | _ :: _, _, ⟨h, r⟩ => ⟨h, EndsOk.snoc h1 h2 r⟩
theorem EndsOk.mono {L M : Nat} (h1 : L ≤ M) : ∀ {ps : List (Nat × Vl)} {b : Nat}, EndsOk L b ps → EndsOk M b ps
  | [], _, h => Nat.le_trans h h1
  | _ :: _, _, ⟨h, r⟩ => ⟨h, EndsOk.mono h1 r⟩
theorem EndsOk.init {L : Nat} {p : Nat × Vl} : ∀ {ps : List (Nat × Vl)} {b : Nat}, EndsOk L b (ps ++ [p]) → EndsOk L b ps
  | [], _, ⟨h, r⟩ => Nat.le_trans h r
  | _ :: _, _, ⟨h, r⟩ => ⟨h, EndsOk.init r⟩
theorem atI_neg1 {l : List Dt} {d : Dt} (h : 1 ≤ l.length) (e : l[l.length - 1]? = some d) : atI l (-1) = some d := by
  unfold atI
  rw [show ixN l.length (-1) = some (l.length - 1) by unfold ixN; rw [if_neg (by decide), if_pos (by omega)]; exact congrArg some (by omega)]; exact e
theorem sh_vl (v : Vl) : (vlD v).pl = true ∧ SeqAt.shaped (vlD v).pd = true := by
  obtain ⟨a, b, m, r⟩ := v
  cases a <;> cases b <;> exact ⟨rfl, rfl⟩
theorem cl_vl (v : Vl) : (vlD v).pd.canLay0 = true ∧ (vlD v).pd.depth = 1 := by
  obtain ⟨a, b, m, r⟩ := v
  cases a <;> cases b <;> exact ⟨rfl, rfl⟩
theorem cl_pcs : ∀ ps : List (Nat × Vl), pls (ps.map peD) = true ∧ PyData.canLayAll0 (pds (ps.map peD)) = true ∧ PyData.depthAll (pds (ps.map peD)) ≤ 2
  | [] => ⟨rfl, rfl, by decide⟩
  | p :: ps => by
    obtain ⟨a, b, c⟩ := cl_pcs ps
    obtain ⟨v1, v2⟩ := cl_vl p.2
    refine ⟨?_, ?_, ?_⟩
    · show ((true && ((vlD p.2).pl && true)) && pls (ps.map peD)) = true
      rw [a, (sh_vl p.2).1]; rfl
    · show ((true && ((vlD p.2).pd.canLay0 && true)) && PyData.canLayAll0 (pds (ps.map peD))) = true
      rw [b, v1]; rfl
    · show max (max 0 (max (vlD p.2).pd.depth 0) + 1) (PyData.depthAll (pds (ps.map peD))) ≤ 2
      rw [v2]
      omega
theorem sh_pcs (ps : List (Nat × Vl)) : (Dt.lst (ps.map peD)).pl = true ∧ SeqAt.shaped (Dt.lst (ps.map peD)).pd = true := by
  obtain ⟨a, b, c⟩ := cl_pcs ps
  refine ⟨a, ?_⟩
  show (PyData.canLayAll0 (pds (ps.map peD)) && decide (PyData.depthAll (pds (ps.map peD)) + 1 ≤ 64)) = true
  rw [b, decide_eq_true (by omega)]; rfl
/-- xs != [] for a list of its own -/
theorem ae_neOwn {K : PySem.W.Frag} {ρ : List En} {Ψ : Dt → List En → Prop} {i : Nat} {l : List Dt} (e : ρ[i]? = some (.own l)) (p : pls l = true) (sh : SeqAt.shaped (Dt.lst l).pd = true) (h : Ψ (.bl (!l.isEmpty)) ρ) : AE K (tOp (rNeD K) (tVar i) (tLst tNil)) ρ Ψ := fun B σ G H m Q q => by
  obtain ⟨a, xs, a1, a2, a3, a4, a5⟩ := m.own i l e
  refine ⟨_, a1, (ae_lst (Ψ := fun d ρ1 => d = .lst [] ∧ ρ1 = ρ) (aa_nil ⟨Nat.zero_le _, rfl, rfl⟩) : AE K (tLst tNil) ρ _) B σ G H m _ fun v d ρ1 G1 H1 m1 s1 t1 r1 h1 => ?_⟩
  obtain ⟨rfl, rfl⟩ := h1
  obtain ⟨a', xs', b1, b2, b3, b4, b5⟩ := m1.own i l e
  rw [a1] at b1
  cases b1
  refine ⟨(Dt.lst l).pd, (Dt.lst []).pd, .lst (SqL.of b2) (RDs.dp m1.sub p b3), r1.dp m1.sub rfl, sh, rfl, ?_⟩
  have eq : PyData.eqv (Dt.lst l).pd (Dt.lst []).pd = l.isEmpty := by
    cases l <;> rfl
  rw [eq]
  exact q _ (.bl (!l.isEmpty)) ρ1 G1 H1 m1 s1 t1 rfl h
def domPs (ds : List Dt) : Prop := ∃ L : Nat, ds = [.int (L : Int)] ∧ L ≤ 5
def postPs (ds : List Dt) (d : Dt) : Prop := ∀ L : Nat, ds = [.int (L : Int)] → ∃ ps, d = pcD ps ∧ EndsOk L 0 ps ∧ ps.length ≤ L ∧ ∀ p, p ∈ ps → VlOk p.2
section
variable {P : Program} {w : World} {K : PySem.W.Frag} {mg : Str → Option Value} {base : Heap}
theorem ok_l_pieces (bl : Blts mg) {g_l_take : Addr} {d_l_take : FuncData} (c_l_take : Cal P w K mg base 2 "_law_take" p_l_take (spB K 1 domT postT) g_l_take d_l_take) {g_l_value : Addr} {d_l_value : FuncData} (c_l_value : Cal P w K mg base 4 "_law_value" p_l_value (spB K 5 domVa postVa) g_l_value d_l_value)  {f : Addr} {fd : FuncData} (F : Fun K "_law_pieces" "_law_pieces" s_l_pieces f fd) : FnOk P w K mg base CX0 5 f fd p_l_pieces (spB K 30 (domPs) (postPs)) := by
  refine okB F sc_l_pieces (fun ds h => ?_) (fun cdv A outer s H E hr ds h => ?_)
  · obtain ⟨L, rfl, h5⟩ := h
    rfl
  obtain ⟨L, rfl, h5⟩ := h
  refine ⟨_, (pss_cons (ps_set (i := 2) sc_l_pieces.nd rfl (by first | exact Or.inl rfl | exact Or.inr rfl) (pe_lst pa_nil))
    (pss_cons (ps_for PassesOwn.never rfl (pi_range2 rfl bl.range (pa_cons pe_int (pa_cons (pe_op op_add (pv 1) pe_int) pa_nil))) (pg_name (i := 3) sc_l_pieces.nd rfl (by first | exact Or.inl rfl | exact Or.inr rfl)) (pss_cons (ps_set (i := 4) sc_l_pieces.nd rfl (by first | exact Or.inl rfl | exact Or.inr rfl) (pe_call c_l_value.ok (hr.mono (by decide)) rfl c_l_value.mg c_l_value.kp c_l_value.bi .nil pass0 (pa_cons (pv 0) pa_nil)))
    (pss_cons (ps_if (PW.pt (pw_and (pt_cmpR op_lt (pv 3) (pv 1) (nomark _)) (pw_and1 (pt_cmpR op_gt (pe_call c_l_take.ok (hr.mono (by decide)) rfl c_l_take.mg c_l_take.kp c_l_take.bi .nil pass0 (pa_cons (pv 0) (pa_cons pe_int pa_nil))) pe_int (nomark _))))) (pss_one ps_continue) pss_nil)
    (pss_cons (ps_if (PW.pt (pw_and (pt_cmpR (op_neD hr.units) (pv 2) (pe_lst pa_nil) (nomark _)) (pw_and1 (pt_cmpR (op_eqD hr.units) (pe_ix ix_seq (pe_ix ix_list (pv 2) (pe_un un_neg pe_int) (fun _ _ => rfl)) pe_int (fun _ _ => rfl)) (pv 4) (nomark _))))) (pss_one (ps_expr (pe_bm0 PySem.F.plainAttrs_list PySem.F.slot_list_pop PySem.F.type_list_pop mt_pop (pv 2)))) pss_nil)
    (pss_one (ps_expr (pe_bm PySem.F.plainAttrs_list PySem.F.slot_list_append PySem.F.type_list_append mt_append (pv 2) (pa_cons (pe_tup (pa_cons (pv 3) (pa_cons (pv 4) pa_nil))) pa_nil))))))))
    (pss_one (ps_ret (pe_callTy call_tuple_of rfl bl.tuple (by decide +kernel) (pa_cons (pv 2) pa_nil)))))), fun b F => ?_⟩
  change AS K _ [En.bx _ _, En.da _, En.no, En.no, En.no] _ _
  try simp only [cxOf_K, cxOf_w]
  have z9 : 9000 ≤ sizeLine := by decide
  refine as_seq (as_own (aa_nil ⟨Nat.zero_le _, ?_⟩))
  refine as_seq (as_forC (ai_rng2 (aa_cons (ae_int (aa_cons (ae_op (ae_var rfl (ae_int (ar_I0i (aa_nil ⟨_, _, rfl, ⟨by decide, by decide, by omega, by omega⟩, ?_⟩))))))))))
  rw [show rgD 1 ((L : Int) + 1 - 1).toNat = (List.range L).map fun i => Dt.int (1 + (i : Nat)) by unfold rgD; rw [show ((L : Int) + 1 - 1).toNat = L by omega]]
  refine ⟨fun i ρ => ∃ (f : Nat) (ps : List (Nat × Vl)) (e3 e4 : En), ρ = [.bx b f, .da (.int (L : Int)), .own (ps.map peD), e3, e4] ∧ F + 6 * (5 - i) ≤ f ∧ EndsOk i 0 ps ∧ ps.length ≤ i ∧ ∀ p, p ∈ ps → VlOk p.2, ⟨F + 30, [], .no, .no, rfl, by omega, Nat.le_refl 0, Nat.le_refl 0, fun p h => (by cases h)⟩, ?_, ?_⟩
  · rintro i d ρ hd ⟨f, ps, e3, e4, rfl, hf, he, hl, hv⟩
    obtain ⟨lt, rfl⟩ := rg_at hd
    obtain ⟨f1, rfl⟩ : ∃ f1, f = f1 + 6 := ⟨f - 6, by omega⟩
    refine ag_name (asc_seq (asc_as (as_set (ae_draw rfl (aa_nil ⟨rfl, f1 + 1, rfl, fun d hd => ?_⟩)))))
    obtain ⟨v, rfl, vok⟩ := hd
    have go : ∀ (RR : Dt → List En → Prop) (f2 : Nat), f1 ≤ f2 → ASC K (tSeq (tIfS (tAnd (tTest (tOp (rNeD K) (tVar 2) (tLst tNil))) (tTest (tOp (rEqD K) (tOp (rIx K) (tOp (rIxL K) (tVar 2) (tUn (rU fun i => .int (-i)) (tC (.int 1)))) (tC (.int 1))) (tVar 4)))) (tDrop (tBM0 K "list" rPop (tVar 2))) tNext) (tDrop (tBM K "list" rAppend (tVar 2) (tCons (tTup (tCons (tVar 3) (tCons (tVar 4) tNil))) tNil)))) [.bx b f2, .da (.int (L : Int)), .own (ps.map peD), .da (.int (1 + (i : Nat))), .da (vlD v)] (fun ρ => ∃ (f : Nat) (ps : List (Nat × Vl)) (e3 e4 : En), ρ = [.bx b f, .da (.int (L : Int)), .own (ps.map peD), e3, e4] ∧ F + 6 * (5 - (i + 1)) ≤ f ∧ EndsOk (i + 1) 0 ps ∧ ps.length ≤ i + 1 ∧ ∀ p, p ∈ ps → VlOk p.2) (fun ρ => ∃ (f : Nat) (ps : List (Nat × Vl)) (e3 e4 : En), ρ = [.bx b f, .da (.int (L : Int)), .own (ps.map peD), e3, e4] ∧ F + 6 * (5 - (i + 1)) ≤ f ∧ EndsOk (i + 1) 0 ps ∧ ps.length ≤ i + 1 ∧ ∀ p, p ∈ ps → VlOk p.2) RR := fun RR f2 hf2 => by
      have app : ∀ qs : List (Nat × Vl), EndsOk i 0 qs → qs.length ≤ i → (∀ p, p ∈ qs → VlOk p.2) → ∃ (f : Nat) (ps : List (Nat × Vl)) (e3 e4 : En), [En.bx b f2, .da (.int (L : Int)), .own (qs.map peD ++ [.tup [.int (1 + (i : Nat)), vlD v]]), .da (.int (1 + (i : Nat))), .da (vlD v)] = [.bx b f, .da (.int (L : Int)), .own (ps.map peD), e3, e4] ∧ F + 6 * (5 - (i + 1)) ≤ f ∧ EndsOk (i + 1) 0 ps ∧ ps.length ≤ i + 1 ∧ ∀ p, p ∈ ps → VlOk p.2 := fun qs q1 q2 q3 => by
        refine ⟨f2, qs ++ [(i + 1, v)], .da (.int (1 + (i : Nat))), .da (vlD v), ?_, by omega, EndsOk.snoc (by omega) (Nat.le_refl _) q1, (by rw [List.length_append]; exact Nat.add_le_add_right q2 1), fun p hp => ?_⟩
        · rw [show (1 : Int) + (i : Nat) = ((i + 1 : Nat) : Int) by omega, List.map_append]
          rfl
        · rcases List.mem_append.mp hp with hp | hp
          · exact q3 p hp
          · rw [List.mem_singleton.mp hp]; exact vok
      refine asc_as ?_
      rcases List.eq_nil_or_concat ps with rfl | ⟨qs, p, rfl⟩
      · refine as_seq (as_if (at_and (at_test (ae_neOwn rfl (sh_pcs []).1 (sh_pcs []).2 ⟨false, rfl, (fun h => absurd (show false = true from h) (by decide)), fun _ => ⟨(fun h => absurd (show false = true from h) (by decide)), fun _ => as_next ?_⟩⟩))))
        refine as_append ?_ ⟨_, rfl⟩
        refine ae_tup (aa_cons (ae_var rfl (aa_cons (ae_var rfl (aa_nil ⟨(by show 2 ≤ sizeLine; omega), ⟨_, rfl, by show 0 < sizeLine; omega, ?_⟩⟩)))))
        exact app [] he hl hv
      · have ml : qs.length + 1 ≤ i := by
          rw [List.concat_eq_append, List.length_append] at hl
          exact hl
        have me : (qs.concat p).map peD = qs.map peD ++ [peD p] := by rw [List.concat_eq_append, List.map_append]; rfl
        have ne : (!((qs.concat p).map peD).isEmpty) = true := by rw [me]; cases qs <;> rfl
        have he : EndsOk i 0 (qs ++ [p]) := by rw [← List.concat_eq_append]; exact he
        have hv : ∀ q, q ∈ qs ++ [p] → VlOk q.2 := by rw [← List.concat_eq_append]; exact hv
        refine as_seq (as_if (at_and (at_test (ae_neOwn rfl (sh_pcs (qs.concat p)).1 (sh_pcs (qs.concat p)).2 ⟨true, by rw [ne], fun _ => ?_, (fun h => absurd (show true = false from h) (by decide))⟩))))
        refine at_test (ae_op (ae_op (ae_ixOwn ⟨_, rfl⟩ (ae_un (ae_int (au_Ui ⟨(qs.concat p).map peD, _, peD p, rfl, rfl, ?_, ?_⟩))))))
        · rw [me]; exact atI_neg1 (by simp) (by simp)
        refine ae_int (ar_ixTs rfl (ae_var rfl (ar_eqD (sh_vl p.2).1 (sh_vl v).1 (sh_vl p.2).2 (sh_vl v).2 ⟨_, rfl, fun _ => ?_, fun _ => ?_⟩)))
        · refine as_pop (i := 2) (l := qs.map peD) (d := peD p) (by show some (En.own ((qs.concat p).map peD)) = _; rw [me]) ?_
          refine as_append ?_ ⟨_, rfl⟩
          refine ae_tup (aa_cons (ae_var rfl (aa_cons (ae_var rfl (aa_nil ⟨(by show 2 ≤ sizeLine; omega), ⟨_, rfl, by rw [List.length_map]; omega, ?_⟩⟩)))))
          exact app qs he.init (by omega) fun q hq => hv q (List.mem_append_left _ hq)
        · refine as_next ?_
          refine as_append ?_ ⟨_, rfl⟩
          refine ae_tup (aa_cons (ae_var rfl (aa_cons (ae_var rfl (aa_nil ⟨(by show 2 ≤ sizeLine; omega), ⟨_, rfl, by rw [me, List.length_append, List.length_map]; show _ + 1 < _; omega, ?_⟩⟩)))))
          have := app (qs ++ [p]) he (by rw [List.length_append]; exact ml) hv
          rw [List.concat_eq_append]
          exact this
    refine asc_seq (asc_if (at_and (at_test (ae_op (ae_var rfl (ae_var rfl (ar_I0b ⟨_, rfl, fun hc => ?_, fun _ => ?_⟩)))))))
    · refine at_test (ae_op (ae_take rfl (ae_int ⟨_, rfl, by decide, by decide, f1, rfl, fun t t0 t1 => ?_⟩)))
      refine ae_int (ar_I0b ⟨_, rfl, fun _ => ?_, fun _ => ?_⟩)
      · exact asc_cont ⟨f1, ps, _, _, rfl, by omega, he.mono (by omega), by omega, hv⟩
      · exact asc_as (as_next (go _ _ (Nat.le_refl _)))
    · exact ⟨(fun h => absurd (show false = true from h) (by decide)), fun _ => asc_as (as_next (go _ _ (by omega)))⟩
  · rintro ρ ⟨f, ps, e3, e4, rfl, hf, he, hl, hv⟩
    rw [show ((List.range L).map fun i => Dt.int (1 + (i : Nat))).length = L by rw [List.length_map, List.length_range]] at hf he hl
    refine as_ret (ae_frz (i := 2) rfl (ae_cb (aa_cons (ae_var rfl (aa_nil (ac_tupL ⟨fun L' e => ?_, f, rfl, by omega⟩))))))
    have en : L' = L := by injection e with e; injection e with e; omega
    subst en
    exact ⟨ps, rfl, he, hl, hv⟩
end
end Sh
set_option Elab.async false
set_option linter.all false
set_option maxRecDepth 100000
set_option maxHeartbeats 4000000
namespace Sh
open PySem PySem.Spec PyProof.Rows L2
abbrev s_l_state : Stmt := topS 35
abbrev N_l_state : List Str := ["_law_box_here", "_law_form_so", "_law_has_so", "_law_values_so", "_law_gaps_so", "_law_name", "_law_length"]
abbrev p_l_state : List Str := ["_law_box_here", "_law_form_so", "_law_has_so"]
theorem sc_l_state : FnScope N_l_state p_l_state (defScope s_l_state) := ⟨rfl, rfl, rfl, by decide +kernel, rfl, by decide +kernel, by decide +kernel⟩
abbrev s_l_body : Stmt := topS 37
abbrev N_l_body : List Str := ["_law_box_here", "_law_names", "_law_held"]
abbrev p_l_body : List Str := ["_law_box_here"]
theorem sc_l_body : FnScope N_l_body p_l_body (defScope s_l_body) := ⟨rfl, rfl, rfl, by decide +kernel, rfl, by decide +kernel, by decide +kernel⟩
def hdD (h : Dt × Nat) : Dt := .tup [h.1, .int (h.2 : Int)]
def fmD (ns : List Dt) (hs : List (Dt × Nat)) : Dt := .tup [.tup ns, .tup (hs.map hdD)]
structure FmOk (ns : List Dt) (hs : List (Dt × Nat)) : Prop where
  n : 1 ≤ ns.length ∧ ns.length ≤ 4
  h : hs.length ≤ 2
  l : ∀ h, h ∈ hs → h.2 ≤ 5
structure StOk (s : Sta) (c : Bool) (n m : Nat) : Prop where
  ln : s.vs.length = n
  ok : ∀ v, v ∈ s.vs → VlOk v
  no : c = false → s.gp = none
  yes : c = true → ∃ g, s.gp = some g ∧ ∀ i, i < n → g i i = some 0
  lm : s.its.length = m
  it : ∀ ps, ps ∈ s.its → EndsOk 5 0 ps ∧ ps.length ≤ 5 ∧ ∀ p, p ∈ ps → VlOk p.2
def domSt (ds : List Dt) : Prop := ∃ ns hs c, ds = [fmD ns hs, .bl c] ∧ FmOk ns hs
def postSt (ds : List Dt) (d : Dt) : Prop := ∃ ns hs c s, ds = [fmD ns hs, .bl c] ∧ d = Sta.d s ∧ StOk s c ns.length hs.length
def domBo (ds : List Dt) : Prop := ds = []
def postBo (_ : List Dt) (d : Dt) : Prop := ∃ a ns hs, d = .tup [a, fmD ns hs] ∧ FmOk ns hs
section
variable {P : Program} {w : World} {K : PySem.W.Frag} {mg : Str → Option Value} {base : Heap}
theorem ok_l_state (bl : Blts mg) {g_l_value : Addr} {d_l_value : FuncData} (c_l_value : Cal P w K mg base 4 "_law_value" p_l_value (spB K 5 domVa postVa) g_l_value d_l_value) {g_l_gaps : Addr} {d_l_gaps : FuncData} (c_l_gaps : Cal P w K mg base 4 "_law_gaps" p_l_gaps (spB K 32 domGp postGp) g_l_gaps d_l_gaps) {g_l_pieces : Addr} {d_l_pieces : FuncData} (c_l_pieces : Cal P w K mg base 5 "_law_pieces" p_l_pieces (spB K 30 domPs postPs) g_l_pieces d_l_pieces)  {f : Addr} {fd : FuncData} (F : Fun K "_law_state" "_law_state" s_l_state f fd) : FnOk P w K mg base CX0 6 f fd p_l_state (spB K 112 (domSt) (postSt)) := by
  refine okB F sc_l_state (fun ds h => ?_) (fun cdv A outer s H E hr ds h => ?_)
  · obtain ⟨ns, hs, c, rfl, ok⟩ := h
    rfl
  obtain ⟨ns, hs, c, rfl, ok⟩ := h
  refine ⟨_, (pss_cons (ps_set (i := 3) sc_l_state.nd rfl (by first | exact Or.inl rfl | exact Or.inr rfl) (pe_callTy call_tuple_of rfl bl.tuple (by decide +kernel) (pa_cons (pe_lc (own := [("_law_name", 5)]) (g := (gName 5)) (te := (tCall (spB K 5 domVa postVa) [] E0 (tCons (tVar 0) tNil))) (tt := tYes) rfl sc_l_state.nd (pi_or (pi_list (pe_ix ix_seq (pv 1) pe_int (fun _ _ => rfl))) (pi_tup (pe_ix ix_seq (pv 1) pe_int (fun _ _ => rfl)))) (blkOk_by (N := N_l_state) (sc := defScope s_l_state) (by decide +kernel)) (fun _ _ _ _ _ => (pg_name (i := 5) sc_l_state.nd rfl (by first | exact Or.inl rfl | exact Or.inr rfl))) (fun _ _ _ _ _ => pts_nil) (fun _ _ _ _ _ => (pe_call c_l_value.ok (hr.mono (by decide)) rfl c_l_value.mg c_l_value.kp c_l_value.bi .nil pass0 (pa_cons (pv 0) pa_nil)))) pa_nil)))
    (pss_cons (ps_set (i := 4) sc_l_state.nd rfl (by first | exact Or.inl rfl | exact Or.inr rfl) (pe_ifExp (pt_val (pv 2)) (pe_call c_l_gaps.ok (hr.mono (by decide)) rfl c_l_gaps.mg c_l_gaps.kp c_l_gaps.bi .nil pass0 (pa_cons (pv 0) (pa_cons (pe_callB call_len_seq rfl bl.len (by decide +kernel) (pa_cons (pe_ix ix_seq (pv 1) pe_int (fun _ _ => rfl)) pa_nil)) pa_nil))) pe_non))
    (pss_one (ps_ret (pe_tup (pa_cons (pv 3) (pa_cons (pv 4) (pa_cons (pe_callTy call_tuple_of rfl bl.tuple (by decide +kernel) (pa_cons (pe_lc (own := [("_law_name", 5), ("_law_length", 6)]) (g := (gTup K 2 (gCons (gName 5) (gCons (gName 6) gNil)))) (te := (tCall (spB K 30 domPs postPs) [] E0 (tCons (tVar 0) (tCons (tVar 6) tNil)))) (tt := tYes) rfl sc_l_state.nd (pi_or (pi_list (pe_ix ix_seq (pv 1) pe_int (fun _ _ => rfl))) (pi_tup (pe_ix ix_seq (pv 1) pe_int (fun _ _ => rfl)))) (blkOk_by (N := N_l_state) (sc := defScope s_l_state) (by decide +kernel)) (fun _ _ _ _ _ => (pg_tup rfl (pgs_cons (pg_name (i := 5) sc_l_state.nd rfl (by first | exact Or.inl rfl | exact Or.inr rfl)) (pgs_cons (pg_name (i := 6) sc_l_state.nd rfl (by first | exact Or.inl rfl | exact Or.inr rfl)) pgs_nil)))) (fun _ _ _ _ _ => pts_nil) (fun _ _ _ _ _ => (pe_call c_l_pieces.ok (hr.mono (by decide)) rfl c_l_pieces.mg c_l_pieces.kp c_l_pieces.bi .nil pass0 (pa_cons (pv 0) (pa_cons (pv 6) pa_nil))))) pa_nil)) pa_nil)))))))), fun b F => ?_⟩
  change AS K _ [En.bx _ _, En.da _, En.da _, En.no, En.no, En.no, En.no] _ _
  try simp only [cxOf_K, cxOf_w]
  have z9 : 9000 ≤ sizeLine := by decide
  obtain ⟨⟨n1, n4⟩, h2, h5⟩ := ok
  refine as_seq (as_set (ae_cb (aa_cons (ae_lc (ai_seq (k := true) (ae_op (ae_var rfl (ae_int (ar_ixTs rfl ⟨ns, rfl, ?_⟩)))))))))
  refine ⟨fun j acc ρ => ∃ (f : Nat) (vs : List Vl), ρ = [.bx b f, .da (fmD ns hs), .da (.bl c), .no, .no, .no, .no] ∧ F + 92 + 5 * (4 - j) ≤ f ∧ acc = vs.map vlD ∧ vs.length = j ∧ ∀ v, v ∈ vs → VlOk v, ⟨F + 112, [], rfl, by omega, rfl, rfl, fun v h => (by cases h)⟩, ?_, ?_⟩
  · rintro j d acc ρ hd ⟨f, vs, rfl, hf, rfl, hl, hv⟩
    have lt := (List.getElem?_eq_some_iff.mp hd).1
    obtain ⟨f1, rfl⟩ : ∃ f1, f = f1 + 5 := ⟨f - 5, by omega⟩
    refine agv_name (by simp) (at_yes ⟨fun _ => ?_, fun z => nomatch z⟩)
    refine ae_draw rfl (aa_nil ⟨rfl, f1, rfl, fun d hd => ?_⟩)
    obtain ⟨v, rfl, vok⟩ := hd
    refine ⟨by rw [List.length_map]; omega, f1, vs ++ [v], rfl, by omega, by rw [List.map_append]; rfl, by rw [List.length_append, hl]; rfl, fun u hu => ?_⟩
    rcases List.mem_append.mp hu with hu | hu
    · exact hv u hu
    · rw [List.mem_singleton.mp hu]; exact vok
  rintro acc ρ ⟨f, vs, rfl, hf, rfl, hl, hv⟩
  refine ⟨fun q hq lt => ?_, ?_⟩
  · obtain rfl : q = 5 := by simpa using hq
    rfl
  refine aa_nil (ac_tupL ?_)
  refine as_seq (as_set (ae_mono (Ψ' := fun d ρ => ∃ (f2 : Nat) (og : Option (Nat → Nat → Option Int)), d = ogD ns.length og ∧ ρ = [.bx b f2, .da (fmD ns hs), .da (.bl c), .da (.tup (vs.map vlD)), .no, .no, .no] ∧ F + 60 ≤ f2 ∧ (c = false → og = none) ∧ (c = true → ∃ g, og = some g ∧ ∀ i, i < ns.length → g i i = some 0)) (ae_if (at_b (ae_var rfl ⟨c, rfl, fun hc => ?_, fun hc => ae_non ⟨f, none, rfl, rfl, by omega, fun _ => rfl, fun z => by rw [hc] at z; cases z⟩⟩))) ?_))
  · obtain ⟨f1, rfl⟩ : ∃ f1, f = f1 + 32 := ⟨f - 32, by omega⟩
    refine ae_draw rfl (aa_cons (ae_cb (aa_cons (ae_op (ae_var rfl (ae_int (ar_ixTs rfl (aa_nil (ac_lenT (aa_nil ⟨⟨_, rfl, n4⟩, f1, rfl, fun d hd => ?_⟩))))))))))
    obtain ⟨g, rfl, hg⟩ := hd ns.length rfl
    exact ⟨f1, some g, rfl, rfl, by omega, (fun z => by rw [hc] at z; cases z), fun _ => ⟨g, rfl, hg⟩⟩
  rintro d ρ ⟨f2, og, rfl, rfl, hf2, o1, o2⟩
  refine as_ret (ae_tup (aa_cons (ae_var rfl (aa_cons (ae_var rfl (aa_cons (ae_cb (aa_cons (ae_lc (ai_seq (k := true) (ae_op (ae_var rfl (ae_int (ar_ixTs rfl ⟨hs.map hdD, rfl, ?_⟩))))))))))))))
  refine ⟨fun j acc ρ => ∃ (f : Nat) (its : List (List (Nat × Vl))), ρ = [.bx b f, .da (fmD ns hs), .da (.bl c), .da (.tup (vs.map vlD)), .da (ogD ns.length og), .no, .no] ∧ F + 30 * (2 - j) ≤ f ∧ acc = its.map pcD ∧ its.length = j ∧ ∀ ps, ps ∈ its → EndsOk 5 0 ps ∧ ps.length ≤ 5 ∧ ∀ p, p ∈ ps → VlOk p.2, ⟨f2, [], rfl, by omega, rfl, rfl, fun v h => (by cases h)⟩, ?_, ?_⟩
  · rintro j d acc ρ hd ⟨f, its, rfl, hf, rfl, hl2, hv2⟩
    have lt := (List.getElem?_eq_some_iff.mp hd).1
    rw [List.length_map] at lt
    obtain ⟨⟨nm, l⟩, hm, rfl⟩ := map_at hd
    have l5 : l ≤ 5 := h5 _ (List.mem_of_getElem? hm)
    obtain ⟨f1, rfl⟩ : ∃ f1, f = f1 + 30 := ⟨f - 30, by omega⟩
    refine agv_tup rfl (agvs_cons (agv_name (by simp) (agvs_cons (agv_name (by simp) (agvs_nil (at_yes ⟨fun _ => ?_, fun z => nomatch z⟩))))))
    refine ae_draw rfl (aa_cons (ae_var rfl (aa_nil ⟨⟨l, rfl, l5⟩, f1, rfl, fun d hd => ?_⟩)))
    obtain ⟨ps, rfl, q1, q2, q3⟩ := hd l rfl
    refine ⟨by rw [List.length_map]; omega, f1, its ++ [ps], rfl, by omega, by rw [List.map_append]; rfl, by rw [List.length_append, hl2]; rfl, fun u hu => ?_⟩
    rcases List.mem_append.mp hu with hu | hu
    · exact hv2 u hu
    · rw [List.mem_singleton.mp hu]; exact ⟨q1.mono l5, by omega, q3⟩
  rintro acc ρ ⟨f3, its, rfl, hf3, rfl, hl2, hv2⟩
  rw [List.length_map] at hl2
  refine ⟨fun q hq lt => ?_, ?_⟩
  · have : q = 5 ∨ q = 6 := by simpa using hq
    rcases this with rfl | rfl <;> rfl
  refine aa_nil (ac_tupL (aa_nil ⟨(by show 3 ≤ sizeLine; omega), ⟨ns, hs, c, ⟨vs, og, its⟩, rfl, ?_, hl, hv, o1, o2, hl2, hv2⟩, f3, rfl, by omega⟩))
  unfold Sta.d
  rw [hl]
theorem ok_l_body (bl : Blts mg) {g_l_take : Addr} {d_l_take : FuncData} (c_l_take : Cal P w K mg base 2 "_law_take" p_l_take (spB K 1 domT postT) g_l_take d_l_take) {g_l_of : Addr} {d_l_of : FuncData} (c_l_of : Cal P w K mg base 3 "_law_of" p_l_of (spB K 1 domO postO) g_l_of d_l_of)  {f : Addr} {fd : FuncData} (F : Fun K "_law_body" "_law_body" s_l_body f fd) : FnOk P w K mg base CX0 4 f fd p_l_body (spB K 4 (domBo) (postBo)) := by
  refine okB F sc_l_body (fun ds h => ?_) (fun cdv A outer s H E hr ds h => ?_)
  · obtain ⟨rfl⟩ := h
    rfl
  obtain ⟨rfl⟩ := h
  refine ⟨_, (pss_cons (ps_set (i := 1) sc_l_body.nd rfl (by first | exact Or.inl rfl | exact Or.inr rfl) (pe_call c_l_of.ok (hr.mono (by decide)) rfl c_l_of.mg c_l_of.kp c_l_of.bi .nil pass0 (pa_cons (pv 0) (pa_cons (pe_lst (pa_cons (pe_tup (pa_cons pe_str (pa_cons pe_str (pa_cons pe_str (pa_cons pe_str pa_nil))))) (pa_cons (pe_tup (pa_cons pe_str (pa_cons pe_str (pa_cons pe_str (pa_cons pe_str pa_nil))))) (pa_cons (pe_tup (pa_cons pe_str (pa_cons pe_str (pa_cons pe_str (pa_cons pe_str pa_nil))))) pa_nil)))) pa_nil))))
    (pss_cons (ps_set (i := 1) sc_l_body.nd rfl (by first | exact Or.inl rfl | exact Or.inr rfl) (pe_slice sl_tupA (pv 1) po_none (po_some (pe_op op_add pe_int (pe_call c_l_take.ok (hr.mono (by decide)) rfl c_l_take.mg c_l_take.kp c_l_take.bi .nil pass0 (pa_cons (pv 0) (pa_cons pe_int pa_nil)))))))
    (pss_cons (ps_set (i := 2) sc_l_body.nd rfl (by first | exact Or.inl rfl | exact Or.inr rfl) (pe_call c_l_of.ok (hr.mono (by decide)) rfl c_l_of.mg c_l_of.kp c_l_of.bi .nil pass0 (pa_cons (pv 0) (pa_cons (pe_lst (pa_cons (pe_tup pa_nil) (pa_cons (pe_tup (pa_cons (pe_tup (pa_cons pe_str (pa_cons (pe_op op_add pe_int (pe_call c_l_take.ok (hr.mono (by decide)) rfl c_l_take.mg c_l_take.kp c_l_take.bi .nil pass0 (pa_cons (pv 0) (pa_cons pe_int pa_nil)))) pa_nil))) pa_nil)) (pa_cons (pe_tup (pa_cons (pe_tup (pa_cons pe_str (pa_cons pe_int pa_nil))) (pa_cons (pe_tup (pa_cons pe_str (pa_cons pe_int pa_nil))) pa_nil))) pa_nil)))) pa_nil))))
    (pss_one (ps_ret (pe_tup (pa_cons (pe_tup (pa_cons pe_str (pa_cons (pv 1) (pa_cons (pv 2) (pa_cons (pe_tup pa_nil) (pa_cons (pe_tup (pa_cons pe_str (pa_cons pe_int pa_nil))) pa_nil)))))) (pa_cons (pe_tup (pa_cons (pv 1) (pa_cons (pv 2) pa_nil))) pa_nil)))))))), fun b F => ?_⟩
  change AS K _ [En.bx _ _, En.no, En.no] _ _
  try simp only [cxOf_K, cxOf_w]
  have z9 : 9000 ≤ sizeLine := by decide
  refine as_seq (as_set (ae_ofL rfl (ae_lst (aa_cons (ae_tup (aa_cons (ae_str (aa_cons (ae_str (aa_cons (ae_str (aa_cons (ae_str (aa_nil ⟨(by show 4 ≤ sizeLine; omega), ?_⟩))))))))))))))
  refine aa_cons (ae_tup (aa_cons (ae_str (aa_cons (ae_str (aa_cons (ae_str (aa_cons (ae_str (aa_nil ⟨(by show 4 ≤ sizeLine; omega), ?_⟩))))))))))
  refine aa_cons (ae_tup (aa_cons (ae_str (aa_cons (ae_str (aa_cons (ae_str (aa_cons (ae_str (aa_nil ⟨(by show 4 ≤ sizeLine; omega), ?_⟩))))))))))
  refine aa_nil ⟨(by show 3 ≤ sizeLine; omega), _, rfl, (by show 1 ≤ 3; decide), (by show 3 ≤ 1000; decide), F + 3, rfl, fun d hd => ?_⟩
  obtain ⟨ns, rfl, l4⟩ : ∃ ns : List Dt, d = .tup ns ∧ ns.length = 4 := by
    simp only [List.nil_append, List.cons_append, List.mem_cons, List.not_mem_nil, or_false] at hd
    rcases hd with rfl | rfl | rfl <;> exact ⟨_, rfl, rfl⟩
  clear hd
  refine as_seq (as_set (ae_slT (ae_var rfl ⟨ns, rfl, ao_none (ao_some ?_)⟩)))
  refine ae_op (ae_int (ae_take rfl (ae_int ⟨_, rfl, by decide, by decide, F + 2, rfl, fun t t0 t1 => ar_I0i ⟨_, rfl, ?_⟩⟩)))
  obtain ⟨k, rfl⟩ := Int.eq_ofNat_of_zero_le t0
  rw [show (1 : Int) + (k : Int) = ((1 + k : Nat) : Int) by omega, cutT]
  have k4 : k < 4 := by omega
  have lk : (ns.take (1 + k)).length = 1 + k := by rw [List.length_take]; omega
  generalize ns.take (1 + k) = ms at lk
  refine as_seq (as_set (ae_ofL rfl (ae_lst (aa_cons (ae_tup (aa_nil ⟨Nat.zero_le _, ?_⟩))))))
  refine aa_cons (ae_tup (aa_cons (ae_tup (aa_cons (ae_str (aa_cons (ae_op (ae_int (ae_take rfl (ae_int ⟨_, rfl, by decide, by decide, F + 1, rfl, fun u u0 u1 => ar_I0i ?_⟩))))))))))
  obtain ⟨q, rfl⟩ := Int.eq_ofNat_of_zero_le u0
  refine aa_nil ⟨(by show 2 ≤ sizeLine; omega), aa_nil ⟨(by show 1 ≤ sizeLine; omega), ?_⟩⟩
  refine aa_cons (ae_tup (aa_cons (ae_tup (aa_cons (ae_str (aa_cons (ae_int (aa_nil ⟨(by show 2 ≤ sizeLine; omega), ?_⟩))))))))
  refine aa_cons (ae_tup (aa_cons (ae_str (aa_cons (ae_int (aa_nil ⟨(by show 2 ≤ sizeLine; omega), aa_nil ⟨(by show 2 ≤ sizeLine; omega), ?_⟩⟩))))))
  refine aa_nil ⟨(by show 3 ≤ sizeLine; omega), _, rfl, (by show 1 ≤ 3; decide), (by show 3 ≤ 1000; decide), F, rfl, fun d hd => ?_⟩
  obtain ⟨hs, rfl, hs2, hs5⟩ : ∃ hs : List (Dt × Nat), d = .tup (hs.map hdD) ∧ hs.length ≤ 2 ∧ ∀ h, h ∈ hs → h.2 ≤ 5 := by
    simp only [List.nil_append, List.cons_append, List.mem_cons, List.not_mem_nil, or_false] at hd
    rcases hd with rfl | rfl | rfl
    · exact ⟨[], rfl, by decide, fun h z => (by cases z)⟩
    · refine ⟨[(.str (Str.ofString "t"), 1 + q)], ?_, (by show 1 ≤ 2; decide), fun h z => ?_⟩
      · show _ = Dt.tup [.tup [.str (Str.ofString "t"), .int ((1 + q : Nat) : Int)]]
        rw [show ((1 + q : Nat) : Int) = 1 + (q : Int) by omega]
      · rw [List.mem_singleton.mp z]; show 1 + q ≤ 5; omega
    · refine ⟨[(.str (Str.ofString "t"), 2), (.str (Str.ofString "u"), 3)], rfl, by show 2 ≤ 2; decide, fun h z => ?_⟩
      simp only [List.mem_cons, List.not_mem_nil, or_false] at z
      rcases z with rfl | rfl
      · show 2 ≤ 5; decide
      · show 3 ≤ 5; decide
  clear hd
  refine as_ret (ae_tup (aa_cons (ae_tup (aa_cons (ae_str (aa_cons (ae_var rfl (aa_cons (ae_var rfl (aa_cons (ae_tup (aa_nil ⟨Nat.zero_le _, ?_⟩))))))))))))
  refine aa_cons (ae_tup (aa_cons (ae_str (aa_cons (ae_int (aa_nil ⟨(by show 2 ≤ sizeLine; omega), aa_nil ⟨(by show 5 ≤ sizeLine; omega), ?_⟩⟩))))))
  refine aa_cons (ae_tup (aa_cons (ae_var rfl (aa_cons (ae_var rfl (aa_nil ⟨(by show 2 ≤ sizeLine; omega), aa_nil ⟨(by show 2 ≤ sizeLine; omega), ?_⟩⟩))))))
  exact ⟨⟨_, ms, hs, rfl, ⟨by omega, by omega⟩, hs2, hs5⟩, F, rfl, by omega⟩
end
end Sh
set_option Elab.async false
set_option linter.all false
set_option maxRecDepth 100000
set_option maxHeartbeats 4000000
namespace Sh
open PySem PySem.Spec PyProof.Rows L2
abbrev s_l_frame : Stmt := topS 36
abbrev N_l_frame : List Str := ["_law_box_here", "_law_state_so", "_law_form_so", "_law_numbers_so", "_law_items", "_law_pieces_so", "_law_part", "_law_row", "_law_end_so", "_law_value_so", "_law_spot"]
abbrev p_l_frame : List Str := ["_law_box_here", "_law_state_so", "_law_form_so"]
theorem sc_l_frame : FnScope N_l_frame p_l_frame (defScope s_l_frame) := ⟨rfl, rfl, rfl, by decide +kernel, rfl, by decide +kernel, by decide +kernel⟩
def itD (l : List Int) : Dt := .tup (l.map Dt.int)
def domFr (ds : List Dt) : Prop := ∃ s ns hs c, ds = [Sta.d s, fmD ns hs] ∧ StOk s c ns.length hs.length ∧ FmOk ns hs
def postFr (ds : List Dt) (d : Dt) : Prop := ∃ s fm f, ds = [Sta.d s, fm] ∧ d = Frm.d f ∧ FitsF s f
section
variable {P : Program} {w : World} {K : PySem.W.Frag} {mg : Str → Option Value} {base : Heap}
theorem ok_l_frame (bl : Blts mg) {g_l_take : Addr} {d_l_take : FuncData} (c_l_take : Cal P w K mg base 2 "_law_take" p_l_take (spB K 1 domT postT) g_l_take d_l_take) {g_l_member : Addr} {d_l_member : FuncData} (c_l_member : Cal P w K mg base 4 "_law_member" p_l_member (spB K 2 domMe postMe) g_l_member d_l_member)  {f : Addr} {fd : FuncData} (F : Fun K "_law_frame" "_law_frame" s_l_frame f fd) : FnOk P w K mg base CX0 5 f fd p_l_frame (spB K 60 (domFr) (postFr)) := by
  refine okB F sc_l_frame (fun ds h => ?_) (fun cdv A outer s H E hr ds h => ?_)
  · obtain ⟨s, ns, hs, c, rfl, sok, ok⟩ := h
    rfl
  obtain ⟨s, ns, hs, c, rfl, sok, ok⟩ := h
  refine ⟨_, (pss_cons (ps_set (i := 3) sc_l_frame.nd rfl (by first | exact Or.inl rfl | exact Or.inr rfl) (pe_callTy call_tuple_of rfl bl.tuple (by decide +kernel) (pa_cons (pe_lc (own := [("_law_value_so", 9)]) (g := (gName 9)) (te := (tOp (rI0 fun i j => .int (i + j)) (tCall (spB K 2 domMe postMe) [] E0 (tCons (tVar 0) (tCons (tVar 9) tNil))) (tCB (fun xs H Q => (∃ i, xs = [.int i] ∧ Q (.int i) H) ∨ ∃ k, xs = [.bl k] ∧ Q (.int (if k then 1 else 0)) H) (tCons (tOp rEq (tCall (spB K 1 domT postT) [] E0 (tCons (tVar 0) (tCons (tC (.int 12)) tNil))) (tC (.int 0))) tNil)))) (tt := tYes) rfl sc_l_frame.nd (pi_or (pi_list (pe_ix ix_seq (pv 1) pe_int (fun _ _ => rfl))) (pi_tup (pe_ix ix_seq (pv 1) pe_int (fun _ _ => rfl)))) (blkOk_by (N := N_l_frame) (sc := defScope s_l_frame) (by decide +kernel)) (fun _ _ _ _ _ => (pg_name (i := 9) sc_l_frame.nd rfl (by first | exact Or.inl rfl | exact Or.inr rfl))) (fun _ _ _ _ _ => pts_nil) (fun _ _ _ _ _ => (pe_op op_add (pe_call c_l_member.ok (hr.mono (by decide)) rfl c_l_member.mg c_l_member.kp c_l_member.bi .nil pass0 (pa_cons (pv 0) (pa_cons (pv 9) pa_nil))) (pe_callTy call_int1 rfl bl.int (by decide +kernel) (pa_cons (pe_cmpR op_eq (pe_call c_l_take.ok (hr.mono (by decide)) rfl c_l_take.mg c_l_take.kp c_l_take.bi .nil pass0 (pa_cons (pv 0) (pa_cons pe_int pa_nil))) pe_int (nomark _)) pa_nil))))) pa_nil)))
    (pss_cons (ps_set (i := 4) sc_l_frame.nd rfl (by first | exact Or.inl rfl | exact Or.inr rfl) (pe_lst pa_nil))
    (pss_cons (ps_for PassesOwn.never rfl (pi_zipK rfl bl.zip (pa_cons (pe_ix ix_seq (pv 1) pe_int (fun _ _ => rfl)) (pa_cons (pe_ix ix_seq (pv 2) pe_int (fun _ _ => rfl)) pa_nil))) (pg_tup rfl (pgs_cons (pg_name (i := 5) sc_l_frame.nd rfl (by first | exact Or.inl rfl | exact Or.inr rfl)) (pgs_cons (pg_name (i := 6) sc_l_frame.nd rfl (by first | exact Or.inl rfl | exact Or.inr rfl)) pgs_nil))) (pss_cons (ps_set (i := 7) sc_l_frame.nd rfl (by first | exact Or.inl rfl | exact Or.inr rfl) (pe_lst pa_nil))
    (pss_cons (ps_for PassesOwn.never rfl (pi_or (pi_list (pv 5)) (pi_tup (pv 5))) (pg_tup rfl (pgs_cons (pg_name (i := 8) sc_l_frame.nd rfl (by first | exact Or.inl rfl | exact Or.inr rfl)) (pgs_cons (pg_name (i := 9) sc_l_frame.nd rfl (by first | exact Or.inl rfl | exact Or.inr rfl)) pgs_nil))) (pss_one (ps_set (i := 7) sc_l_frame.nd rfl (by first | exact Or.inl rfl | exact Or.inr rfl) (pe_op op_cat (pv 7) (pe_lc (own := [("_law_spot", 10)]) (g := (gName 10)) (te := (tCall (spB K 2 domMe postMe) [] E0 (tCons (tVar 0) (tCons (tVar 9) tNil)))) (tt := tYes) rfl sc_l_frame.nd (pi_range2 rfl bl.range (pa_cons (pe_callB call_len_seq rfl bl.len (by decide +kernel) (pa_cons (pv 7) pa_nil)) (pa_cons (pv 8) pa_nil))) (blkOk_by (N := N_l_frame) (sc := defScope s_l_frame) (by decide +kernel)) (fun _ _ _ _ _ => (pg_name (i := 10) sc_l_frame.nd rfl (by first | exact Or.inl rfl | exact Or.inr rfl))) (fun _ _ _ _ _ => pts_nil) (fun _ _ _ _ _ => (pe_call c_l_member.ok (hr.mono (by decide)) rfl c_l_member.mg c_l_member.kp c_l_member.bi .nil pass0 (pa_cons (pv 0) (pa_cons (pv 9) pa_nil)))))))))
    (pss_one (ps_expr (pe_bm PySem.F.plainAttrs_list PySem.F.slot_list_append PySem.F.type_list_append mt_append (pv 4) (pa_cons (pe_callTy call_tuple_of rfl bl.tuple (by decide +kernel) (pa_cons (pv 7) pa_nil)) pa_nil)))))))
    (pss_one (ps_ret (pe_tup (pa_cons (pv 3) (pa_cons (pe_callTy call_tuple_of rfl bl.tuple (by decide +kernel) (pa_cons (pv 4) pa_nil)) pa_nil)))))))), fun b F => ?_⟩
  change AS K _ [En.bx _ _, En.da _, En.da _, En.no, En.no, En.no, En.no, En.no, En.no, En.no, En.no] _ _
  try simp only [cxOf_K, cxOf_w]
  have z9 : 9000 ≤ sizeLine := by decide
  obtain ⟨vs, og, its⟩ := s
  obtain ⟨ln, vok, _, _, lm, iok⟩ := sok
  obtain ⟨⟨n1, n4⟩, h2, h5⟩ := ok
  have ln : vs.length = ns.length := ln
  have lm : its.length = hs.length := lm
  have vok : ∀ v, v ∈ vs → VlOk v := vok
  have iok : ∀ ps, ps ∈ its → EndsOk 5 0 ps ∧ ps.length ≤ 5 ∧ ∀ p, p ∈ ps → VlOk p.2 := iok
  refine as_seq (as_set (ae_cb (aa_cons (ae_lc (ai_seq (k := true) (ae_op (ae_var rfl (ae_int (ar_ixTs rfl ⟨vs.map vlD, rfl, ?_⟩)))))))))
  refine ⟨fun j acc ρ => ∃ (f : Nat) (xs : List Int), ρ = [.bx b f, .da (Sta.d ⟨vs, og, its⟩), .da (fmD ns hs), .no, .no, .no, .no, .no, .no, .no, .no] ∧ F + 40 + 3 * (4 - j) ≤ f ∧ acc = xs.map Dt.int ∧ xs.length = j, ⟨F + 60, [], rfl, by omega, rfl, rfl⟩, ?_, ?_⟩
  · rintro j d acc ρ hd ⟨f, xs, rfl, hf, rfl, hl⟩
    have lt := (List.getElem?_eq_some_iff.mp hd).1
    rw [List.length_map] at lt
    obtain ⟨v, hv, rfl⟩ := map_at hd
    have ov := vok v (List.mem_of_getElem? hv)
    obtain ⟨f1, rfl⟩ : ∃ f1, f = f1 + 3 := ⟨f - 3, by omega⟩
    refine agv_name (by simp) (at_yes ⟨fun _ => ?_, fun z => nomatch z⟩)
    refine ae_op (ae_draw rfl (aa_cons (ae_var rfl (aa_nil ⟨⟨v, rfl, ov⟩, f1 + 1, rfl, fun d hd => ?_⟩))))
    obtain ⟨x, rfl⟩ := hd
    refine ae_cb (aa_cons (ae_op (ae_take rfl (ae_int ⟨_, rfl, by decide, by decide, f1, rfl, fun t t0 t1 => ?_⟩))))
    refine ae_int (ar_eq3 ⟨rfl, rfl, rfl⟩ (aa_nil (ac_intB (ar_I0i ?_))))
    exact ⟨by rw [List.length_map]; omega, f1, xs ++ [_], rfl, by omega, by rw [List.map_append]; rfl, by rw [List.length_append, hl]; rfl⟩
  rintro acc ρ ⟨f, xs, rfl, hf, rfl, hl⟩
  rw [List.length_map] at hl
  refine ⟨fun q hq lt => ?_, ?_⟩
  · obtain rfl : q = 9 := by simpa using hq
    rfl
  refine aa_nil (ac_tupL ?_)
  refine as_seq (as_own (aa_nil ⟨Nat.zero_le _, ?_⟩))
  refine as_seq (as_for (ai_zipK (aa_cons (ae_op (ae_var rfl (ae_int (ar_ixTs rfl (aa_cons (ae_op (ae_var rfl (ae_int (ar_ixTs rfl (aa_nil ⟨true, true, its.map pcD, hs.map hdD, rfl, ?_⟩)))))))))))))
  refine ⟨fun i ρ => ∃ (f : Nat) (rows : List (List Int)) (e5 e6 e7 e8 e9 : En), ρ = [.bx b f, .da (Sta.d ⟨vs, og, its⟩), .da (fmD ns hs), .da (.tup (xs.map Dt.int)), .own (rows.map itD), e5, e6, e7, e8, e9, .no] ∧ F + 10 * (2 - i) ≤ f ∧ rows.length = i ∧ ∀ (k : Nat) ps l, its[k]? = some ps → rows[k]? = some l → l.length ≤ 5 ∧ EndsOk l.length 0 ps, ⟨f, [], _, _, _, _, _, rfl, by omega, rfl, fun k ps l h1 h2 => by simp at h2⟩, ?_, ?_⟩
  · rintro i d ρ hd ⟨f, rows, e5, e6, e7, e8, e9, rfl, hf, hr, hk⟩
    obtain ⟨a, a2, ha, ha2, rfl⟩ := zp_at hd
    obtain ⟨ps, hps, rfl⟩ := map_at ha
    obtain ⟨pe, pl5, pv5⟩ := iok ps (List.mem_of_getElem? hps)
    have i2 : i < its.length := (List.getElem?_eq_some_iff.mp hps).1
    refine ag_tup rfl (ags_cons (ag_name (ags_cons (ag_name (ags_nil (as_seq (as_set (ae_lst (aa_nil ⟨Nat.zero_le _, ?_⟩)))))))))
    refine as_seq (as_for (ai_seq (k := true) (ae_var rfl ⟨ps.map peD, rfl, ?_⟩)))
    refine ⟨fun k ρ => ∃ (f : Nat) (l : List Int) (pre suf : List (Nat × Vl)) (e8 e9 : En), ρ = [.bx b f, .da (Sta.d ⟨vs, og, its⟩), .da (fmD ns hs), .da (.tup (xs.map Dt.int)), .own (rows.map itD), .da (pcD ps), .da a2, .da (.lst (l.map Dt.int)), e8, e9, .no] ∧ F + 10 * (2 - (i + 1)) + 2 * (5 - l.length) ≤ f ∧ ps = pre ++ suf ∧ pre.length = k ∧ EndsOk l.length 0 pre ∧ EndsOk 5 l.length suf, ⟨f, [], [], ps, e8, e9, rfl, by show F + 10 * (2 - (i + 1)) + 2 * (5 - 0) ≤ f; omega, rfl, rfl, Nat.le_refl _, pe⟩, ?_, ?_⟩
    · rintro k d ρ hd ⟨f, l, pre, suf, e8, e9, rfl, hf, hps2, hk2, he1, he2⟩
      obtain ⟨p, hp, rfl⟩ := map_at hd
      obtain ⟨suf', rfl⟩ : ∃ suf', suf = p :: suf' := by
        rw [hps2, List.getElem?_append_right (by omega), hk2, Nat.sub_self] at hp
        cases suf with
        | nil => cases hp
        | cons x suf' => cases hp; exact ⟨suf', rfl⟩
      obtain ⟨he3, he4⟩ := he2
      have p5 := he4.le
      have po : VlOk p.2 := pv5 p (List.mem_of_getElem? hp)
      obtain ⟨e, v⟩ := p
      have he3 : l.length ≤ e := he3
      have he4 : EndsOk 5 e suf' := he4
      have p5 : e ≤ 5 := p5
      obtain ⟨t, rfl⟩ : ∃ t, e = l.length + t := ⟨e - l.length, by omega⟩
      refine ag_tup rfl (ags_cons (ag_name (ags_cons (ag_name (ags_nil (as_set (ae_op (ae_var rfl (ae_lc (ai_rng2 (aa_cons (ae_cb (aa_cons (ae_var rfl (aa_nil (ac_lenL (aa_cons (ae_var rfl (aa_nil ⟨_, _, rfl, ⟨by omega, by rw [List.length_map]; omega, by omega, by omega⟩, ?_⟩)))))))))))))))))))
      rw [show rgD (((l.map Dt.int).length : Nat) : Int) (((l.length + t : Nat) : Int) - (((l.map Dt.int).length : Nat) : Int)).toNat = (List.range t).map fun q => Dt.int (((l.length : Nat) : Int) + (q : Nat)) by
        rw [List.length_map]
        unfold rgD
        rw [show (((l.length + t : Nat) : Int) - ((l.length : Nat) : Int)).toNat = t by omega]]
      refine ⟨fun q acc ρ => ∃ (f : Nat) (zs : List Int), ρ = [.bx b f, .da (Sta.d ⟨vs, og, its⟩), .da (fmD ns hs), .da (.tup (xs.map Dt.int)), .own (rows.map itD), .da (pcD ps), .da a2, .da (.lst (l.map Dt.int)), .da (.int ((l.length + t : Nat) : Int)), .da (vlD v), .no] ∧ F + 10 * (2 - (i + 1)) + 2 * (5 - (l.length + q)) ≤ f ∧ acc = zs.map Dt.int ∧ zs.length = q, ⟨f, [], rfl, by omega, rfl, rfl⟩, ?_, ?_⟩
      · rintro q d acc ρ hd ⟨f, zs, rfl, hf, rfl, hz⟩
        obtain ⟨lt, rfl⟩ := rg_at hd
        obtain ⟨f1, rfl⟩ : ∃ f1, f = f1 + 2 := ⟨f - 2, by omega⟩
        refine agv_name (by simp) (at_yes ⟨fun _ => ?_, fun z => nomatch z⟩)
        refine ae_draw rfl (aa_cons (ae_var rfl (aa_nil ⟨⟨v, rfl, po⟩, f1, rfl, fun d hd => ?_⟩)))
        obtain ⟨x, rfl⟩ := hd
        exact ⟨by rw [List.length_map]; omega, f1, zs ++ [x], rfl, by omega, by rw [List.map_append]; rfl, by rw [List.length_append, hz]; rfl⟩
      rintro acc ρ ⟨f, zs, rfl, hf, rfl, hz⟩
      rw [List.length_map, List.length_range] at hf hz
      refine ⟨fun q hq lt => ?_, ?_⟩
      · obtain rfl : q = 10 := by simpa using hq
        rfl
      refine ar_catL (by rw [List.length_map, List.length_map]; omega) ?_
      have lz : (l ++ zs).length = l.length + t := by rw [List.length_append, hz]
      exact ⟨f, l ++ zs, pre ++ [(l.length + t, v)], suf', _, _, by rw [List.map_append]; rfl, by rw [lz]; exact hf, by rw [List.append_assoc]; exact hps2, by rw [List.length_append, hk2]; rfl, by rw [lz]; exact EndsOk.snoc (by omega) (Nat.le_refl _) he1, by rw [lz]; exact he4⟩
    · rintro ρ ⟨f, l, pre, suf, e8, e9, rfl, hf, hps2, hk2, he1, he2⟩
      rw [List.length_map] at hk2
      obtain rfl : suf = [] := List.eq_nil_of_length_eq_zero (by have := congrArg List.length hps2; rw [List.length_append] at this; omega)
      rw [List.append_nil] at hps2
      subst hps2
      have l5 : l.length ≤ 5 := he2
      refine as_append ?_ ⟨_, rfl⟩
      refine ae_cb (aa_cons (ae_var rfl (aa_nil (ac_tupL ⟨_, rfl, by rw [List.length_map]; omega, ?_⟩))))
      refine ⟨f, rows ++ [l], _, _, _, _, _, by rw [List.map_append]; rfl, by omega, by rw [List.length_append, hr]; rfl, fun k qs m h1 h3 => ?_⟩
      rcases Nat.lt_or_ge k rows.length with c1 | c1
      · rw [List.getElem?_append_left c1] at h3
        exact hk k qs m h1 h3
      · have ek : k = rows.length := by
          have := (List.getElem?_eq_some_iff.mp h3).1
          rw [List.length_append] at this
          have e1 : ([l] : List (List Int)).length = 1 := rfl
          omega
        subst ek
        rw [List.getElem?_append_right (Nat.le_refl _), Nat.sub_self] at h3
        cases h3
        rw [hr, hps] at h1
        cases h1
        exact ⟨l5, he1⟩
  · rintro ρ ⟨f, rows, e5, e6, e7, e8, e9, rfl, hf, hr, hk⟩
    rw [zpD_len, List.length_map, List.length_map, lm, Nat.min_self] at hr
    refine as_ret (ae_frz (i := 4) rfl (ae_tup (aa_cons (ae_var rfl (aa_cons (ae_cb (aa_cons (ae_var rfl (aa_nil (ac_tupL (aa_nil ⟨(by show 2 ≤ sizeLine; omega), ⟨⟨vs, og, its⟩, fmD ns hs, ⟨xs, rows⟩, rfl, rfl, ?_⟩, f, rfl, by omega⟩)))))))))))
    refine ⟨hl, ⟨by show vs.length ≤ 90; omega, by show its.length ≤ 90; omega⟩, fun v hv => (vok v hv).m0.1, by show its.length = rows.length; omega, fun j ps l h1 h3 => ?_⟩
    obtain ⟨q1, q2⟩ := hk j ps l h1 h3
    obtain ⟨r1, r2, r3⟩ := iok ps (List.mem_of_getElem? h1)
    exact ⟨by omega, by omega, q2, fun p hp => (r3 p hp).m0.1⟩
end
end Sh
set_option Elab.async false
set_option linter.all false
set_option maxRecDepth 100000
set_option maxHeartbeats 4000000
/-! a grid of one's own (a list of lists that is changed in place) beside the layer: slot t holds it -/
namespace Sh
open PySem PySem.Spec PyProof.Rows L2
def Bg (B : Addr → Prop) (a : Addr) (rs : List Addr) : Addr → Prop := fun b => B b ∨ b = a ∨ b ∈ rs
def Fre (B : Addr → Prop) (a : Addr) (rs : List Addr) : Prop := ¬ B a ∧ ∀ r, r ∈ rs → ¬ B r
theorem Gr.keep {B : Addr → Prop} {H H' : Hp} {a : Addr} {rs : List Addr} {n : Nat} {M : Mx} (g : Gr H a rs n M) (t : Tr (Bg B a rs) H H') : Gr H' a rs n M :=
  ⟨t _ _ (.inr (.inl rfl)) g.top, g.len, g.nd, g.na, fun k r hk => t _ _ (.inr (.inr (List.mem_of_getElem? hk))) (g.row k r hk)⟩
theorem Tr.out {B : Addr → Prop} {H H' : Hp} {a : Addr} {rs : List Addr} (t : Tr (Bg B a rs) H H') : Tr B H H' := fun c o b e => t c o (.inl b) e
def setO (M : Mx) (i j : Nat) (o : Option Int) : Mx := fun a b => if a = i ∧ b = j then o else M a b
theorem rowV_setO {n : Nat} {M : Mx} {i j : Nat} {o : Option Int} : (rowV n M i).set j (ov o) = rowV n (setO M i j o) i := by
  apply List.ext_getElem?
  intro b
  by_cases hb : b < n
  · rw [rowV_at hb, List.getElem?_set, rowV_len]
    unfold setO
    by_cases e : j = b
    · subst e; rw [if_pos rfl, if_pos hb, if_pos ⟨rfl, rfl⟩]
    · rw [if_neg e, rowV_at hb, if_neg (fun z => e z.2.symm)]
  · rw [List.getElem?_eq_none (by rw [List.length_set, rowV_len]; omega), List.getElem?_eq_none (by rw [rowV_len]; omega)]
theorem rowV_offO {n : Nat} {M : Mx} {i j k : Nat} {o : Option Int} (h : k ≠ i) : rowV n (setO M i j o) k = rowV n M k := by
  unfold rowV
  refine List.map_congr_left fun b _ => ?_
  unfold setO
  rw [if_neg (fun z => h z.1)]
theorem Gr.setO {H : Hp} {a : Addr} {rs : List Addr} {n : Nat} {M : Mx} (g : Gr H a rs n M) {i j : Nat} {r : Addr} (hr : rs[i]? = some r) (o : Option Int) : Gr (upd H r (.lst ((rowV n M i).set j (ov o)))) a rs n (setO M i j o) where
  top := by
    rw [upd_ne (fun e => g.na (by rw [e]; exact List.mem_of_getElem? hr))]; exact g.top
  len := g.len
  nd := g.nd
  na := g.na
  row := fun k q hq => by
    by_cases e : k = i
    · subst e
      rw [hr] at hq
      cases hq
      rw [upd_same, rowV_setO]
    · have ne : q ≠ r := fun z => by
        subst z
        obtain ⟨i1, i2⟩ := List.getElem?_eq_some_iff.mp hr
        obtain ⟨k1, k2⟩ := List.getElem?_eq_some_iff.mp hq
        exact e ((List.getElem_inj g.nd).mp (k2.trans i2.symm))
      rw [upd_ne ne, rowV_offO e]
      exact g.row k q hq
section
variable {K : PySem.W.Frag} {t n : Nat} {ρ : List En} {M : Mx} {N : List En → Mx → Prop} {R : Dt → List En → Prop}
/-- an expression beside the grid -/
def GE (K : PySem.W.Frag) (t n : Nat) (te : TE) (ρ : List En) (M : Mx) (Ψ : Dt → List En → Prop) : Prop := ∀ B σ G H a rs, Mt K (Bg B a rs) ρ σ G H → σ[t]? = some (some (.ref a)) → Gr H a rs n M → ∀ Q : VK, (∀ v d ρ' G' H', Mt K (Bg B a rs) ρ' σ G' H' → Same G G' → Tr (Bg B a rs) H H' → RD K G' d v → Ψ d ρ' → Q v H') → te σ H Q
def GA (K : PySem.W.Frag) (t n : Nat) (ta : TA) (ρ : List En) (M : Mx) (Ψ : List Dt → List En → Prop) : Prop := ∀ B σ G H a rs, Mt K (Bg B a rs) ρ σ G H → σ[t]? = some (some (.ref a)) → Gr H a rs n M → ∀ Q : List V → Hp → Prop, (∀ vs ds ρ' G' H', Mt K (Bg B a rs) ρ' σ G' H' → Same G G' → Tr (Bg B a rs) H H' → RDs K G' ds vs → Ψ ds ρ' → Q vs H') → ta σ H Q
theorem ge_of {te : TE} {Ψ : Dt → List En → Prop} (h : AE K te ρ Ψ) : GE K t n te ρ M Ψ := fun B σ G H a rs m _ _ Q q => h _ σ G H m Q q
theorem ge_at {ti tj : TE} {Ψ : Dt → List En → Prop} (h : AE K ti ρ fun d ρ1 => ∃ i : Nat, d = .int (i : Int) ∧ i < n ∧ AE K tj ρ1 fun d2 ρ2 => ∃ j : Nat, d2 = .int (j : Int) ∧ j < n ∧ Ψ (oD (M i j)) ρ2) : GE K t n (tOp (rIx K) (tOp (rIxL K) (tVar t) ti) tj) ρ M Ψ := fun B σ G H a rs m hs g Q q =>
  ⟨_, hs, h _ σ G H m _ fun v d ρ1 G1 H1 m1 s1 t1 r1 ⟨i, e, li, h1⟩ => by
    subst e
    cases (show v = V.int (i : Int) from r1)
    have g1 := g.keep t1
    have ei : rs[i]? = some (rs[i]'(by rw [g1.len]; exact li)) := List.getElem?_eq_getElem _
    generalize rs[i]'(by rw [g1.len]; exact li) = r at ei
    have top : (rs.map V.ref)[i]? = some (V.ref r) := by rw [List.getElem?_map, ei]; rfl
    refine ⟨a, _, _, _, rfl, rfl, SqL.of g1.top, atI_nat top, ?_⟩
    refine h1 _ σ G1 H1 m1 _ fun v2 d2 ρ2 G2 H2 m2 s2 t2 r2 ⟨j, e2, lj, h2⟩ => ?_
    subst e2
    cases (show v2 = V.int (j : Int) from r2)
    have g2 := g1.keep t2
    exact .inl ⟨r, _, _, _, rfl, rfl, SqL.of (g2.row i r ei), atI_nat (rowV_at lj), q _ (oD (M i j)) ρ2 G2 H2 m2 (s1.trans s2) (fun c o b e => t2 c o b (t1 c o b e)) rd_ov h2⟩⟩
theorem ga_nil {Ψ : List Dt → List En → Prop} (h : Ψ [] ρ) : GA K t n tNil ρ M Ψ := fun B σ G H a rs m hs g Q q => q [] [] ρ G H m (Same.refl _) Tr.refl rfl h
theorem ga_cons {ta : TE} {tr : TA} {Ψ : List Dt → List En → Prop} (h : GE K t n ta ρ M fun d ρ1 => GA K t n tr ρ1 M fun ds ρ2 => Ψ (d :: ds) ρ2) : GA K t n (tCons ta tr) ρ M Ψ := fun B σ G H a rs m hs g Q q =>
  h B σ G H a rs m hs g _ fun x d ρ1 G1 H1 m1 s1 t1 r1 h1 => h1 B σ G1 H1 a rs m1 hs (g.keep t1) _ fun xs ds ρ2 G2 H2 m2 s2 t2 r2 h2 =>
    q (x :: xs) (d :: ds) ρ2 G2 H2 m2 (s1.trans s2) (t1.trans t2) ⟨x, xs, rfl, r1.same s2, r2⟩ h2
theorem ge_call {S : List Dt → Dt → Prop} {E : XK} {ta : TA} {Ψ : Dt → List En → Prop} (h : GA K t n ta ρ M fun ds ρ1 => ∃ r, S ds r ∧ Ψ r ρ1) : GE K t n (tCall (spP K S) [] E ta) ρ M Ψ := fun B σ G H a rs m hs g Q q =>
  h B σ G H a rs m hs g _ fun vs ds ρ1 G1 H1 m1 s1 t1 r1 ⟨r, hs, p⟩ => ⟨G1, ds, r, m1.sub, by rw [List.append_nil]; exact r1, hs, fun v G2 H2 n r2 => q v r ρ1 G2 H2 (m1.nw n) (s1.trans n.g) (t1.trans (Tr.same n.h)) r2 p⟩
/-- a block beside the grid -/
def GS (K : PySem.W.Frag) (t n : Nat) (ts : TS) (ρ : List En) (M : Mx) (N : List En → Mx → Prop) (R : Dt → List En → Prop) : Prop := ∀ B σ G H a rs, Fre B a rs → Mt K (Bg B a rs) ρ σ G H → σ[t]? = some (some (.ref a)) → Gr H a rs n M → ∀ D : Ends,
  (∀ σ' ρ' G' H' M', Mt K (Bg B a rs) ρ' σ' G' H' → σ'[t]? = some (some (.ref a)) → Gr H' a rs n M' → Same G G' → Tr B H H' → N ρ' M' → D.nx σ' H') →
  (∀ v d σ' ρ' G' H', Mt K B ρ' σ' G' H' → Same G G' → Tr B H H' → RD K G' d v → R d ρ' → D.rt v H') → ts D σ H
theorem gs_seq {a b : TS} (h : GS K t n a ρ M (fun ρ1 M1 => GS K t n b ρ1 M1 N R) R) : GS K t n (tSeq a b) ρ M N R := fun B σ G H p rs fr m hs g D qn qr =>
  h B σ G H p rs fr m hs g { D with nx := b D } (fun σ1 ρ1 G1 H1 M1 m1 hs1 g1 s1 t1 h1 => h1 B σ1 G1 H1 p rs fr m1 hs1 g1 D (fun σ' ρ' G' H' M' m' hs' g' s t z => qn σ' ρ' G' H' M' m' hs' g' (s1.trans s) (t1.trans t) z) fun v d σ' ρ' G' H' m' s t r z => qr v d σ' ρ' G' H' m' (s1.trans s) (t1.trans t) r z) qr
theorem gs_next (h : N ρ M) : GS K t n tNext ρ M N R := fun B σ G H p rs fr m hs g D qn qr => qn σ ρ G H M m hs g (Same.refl _) Tr.refl h
theorem gs_par {ta : TA} {i j : Nat} (ni : i ≠ t) (nj : j ≠ t) (h : GA K t n ta ρ M fun ds ρ1 => ∃ d e, ds = [d, e] ∧ N ((ρ1.set i (.da d)).set j (.da e)) M) : GS K t n (tPar i j ta) ρ M N R := fun B σ G H p rs fr m hs g D qn qr =>
  h B σ G H p rs m hs g _ fun vs ds ρ1 G1 H1 m1 s1 t1 r1 ⟨d, e, z, h1⟩ => by
    subst z
    obtain ⟨x, y, rfl, r2, r3⟩ := r1.two
    exact ⟨x, y, rfl, qn _ _ G1 H1 M ((m1.set i r2).set j r3) (by rw [List.getElem?_set_ne nj, List.getElem?_set_ne ni]; exact hs) (g.keep t1) s1 t1.out h1⟩
theorem gs_if {tt : TT} {ta tb : TS} (h : AT K tt ρ fun b ρ1 => (b = true → GS K t n ta ρ1 M N R) ∧ (b = false → GS K t n tb ρ1 M N R)) : GS K t n (tIfS tt ta tb) ρ M N R := fun B σ G H p rs fr m hs g D qn qr =>
  h _ σ G H m _ fun b ρ1 G1 H1 m1 s1 t1 h1 => by
    have q1 : ∀ σ' ρ' G' H' M', Mt K (Bg B p rs) ρ' σ' G' H' → σ'[t]? = some (some (.ref p)) → Gr H' p rs n M' → Same G1 G' → Tr B H1 H' → N ρ' M' → D.nx σ' H' := fun σ' ρ' G' H' M' m' hs' g' s t z => qn σ' ρ' G' H' M' m' hs' g' (s1.trans s) (t1.out.trans t) z
    have q2 : ∀ v d σ' ρ' G' H', Mt K B ρ' σ' G' H' → Same G1 G' → Tr B H1 H' → RD K G' d v → R d ρ' → D.rt v H' := fun v d σ' ρ' G' H' m' s t r z => qr v d σ' ρ' G' H' m' (s1.trans s) (t1.out.trans t) r z
    cases b
    · rw [if_neg (by decide)]; exact h1.2 rfl B σ G1 H1 p rs fr m1 hs (g.keep t1) D q1 q2
    · rw [if_pos rfl]; exact h1.1 rfl B σ G1 H1 p rs fr m1 hs (g.keep t1) D q1 q2
/-- grid[i][j] = e -/
theorem gs_put {te ti tj : TE} (h : GE K t n te ρ M fun d ρ1 => ∃ o, d = oD o ∧ AE K ti ρ1 fun d1 ρ2 => ∃ i : Nat, d1 = .int (i : Int) ∧ i < n ∧ AE K tj ρ2 fun d2 ρ3 => ∃ j : Nat, d2 = .int (j : Int) ∧ j < n ∧ N ρ3 (setO M i j o)) : GS K t n (tAsg te (gSub (tOp (rIxL K) (tVar t) ti) tj rSetL)) ρ M N R := fun B σ G H p rs fr m hs g D qn qr =>
  h B σ G H p rs m hs g _ fun v0 d0 ρ1 G1 H1 m1 s1 t1 r1 ⟨o, e0, h1⟩ => by
    subst e0
    rw [rd_ov' r1]
    have g1 := g.keep t1
    refine ⟨_, hs, h1 _ σ G1 H1 m1 _ fun v d ρ2 G2 H2 m2 s2 t2 r2 ⟨i, e, li, h2⟩ => ?_⟩
    subst e
    cases (show v = V.int (i : Int) from r2)
    have g2 := g1.keep t2
    have ei : rs[i]? = some (rs[i]'(by rw [g2.len]; exact li)) := List.getElem?_eq_getElem _
    generalize rs[i]'(by rw [g2.len]; exact li) = r at ei
    have top : (rs.map V.ref)[i]? = some (V.ref r) := by rw [List.getElem?_map, ei]; rfl
    refine ⟨p, _, _, _, rfl, rfl, SqL.of g2.top, atI_nat top, ?_⟩
    refine h2 _ σ G2 H2 m2 _ fun v2 d2 ρ3 G3 H3 m3 s3 t3 r3 ⟨j, e2, lj, h3⟩ => ?_
    subst e2
    cases (show v2 = V.int (j : Int) from r3)
    have g3 := g2.keep t3
    have mr : Bg B p rs r := .inr (.inr (List.mem_of_getElem? ei))
    refine ⟨r, _, _, j, rfl, rfl, g3.row i r ei, ?_, ?_⟩
    · rw [rowV_len]; unfold ixN; rw [if_pos (by omega), if_pos (by omega)]; congr 1
    · have nB : ∀ c, B c → c ≠ r := fun c hc e => fr.2 r (List.mem_of_getElem? ei) (e ▸ hc)
      have gr : G3 r = none := (m3.pro r mr).1
      refine qn σ ρ3 G3 _ _ ?_ hs (g3.setO ei o) ((s1.trans s2).trans s3) ?_ h3
      · refine ⟨fun c u e => ?_, fun c hc => ⟨(m3.pro c hc).1, ?_⟩, m3.len, m3.da, fun k l hk => ?_, fun k b f hk => ?_, m3.dis⟩
        · rw [upd_ne (fun z => by rw [z, gr] at e; cases e)]; exact m3.sub c u e
        · by_cases z : c = r
          · rw [z, upd_same]; exact fun w => by cases w
          · rw [upd_ne z]; exact (m3.pro c hc).2
        · obtain ⟨q, xs, z1, z2, z3, z4, z5⟩ := m3.own k l hk
          exact ⟨q, xs, z1, by rw [upd_ne (fun z => z5 (by rw [z]; exact mr))]; exact z2, z3, z4, z5⟩
        · obtain ⟨y, c, z1, z2, z3, z4, z5, z6⟩ := m3.bx k b f hk
          refine ⟨y, c, z1, ?_, z3, z4, z5, z6⟩
          have nb : b ≠ r := fun z => z6 (by rw [z]; exact mr)
          obtain ⟨x, e, z⟩ := z2
          exact ⟨x, by rw [upd_ne nb]; exact e, z⟩
      · intro c u hc e
        rw [upd_ne (nB c hc)]
        exact (t1.out.trans (t2.out.trans t3.out)) c u hc e
theorem gs_for {wi : TI} {g : TG} {tb : TS} {vs : List Nat} (nt : t ∉ vs) (h : AI K wi ρ fun l ρ1 => ∃ I : Nat → List En → Mx → Prop, I 0 ρ1 M ∧ (∀ i d ρ2 M2, l[i]? = some d → I i ρ2 M2 → AGv K vs g d ρ2 fun ρ3 => GS K t n tb ρ3 M2 (I (i + 1)) R) ∧ ∀ ρ2 M2, I l.length ρ2 M2 → N ρ2 M2) : GS K t n (tFor wi g tb) ρ M N R := fun B σ G H p rs fr m hs gr D qn qr =>
  h _ σ G H m _ fun J l ρ1 G1 H1 m1 s1 t1 w ⟨I, i0, is, ie⟩ => by
    refine for_it w.walk (fun i σ2 H2 => ∃ ρ2 G2 M2, Mt K (Bg B p rs) ρ2 σ2 G2 H2 ∧ σ2[t]? = some (some (V.ref p)) ∧ Gr H2 p rs n M2 ∧ Same G1 G2 ∧ Tr B H1 H2 ∧ I i ρ2 M2) ⟨ρ1, G1, M, m1, hs, gr.keep t1, Same.refl _, Tr.refl, i0⟩ (fun i σ2 H2 _ ⟨ρ2, G2, M2, m2, _, _, s2, t2, p⟩ => s2.trans m2.sub) ?_ ?_
    · rintro i x σ2 H2 H3 hi ⟨ρ2, G2, M2, m2, hs2, g2, s2, t2, pI⟩ y
      obtain ⟨G3, d, n3, hd, rd⟩ := y G2 s2 m2.sub
      have t3 : Tr (Bg B p rs) H2 H3 := Tr.same n3.h
      refine is i d ρ2 M2 hd pI _ σ2 G3 H3 (m2.nw n3) x rd _ fun σ4 ρ4 G4 H4 m4 s4 t4 o4 h4 => ?_
      refine h4 B σ4 G4 H4 p rs fr m4 (by rw [o4.2 t nt]; exact hs2) ((g2.keep t3).keep t4) _ (fun σ5 ρ5 G5 H5 M5 m5 hs5 g5 s5 t5 p5 => ⟨ρ5, G5, M5, m5, hs5, g5, (((s2.trans n3.g).trans s4).trans s5), (((t2.trans t3.out).trans t4.out).trans t5), p5⟩) ?_
      exact fun v d σ5 ρ5 G5 H5 m5 s5 t5 r5 p5 => qr v d σ5 ρ5 G5 H5 m5 ((((s1.trans s2).trans n3.g).trans s4).trans s5) ((((t1.out.trans t2).trans t3.out).trans t4.out).trans t5) r5 p5
    · rintro σ2 H2 ⟨ρ2, G2, M2, m2, hs2, g2, s2, t2, pI⟩
      exact qn σ2 ρ2 G2 H2 M2 m2 hs2 g2 (s1.trans s2) (t1.out.trans t2) (ie ρ2 M2 pI)
/-- the grid changes no more: from now on it is data -/
theorem gs_froz {ts : TS} (lt : t < ρ.length) (h : AS K ts (ρ.set t (.da (.lst (grD n M)))) (fun _ => False) R) : GS K t n ts ρ M N R := fun B σ G H p rs fr m hs g D qn qr => by
  classical
  have gN : ∀ c, (c = p ∨ c ∈ rs) → G c = none := fun c hc => (m.pro c (.inr hc)).1
  have cut : ∀ c, ¬ (c = p ∨ c ∈ rs) → (fun c => if c = p ∨ c ∈ rs then H c else G c : Hp) c = G c := fun c hc => if_neg hc
  have inn : ∀ c, (c = p ∨ c ∈ rs) → (fun c => if c = p ∨ c ∈ rs then H c else G c : Hp) c = H c := fun c hc => if_pos hc
  generalize (fun c => if c = p ∨ c ∈ rs then H c else G c : Hp) = G' at cut inn
  have sg : Same G G' := fun c o e => by
    rw [cut c (fun hc => by rw [gN c hc] at e; cases e)]; exact e
  have m' : Mt K B ρ σ G' H := by
    refine ⟨fun c o e => ?_, fun c hc => ⟨?_, (m.pro c (.inl hc)).2⟩, m.len, fun i d e => ?_, fun i l e => ?_, fun i b f e => ?_, m.dis⟩
    · by_cases hc : c = p ∨ c ∈ rs
      · rw [inn c hc] at e; exact e
      · rw [cut c hc] at e; exact m.sub c o e
    · rw [cut c (fun z => by
        rcases z with z | z
        · exact fr.1 (z ▸ hc)
        · exact fr.2 c z hc)]
      exact (m.pro c (.inl hc)).1
    · obtain ⟨v, e1, e2⟩ := m.da i d e
      exact ⟨v, e1, e2.same sg⟩
    · obtain ⟨q, xs, z1, z2, z3, z4, z5⟩ := m.own i l e
      exact ⟨q, xs, z1, z2, z3.same sg, by rw [cut q (fun z => z5 (.inr z))]; exact z4, fun z => z5 (.inl z)⟩
    · obtain ⟨y, c, z1, z2, z3, z4, z5, z6⟩ := m.bx i b f e
      exact ⟨y, c, z1, z2, z3, z4, by rw [cut b (fun z => z6 (.inr z))]; exact z5, fun z => z6 (.inl z)⟩
  have rd : RD K G' (.lst (grD n M)) (.ref p) := by
    refine ⟨p, rs.map V.ref, rfl, by rw [inn p (.inl rfl)]; exact g.top, rds_of (by unfold grD; rw [List.length_map, List.length_map, List.length_range, g.len]) fun k d v h1 h2 => ?_⟩
    have hk : k < n := by
      have := (List.getElem?_eq_some_iff.mp h1).1
      unfold grD at this; rw [List.length_map, List.length_range] at this; exact this
    rw [grD_at hk] at h1
    cases h1
    rw [List.getElem?_map] at h2
    cases er : rs[k]? with
    | none => rw [er] at h2; cases h2
    | some r =>
      rw [er] at h2
      cases h2
      exact ⟨r, rowV n M k, rfl, by rw [inn r (.inr (List.mem_of_getElem? er))]; exact g.row k r er, by rw [row_map]; exact rds_ov⟩
  have es : σ.set t (some (V.ref p)) = σ := by
    refine List.ext_getElem? fun i => ?_
    rw [List.getElem?_set]
    by_cases e : t = i
    · subst e
      rw [if_pos rfl, if_pos (by rw [m.len]; exact lt)]; exact hs.symm
    · rw [if_neg e]
  have m2 := m'.set t rd
  rw [es] at m2
  exact h B σ G' H m2 D (fun _ _ _ _ _ _ _ z => z.elim) fun v d σ' ρ' G2 H2 m3 s t r z => qr v d σ' ρ' G2 H2 m3 (sg.trans s) t r z
/-- grid = [[None] * n for k in range(n)] -/
theorem as_mkGrid {i k : Nat} {rest : TS} {N' : List En → Prop} (e : ρ[i]? = some (.da (.int (n : Int)))) (n100 : n ≤ 100) (ik : i ≠ k) (lt : t < ρ.length) (kt : k ≠ t) (hk : ρ[k]? = some .no) (h : GS K t n rest (ρ.set t .no) (fun _ _ => none) (fun _ _ => False) R) :
    AS K (tSeq (tAsg (tLc (iRng1 (tCons (tVar i) tNil)) (gName k) tYes (tOp rRep (tLst (tCons (tC .non) tNil)) (tVar i)) [k]) (gName t)) rest) ρ N' R := fun B σ G H m D qn qr => by
  obtain ⟨v, e1, r⟩ := m.da i _ e
  cases (show v = V.int (n : Int) from r)
  have z9 : 1000 ≤ sizeLine := by decide
  refine ⟨_, e1, (n : Int), rfl, by omega, by omega, fun D0 nD => ?_⟩
  rw [Int.toNat_natCast]
  refine lc_range (fun j H2 => ∃ rs, Pg H H2 D0 rs j n (fun _ _ => none)) ⟨[], upd_same, rfl, List.nodup_nil, List.not_mem_nil, fun k r h => (by cases h), fun r h => (by cases h), same_up nD⟩ ?_ ?_
  · rintro j H2 hj ⟨rs, p⟩
    have ew : L2.wipe σ [k] = σ.set k none := rfl
    refine ⟨?_, ?_⟩
    · show (((σ.set k none).set k (some _)).set k none) = σ.set k none
      rw [List.set_set, List.set_set]
    unfold tYes
    show (if (true : Bool) = true then _ else _)
    rw [if_pos rfl]
    refine ⟨by show 1 ≤ sizeLine; omega, fun c nc => ?_⟩
    have p2 := p.same (same_up (o := .lst [.non]) nc)
    have uc : (upd H2 c (.lst [.non])) c = some (.lst [.non]) := upd_same
    generalize upd H2 c (.lst [.non]) = H3 at p2 uc
    refine ⟨.int (n : Int), ?_, ?_⟩
    · show ((σ.set k none).set k (some _))[i]? = _
      rw [List.set_set, List.getElem?_set_ne (fun z => ik z.symm)]; exact e1
    refine ⟨c, (n : Int), [.non], rfl, rfl, uc, by omega, by omega, by show 1 * (n : Int).toNat ≤ sizeLine; rw [Int.toNat_natCast]; omega, fun d nd => ?_⟩
    have er : (List.replicate (n : Int).toNat [V.non]).flatten = rowV n (fun _ _ => none) j := by
      rw [Int.toNat_natCast]
      unfold rowV
      have : ∀ q : Nat, (List.replicate q [V.non]).flatten = (List.range q).map fun _ => ov none := fun q => by
        induction q with
        | zero => rfl
        | succ q ih => rw [List.range_succ, List.map_append, ← ih, List.replicate_succ', List.flatten_append]; rfl
      exact this n
    rw [er]
    have cD : D0 ≠ d := fun z => by rw [← z, p2.top] at nd; cases nd
    exact ⟨_, by rw [upd_ne cD]; exact p2.top, by rw [List.length_map, p2.len]; omega, _, p2.app nD nd⟩
  rintro H2 ⟨rs, p⟩
  have nr : ∀ c, c = D0 ∨ c ∈ rs → H c = none := fun c hc => by
    rcases hc with rfl | hc
    · exact nD
    · exact p.fr c hc
  have m2 : Mt K (Bg B D0 rs) (ρ.set t .no) (σ.set t (some (.ref D0))) G H2 := by
    have m1 : Mt K (Bg B D0 rs) ρ σ G H2 := by
      refine ⟨m.sub.trans p.sm, fun c hc => ?_, m.len, m.da, fun i l e => ?_, fun i b f e => ?_, m.dis⟩
      · rcases hc with hc | hc
        · exact ⟨(m.pro c hc).1, fun z => by
            cases ec : H c with
            | none => exact (m.pro c hc).2 ec
            | some o => rw [p.sm c o ec] at z; cases z⟩
        · refine ⟨?_, ?_⟩
          · cases eg : G c with
            | none => rfl
            | some o => have := m.sub c o eg; rw [nr c hc] at this; cases this
          · rcases hc with rfl | hc
            · rw [p.top]; exact fun z => by cases z
            · obtain ⟨q, hq, e2⟩ := List.getElem_of_mem hc
              rw [p.row q c (by rw [List.getElem?_eq_getElem hq, e2])]
              exact fun z => by cases z
      · obtain ⟨q, xs, z1, z2, z3, z4, z5⟩ := m.own i l e
        exact ⟨q, xs, z1, p.sm _ _ z2, z3, z4, fun z => by
          rcases z with z | z
          · exact z5 z
          · rw [nr q z] at z2; cases z2⟩
      · obtain ⟨y, c, z1, ⟨x, z2, z2'⟩, z3, z4, z5, z6⟩ := m.bx i b f e
        exact ⟨y, c, z1, ⟨x, p.sm _ _ z2, z2'⟩, z3, z4, z5, fun z => by
          rcases z with z | z
          · exact z6 z
          · rw [nr b z] at z2; cases z2⟩
    exact m1.drop t _
  have fre : Fre B D0 rs := ⟨fun z => (m.pro D0 z).2 nD, fun r hr z => (m.pro r z).2 (p.fr r hr)⟩
  refine h B _ G H2 D0 rs fre m2 (by rw [List.getElem?_set_self (by rw [m.len]; exact lt)]) ⟨p.top, p.len, p.nd, p.na, p.row⟩ D (fun _ _ _ _ _ _ _ _ _ _ z => z.elim) fun v d σ' ρ' G2 H3 m3 s t r z => qr v d σ' ρ' G2 H3 m3 s ((Tr.same p.sm).trans t) r z
end
end Sh
set_option Elab.async false
set_option linter.all false
set_option maxRecDepth 100000
set_option maxHeartbeats 4000000
/-! the law's matrix: the zero first -/
namespace Sh
open PySem PySem.Spec PyProof.Rows L2
theorem ai_enQ2 {K : PySem.W.Frag} {ρ : List En} {ta : TA} {Θ : List Dt → List En → Prop} (k : Bool) (h : AA K ta ρ fun ds ρ1 => ∃ l, ds = [sq k l] ∧ Θ (enD l) ρ1) : AI K (fun σ H R => iEnum K ta σ H R ∨ iEnT K ta σ H R) ρ Θ := by
  cases k
  · exact ai_or1 (ai_enum h)
  · exact ai_or2 (ai_enT h)
theorem en_at {l : List Dt} {i : Nat} {d : Dt} (h : (enD l)[i]? = some d) : ∃ e, l[i]? = some e ∧ d = .tup [.int (i : Int), e] := by
  have lt := (List.getElem?_eq_some_iff.mp h).1
  rw [enD_len] at lt
  have e1 : l[i]? = some l[i] := List.getElem?_eq_getElem lt
  rw [enD_get e1] at h
  cases h
  exact ⟨_, e1, rfl⟩
def lzM (n : Nat) (g : Mx) (lo hi : Nat → Option Int) : Mx
  | 0, 0 => some 0
  | 0, j + 1 => if j < n then ngO (lo j) else none
  | i + 1, 0 => if i < n then hi i else none
  | i + 1, j + 1 => if i < n ∧ j < n then g i j else none
def pzM (n : Nat) (g : Mx) (lo hi : Nat → Option Int) (k : Nat) : Mx
  | 0, 0 => none
  | 0, j + 1 => if j < k then ngO (lo j) else none
  | i + 1, 0 => if i < k then hi i else none
  | i + 1, j + 1 => if i < k ∧ j < n then g i j else none
def qzM (n : Nat) (g : Mx) (lo hi : Nat → Option Int) (k q : Nat) : Mx
  | 0, 0 => none
  | 0, j + 1 => if j < k + 1 then ngO (lo j) else none
  | i + 1, 0 => if i < k + 1 then hi i else none
  | i + 1, j + 1 => if (i < k ∧ j < n) ∨ (i = k ∧ j < q) then g i j else none
section
variable {n : Nat} {g : Mx} {lo hi : Nat → Option Int} {k q : Nat}
theorem pz_0 : pzM n g lo hi 0 = fun _ _ => none := by
  funext i j
  cases i with
  | zero => cases j with
    | zero => rfl
    | succ j => show (if j < 0 then ngO (lo j) else none) = _; exact if_neg (by omega)
  | succ i => cases j with
    | zero => show (if i < 0 then hi i else none) = _; exact if_neg (by omega)
    | succ j => show (if i < 0 ∧ j < n then g i j else none) = _; exact if_neg (by omega)
theorem pz_q : setO (setO (pzM n g lo hi k) (k + 1) 0 (hi k)) 0 (k + 1) (ngO (lo k)) = qzM n g lo hi k 0 := by
  funext i j
  unfold setO
  cases i with
  | zero => cases j with
    | zero => rw [if_neg (by omega), if_neg (by omega)]; rfl
    | succ j =>
      by_cases e : j = k
      · subst e
        rw [if_pos ⟨rfl, rfl⟩]
        show _ = if j < j + 1 then _ else _
        rw [if_pos (by omega)]
      · rw [if_neg (by omega), if_neg (by omega)]
        show (if j < k then _ else _) = if j < k + 1 then _ else _
        by_cases c : j < k
        · rw [if_pos c, if_pos (by omega)]
        · rw [if_neg c, if_neg (by omega)]
  | succ i => cases j with
    | zero =>
      rw [if_neg (by omega)]
      by_cases e : i = k
      · subst e
        rw [if_pos ⟨rfl, rfl⟩]
        show _ = if i < i + 1 then _ else _
        rw [if_pos (by omega)]
      · rw [if_neg (by omega)]
        show (if i < k then _ else _) = if i < k + 1 then _ else _
        by_cases c : i < k
        · rw [if_pos c, if_pos (by omega)]
        · rw [if_neg c, if_neg (by omega)]
    | succ j =>
      rw [if_neg (by omega), if_neg (by omega)]
      show (if i < k ∧ j < n then _ else _) = if (i < k ∧ j < n) ∨ (i = k ∧ j < 0) then _ else _
      by_cases c : i < k ∧ j < n
      · rw [if_pos c, if_pos (.inl c)]
      · rw [if_neg c, if_neg (by omega)]
theorem qz_s : setO (qzM n g lo hi k q) (k + 1) (q + 1) (g k q) = qzM n g lo hi k (q + 1) := by
  funext i j
  unfold setO
  cases i with
  | zero => rw [if_neg (by omega)]; cases j <;> rfl
  | succ i => cases j with
    | zero => rw [if_neg (by omega)]; rfl
    | succ j =>
      by_cases e : i = k ∧ j = q
      · obtain ⟨rfl, rfl⟩ := e
        rw [if_pos ⟨rfl, rfl⟩]
        show _ = if (i < i ∧ j < n) ∨ (i = i ∧ j < j + 1) then _ else _
        rw [if_pos (.inr ⟨rfl, by omega⟩)]
      · rw [if_neg (by omega)]
        show (if (i < k ∧ j < n) ∨ (i = k ∧ j < q) then _ else _) = if (i < k ∧ j < n) ∨ (i = k ∧ j < q + 1) then _ else _
        by_cases c : (i < k ∧ j < n) ∨ (i = k ∧ j < q)
        · rw [if_pos c, if_pos (by omega)]
        · rw [if_neg c, if_neg (by omega)]
theorem qz_n : qzM n g lo hi k n = pzM n g lo hi (k + 1) := by
  funext i j
  cases i with
  | zero => cases j <;> rfl
  | succ i => cases j with
    | zero => rfl
    | succ j =>
      show (if (i < k ∧ j < n) ∨ (i = k ∧ j < n) then _ else _) = if i < k + 1 ∧ j < n then _ else _
      by_cases c : i < k + 1 ∧ j < n
      · rw [if_pos c, if_pos (by omega)]
      · rw [if_neg c, if_neg (by omega)]
theorem pz_l : setO (pzM n g lo hi n) 0 0 (some 0) = lzM n g lo hi := by
  funext i j
  unfold setO
  cases i with
  | zero => cases j with
    | zero => rw [if_pos ⟨rfl, rfl⟩]; rfl
    | succ j => rw [if_neg (by omega)]; rfl
  | succ i => rw [if_neg (by omega)]; cases j <;> rfl
theorem lz_dg (hg : ∀ i, i < n → ∃ x, g i i = some x) {i : Nat} (h : i < n + 1) : ∃ x, lzM n g lo hi i i = some x := by
  cases i with
  | zero => exact ⟨0, rfl⟩
  | succ i =>
    obtain ⟨x, hx⟩ := hg i (by omega)
    exact ⟨x, by show (if i < n ∧ i < n then _ else _) = _; rw [if_pos ⟨by omega, by omega⟩]; exact hx⟩
end
theorem st_none1 {v i j : Nat} {M : Mx} (h : M i v = none) : Fw.stM v i M j = M := by unfold Fw.stM; rw [h]
theorem st_none2 {v i j : Nat} {M : Mx} (h : M v j = none) : Fw.stM v i M j = M := by unfold Fw.stM; rw [h]; cases M i v <;> rfl
theorem st_less {v i j : Nat} {M : Mx} {x y : Int} (h1 : M i v = some x) (h2 : M v j = some y) : setO M i j (lsO (M i j) (some (x + y))) = Fw.stM v i M j := by
  unfold Fw.stM
  rw [h1, h2]
  have same : ∀ o, setO M i j (some o) = Fw.setM M i j o := fun o => by
    funext a b
    rfl
  cases h3 : M i j with
  | none => exact same _
  | some z =>
    show setO M i j (some (if x + y < z then x + y else z)) = if x + y < z then _ else _
    by_cases c : x + y < z
    · rw [if_pos c, if_pos c]; exact same _
    · rw [if_neg c, if_neg c]
      funext a b
      unfold setO
      by_cases e : a = i ∧ b = j
      · obtain ⟨rfl, rfl⟩ := e
        rw [if_pos ⟨rfl, rfl⟩, h3]
      · rw [if_neg e]
def leD (n : Nat) (M : Mx) : Dt := if (List.range n).any (ngB M) = true then .non else .lst (grD n M)
def loF (vs : List Vl) (i : Nat) : Option Int := match vs[i]? with
  | some v => v.lo
  | none => none
def hiF (vs : List Vl) (i : Nat) : Option Int := match vs[i]? with
  | some v => v.hi
  | none => none
def lzS (vs : List Vl) (g : Mx) : Mx := lzM vs.length g (loF vs) (hiF vs)
def S_le (ds : List Dt) (res : Dt) : Prop := ∃ s g, ds = [Sta.d s] ∧ s.gp = some g ∧ s.vs.length ≤ 90 ∧ (∀ i, i < s.vs.length → ∃ x, g i i = some x) ∧ res = leD (s.vs.length + 1) (Fw.fwM (s.vs.length + 1) (lzS s.vs g))
end Sh
set_option Elab.async false
set_option linter.all false
set_option maxRecDepth 100000
set_option maxHeartbeats 4000000
namespace Sh
open PySem PySem.Spec PyProof.Rows L2
abbrev s_l_least : Stmt := topS 39
abbrev N_l_least : List Str := ["_law_state_so", "_law_many_so", "_law_table_so", "_law_mid", "_law_k", "_law_i", "_law_low", "_law_high", "_law_m", "_law_r", "_law_j", "_law_limit_so", "_law_one", "_law_other"]
abbrev p_l_least : List Str := ["_law_state_so"]
theorem sc_l_least : FnScope N_l_least p_l_least (defScope s_l_least) := ⟨rfl, rfl, rfl, by decide +kernel, rfl, by decide +kernel, by decide +kernel⟩
section
variable {K : PySem.W.Frag}
theorem ag_en {k : Nat} {v : Vl} {ρ : List En} {N : List En → Prop} (h : N (((((ρ.set 4 (.da (.int (k : Int)))).set 6 (.da (oD v.lo))).set 7 (.da (oD v.hi))).set 8 (.da (.int v.m))).set 9 (.da (.int v.r)))) : AGv K [4, 6, 7, 8, 9] (gTup K 2 (gCons (gName 4) (gCons (gTup K 4 (gCons (gName 6) (gCons (gName 7) (gCons (gName 8) (gCons (gName 9) gNil))))) gNil))) (.tup [.int (k : Int), vlD v]) ρ N :=
  agv_tup rfl (agvs_cons (agv_name (by simp) (agvs_cons (agv_tup rfl (agvs_cons (agv_name (by simp) (agvs_cons (agv_name (by simp) (agvs_cons (agv_name (by simp) (agvs_cons (agv_name (by simp) (agvs_nil (agvs_nil h))))))))))))))
end
section
variable {P : Program} {w : World} {K : PySem.W.Frag} {mg : Str → Option Value} {base : Heap}
theorem ok_l_least (bl : Blts mg) {g_l_less : Addr} {d_l_less : FuncData} (c_l_less : Cal P w K mg base 1 "_law_less" p_l_less (spP K S_ls) g_l_less d_l_less)  {f : Addr} {fd : FuncData} (F : Fun K "_law_least" "_law_least" s_l_least f fd) : FnOk P w K mg base CX0 2 f fd p_l_least (spP K (S_le)) := by
  refine okP F sc_l_least (fun ds r h => ?_) (fun cdv A outer s H E hr ds r h => ?_)
  · obtain ⟨s, g, rfl, eg, n90, hg, rfl⟩ := h
    rfl
  obtain ⟨s, g, rfl, eg, n90, hg, rfl⟩ := h
  refine ⟨_, (pss_cons (ps_set (i := 1) sc_l_least.nd rfl (by first | exact Or.inl rfl | exact Or.inr rfl) (pe_op op_add (pe_callB call_len_seq rfl bl.len (by decide +kernel) (pa_cons (pe_ix ix_seq (pv 0) pe_int (fun _ _ => rfl)) pa_nil)) pe_int))
    (pss_cons (ps_set (i := 2) sc_l_least.nd rfl (by first | exact Or.inl rfl | exact Or.inr rfl) (pe_lc (own := [("_law_k", 4)]) (g := (gName 4)) (te := (tOp rRep (tLst (tCons (tC .non) tNil)) (tVar 1))) (tt := tYes) rfl sc_l_least.nd (pi_range1 rfl bl.range (pa_cons (pv 1) pa_nil)) (blkOk_by (N := N_l_least) (sc := defScope s_l_least) (by decide +kernel)) (fun _ _ _ _ _ => (pg_name (i := 4) sc_l_least.nd rfl (by first | exact Or.inl rfl | exact Or.inr rfl))) (fun _ _ _ _ _ => pts_nil) (fun _ _ _ _ _ => (pe_op op_rep (pe_lst (pa_cons pe_non pa_nil)) (pv 1)))))
    (pss_cons (ps_for PassesOwn.never rfl (pi_or (pi_enum rfl bl.enumerate (pa_cons (pe_ix ix_seq (pv 0) pe_int (fun _ _ => rfl)) pa_nil)) (pi_enT rfl bl.enumerate (pa_cons (pe_ix ix_seq (pv 0) pe_int (fun _ _ => rfl)) pa_nil))) (pg_tup rfl (pgs_cons (pg_name (i := 4) sc_l_least.nd rfl (by first | exact Or.inl rfl | exact Or.inr rfl)) (pgs_cons (pg_tup rfl (pgs_cons (pg_name (i := 6) sc_l_least.nd rfl (by first | exact Or.inl rfl | exact Or.inr rfl)) (pgs_cons (pg_name (i := 7) sc_l_least.nd rfl (by first | exact Or.inl rfl | exact Or.inr rfl)) (pgs_cons (pg_name (i := 8) sc_l_least.nd rfl (by first | exact Or.inl rfl | exact Or.inr rfl)) (pgs_cons (pg_name (i := 9) sc_l_least.nd rfl (by first | exact Or.inl rfl | exact Or.inr rfl)) pgs_nil))))) pgs_nil))) (pss_cons (ps_asg (pv 7) (pg_sub (pe_ix ix_list (pv 2) (pe_op op_add (pv 4) pe_int) (fun _ _ => rfl)) pe_int set_list))
    (pss_cons (ps_asg (pe_ifExp (pt_cmpR op_isN (pv 6) pe_non (nomark _)) pe_non (pe_op op_sub pe_int (pv 6))) (pg_sub (pe_ix ix_list (pv 2) pe_int (fun _ _ => rfl)) (pe_op op_add (pv 4) pe_int) set_list))
    (pss_one (ps_for PassesOwn.never rfl (pi_or (pi_enum rfl bl.enumerate (pa_cons (pe_ix ix_seq (pe_ix ix_seq (pv 0) pe_int (fun _ _ => rfl)) (pv 4) (fun _ _ => rfl)) pa_nil)) (pi_enT rfl bl.enumerate (pa_cons (pe_ix ix_seq (pe_ix ix_seq (pv 0) pe_int (fun _ _ => rfl)) (pv 4) (fun _ _ => rfl)) pa_nil))) (pg_tup rfl (pgs_cons (pg_name (i := 10) sc_l_least.nd rfl (by first | exact Or.inl rfl | exact Or.inr rfl)) (pgs_cons (pg_name (i := 11) sc_l_least.nd rfl (by first | exact Or.inl rfl | exact Or.inr rfl)) pgs_nil))) (pss_one (ps_asg (pv 11) (pg_sub (pe_ix ix_list (pv 2) (pe_op op_add (pv 4) pe_int) (fun _ _ => rfl)) (pe_op op_add (pv 10) pe_int) set_list))))))))
    (pss_cons (ps_asg pe_int (pg_sub (pe_ix ix_list (pv 2) pe_int (fun _ _ => rfl)) pe_int set_list))
    (pss_cons (ps_for PassesOwn.never rfl (pi_range1 rfl bl.range (pa_cons (pv 1) pa_nil)) (pg_name (i := 3) sc_l_least.nd rfl (by first | exact Or.inl rfl | exact Or.inr rfl)) (pss_one (ps_for PassesOwn.never rfl (pi_range1 rfl bl.range (pa_cons (pv 1) pa_nil)) (pg_name (i := 5) sc_l_least.nd rfl (by first | exact Or.inl rfl | exact Or.inr rfl)) (pss_one (ps_for PassesOwn.never rfl (pi_range1 rfl bl.range (pa_cons (pv 1) pa_nil)) (pg_name (i := 10) sc_l_least.nd rfl (by first | exact Or.inl rfl | exact Or.inr rfl)) (pss_cons (ps_par (i := 12) (j := 13) (by rfl) sc_l_least.nd rfl rfl (by decide) rfl rfl (pa_cons (pe_ix ix_seq (pe_ix ix_list (pv 2) (pv 5) (fun _ _ => rfl)) (pv 3) (fun _ _ => rfl)) (pa_cons (pe_ix ix_seq (pe_ix ix_list (pv 2) (pv 3) (fun _ _ => rfl)) (pv 10) (fun _ _ => rfl)) pa_nil)) (by rfl))
    (pss_one (ps_if (PW.pt (pw_and (pt_cmpR op_notN (pv 12) pe_non (nomark _)) (pw_and1 (pt_cmpR op_notN (pv 13) pe_non (nomark _))))) (pss_one (ps_asg (pe_call c_l_less.ok (hr.mono (by decide)) rfl c_l_less.mg c_l_less.kp c_l_less.bi .nil pass0 (pa_cons (pe_ix ix_seq (pe_ix ix_list (pv 2) (pv 5) (fun _ _ => rfl)) (pv 10) (fun _ _ => rfl)) (pa_cons (pe_op op_add (pv 12) (pv 13)) pa_nil))) (pg_sub (pe_ix ix_list (pv 2) (pv 5) (fun _ _ => rfl)) (pv 10) set_list))) pss_nil))))))))
    (pss_one (ps_ret (pe_ifExp (pt_val (pe_callB (cr_any rfl) rfl bl.any (by decide +kernel) (pa_cons (pe_lc (own := [("_law_k", 4)]) (g := (gName 4)) (te := (tOp (rI0 fun i j => .bl (decide (i < j))) (tOp (rIx K) (tOp (rIxL K) (tVar 2) (tVar 4)) (tVar 4)) (tC (.int 0)))) (tt := tYes) rfl sc_l_least.nd (pi_range1 rfl bl.range (pa_cons (pv 1) pa_nil)) (blkOk_by (N := N_l_least) (sc := defScope s_l_least) (by decide +kernel)) (fun _ _ _ _ _ => (pg_name (i := 4) sc_l_least.nd rfl (by first | exact Or.inl rfl | exact Or.inr rfl))) (fun _ _ _ _ _ => pts_nil) (fun _ _ _ _ _ => (pe_cmpR op_lt (pe_ix ix_seq (pe_ix ix_list (pv 2) (pv 4) (fun _ _ => rfl)) (pv 4) (fun _ _ => rfl)) pe_int (nomark _)))) pa_nil))) pe_non (pv 2))))))))), ?_⟩
  change AS K _ [En.da _, En.no, En.no, En.no, En.no, En.no, En.no, En.no, En.no, En.no, En.no, En.no, En.no, En.no] _ _
  try simp only [cxOf_K]
  have z9 : 9000 ≤ sizeLine := by decide
  obtain ⟨vs, og, its⟩ := s
  cases (show og = some g from eg)
  have n90 : vs.length ≤ 90 := n90
  have hg : ∀ i, i < vs.length → ∃ x, g i i = some x := hg
  refine as_seq (as_set (ae_op (ae_cb (aa_cons (ae_op (ae_var rfl (ae_int (ar_ixTs rfl (aa_nil (ac_lenT ?_))))))))))
  rw [List.length_map]
  refine ae_int (ar_I0i ?_)
  rw [show ((vs.length : Nat) : Int) + 1 = ((vs.length + 1 : Nat) : Int) by omega]
  have rg : ∀ k : Nat, (rgD 0 ((k : Nat) : Int).toNat) = (List.range k).map fun i => Dt.int ((i : Nat) : Int) := fun k => by
    unfold rgD
    rw [Int.toNat_natCast]
    exact List.map_congr_left fun i _ => by rw [Int.zero_add]
  have rl : ∀ k : Nat, ((List.range k).map fun i => Dt.int ((i : Nat) : Int)).length = k := fun k => by rw [List.length_map, List.length_range]
  refine as_mkGrid (n := vs.length + 1) (i := 1) (k := 4) (t := 2) rfl (by omega) (by decide) (by show 2 < 14; decide) (by decide) rfl ?_
  refine gs_seq (gs_for (vs := [4, 6, 7, 8, 9]) (by decide) (ai_enQ2 true (aa_cons (ae_op (ae_var rfl (ae_int (ar_ixTs rfl (aa_nil ⟨vs.map vlD, rfl, ?_⟩))))))))
  refine ⟨fun k ρ M => (∃ (e3 e4 e5 e6 e7 e8 e9 e10 e11 e12 e13 : En), ρ = [.da (Sta.d ⟨vs, some g, its⟩), .da (.int ((vs.length + 1 : Nat) : Int)), .no, e3, e4, e5, e6, e7, e8, e9, e10, e11, e12, e13]) ∧ M = pzM vs.length g (loF vs) (hiF vs) k, ⟨⟨_, _, _, _, _, _, _, _, _, _, _, rfl⟩, pz_0.symm⟩, ?_, ?_⟩
  · rintro k d ρ M hd ⟨⟨e3, e4, e5, e6, e7, e8, e9, e10, e11, e12, e13, rfl⟩, rfl⟩
    obtain ⟨d, h1, rfl⟩ := en_at hd
    obtain ⟨v, hv, rfl⟩ := map_at h1
    have lk : k < vs.length := (List.getElem?_eq_some_iff.mp hv).1
    have elo : loF vs k = v.lo := by unfold loF; rw [hv]
    have ehi : hiF vs k = v.hi := by unfold hiF; rw [hv]
    refine ag_en ?_
    refine gs_seq (gs_put (ge_of (ae_var rfl ⟨v.hi, rfl, ae_op (ae_var rfl (ae_int (ar_I0i ⟨k + 1, congrArg Dt.int (by omega), by omega, ae_int ⟨0, rfl, by omega, ?_⟩⟩)))⟩)))
    refine gs_seq (gs_put (ge_of (ae_mono (Ψ' := fun d ρ' => d = oD (ngO v.lo) ∧ ρ' = [.da (Sta.d ⟨vs, some g, its⟩), .da (.int ((vs.length + 1 : Nat) : Int)), .no, e3, .da (.int (k : Int)), e5, .da (oD v.lo), .da (oD v.hi), .da (.int v.m), .da (.int v.r), e10, e11, e12, e13]) ?_ ?_)))
    · cases v.lo with
      | none =>
        refine ae_if (at_test (ae_op (ae_var rfl (ae_non (ar_isN ⟨true, rfl, fun _ => ae_non ⟨rfl, rfl⟩, (fun h => absurd (show true = false from h) (by decide))⟩)))))
      | some x =>
        refine ae_if (at_test (ae_op (ae_var rfl (ae_non (ar_isN ⟨false, rfl, (fun h => absurd (show false = true from h) (by decide)), fun _ => ae_op (ae_int (ae_var rfl (ar_I0i ⟨congrArg Dt.int (by show 0 - x = -x; omega), rfl⟩)))⟩)))))
    rintro d ρ ⟨rfl, rfl⟩
    refine ⟨_, rfl, ae_int ⟨0, rfl, by omega, ae_op (ae_var rfl (ae_int (ar_I0i ⟨k + 1, congrArg Dt.int (by omega), by omega, ?_⟩)))⟩⟩
    rw [← ehi, ← elo, pz_q]
    refine gs_for (vs := [10, 11]) (by decide) (ai_enQ2 true (aa_cons (ae_op (ae_op (ae_var rfl (ae_int (ar_ixTs rfl (ae_var rfl (ar_ixTs (atI_nat ?_) (aa_nil ⟨(List.range vs.length).map fun j => oD (g k j), rfl, ?_⟩))))))))))
    · rw [List.getElem?_map, List.getElem?_range lk]; rfl
    refine ⟨fun q ρ M => (∃ (e3 e4 e5 e6 e7 e8 e9 e10 e11 e12 e13 : En), ρ = [.da (Sta.d ⟨vs, some g, its⟩), .da (.int ((vs.length + 1 : Nat) : Int)), .no, e3, .da (.int (k : Int)), e5, e6, e7, e8, e9, e10, e11, e12, e13]) ∧ M = qzM vs.length g (loF vs) (hiF vs) k q, ⟨⟨_, .no, _, _, _, _, _, _, _, _, _, rfl⟩, rfl⟩, ?_, ?_⟩
    · rintro q d ρ M hd ⟨⟨e3, e4, e5, e6, e7, e8, e9, e10, e11, e12, e13, rfl⟩, rfl⟩
      obtain ⟨d, h1, rfl⟩ := en_at hd
      obtain ⟨lq, rfl⟩ := rg_at h1
      refine agv_tup rfl (agvs_cons (agv_name (by simp) (agvs_cons (agv_name (by simp) (agvs_nil ?_)))))
      refine gs_put (ge_of (ae_var rfl ⟨g k q, rfl, ae_op (ae_var rfl (ae_int (ar_I0i ⟨k + 1, congrArg Dt.int (by omega), by omega, ae_op (ae_var rfl (ae_int (ar_I0i ⟨q + 1, congrArg Dt.int (by omega), by omega, ?_⟩)))⟩)))⟩))
      rw [qz_s]
      exact ⟨⟨_, .no, _, _, _, _, _, _, _, _, _, rfl⟩, rfl⟩
    · rintro ρ M ⟨⟨e3, e4, e5, e6, e7, e8, e9, e10, e11, e12, e13, rfl⟩, rfl⟩
      rw [enD_len, List.length_map, List.length_range, qz_n]
      exact ⟨⟨_, _, _, _, _, _, _, _, _, _, _, rfl⟩, rfl⟩
  rintro ρ M ⟨⟨e3, e4, e5, e6, e7, e8, e9, e10, e11, e12, e13, rfl⟩, rfl⟩
  rw [enD_len, List.length_map]
  refine gs_seq (gs_put (ge_of (ae_int ⟨some 0, rfl, ae_int ⟨0, rfl, by omega, ae_int ⟨0, rfl, by omega, ?_⟩⟩⟩)))
  rw [pz_l]
  show GS K 2 (vs.length + 1) _ _ (lzM vs.length g (loF vs) (hiF vs)) _ _
  have dg0 := fun {i : Nat} (h : i < vs.length + 1) => lz_dg (lo := loF vs) (hi := hiF vs) hg h
  unfold lzS
  dsimp only
  generalize hM : lzM vs.length g (loF vs) (hiF vs) = M0 at dg0 ⊢
  generalize hm : vs.length + 1 = m at dg0 ⊢
  have m91 : m ≤ 91 := by omega
  refine gs_seq (gs_for (vs := [3]) (by decide) (ai_rng1 (aa_cons (ae_var rfl (aa_nil ⟨_, rfl, by omega, by omega, ?_⟩)))))
  rw [rg]
  refine ⟨fun v ρ M => (∃ (e3 e4 e5 e6 e7 e8 e9 e10 e11 e12 e13 : En), ρ = [.da (Sta.d ⟨vs, some g, its⟩), .da (.int (m : Int)), .no, e3, e4, e5, e6, e7, e8, e9, e10, e11, e12, e13]) ∧ M = (List.range v).foldl (Fw.viaM m) M0, ⟨⟨_, _, _, _, _, _, _, _, _, _, _, rfl⟩, rfl⟩, ?_, ?_⟩
  · rintro v d ρ M hd ⟨⟨e3, e4, e5, e6, e7, e8, e9, e10, e11, e12, e13, rfl⟩, rfl⟩
    obtain ⟨lv, rfl⟩ := rg_at hd
    generalize hN : (List.range v).foldl (Fw.viaM m) M0 = N1
    refine agv_name (by simp) ?_
    refine gs_for (vs := [5]) (by decide) (ai_rng1 (aa_cons (ae_var rfl (aa_nil ⟨_, rfl, by omega, by omega, ?_⟩))))
    rw [rg]
    refine ⟨fun i ρ M => (∃ (e4 e5 e6 e7 e8 e9 e10 e11 e12 e13 : En), ρ = [.da (Sta.d ⟨vs, some g, its⟩), .da (.int (m : Int)), .no, .da (.int (v : Int)), e4, e5, e6, e7, e8, e9, e10, e11, e12, e13]) ∧ M = (List.range i).foldl (Fw.rowM m v) N1, ⟨⟨_, _, _, _, _, _, _, _, _, _, rfl⟩, rfl⟩, ?_, ?_⟩
    · rintro i d ρ M hd ⟨⟨e4, e5, e6, e7, e8, e9, e10, e11, e12, e13, rfl⟩, rfl⟩
      obtain ⟨li, rfl⟩ := rg_at hd
      generalize hN2 : (List.range i).foldl (Fw.rowM m v) N1 = N2
      refine agv_name (by simp) ?_
      refine gs_for (vs := [10]) (by decide) (ai_rng1 (aa_cons (ae_var rfl (aa_nil ⟨_, rfl, by omega, by omega, ?_⟩))))
      rw [rg]
      refine ⟨fun j ρ M => (∃ (e4 e6 e7 e8 e9 e10 e11 e12 e13 : En), ρ = [.da (Sta.d ⟨vs, some g, its⟩), .da (.int (m : Int)), .no, .da (.int (v : Int)), e4, .da (.int (i : Int)), e6, e7, e8, e9, e10, e11, e12, e13]) ∧ M = (List.range j).foldl (Fw.stM v i) N2, ⟨⟨_, _, _, _, _, _, _, _, _, rfl⟩, rfl⟩, ?_, ?_⟩
      · rintro j d ρ M hd ⟨⟨e4, e6, e7, e8, e9, e10, e11, e12, e13, rfl⟩, rfl⟩
        obtain ⟨lj, rfl⟩ := rg_at hd
        generalize h0 : (List.range j).foldl (Fw.stM v i) N2 = N3
        refine agv_name (by simp) ?_
        refine gs_seq (gs_par (by decide) (by decide) (ga_cons (ge_at (ae_var rfl ⟨i, rfl, li, ae_var rfl ⟨v, rfl, lv, ga_cons (ge_at (ae_var rfl ⟨v, rfl, lv, ae_var rfl ⟨j, rfl, lj, ga_nil ⟨_, _, rfl, ?_⟩⟩⟩))⟩⟩))))
        cases h1 : N3 i v with
        | none =>
          refine gs_if (at_and (at_test (ae_op (ae_var rfl (ae_non (ar_notN ⟨false, rfl, (fun h => absurd (show false = true from h) (by decide)), fun _ => ⟨(fun h => absurd (show false = true from h) (by decide)), fun _ => gs_next ?_⟩⟩))))))
          exact ⟨⟨_, _, _, _, _, _, _, _, _, rfl⟩, by rw [fold_succ, h0]; exact (st_none1 h1).symm⟩
        | some x =>
          cases h2 : N3 v j with
          | none =>
            refine gs_if (at_and (at_test (ae_op (ae_var rfl (ae_non (ar_notN ⟨true, rfl, fun _ => ?_, (fun h => absurd (show true = false from h) (by decide))⟩))))))
            refine at_test (ae_op (ae_var rfl (ae_non (ar_notN ⟨false, rfl, (fun h => absurd (show false = true from h) (by decide)), fun _ => gs_next ?_⟩))))
            exact ⟨⟨_, _, _, _, _, _, _, _, _, rfl⟩, by rw [fold_succ, h0]; exact (st_none2 h2).symm⟩
          | some y =>
            refine gs_if (at_and (at_test (ae_op (ae_var rfl (ae_non (ar_notN ⟨true, rfl, fun _ => ?_, (fun h => absurd (show true = false from h) (by decide))⟩))))))
            refine at_test (ae_op (ae_var rfl (ae_non (ar_notN ⟨true, rfl, fun _ => ?_, (fun h => absurd (show true = false from h) (by decide))⟩))))
            refine gs_put (ge_call (ga_cons (ge_at (ae_var rfl ⟨i, rfl, li, ae_var rfl ⟨j, rfl, lj, ga_cons (ge_of (ae_op (ae_var rfl (ae_var rfl (ar_I0i (ga_nil ⟨oD (lsO (N3 i j) (some (x + y))), ⟨N3 i j, some (x + y), rfl, rfl⟩, ?_⟩))))))⟩⟩))))
            refine ⟨_, rfl, ae_var rfl ⟨i, rfl, li, ae_var rfl ⟨j, rfl, lj, ?_⟩⟩⟩
            exact ⟨⟨_, _, _, _, _, _, _, _, _, rfl⟩, by rw [fold_succ, h0]; exact st_less h1 h2⟩
      · rintro ρ M ⟨⟨e4, e6, e7, e8, e9, e10, e11, e12, e13, rfl⟩, rfl⟩
        rw [rl]
        refine ⟨⟨_, _, _, _, _, _, _, _, _, _, rfl⟩, ?_⟩
        rw [fold_succ, hN2]
        rfl
    · rintro ρ M ⟨⟨e4, e5, e6, e7, e8, e9, e10, e11, e12, e13, rfl⟩, rfl⟩
      rw [rl]
      refine ⟨⟨_, _, _, _, _, _, _, _, _, _, _, rfl⟩, ?_⟩
      rw [fold_succ, hN]
      rfl
  rintro ρ M ⟨⟨e3, e4, e5, e6, e7, e8, e9, e10, e11, e12, e13, rfl⟩, rfl⟩
  rw [rl]
  show GS K 2 m _ _ (Fw.fwM m M0) _ _
  refine gs_froz (by show 2 < 14; decide) ?_
  have dgs : ∀ i, i < m → ∃ x, Fw.fwM m M0 i i = some x := fun i hi => by
    obtain ⟨y, hy⟩ := dg0 hi
    obtain ⟨x, hx, _⟩ := Fw.fw_le m M0 i i y hy
    exact ⟨x, hx⟩
  generalize Fw.fwM m M0 = M at dgs ⊢
  refine as_ret (ae_if (at_b (ae_cb (aa_cons (ae_lcMap (toF fun i => .bl (ngB M i)) ?_)))))
  refine ai_rng1 (aa_cons (ae_var rfl (aa_nil ⟨_, rfl, by omega, by omega, ?_⟩)))
  rw [rg]
  refine ⟨by rw [rl]; omega, fun d hd => ?_, ?_⟩
  · obtain ⟨k, hk, rfl⟩ := List.mem_map.mp hd
    have hk := List.mem_range.mp hk
    obtain ⟨x, hx⟩ := dgs k hk
    refine agv_name (by decide) ?_
    refine ae_op (ae_op (ae_op (ae_var rfl (ae_var rfl (ar_ixL (atI_nat (grD_at hk)) (ae_var rfl (ar_ixLs (atI_nat (rwD_at hk)) ?_)))))))
    rw [hx]
    exact ae_int (ar_I0b ⟨by rw [toF_k, ngB_of hx], rfl⟩)
  rw [toF_map, show (List.range m).map (fun i => Dt.bl (ngB M i)) = ((List.range m).map (ngB M)).map Dt.bl by rw [List.map_map]; rfl]
  refine aa_nil (ac_any ?_)
  rw [show ((List.range m).map (ngB M)).any id = (List.range m).any (ngB M) by rw [List.any_map]; rfl]
  refine ⟨_, rfl, fun hb => ae_non ?_, fun hb => ae_var rfl ?_⟩
  · unfold leD; rw [if_pos hb]
  · unfold leD; rw [if_neg (by rw [hb]; decide)]
end
end Sh
set_option Elab.async false
set_option linter.all false
set_option maxRecDepth 100000
set_option maxHeartbeats 4000000
/-! closed bounds of rings, of points, of nothing: what fwM is there -/
namespace Fw
def TriD (D : Mx) : Prop := ∀ v i j x y, D i v = some x → D v j = some y → le (D i j) (some (x + y))
theorem le_anti {a b : Option Int} (h : le a b) (k : le b a) : a = b := by
  cases a with
  | none =>
    cases b with
    | none => rfl
    | some y => obtain ⟨x, e, _⟩ := h y rfl; cases e
  | some x =>
    cases b with
    | none => obtain ⟨y, e, _⟩ := k x rfl; cases e
    | some y =>
      obtain ⟨x', e, l⟩ := h y rfl
      obtain ⟨y', e', l'⟩ := k x rfl
      cases e; cases e'
      congr 1; omega
theorem st_low {D M : Mx} (t : TriD D) (h : leM D M) (v i j : Nat) : leM D (stM v i M j) := by
  rcases st_cases v i j M with e | ⟨x, y, h1, h2, e, _⟩
  · rw [e]; exact h
  · rw [e]
    intro a b
    unfold setM
    by_cases c : a = i ∧ b = j
    · rw [if_pos c, c.1, c.2]
      obtain ⟨x', e1, l1⟩ := h i v x h1
      obtain ⟨y', e2, l2⟩ := h v j y h2
      exact le_lt (t v i j x' y' e1 e2) (by omega)
    · rw [if_neg c]; exact h a b
theorem fold_low {D : Mx} {f : Mx → Nat → Mx} (h : ∀ M j, leM D M → leM D (f M j)) : ∀ (l : List Nat) (M : Mx), leM D M → leM D (l.foldl f M)
  | [], _, k => k
  | j :: l, M, k => fold_low h l (f M j) (h M j k)
/-- what is closed and lies below stays below -/
theorem fw_low {n : Nat} {D M : Mx} (t : TriD D) (h : leM D M) : leM D (fwM n M) :=
  fold_low (fun M v k => fold_low (fun M i k => fold_low (fun M j k => st_low t k v i j) _ M k) _ M k) _ M h
theorem fw_dg {n : Nat} {D M : Mx} (t : TriD D) (h : leM D M) (z : ∀ i, i < n → D i i = some 0) : dg n (fwM n M) := fun i hi b e => by
  obtain ⟨x, e1, l⟩ := fw_low (n := n) t h i i b e
  rw [z i hi] at e1
  cases e1; exact l
/-! points -/
/-! rings: the places 0 to m, from each a bound to the next, from the last to the first -/
end Fw
set_option Elab.async false
set_option linter.all false
set_option maxRecDepth 100000
set_option maxHeartbeats 4000000
/-! closed bounds under other names, moved, joined, with a bound more -/
namespace Fw
theorem tri_D {n : Nat} {F : Mx} (f : fin n F) (t : tri n F) : TriD F := fun v i j x y h1 h2 => by
  rcases Nat.lt_or_ge v n with h | h
  · exact t v h i j x y h1 h2
  · rw [f i v (.inr h)] at h1; cases h1
/-- no bound below 0 in the diagonal: what comes out is closed -/
structure Good (n : Nat) (W F : Mx) : Prop where
  z : ∀ i, i < n → F i i = some 0
  f : fin n F
  t : TriD F
  le : leM F W
theorem good {n : Nat} {W : Mx} (f : fin n W) (z : ∀ i, i < n → W i i = some 0) (d : dg n (fwM n W)) : Good n W (fwM n W) := by
  obtain ⟨z1, f1, t1⟩ := fw_tri f z d
  exact ⟨z1, f1, tri_D f1 t1, fw_le n W⟩
/-- the greatest closed bounds below -/
theorem fw_is {n : Nat} {W D : Mx} (f : fin n W) (z : ∀ i, i < n → W i i = some 0) (t : TriD D) (zD : ∀ i, i < n → D i i = some 0) (h : leM D W) (up : ∀ E, TriD E → leM E W → leM E D) : fwM n W = D := by
  have g := good f z (fw_dg t h zD)
  funext i j
  exact le_anti (up _ g.t g.le i j) (fw_low t h i j)
/-- other names -/
theorem fw_perm {n : Nat} {W : Mx} {p q : Nat → Nat} (f : fin n W) (z : ∀ i, i < n → W i i = some 0) (hp : ∀ i, i < n → p i < n) (hpn : ∀ i, n ≤ i → n ≤ p i) (pq : ∀ i, p (q i) = i) (qp : ∀ i, q (p i) = i) (d : dg n (fwM n W)) :
    fwM n (fun i j => W (p i) (p j)) = fun i j => fwM n W (p i) (p j) := by
  have g := good f z d
  refine fw_is (fun a b h => f _ _ (h.imp (hpn a) (hpn b))) (fun i hi => z _ (hp i hi)) (fun v i j x y h1 h2 => g.t (p v) (p i) (p j) x y h1 h2) (fun i hi => g.z _ (hp i hi)) (fun i j => g.le _ _) fun E tE lE => ?_
  have l : leM (fun i j => E (q i) (q j)) (fwM n W) := fw_low (fun v i j x y h1 h2 => tE (q v) (q i) (q j) x y h1 h2) fun i j => by
    have : le (E (q i) (q j)) (W (p (q i)) (p (q j))) := lE (q i) (q j)
    rw [pq, pq] at this; exact this
  intro i j
  have : le (E (q (p i)) (q (p j))) (fwM n W (p i) (p j)) := l (p i) (p j)
  rw [qp, qp] at this
  exact this
theorem dg_perm {n : Nat} {W : Mx} {p q : Nat → Nat} (f : fin n W) (z : ∀ i, i < n → W i i = some 0) (hp : ∀ i, i < n → p i < n) (hpn : ∀ i, n ≤ i → n ≤ p i) (hq : ∀ i, i < n → q i < n) (pq : ∀ i, p (q i) = i) (d : dg n (fwM n fun i j => W (p i) (p j))) : dg n (fwM n W) := by
  have g := good (W := fun i j => W (p i) (p j)) (fun a b h => f _ _ (h.imp (hpn a) (hpn b))) (fun i hi => z _ (hp i hi)) d
  refine fw_dg (D := fun i j => fwM n (fun i j => W (p i) (p j)) (q i) (q j)) (fun v i j x y h1 h2 => g.t (q v) (q i) (q j) x y h1 h2) (fun i j => ?_) fun i hi => g.z _ (hq i hi)
  have : le (fwM n (fun i j => W (p i) (p j)) (q i) (q j)) (W (p (q i)) (p (q j))) := g.le (q i) (q j)
  rw [pq, pq] at this; exact this
end Fw
set_option Elab.async false
set_option linter.all false
set_option maxRecDepth 100000
set_option maxHeartbeats 4000000
/-! the law's closed matrix is the program's, by other names -/
namespace Sh
open PySem PySem.Spec PyProof.Rows L2
def pZ (n i : Nat) : Nat := if i = 0 then n else if i ≤ n then i - 1 else i
def qZ (n i : Nat) : Nat := if i = n then 0 else if i < n then i + 1 else i
theorem pq_z (n i : Nat) : pZ n (qZ n i) = i := by
  unfold pZ qZ
  by_cases e : i = n
  · subst e; rw [if_pos rfl, if_pos rfl]
  · rw [if_neg e]
    by_cases c : i < n
    · rw [if_pos c, if_neg (by omega), if_pos (by omega)]; omega
    · rw [if_neg c, if_neg (by omega), if_neg (by omega)]
theorem qp_z (n i : Nat) : qZ n (pZ n i) = i := by
  unfold pZ qZ
  by_cases e : i = 0
  · subst e; rw [if_pos rfl, if_pos rfl]
  · rw [if_neg e]
    by_cases c : i ≤ n
    · rw [if_pos c, if_neg (by omega), if_pos (by omega)]; omega
    · rw [if_neg c, if_neg (by omega), if_neg (by omega)]
theorem pz_lt {n i : Nat} (h : i < n + 1) : pZ n i < n + 1 := by
  unfold pZ
  by_cases e : i = 0
  · rw [if_pos e]; omega
  · rw [if_neg e, if_pos (by omega)]; omega
theorem pz_ge {n i : Nat} (h : n + 1 ≤ i) : n + 1 ≤ pZ n i := by
  unfold pZ
  rw [if_neg (by omega), if_neg (by omega)]; exact h
theorem qz_lt {n i : Nat} (h : i < n + 1) : qZ n i < n + 1 := by
  unfold qZ
  by_cases e : i = n
  · rw [if_pos e]; omega
  · rw [if_neg e, if_pos (by omega)]; omega
section
variable {n : Nat} {g : Mx} {lo hi : Nat → Option Int}
theorem pZ_0 : pZ n 0 = n := if_pos rfl
theorem pZ_s {i : Nat} (h : i < n) : pZ n (i + 1) = i := by unfold pZ; rw [if_neg (by omega), if_pos (by omega)]; rfl
theorem pZ_f {i : Nat} (h : ¬ i < n) : pZ n (i + 1) = i + 1 := by unfold pZ; rw [if_neg (by omega), if_neg (by omega)]
theorem lz_wz : lzM n g lo hi = fun i j => wzM n g lo hi (pZ n i) (pZ n j) := by
  funext i j
  unfold wzM
  cases i with
  | zero =>
    rw [pZ_0, if_neg (by omega), if_pos rfl]
    cases j with
    | zero => rw [pZ_0, if_neg (by omega), if_pos rfl]; rfl
    | succ j =>
      show (if j < n then _ else _) = _
      by_cases c : j < n
      · rw [if_pos c, pZ_s c, if_pos c]
      · rw [if_neg c, pZ_f c, if_neg (by omega), if_neg (by omega)]
  | succ i =>
    by_cases c : i < n
    · rw [pZ_s c, if_pos c]
      cases j with
      | zero =>
        show (if i < n then _ else _) = _
        rw [if_pos c, pZ_0, if_neg (by omega), if_pos rfl]
      | succ j =>
        show (if i < n ∧ j < n then _ else _) = _
        by_cases d : j < n
        · rw [if_pos ⟨c, d⟩, pZ_s d, if_pos d]
        · rw [if_neg (fun z => d z.2), pZ_f d, if_neg (by omega), if_neg (by omega)]
    · rw [pZ_f c, if_neg (by omega), if_neg (by omega)]
      cases j with
      | zero => exact if_neg c
      | succ j => exact if_neg (fun z => c z.1)
theorem wz_z (hg : ∀ i, i < n → g i i = some 0) {i : Nat} (h : i < n + 1) : wzM n g lo hi i i = some 0 := by
  unfold wzM
  by_cases c : i < n
  · rw [if_pos c, if_pos c]; exact hg i c
  · rw [if_neg c, if_pos (by omega), if_neg c, if_pos (by omega)]
theorem dg_any {m : Nat} {M : Mx} : (List.range m).any (ngB M) = false ↔ Fw.dg m M := by
  rw [List.any_eq_false]
  refine ⟨fun h i hi b e => ?_, fun h i hi z => ?_⟩
  · have := h i (List.mem_range.mpr hi)
    rw [ngB_of e] at this
    have := of_decide_eq_false (Bool.eq_false_iff.mpr this)
    omega
  · cases e : M i i with
    | none => unfold ngB at z; rw [e] at z; cases z
    | some b =>
      rw [ngB_of e] at z
      have := h i (List.mem_range.mp hi) b e
      have := of_decide_eq_true z
      omega
theorem lz_fw (hg : ∀ i, i < n → g i i = some 0) : (List.range (n + 1)).any (ngB (Fw.fwM (n + 1) (lzM n g lo hi))) = (List.range (n + 1)).any (ngB (Fw.fwM (n + 1) (wzM n g lo hi))) ∧
    ((List.range (n + 1)).any (ngB (Fw.fwM (n + 1) (wzM n g lo hi))) = false → Fw.fwM (n + 1) (lzM n g lo hi) = fun i j => Fw.fwM (n + 1) (wzM n g lo hi) (pZ n i) (pZ n j)) := by
  have E : (List.range (n + 1)).any (ngB (Fw.fwM (n + 1) (wzM n g lo hi))) = false → Fw.fwM (n + 1) (lzM n g lo hi) = fun i j => Fw.fwM (n + 1) (wzM n g lo hi) (pZ n i) (pZ n j) := fun h => by
    rw [lz_wz]
    exact Fw.fw_perm (q := qZ n) wz_fin (fun i hi => wz_z hg hi) (fun i => pz_lt) (fun i => pz_ge) (pq_z n) (qp_z n) (dg_any.mp h)
  refine ⟨?_, E⟩
  cases h : (List.range (n + 1)).any (ngB (Fw.fwM (n + 1) (wzM n g lo hi))) with
  | false =>
    rw [E h]
    exact dg_any.mpr fun i hi b e => dg_any.mp h _ (pz_lt hi) b e
  | true =>
    cases k : (List.range (n + 1)).any (ngB (Fw.fwM (n + 1) (lzM n g lo hi))) with
    | true => rfl
    | false =>
      have d := dg_any.mp k
      rw [lz_wz] at d
      have := dg_any.mpr (Fw.dg_perm (q := qZ n) wz_fin (fun i hi => wz_z hg hi) (fun i => pz_lt) (fun i => pz_ge) (fun i => qz_lt) (pq_z n) d)
      rw [this] at h
      cases h
end
theorem ng_ng (o : Option Int) : ngO (ngO o) = o := by
  cases o with
  | none => rfl
  | some x => exact congrArg some (show - -x = x by omega)
theorem tm_lo {a f : Option Int} (h : Fw.le f (ngO a)) : tmL a (ngO f) = ngO f := by
  cases a with
  | none => rfl
  | some a =>
    obtain ⟨x, rfl, l⟩ := h (-a) rfl
    show some (if -x > a then -x else a) = some (-x)
    by_cases c : -x > a
    · rw [if_pos c]
    · rw [if_neg c]; exact congrArg some (by omega)
theorem tm_hi {a f : Option Int} (h : Fw.le f a) : tmH2 a f = f := by
  cases a with
  | none => rfl
  | some a =>
    obtain ⟨x, rfl, l⟩ := h a rfl
    show some (if x < a then x else a) = some x
    by_cases c : x < a
    · rw [if_pos c]
    · rw [if_neg c]; exact congrArg some (by omega)
theorem wz_lo {n : Nat} {g : Mx} {lo hi : Nat → Option Int} {i : Nat} (h : i < n) : wzM n g lo hi n i = ngO (lo i) := by
  unfold wzM; rw [if_neg (by omega), if_pos rfl, if_pos h]
theorem wz_hi {n : Nat} {g : Mx} {lo hi : Nat → Option Int} {i : Nat} (h : i < n) : wzM n g lo hi i n = hi i := by
  unfold wzM; rw [if_pos h, if_neg (by omega), if_pos rfl]
/-- a value met with its closed bounds is what its closed bounds alone leave -/
theorem cut_clo (s : Sta) (g : Mx) {i : Nat} {v : Vl} (hv : s.vs[i]? = some v) : cutVl v (ngO (cloS s g s.vs.length i)) (cloS s g i s.vs.length) = voV (ngO (cloS s g s.vs.length i)) (cloS s g i s.vs.length) v.m v.r := by
  have hi : i < s.vs.length := (List.getElem?_eq_some_iff.mp hv).1
  have l1 := Fw.fw_le (s.vs.length + 1) (wzM s.vs.length g (loS s) (hiS s)) s.vs.length i
  have l2 := Fw.fw_le (s.vs.length + 1) (wzM s.vs.length g (loS s) (hiS s)) i s.vs.length
  rw [wz_lo hi] at l1
  rw [wz_hi hi] at l2
  have e1 : loS s i = v.lo := by unfold loS; rw [hv]; rfl
  have e2 : hiS s i = v.hi := by unfold hiS; rw [hv]; rfl
  rw [e1] at l1
  rw [e2] at l2
  unfold cutVl
  rw [show tmL v.lo (ngO (cloS s g s.vs.length i)) = _ from tm_lo l1, show tmH2 v.hi (cloS s g i s.vs.length) = _ from tm_hi l2]
def tiV (s : Sta) (g : Mx) : List (Option Vl) := s.vs.mapIdx fun i v => voV (ngO (cloS s g s.vs.length i)) (cloS s g i s.vs.length) v.m v.r
theorem ti_v (s : Sta) (g : Mx) : (s.vs.mapIdx fun i v => cutVl v (ngO (cloS s g s.vs.length i)) (cloS s g i s.vs.length)) = tiV s g := by
  refine List.ext_getElem? fun i => ?_
  unfold tiV
  rw [List.getElem?_mapIdx, List.getElem?_mapIdx]
  cases e : s.vs[i]? with
  | none => rfl
  | some v => exact congrArg some (cut_clo s g e)
def tiO (s : Sta) (g : Mx) : Option Sta := if (List.range (s.vs.length + 1)).any (ngB (cloS s g)) = true then none else
  (allS (tiV s g)).map fun ws => ⟨ws, some (cloS s g), s.its⟩
theorem allS_len : ∀ (os : List (Option Vl)) (vs : List Vl), allS os = some vs → vs.length = os.length := fun os vs h => by
  have := congrArg List.length (allS_some os vs h)
  rw [List.length_map] at this
  exact this.symm
theorem cl_gp (n : Nat) (M : Mx) : clD n M = gpD n M := by
  unfold clD gpD rwD
  refine congrArg Dt.tup (List.map_congr_left fun i _ => congrArg Dt.tup ?_)
  rw [List.map_map, ← List.map_take, List.take_range, show min n (n + 1) = n by omega]
  rfl
theorem ti_o (s : Sta) (g : Mx) (hg : s.gp = some g) : tiD s = osD (tiO s g) := by
  unfold tiD tiO
  rw [hg]
  show (if _ then _ else _) = _
  by_cases c : (List.range (s.vs.length + 1)).any (ngB (cloS s g)) = true
  · rw [if_pos c, if_pos c]; rfl
  · rw [if_neg c, if_neg c, ti_v]
    unfold soD
    cases e : allS (tiV s g) with
    | none => rfl
    | some ws =>
      have l := allS_len _ _ e
      have l2 : (tiV s g).length = s.vs.length := by unfold tiV; rw [List.length_mapIdx]
      show Dt.tup [.tup (ws.map vlD), clD s.vs.length (cloS s g), .tup (s.its.map pcD)] = Dt.tup [.tup (ws.map vlD), gpD ws.length (cloS s g), .tup (s.its.map pcD)]
      rw [cl_gp, l, l2]
end Sh
set_option Elab.async false
set_option linter.all false
set_option maxRecDepth 100000
set_option maxHeartbeats 4000000
namespace Sh
open PySem PySem.Spec PyProof.Rows L2
abbrev s_l_due : Stmt := topS 40
abbrev N_l_due : List Str := ["_law_state_so", "_law_table_so", "_law_values_so", "_law_k", "_law_low", "_law_high", "_law_m", "_law_r", "_law_top", "_law_bottom", "_law_row"]
abbrev p_l_due : List Str := ["_law_state_so"]
theorem sc_l_due : FnScope N_l_due p_l_due (defScope s_l_due) := ⟨rfl, rfl, rfl, by decide +kernel, rfl, by decide +kernel, by decide +kernel⟩
def S_du (ds : List Dt) (res : Dt) : Prop := ∃ s g, ds = [Sta.d s] ∧ s.gp = some g ∧ s.vs.length ≤ 90 ∧ (∀ i, i < s.vs.length → g i i = some 0) ∧ (∀ v, v ∈ s.vs → VlOk v) ∧ res = osD (tiO s g)
theorem cl_ovs : ∀ os : List (Option Vl), pls (os.map ovD) = true ∧ PyData.canLayAll0 (pds (os.map ovD)) = true ∧ PyData.depthAll (pds (os.map ovD)) ≤ 1 ∧ ((pds (os.map ovD)).any fun z => PyData.eqv z Dt.non.pd) = os.any Option.isNone
  | [] => ⟨rfl, rfl, by decide, rfl⟩
  | none :: os => by
    obtain ⟨a, b, c, d⟩ := cl_ovs os
    refine ⟨?_, ?_, ?_, ?_⟩
    · show (true && pls (os.map ovD)) = true
      rw [a]; rfl
    · show (true && PyData.canLayAll0 (pds (os.map ovD))) = true
      rw [b]; rfl
    · show max 0 (PyData.depthAll (pds (os.map ovD))) ≤ 1
      omega
    · show (true || _) = (true || _)
      rfl
  | some v :: os => by
    obtain ⟨a, b, c, d⟩ := cl_ovs os
    obtain ⟨v1, v2⟩ := cl_vl v
    refine ⟨?_, ?_, ?_, ?_⟩
    · show ((vlD v).pl && pls (os.map ovD)) = true
      rw [a, (sh_vl v).1]; rfl
    · show ((vlD v).pd.canLay0 && PyData.canLayAll0 (pds (os.map ovD))) = true
      rw [b, v1]; rfl
    · show max (vlD v).pd.depth (PyData.depthAll (pds (os.map ovD))) ≤ 1
      rw [v2]; omega
    · show (PyData.eqv (vlD v).pd Dt.non.pd || ((pds (os.map ovD)).any fun z => PyData.eqv z Dt.non.pd)) = (false || _)
      rw [d]; rfl
theorem sh_ovs (os : List (Option Vl)) : SeqAt.shaped (Dt.lst (os.map ovD)).pd = true := by
  obtain ⟨a, b, c, d⟩ := cl_ovs os
  show (PyData.canLayAll0 (pds (os.map ovD)) && decide (PyData.depthAll (pds (os.map ovD)) + 1 ≤ 64)) = true
  rw [b, decide_eq_true (by omega)]; rfl
def cutR : Dt → Dt
  | .lst l => .tup (l.drop 1)
  | _ => .non
theorem gr_drop {n : Nat} {M : Mx} : ((grD (n + 1) M).drop 1).map cutR = (List.range n).map fun i => .tup ((List.range n).map fun j => oD (M (i + 1) (j + 1))) := by
  unfold grD
  rw [List.range_succ_eq_map, List.map_cons, List.drop_succ_cons, List.drop_zero, List.map_map, List.map_map]
  refine List.map_congr_left fun i _ => ?_
  show Dt.tup ((rwD (n + 1) M (i + 1)).drop 1) = _
  unfold rwD
  rw [List.range_succ_eq_map, List.map_cons, List.map_cons, List.drop_succ_cons, List.drop_zero, List.map_map, List.map_map]
  rfl
theorem tiV_at {s : Sta} {g : Mx} {k : Nat} {v : Vl} (h : s.vs[k]? = some v) : (tiV s g)[k]? = some (voV (ngO (cloS s g s.vs.length k)) (cloS s g k s.vs.length) v.m v.r) := by
  unfold tiV
  rw [List.getElem?_mapIdx, h]; rfl
section
variable {K : PySem.W.Frag}
theorem ae_neg0 {ρ : List En} {Ψ : Dt → List En → Prop} {i : Nat} {o : Option Int} (e : ρ[i]? = some (.da (oD o))) (h : Ψ (oD (ngO o)) ρ) : AE K (tIf (tTest (tOp (fun x y H Q => y = V.non ∧ Q (V.bl (decide (x = V.non))) H) (tVar i) (tC V.non))) (tC V.non) (tOp (rI0 fun i j => V.int (i - j)) (tC (V.int 0)) (tVar i))) ρ Ψ := by
  cases o with
  | none => exact ae_if (at_test (ae_op (ae_var e (ae_non (ar_isN ⟨true, rfl, fun _ => ae_non h, fun h => absurd (show true = false from h) (by decide)⟩)))))
  | some x => exact ae_if (at_test (ae_op (ae_var e (ae_non (ar_isN ⟨false, rfl, fun h => absurd (show false = true from h) (by decide), fun _ => ae_op (ae_int (ae_var e (ar_I0i (by rw [show (0 : Int) - x = -x by omega]; exact h))))⟩)))))
end
section
variable {P : Program} {w : World} {K : PySem.W.Frag} {mg : Str → Option Value} {base : Heap}
theorem ok_l_due (bl : Blts mg) {g_l_least : Addr} {d_l_least : FuncData} (c_l_least : Cal P w K mg base 2 "_law_least" p_l_least (spP K S_le) g_l_least d_l_least) {g_l_settled : Addr} {d_l_settled : FuncData} (c_l_settled : Cal P w K mg base 1 "_law_settled" p_l_settled (spP K S_set) g_l_settled d_l_settled)  {f : Addr} {fd : FuncData} (F : Fun K "_law_due" "_law_due" s_l_due f fd) : FnOk P w K mg base CX0 3 f fd p_l_due (spP K (S_du)) := by
  refine okP F sc_l_due (fun ds r h => ?_) (fun cdv A outer s H E hr ds r h => ?_)
  · obtain ⟨s, g, rfl, eg, n90, hg, vok, rfl⟩ := h
    rfl
  obtain ⟨s, g, rfl, eg, n90, hg, vok, rfl⟩ := h
  refine ⟨_, (pss_cons (ps_set (i := 1) sc_l_due.nd rfl (by first | exact Or.inl rfl | exact Or.inr rfl) (pe_call c_l_least.ok (hr.mono (by decide)) rfl c_l_least.mg c_l_least.kp c_l_least.bi .nil pass0 (pa_cons (pv 0) pa_nil)))
    (pss_cons (ps_if (pt_cmpR op_isN (pv 1) pe_non (nomark _)) (pss_one (ps_ret pe_non)) pss_nil)
    (pss_cons (ps_set (i := 2) sc_l_due.nd rfl (by first | exact Or.inl rfl | exact Or.inr rfl) (pe_lst pa_nil))
    (pss_cons (ps_for PassesOwn.never rfl (pi_or (pi_enum rfl bl.enumerate (pa_cons (pe_ix ix_seq (pv 0) pe_int (fun _ _ => rfl)) pa_nil)) (pi_enT rfl bl.enumerate (pa_cons (pe_ix ix_seq (pv 0) pe_int (fun _ _ => rfl)) pa_nil))) (pg_tup rfl (pgs_cons (pg_name (i := 3) sc_l_due.nd rfl (by first | exact Or.inl rfl | exact Or.inr rfl)) (pgs_cons (pg_tup rfl (pgs_cons (pg_name (i := 4) sc_l_due.nd rfl (by first | exact Or.inl rfl | exact Or.inr rfl)) (pgs_cons (pg_name (i := 5) sc_l_due.nd rfl (by first | exact Or.inl rfl | exact Or.inr rfl)) (pgs_cons (pg_name (i := 6) sc_l_due.nd rfl (by first | exact Or.inl rfl | exact Or.inr rfl)) (pgs_cons (pg_name (i := 7) sc_l_due.nd rfl (by first | exact Or.inl rfl | exact Or.inr rfl)) pgs_nil))))) pgs_nil))) (pss_cons (ps_par (i := 8) (j := 9) (by rfl) sc_l_due.nd rfl rfl (by decide) rfl rfl (pa_cons (pe_ix ix_seq (pe_ix ix_list (pv 1) (pe_op op_add (pv 3) pe_int) (fun _ _ => rfl)) pe_int (fun _ _ => rfl)) (pa_cons (pe_ix ix_seq (pe_ix ix_list (pv 1) pe_int (fun _ _ => rfl)) (pe_op op_add (pv 3) pe_int) (fun _ _ => rfl)) pa_nil)) (by rfl))
    (pss_one (ps_expr (pe_bm PySem.F.plainAttrs_list PySem.F.slot_list_append PySem.F.type_list_append mt_append (pv 2) (pa_cons (pe_call c_l_settled.ok (hr.mono (by decide)) rfl c_l_settled.mg c_l_settled.kp c_l_settled.bi .nil pass0 (pa_cons (pe_ifExp (pt_cmpR op_isN (pv 9) pe_non (nomark _)) pe_non (pe_op op_sub pe_int (pv 9))) (pa_cons (pv 8) (pa_cons (pv 6) (pa_cons (pv 7) pa_nil))))) pa_nil))))))
    (pss_cons (ps_if (pt_cmpR (op_inD (room65 hr)) pe_non (pv 2) rfl) (pss_one (ps_ret pe_non)) pss_nil)
    (pss_one (ps_ret (pe_tup (pa_cons (pe_callTy call_tuple_of rfl bl.tuple (by decide +kernel) (pa_cons (pv 2) pa_nil)) (pa_cons (pe_callTy call_tuple_of rfl bl.tuple (by decide +kernel) (pa_cons (pe_lc (own := [("_law_row", 10)]) (g := (gName 10)) (te := (tCB (fun xs H Q => ∃ p ys, xs = [.ref p] ∧ ((SqL K H p ys ∧ ∀ l, H l = none → Q (.ref l) (upd H l (.tup ys))) ∨ (SqT K H p ys ∧ Q (.ref p) H))) (tCons (tSl (rSlL K) (tVar 10) (tPart (tC (.int 1))) tNoPart) tNil))) (tt := tYes) rfl sc_l_due.nd (pi_list (pe_slice sl_list (pv 1) (po_some pe_int) po_none)) (blkOk_by (N := N_l_due) (sc := defScope s_l_due) (by decide +kernel)) (fun _ _ _ _ _ => (pg_name (i := 10) sc_l_due.nd rfl (by first | exact Or.inl rfl | exact Or.inr rfl))) (fun _ _ _ _ _ => pts_nil) (fun _ _ _ _ _ => (pe_callTy call_tuple_of rfl bl.tuple (by decide +kernel) (pa_cons (pe_slice sl_list (pv 10) (po_some pe_int) po_none) pa_nil)))) pa_nil)) (pa_cons (pe_ix ix_seq (pv 0) pe_int (fun _ _ => rfl)) pa_nil))))))))))), ?_⟩
  change AS K _ [En.da _, En.no, En.no, En.no, En.no, En.no, En.no, En.no, En.no, En.no, En.no] _ _
  try simp only [cxOf_K]
  have z9 : 9000 ≤ sizeLine := by decide
  have hg' : ∀ i, i < s.vs.length → ∃ x, g i i = some x := fun i hi => ⟨0, hg i hi⟩
  obtain ⟨f1, f2⟩ := lz_fw (lo := loS s) (hi := hiS s) hg
  have eL : loF s.vs = loS s := by funext i; unfold loF loS; cases s.vs[i]? <;> rfl
  have eH : hiF s.vs = hiS s := by funext i; unfold hiF hiS; cases s.vs[i]? <;> rfl
  have eF : lzS s.vs g = lzM s.vs.length g (loS s) (hiS s) := by unfold lzS; rw [eL, eH]
  refine as_seq (as_set (ae_call (aa_cons (ae_var rfl (aa_nil ⟨_, ⟨s, g, rfl, eg, n90, hg', rfl⟩, ?_⟩)))))
  rw [eF]
  unfold leD
  rw [f1]
  cases c : (List.range (s.vs.length + 1)).any (ngB (Fw.fwM (s.vs.length + 1) (wzM s.vs.length g (loS s) (hiS s)))) with
  | true =>
    rw [if_pos rfl]
    refine as_seq (as_if (at_test (ae_op (ae_var rfl (ae_non (ar_isN ⟨true, rfl, fun _ => as_ret (ae_non ?_), (fun h => absurd (show true = false from h) (by decide))⟩))))))
    have eT : tiO s g = none := if_pos c
    rw [eT]; rfl
  | false =>
    rw [if_neg (by decide), f2 c]
    have eT : tiO s g = (allS (tiV s g)).map fun ws => ⟨ws, some (cloS s g), s.its⟩ := by unfold tiO; rw [if_neg (by show ¬ (List.any _ (ngB (Fw.fwM (s.vs.length + 1) (wzM s.vs.length g (loS s) (hiS s)))) = true); rw [c]; decide)]
    rw [eT]
    show AS K _ [.da (Sta.d s), .da (.lst (grD (s.vs.length + 1) fun i j => cloS s g (pZ s.vs.length i) (pZ s.vs.length j))), .no, .no, .no, .no, .no, .no, .no, .no, .no] _ _
    refine as_seq (as_if (at_test (ae_op (ae_var rfl (ae_non (ar_isN ⟨false, rfl, (fun h => absurd (show false = true from h) (by decide)), fun _ => as_next ?_⟩))))))
    refine as_seq (as_own (aa_nil ⟨Nat.zero_le _, ?_⟩))
    refine as_seq (as_for (ai_enQ2 true (aa_cons (ae_op (ae_var rfl (ae_int (ar_ixTs (l := [.tup (s.vs.map vlD), ogD s.vs.length s.gp, .tup (s.its.map pcD)]) rfl (aa_nil ⟨s.vs.map vlD, rfl, ?_⟩))))))))
    refine ⟨fun k ρ => ∃ (e3 e4 e5 e6 e7 e8 e9 : En), ρ = [.da (Sta.d s), .da (.lst (grD (s.vs.length + 1) fun i j => cloS s g (pZ s.vs.length i) (pZ s.vs.length j))), .own (((tiV s g).take k).map ovD), e3, e4, e5, e6, e7, e8, e9, .no], ⟨_, _, _, _, _, _, _, rfl⟩, ?_, ?_⟩
    · rintro k d ρ hd ⟨e3, e4, e5, e6, e7, e8, e9, rfl⟩
      obtain ⟨d, h1, rfl⟩ := en_at hd
      obtain ⟨v, hv, rfl⟩ := map_at h1
      have lk : k < s.vs.length := (List.getElem?_eq_some_iff.mp hv).1
      have ov := vok v (List.mem_of_getElem? hv)
      refine ag_tup rfl (ags_cons (ag_name (ags_cons (ag_tup rfl (ags_cons (ag_name (ags_cons (ag_name (ags_cons (ag_name (ags_cons (ag_name (ags_nil (ags_nil ?_))))))))))))))
      have ek : (k : Int) + 1 = ((k + 1 : Nat) : Int) := by omega
      refine as_seq (as_par (aa_cons (ae_op (ae_op (ae_var rfl (ae_op (ae_var rfl (ae_int (ar_I0i (ar_ixL (by rw [ek]; exact atI_nat (grD_at (by omega))) (ae_int (ar_ixLs (atI_nat (j := 0) (rwD_at (by omega))) ?_))))))))))))
      refine aa_cons (ae_op (ae_op (ae_var rfl (ae_int (ar_ixL (atI_nat (j := 0) (grD_at (by omega))) (ae_op (ae_var rfl (ae_int (ar_I0i (ar_ixLs (by rw [ek]; exact atI_nat (rwD_at (by omega))) (aa_nil ⟨_, _, rfl, ?_⟩)))))))))))
      rw [pZ_0, pZ_s lk]
      refine as_append ?_ ⟨_, rfl⟩
      refine ae_call (aa_cons (ae_neg0 rfl (aa_cons (ae_var rfl (aa_cons (ae_var rfl (aa_cons (ae_var rfl (aa_nil ⟨_, ⟨ngO (cloS s g s.vs.length k), cloS s g k s.vs.length, v.m, v.r, rfl, ov.m0.1, ov.rest, rfl⟩, _, rfl, by rw [List.length_map, List.length_take]; omega, ?_⟩)))))))))
      have et : ((tiV s g).take k).map ovD ++ [ovD (voV (ngO (cloS s g s.vs.length k)) (cloS s g k s.vs.length) v.m v.r)] = ((tiV s g).take (k + 1)).map ovD := by
        rw [List.take_succ, tiV_at hv, List.map_append]
        rfl
      rw [et]
      exact ⟨_, _, _, _, _, _, _, rfl⟩
    rintro ρ ⟨e3, e4, e5, e6, e7, e8, e9, rfl⟩
    have lv : (tiV s g).length = s.vs.length := by unfold tiV; rw [List.length_mapIdx]
    rw [enD_len, List.length_map, List.take_of_length_le (by omega)]
    obtain ⟨o1, o2, o3, o4⟩ := cl_ovs (tiV s g)
    refine as_frz (i := 2) rfl ?_
    refine as_seq (as_if (at_test (ae_op (ae_non (ae_var rfl (ar_inD rfl o1 rfl (sh_ovs _) ?_))))))
    rw [o4]
    cases h : allS (tiV s g) with
    | none =>
      rw [(allS_none _).mp h]
      exact ⟨true, rfl, fun _ => as_ret (ae_non rfl), (fun h => absurd (show true = false from h) (by decide))⟩
    | some ws =>
      have hb : (tiV s g).any Option.isNone = false := by
        cases e : (tiV s g).any Option.isNone with
        | false => rfl
        | true => rw [(allS_none _).mpr e] at h; cases h
      rw [hb]
      refine ⟨false, rfl, (fun h => absurd (show false = true from h) (by decide)), fun _ => as_next ?_⟩
      have lw := allS_len _ _ h
      have gd : ∀ k, (grD (k + 1) fun i j => cloS s g (pZ s.vs.length i) (pZ s.vs.length j)).length = k + 1 := fun k => by unfold grD; rw [List.length_map, List.length_range]
      refine as_ret (ae_tup (aa_cons (ae_cb (aa_cons (ae_var rfl (aa_nil (ac_tupL (aa_cons (ae_cb (aa_cons (ae_lcMap cutR (ai_list (ae_slD (ae_var rfl ⟨_, rfl, ao_some (ae_int ⟨1, rfl, ao_none ?_⟩)⟩))))))))))))))
      rw [show cutD (grD (s.vs.length + 1) fun i j => cloS s g (pZ s.vs.length i) (pZ s.vs.length j)) (some 1) none = _ from cutE (n := 1) (by rw [gd]; omega)]
      refine ⟨_, rfl, by rw [List.length_drop, gd]; omega, fun d hd => ?_, ?_⟩
      · have hd := List.mem_of_mem_drop hd
        unfold grD at hd
        obtain ⟨k, hk, rfl⟩ := List.mem_map.mp hd
        have rl : (rwD (s.vs.length + 1) (fun i j => cloS s g (pZ s.vs.length i) (pZ s.vs.length j)) k).length = s.vs.length + 1 := by unfold rwD; rw [List.length_map, List.length_map, List.length_range]
        refine agv_name (by simp) (ae_cb (aa_cons (ae_slD (ae_var rfl ⟨_, rfl, ao_some (ae_int ⟨1, rfl, ao_none (aa_nil (ac_tupL ⟨?_, rfl⟩))⟩)⟩))))
        rw [show cutD (rwD (s.vs.length + 1) (fun i j => cloS s g (pZ s.vs.length i) (pZ s.vs.length j)) k) (some 1) none = _ from cutE (n := 1) (by rw [rl]; omega)]
        rfl
      rw [gr_drop]
      refine aa_nil (ac_tupL (aa_cons (ae_op (ae_var rfl (ae_int (ar_ixTs (l := [.tup (s.vs.map vlD), ogD s.vs.length s.gp, .tup (s.its.map pcD)]) rfl (aa_nil ⟨(by show 3 ≤ sizeLine; omega), ?_⟩)))))))
      show Dt.tup [.tup ((tiV s g).map ovD), _, _] = Dt.tup [.tup (ws.map vlD), gpD ws.length (cloS s g), .tup (s.its.map pcD)]
      have e1 : (tiV s g).map ovD = ws.map vlD := by rw [allS_some _ _ h, List.map_map]; rfl
      have e2 : (List.range s.vs.length).map (fun i => Dt.tup ((List.range s.vs.length).map fun j => oD (cloS s g (pZ s.vs.length (i + 1)) (pZ s.vs.length (j + 1))))) = (List.range s.vs.length).map fun i => Dt.tup ((List.range s.vs.length).map fun j => oD (cloS s g i j)) :=
        List.map_congr_left fun i hi => congrArg Dt.tup (List.map_congr_left fun j hj => by rw [pZ_s (List.mem_range.mp hi), pZ_s (List.mem_range.mp hj)])
      unfold gpD
      rw [e1, e2, lw, lv]
end
end Sh
set_option Elab.async false
set_option linter.all false
set_option maxRecDepth 100000
set_option maxHeartbeats 4000000
/-! a tightened state describes the same frames -/
namespace Sh
open PySem PySem.Spec PyProof.Rows L2
theorem vals_iff {vs : List Vl} {xs : List Int} (l : xs.length = vs.length) : valsB vs xs = true ↔ ∀ (i : Nat) v, vs[i]? = some v → hasV v (xs.getD i 0) = true := by
  unfold valsB
  rw [List.all_eq_true]
  have at' : ∀ {i : Nat}, i < vs.length → xs[i]? = some (xs.getD i 0) := fun {i} h => by
    rw [List.getD_eq_getElem?_getD, List.getElem?_eq_getElem (by omega)]; rfl
  refine ⟨fun h i v hv => ?_, fun h p hp => ?_⟩
  · have hi := (List.getElem?_eq_some_iff.mp hv).1
    exact h (v, xs.getD i 0) (List.mem_of_getElem? (by rw [List.getElem?_zip_eq_some]; exact ⟨hv, at' hi⟩))
  · obtain ⟨i, hi⟩ := List.getElem?_of_mem hp
    rw [List.getElem?_zip_eq_some] at hi
    have := h i p.1 hi.1
    have l2 := (List.getElem?_eq_some_iff.mp hi.1).1
    rw [at' l2] at hi
    have e : p.2 = xs.getD i 0 := (Option.some.inj hi.2).symm
    rw [e]; assumption
theorem has_iff {v : Vl} {x : Int} : hasV v x = true ↔ inLo v.lo x = true ∧ inHi v.hi x = true ∧ rsB v.m v.r x = true := by
  unfold hasV
  rw [Bool.and_eq_true, Bool.and_eq_true]
theorem inHi_iff {o : Option Int} {x : Int} : inHi o x = true ↔ ∀ b, o = some b → x ≤ b := by
  cases o with
  | none => exact ⟨fun _ _ h => (by cases h), fun _ => rfl⟩
  | some b => exact ⟨fun h c e => (by cases e; exact of_decide_eq_true h), fun h => decide_eq_true (h b rfl)⟩
theorem inLo_ng {o : Option Int} {x : Int} : inLo (ngO o) x = true ↔ ∀ b, o = some b → 0 - x ≤ b := by
  cases o with
  | none => exact ⟨fun _ _ h => (by cases h), fun _ => rfl⟩
  | some b =>
    refine ⟨fun h c e => ?_, fun h => decide_eq_true ?_⟩
    · cases e
      have := of_decide_eq_true (show decide (-b ≤ x) = true from h)
      omega
    · have := h b rfl
      show -b ≤ x
      omega
theorem inLo_iff {o : Option Int} {x : Int} : inLo o x = true ↔ ∀ b, ngO o = some b → 0 - x ≤ b := by
  rw [← inLo_ng, ng_ng]
theorem limB_iff {o : Option Int} {x y : Int} : limB o x y = true ↔ ∀ b, o = some b → x - y ≤ b := by
  cases o with
  | none => exact ⟨fun _ _ h => (by cases h), fun _ => rfl⟩
  | some b => exact ⟨fun h c e => (by cases e; exact of_decide_eq_true h), fun h => decide_eq_true (h b rfl)⟩
/-- who fulfils the matrix with the zero: the bounds of variables and of differences -/
theorem feas_wz {n : Nat} {g : Mx} {lo hi : Nat → Option Int} {y : Nat → Int} (y0 : y n = 0) : Fw.feas y (wzM n g lo hi) ↔ (∀ i j, i < n → j < n → limB (g i j) (y i) (y j) = true) ∧ (∀ i, i < n → inLo (lo i) (y i) = true ∧ inHi (hi i) (y i) = true) := by
  refine ⟨fun f => ⟨fun i j hi' hj => limB_iff.mpr fun b e => f i j b (by unfold wzM; rw [if_pos hi', if_pos hj]; exact e), fun i hi' => ⟨inLo_iff.mpr fun b e => ?_, inHi_iff.mpr fun b e => ?_⟩⟩, fun ⟨h1, h2⟩ i j b e => ?_⟩
  · have := f n i b (by rw [wz_lo hi']; exact e)
    rw [y0] at this; exact this
  · have := f i n b (by rw [wz_hi hi']; exact e)
    rw [y0] at this; omega
  · by_cases c : i < n
    · by_cases d : j < n
      · refine limB_iff.mp (h1 i j c d) b ?_
        unfold wzM at e; rw [if_pos c, if_pos d] at e; exact e
      · by_cases k : j = n
        · subst k
          rw [wz_hi c] at e
          have := inHi_iff.mp (h2 i c).2 b e
          rw [y0]; omega
        · unfold wzM at e; rw [if_pos c, if_neg d, if_neg k] at e; cases e
    · by_cases k : i = n
      · subst k
        by_cases d : j < i
        · rw [wz_lo d] at e
          have := inLo_iff.mp (h2 j d).1 b e
          rw [y0]; exact this
        · unfold wzM at e
          rw [if_neg c, if_pos rfl, if_neg d] at e
          by_cases q : j = i
          · rw [if_pos q] at e
            cases e
            rw [q, y0]; decide
          · rw [if_neg q] at e; cases e
      · unfold wzM at e; rw [if_neg c, if_neg k] at e; cases e
theorem feas_clo {n : Nat} {F : Mx} {y : Nat → Int} (y0 : y n = 0) (f : Fw.fin (n + 1) F) (d : Fw.dg (n + 1) F) : Fw.feas y F ↔ (∀ i j, i < n → j < n → limB (F i j) (y i) (y j) = true) ∧ (∀ i, i < n → inLo (ngO (F n i)) (y i) = true ∧ inHi (F i n) (y i) = true) := by
  refine ⟨fun h => ⟨fun i j _ _ => limB_iff.mpr fun b e => h i j b e, fun i _ => ⟨inLo_ng.mpr fun b e => ?_, inHi_iff.mpr fun b e => ?_⟩⟩, fun ⟨h1, h2⟩ i j b e => ?_⟩
  · have := h n i b e
    rw [y0] at this; exact this
  · have := h i n b e
    rw [y0] at this; omega
  · have hi : i < n + 1 := Nat.lt_of_not_le fun z => by rw [f i j (.inl z)] at e; cases e
    have hj : j < n + 1 := Nat.lt_of_not_le fun z => by rw [f i j (.inr z)] at e; cases e
    by_cases c : i < n
    · by_cases k : j < n
      · exact limB_iff.mp (h1 i j c k) b e
      · obtain rfl : j = n := by omega
        have := inHi_iff.mp (h2 i c).2 b e
        rw [y0]; omega
    · obtain rfl : i = n := by omega
      by_cases k : j < i
      · have := inLo_ng.mp (h2 j k).1 b e
        rw [y0]; exact this
      · obtain rfl : j = i := by omega
        have := d j hi b e
        omega
theorem fin_fw {n : Nat} {M : Mx} (f : Fw.fin n M) (z : ∀ i, i < n → M i i = some 0) (d : Fw.dg n (Fw.fwM n M)) : Fw.fin n (Fw.fwM n M) := (Fw.fw_tri f z d).2.1
theorem desc_ti (s : Sta) (g : Mx) (eg : s.gp = some g) (hg : ∀ i, i < s.vs.length → g i i = some 0) (vok : ∀ v, v ∈ s.vs → VlOk v) (f : Frm) (ln : f.xs.length = s.vs.length) : descB (some s) f = descB (tiO s g) f := by
  have y0 : f.xs.getD s.vs.length 0 = 0 := by rw [List.getD_eq_getElem?_getD, List.getElem?_eq_none (by omega)]; rfl
  have e1 : descB (some s) f = (valsB s.vs f.xs && (gapB s.vs.length g f.xs && itsB s.its f.its)) := by
    show (valsB s.vs f.xs && (ogapB s.vs.length s.gp f.xs && itsB s.its f.its)) = _
    rw [eg]; rfl
  have loE : ∀ (i : Nat) v, s.vs[i]? = some v → loS s i = v.lo ∧ hiS s i = v.hi := fun i v h => by
    unfold loS hiS; rw [h]; exact ⟨rfl, rfl⟩
  have feasW := feas_wz (g := g) (lo := loS s) (hi := hiS s) (y := fun i => f.xs.getD i 0) y0
  have iff1 : (valsB s.vs f.xs = true ∧ gapB s.vs.length g f.xs = true) ↔ Fw.feas (fun i => f.xs.getD i 0) (wzM s.vs.length g (loS s) (hiS s)) ∧ ∀ (i : Nat) v, s.vs[i]? = some v → rsB v.m v.r (f.xs.getD i 0) = true := by
    rw [feasW, vals_iff ln, gap_iff]
    refine ⟨fun ⟨a, b⟩ => ⟨⟨b, fun i hi => ?_⟩, fun i v h => (has_iff.mp (a i v h)).2.2⟩, fun ⟨⟨b, c⟩, r⟩ => ⟨fun i v h => ?_, b⟩⟩
    · have h : s.vs[i]? = some s.vs[i] := List.getElem?_eq_getElem hi
      obtain ⟨q1, q2⟩ := loE i _ h
      rw [q1, q2]
      exact ⟨(has_iff.mp (a i _ h)).1, (has_iff.mp (a i _ h)).2.1⟩
    · obtain ⟨q1, q2⟩ := loE i _ h
      have := c i (List.getElem?_eq_some_iff.mp h).1
      rw [q1, q2] at this
      exact has_iff.mpr ⟨this.1, this.2, r i v h⟩
  rw [e1]
  rw [← Fw.fw_iff (n := s.vs.length + 1)] at iff1
  have eC : Fw.fwM (s.vs.length + 1) (wzM s.vs.length g (loS s) (hiS s)) = cloS s g := rfl
  rw [eC] at iff1
  unfold tiO
  cases c : (List.range (s.vs.length + 1)).any (ngB (cloS s g)) with
  | true =>
    rw [if_pos rfl]
    show _ = false
    obtain ⟨i, hi, h⟩ := List.any_eq_true.mp c
    have nf : ¬ (valsB s.vs f.xs = true ∧ gapB s.vs.length g f.xs = true) := fun z => by
      have fe := (iff1.mp z).1
      cases e : cloS s g i i with
      | none => unfold ngB at h; rw [e] at h; cases h
      | some b =>
        rw [ngB_of e] at h
        have := of_decide_eq_true h
        have := fe i i b e
        omega
    cases h1 : valsB s.vs f.xs with
    | false => rfl
    | true =>
      cases h2 : gapB s.vs.length g f.xs with
      | false => rfl
      | true => exact absurd ⟨h1, h2⟩ nf
  | false =>
    rw [if_neg (by decide)]
    have d := dg_any.mp c
    have fi : Fw.fin (s.vs.length + 1) (cloS s g) := fin_fw wz_fin (fun i hi => wz_z hg hi) d
    rw [feas_clo y0 fi d] at iff1
    have lv : (tiV s g).length = s.vs.length := by unfold tiV; rw [List.length_mapIdx]
    have hasU : ∀ (i : Nat) v, s.vs[i]? = some v → (match voV (ngO (cloS s g s.vs.length i)) (cloS s g i s.vs.length) v.m v.r with | none => false | some w => hasV w (f.xs.getD i 0)) = (inLo (ngO (cloS s g s.vs.length i)) (f.xs.getD i 0) && (inHi (cloS s g i s.vs.length) (f.xs.getD i 0) && rsB v.m v.r (f.xs.getD i 0))) := fun i v h =>
      voV_has (vok v (List.mem_of_getElem? h)).m0.1 (vok v (List.mem_of_getElem? h)).rest _
    cases h : allS (tiV s g) with
    | none =>
      show _ = false
      have nf : ¬ (valsB s.vs f.xs = true ∧ gapB s.vs.length g f.xs = true) := fun z => by
        obtain ⟨⟨_, z2⟩, z3⟩ := iff1.mp z
        obtain ⟨o, ho, hn⟩ := List.any_eq_true.mp ((allS_none _).mp h)
        obtain ⟨i, hi⟩ := List.getElem?_of_mem ho
        have lt : i < s.vs.length := by have := (List.getElem?_eq_some_iff.mp hi).1; omega
        have hv : s.vs[i]? = some s.vs[i] := List.getElem?_eq_getElem lt
        have e := hasU i _ hv
        rw [tiV_at hv] at hi
        have eo : voV (ngO (cloS s g s.vs.length i)) (cloS s g i s.vs.length) s.vs[i].m s.vs[i].r = none := by
          rw [Option.some.inj hi]
          exact Option.isNone_iff_eq_none.mp hn
        rw [eo, (z2 i lt).1, (z2 i lt).2, z3 i _ hv] at e
        cases e
      cases h1 : valsB s.vs f.xs with
      | false => rfl
      | true =>
        cases h2 : gapB s.vs.length g f.xs with
        | false => rfl
        | true => exact absurd ⟨h1, h2⟩ nf
    | some ws =>
      have lw := allS_len _ _ h
      have am := allS_some _ _ h
      show _ = (valsB ws f.xs && (gapB ws.length (cloS s g) f.xs && itsB s.its f.its))
      have wsAt : ∀ (i : Nat) u, ws[i]? = some u → ∃ v, s.vs[i]? = some v ∧ voV (ngO (cloS s g s.vs.length i)) (cloS s g i s.vs.length) v.m v.r = some u := fun i u hu => by
        have lt : i < s.vs.length := by have := (List.getElem?_eq_some_iff.mp hu).1; omega
        have hv : s.vs[i]? = some s.vs[i] := List.getElem?_eq_getElem lt
        refine ⟨_, hv, ?_⟩
        have := tiV_at (g := g) hv
        rw [am, List.getElem?_map, hu] at this
        exact (Option.some.inj this).symm
      have iff2 : (valsB ws f.xs = true ∧ gapB ws.length (cloS s g) f.xs = true) ↔ (valsB s.vs f.xs = true ∧ gapB s.vs.length g f.xs = true) := by
        rw [iff1, vals_iff (by omega), gap_iff, lw, lv]
        refine ⟨fun ⟨a, b⟩ => ?_, fun ⟨⟨b, c⟩, r⟩ => ⟨fun i u hu => ?_, b⟩⟩
        · have all : ∀ (i : Nat) v, s.vs[i]? = some v → inLo (ngO (cloS s g s.vs.length i)) (f.xs.getD i 0) = true ∧ inHi (cloS s g i s.vs.length) (f.xs.getD i 0) = true ∧ rsB v.m v.r (f.xs.getD i 0) = true := fun i v hv => by
            have lt := (List.getElem?_eq_some_iff.mp hv).1
            have hw : ws[i]? = some ws[i] := List.getElem?_eq_getElem (by omega)
            obtain ⟨v', hv', eu⟩ := wsAt i _ hw
            rw [hv] at hv'
            cases hv'
            have e := hasU i v hv
            rw [eu] at e
            have e : hasV ws[i] (f.xs.getD i 0) = _ := e
            rw [a i _ hw] at e
            have e := e.symm
            rw [Bool.and_eq_true, Bool.and_eq_true] at e
            exact e
          refine ⟨⟨b, fun i hi => ?_⟩, fun i v hv => (all i v hv).2.2⟩
          obtain ⟨q1, q2, _⟩ := all i _ (List.getElem?_eq_getElem hi)
          exact ⟨q1, q2⟩
        · obtain ⟨v, hv, eu⟩ := wsAt i u hu
          have lt := (List.getElem?_eq_some_iff.mp hv).1
          have e := hasU i v hv
          rw [eu, (c i lt).1, (c i lt).2, r i v hv] at e
          exact e
      cases h1 : valsB s.vs f.xs && gapB s.vs.length g f.xs with
      | true =>
        obtain ⟨p1, p2⟩ := Bool.and_eq_true_iff.mp h1
        obtain ⟨p3, p4⟩ := iff2.mpr ⟨p1, p2⟩
        rw [p1, p2, p3, p4]
      | false =>
        have nf : ¬ (valsB ws f.xs = true ∧ gapB ws.length (cloS s g) f.xs = true) := fun z => by
          obtain ⟨p1, p2⟩ := iff2.mp z
          rw [p1, p2] at h1
          cases h1
        rw [← Bool.and_assoc, ← Bool.and_assoc, h1]
        cases h2 : valsB ws f.xs && gapB ws.length (cloS s g) f.xs with
        | false => rfl
        | true => exact absurd (Bool.and_eq_true_iff.mp h2) nf
end Sh
set_option Elab.async false
set_option linter.all false
set_option maxRecDepth 100000
set_option maxHeartbeats 4000000
namespace Sh
open PySem PySem.Spec PyProof.Rows L2
abbrev s_l_right : Stmt := topS 41
abbrev N_l_right : List Str := ["_law_box_here", "_law_due_here", "_law_turn", "_law_function", "_law_form_so", "_law_bare", "_law_state_so", "_law_frame_here"]
abbrev p_l_right : List Str := ["_law_box_here"]
theorem sc_l_right : FnScope N_l_right p_l_right (defScope s_l_right) := ⟨rfl, rfl, rfl, by decide +kernel, rfl, by decide +kernel, by decide +kernel⟩
theorem df_tupm {α : Type} {f : α → Dt} {k : Nat} {l : List α} (hl : l.length ≤ 9000) (h : ∀ a, a ∈ l → (f a).dep ≤ k ∧ (f a).fit = true) : (Dt.tup (l.map f)).dep ≤ k + 1 ∧ (Dt.tup (l.map f)).fit = true := by
  have both : ∀ m : List α, (∀ a, a ∈ m → (f a).dep ≤ k ∧ (f a).fit = true) → deps (m.map f) ≤ k ∧ fits (m.map f) = true := fun m => by
    induction m with
    | nil => exact fun _ => ⟨Nat.zero_le _, rfl⟩
    | cons a m ih =>
      intro h
      obtain ⟨a1, a2⟩ := h a (List.mem_cons_self ..)
      obtain ⟨b1, b2⟩ := ih fun b hb => h b (List.mem_cons_of_mem _ hb)
      refine ⟨Nat.max_le.mpr ⟨a1, b1⟩, ?_⟩
      show ((f a).fit && fits (m.map f)) = true
      rw [a2, b2]; rfl
  obtain ⟨a, b⟩ := both l h
  refine ⟨Nat.succ_le_succ a, ?_⟩
  show (decide ((l.map f).length ≤ 9000) && fits (l.map f)) = true
  rw [List.length_map, decide_eq_true hl, b]; rfl
theorem df_vl (v : Vl) : (vlD v).dep ≤ 2 ∧ (vlD v).fit = true := by
  obtain ⟨a, b, m, r⟩ := v
  cases a <;> cases b <;> exact ⟨Nat.le_refl 2, rfl⟩
theorem df_oD (o : Option Int) : (oD o).dep ≤ 1 ∧ (oD o).fit = true := by cases o <;> exact ⟨Nat.le_refl 1, rfl⟩
theorem df_pe (p : Nat × Vl) : (peD p).dep ≤ 3 ∧ (peD p).fit = true := by
  obtain ⟨a, b⟩ := df_vl p.2
  refine ⟨Nat.succ_le_succ (Nat.max_le.mpr ⟨(show 1 ≤ 2 by decide), Nat.max_le.mpr ⟨a, Nat.zero_le _⟩⟩), ?_⟩
  show (true && (true && ((vlD p.2).fit && true))) = true
  rw [b]; rfl
theorem df_mono {d : Dt} {k m : Nat} (h : d.dep ≤ k ∧ d.fit = true) (l : k ≤ m) : d.dep ≤ m ∧ d.fit = true := ⟨Nat.le_trans h.1 l, h.2⟩
theorem df_og (n : Nat) (n90 : n ≤ 90) (o : Option Mx) : (ogD n o).dep ≤ 5 ∧ (ogD n o).fit = true := by
  cases o with
  | none => exact ⟨(show 1 ≤ 5 by decide), rfl⟩
  | some g =>
    refine df_mono (k := 3) ?_ (by decide)
    exact df_tupm (by rw [List.length_range]; omega) fun i _ => df_tupm (k := 1) (by rw [List.length_range]; omega) fun j _ => df_oD _
theorem df_sta (s : Sta) (n90 : s.vs.length ≤ 90) (i90 : s.its.length ≤ 90) (pl : ∀ ps, ps ∈ s.its → ps.length ≤ 90) : s.d.dep ≤ 6 ∧ s.d.fit = true := by
  have a := df_mono (df_tupm (f := vlD) (k := 2) (l := s.vs) (by omega) fun v _ => df_vl v) (show 3 ≤ 5 by decide)
  have b := df_og s.vs.length n90 s.gp
  have c := df_tupm (f := pcD) (k := 4) (l := s.its) (by omega) fun ps hp => df_tupm (k := 3) (by have := pl ps hp; omega) fun p _ => df_pe p
  refine ⟨Nat.succ_le_succ (Nat.max_le.mpr ⟨a.1, Nat.max_le.mpr ⟨b.1, Nat.max_le.mpr ⟨c.1, Nat.zero_le _⟩⟩⟩), ?_⟩
  show (true && ((Dt.tup (s.vs.map vlD)).fit && ((ogD s.vs.length s.gp).fit && ((Dt.tup (s.its.map pcD)).fit && true)))) = true
  rw [a.2, b.2, c.2]; rfl
theorem df_pair {d : Dt} {k : Nat} (k1 : 1 ≤ k) (h : d.dep ≤ k ∧ d.fit = true) : (Dt.lst [d, .non]).dep ≤ k + 1 ∧ (Dt.lst [d, .non]).fit = true := by
  refine ⟨Nat.succ_le_succ (Nat.max_le.mpr ⟨h.1, Nat.max_le.mpr ⟨k1, Nat.zero_le _⟩⟩), ?_⟩
  show (true && (d.fit && (true && true))) = true
  rw [h.2]; rfl
theorem fm_inj {ns ns' : List Dt} {hs hs' : List (Dt × Nat)} {c c' : Bool} (e : [fmD ns hs, .bl c] = [fmD ns' hs', .bl c']) : c' = c ∧ ns'.length = ns.length ∧ hs'.length = hs.length := by
  unfold fmD at e
  injection e with e1 e2
  injection e2 with e2 _
  injection e2 with e2
  injection e1 with e1
  injection e1 with e1 e3
  injection e1 with e1
  injection e3 with e3 _
  injection e3 with e3
  have := congrArg List.length e3
  rw [List.length_map, List.length_map] at this
  exact ⟨e2.symm, by rw [e1], this.symm⟩
theorem vl_inj {v w : Vl} (h : vlD v = vlD w) : v = w := by
  have := congrArg toV h
  rw [toV_vlD, toV_vlD] at this
  exact this
theorem pe_inj {p q : Nat × Vl} (h : peD p = peD q) : p = q := by
  obtain ⟨a, v⟩ := p
  obtain ⟨b, w⟩ := q
  unfold peD at h
  injection h with h
  injection h with h1 h2
  injection h1 with h1
  injection h2 with h2 _
  have h1 : (a : Int) = (b : Int) := h1
  have h2 : vlD v = vlD w := h2
  rw [vl_inj h2, show a = b by omega]
theorem map_inj {α : Type} {f : α → Dt} (fi : ∀ {a b}, f a = f b → a = b) : ∀ {l m : List α}, l.map f = m.map f → l = m
  | [], [], _ => rfl
  | [], _ :: _, h => by cases h
  | _ :: _, [], h => by cases h
  | a :: l, b :: m, h => by
    rw [List.map_cons, List.map_cons] at h
    injection h with h1 h2
    rw [fi h1, map_inj fi h2]
theorem pc_inj {p q : List (Nat × Vl)} (h : pcD p = pcD q) : p = q := by
  unfold pcD at h
  injection h with h
  exact map_inj pe_inj h
theorem sta_inj {s t : Sta} (h : s.d = t.d) : t.vs = s.vs ∧ t.its = s.its := by
  unfold Sta.d at h
  injection h with h
  injection h with h1 h2
  injection h2 with _ h2
  injection h2 with h2 _
  injection h1 with h1
  injection h2 with h2
  exact ⟨(map_inj vl_inj h1).symm, (map_inj pc_inj h2).symm⟩
theorem fits_of {s t : Sta} {f : Frm} (h : FitsF s f) (l : t.vs.length = s.vs.length) (m : ∀ v, v ∈ t.vs → 0 ≤ v.m) (i : t.its = s.its) : FitsF t f :=
  ⟨by rw [l]; exact h.n, by rw [l, i]; exact h.m, m, by rw [i]; exact h.i⟩
theorem vo_m {lo hi : Option Int} {m r : Int} {u : Vl} (m0 : 0 ≤ m) (h : voV lo hi m r = some u) : 0 ≤ u.m := by
  unfold voV at h
  split at h
  · split at h
    · cases h; exact Int.le_refl 0
    · cases h
  · split at h
    · split at h
      · split at h
        · cases h; exact Int.le_refl 0
        · cases h
      · cases h; exact m0
    · cases h; exact m0
theorem ti_m {s t : Sta} {g : Mx} (h : tiO s g = some t) (m0 : ∀ v, v ∈ s.vs → 0 ≤ v.m) : t.vs.length = s.vs.length ∧ t.its = s.its ∧ ∀ u, u ∈ t.vs → 0 ≤ u.m := by
  unfold tiO at h
  split at h
  · cases h
  · cases e : allS (tiV s g) with
    | none => rw [e] at h; cases h
    | some ws =>
      rw [e] at h
      cases h
      have lw := allS_len _ _ e
      have lv : (tiV s g).length = s.vs.length := by unfold tiV; rw [List.length_mapIdx]
      have am := allS_some _ _ e
      refine ⟨by show ws.length = _; omega, rfl, fun u hu => ?_⟩
      obtain ⟨i, hi⟩ := List.getElem?_of_mem hu
      have hi : ws[i]? = some u := hi
      have lt : i < s.vs.length := by have := (List.getElem?_eq_some_iff.mp hi).1; omega
      have hv : s.vs[i]? = some s.vs[i] := List.getElem?_eq_getElem lt
      have := tiV_at (g := g) hv
      rw [am, List.getElem?_map, hi] at this
      exact vo_m (m0 _ (List.mem_of_getElem? hv)) (Option.some.inj this).symm
def domR (ds : List Dt) : Prop := ds = []
def postR (ds : List Dt) (d : Dt) : Prop := d = .bl true
section
variable {P : Program} {w : World} {K : PySem.W.Frag} {mg : Str → Option Value} {base : Heap}
theorem ok_l_right (bl : Blts mg) {g_l_body : Addr} {d_l_body : FuncData} (c_l_body : Cal P w K mg base 4 "_law_body" p_l_body (spB K 4 domBo postBo) g_l_body d_l_body) {g_l_state : Addr} {d_l_state : FuncData} (c_l_state : Cal P w K mg base 6 "_law_state" p_l_state (spB K 112 domSt postSt) g_l_state d_l_state) {g_tightened : Addr} {d_tightened : FuncData} (c_tightened : Cal P w K mg base 36 "tightened" p_tightened (spP K S_ti) g_tightened d_tightened) {g_l_same : Addr} {d_l_same : FuncData} (c_l_same : Cal P w K mg base 7 "_law_same" p_l_same (spP K (S_same 7)) g_l_same d_l_same) {g_l_due : Addr} {d_l_due : FuncData} (c_l_due : Cal P w K mg base 3 "_law_due" p_l_due (spP K S_du) g_l_due d_l_due) {g_l_frame : Addr} {d_l_frame : FuncData} (c_l_frame : Cal P w K mg base 5 "_law_frame" p_l_frame (spB K 60 domFr postFr) g_l_frame d_l_frame) {g_l_describes : Addr} {d_l_describes : FuncData} (c_l_describes : Cal P w K mg base 2 "_law_describes" p_l_describes (spP K S_desc) g_l_describes d_l_describes)  {f : Addr} {fd : FuncData} (F : Fun K "_law_right" "_law_right" s_l_right f fd) : FnOk P w K mg base CX0 37 f fd p_l_right (spB K 468 (domR) (postR)) := by
  refine okB F sc_l_right (fun ds h => ?_) (fun cdv A outer s H E hr ds h => ?_)
  · obtain ⟨rfl⟩ := h
    rfl
  obtain ⟨rfl⟩ := h
  refine ⟨_, (pss_cons (ps_asg (pe_call c_l_body.ok (hr.mono (by decide)) rfl c_l_body.mg c_l_body.kp c_l_body.bi .nil pass0 (pa_cons (pv 0) pa_nil)) (pg_tup rfl (pgs_cons (pg_name (i := 3) sc_l_right.nd rfl (by first | exact Or.inl rfl | exact Or.inr rfl)) (pgs_cons (pg_name (i := 4) sc_l_right.nd rfl (by first | exact Or.inl rfl | exact Or.inr rfl)) pgs_nil))))
    (pss_cons (ps_par (i := 5) (j := 6) (by rfl) sc_l_right.nd rfl rfl (by decide) rfl rfl (pa_cons (pe_call c_l_state.ok (hr.mono (by decide)) rfl c_l_state.mg c_l_state.kp c_l_state.bi .nil pass0 (pa_cons (pv 0) (pa_cons (pv 4) (pa_cons pe_bl pa_nil)))) (pa_cons (pe_call c_l_state.ok (hr.mono (by decide)) rfl c_l_state.mg c_l_state.kp c_l_state.bi .nil pass0 (pa_cons (pv 0) (pa_cons (pv 4) (pa_cons pe_bl pa_nil)))) pa_nil)) (by rfl))
    (pss_cons (ps_if (pt_not (pt_val (pe_call c_l_same.ok (hr.mono (by decide)) rfl c_l_same.mg c_l_same.kp c_l_same.bi .nil pass0 (pa_cons (pe_lst (pa_cons (pe_call c_tightened.ok (hr.mono (by decide)) rfl c_tightened.mg c_tightened.kp c_tightened.bi .nil pass0 (pa_cons (pv 5) pa_nil)) (pa_cons (pe_call c_tightened.ok (hr.mono (by decide)) rfl c_tightened.mg c_tightened.kp c_tightened.bi .nil pass0 (pa_cons pe_non pa_nil)) pa_nil))) (pa_cons (pe_lst (pa_cons (pv 5) (pa_cons pe_non pa_nil))) pa_nil))))) (pss_one (ps_ret pe_bl)) pss_nil)
    (pss_cons (ps_set (i := 1) sc_l_right.nd rfl (by first | exact Or.inl rfl | exact Or.inr rfl) (pe_call c_l_due.ok (hr.mono (by decide)) rfl c_l_due.mg c_l_due.kp c_l_due.bi .nil pass0 (pa_cons (pv 6) pa_nil)))
    (pss_cons (ps_if (pt_not (pt_val (pe_call c_l_same.ok (hr.mono (by decide)) rfl c_l_same.mg c_l_same.kp c_l_same.bi .nil pass0 (pa_cons (pe_call c_tightened.ok (hr.mono (by decide)) rfl c_tightened.mg c_tightened.kp c_tightened.bi .nil pass0 (pa_cons (pv 6) pa_nil)) (pa_cons (pv 1) pa_nil))))) (pss_one (ps_ret pe_bl)) pss_nil)
    (pss_cons (ps_for PassesOwn.never rfl (pi_range1 rfl bl.range (pa_cons pe_int pa_nil)) (pg_name (i := 2) sc_l_right.nd rfl (by first | exact Or.inl rfl | exact Or.inr rfl)) (pss_cons (ps_set (i := 7) sc_l_right.nd rfl (by first | exact Or.inl rfl | exact Or.inr rfl) (pe_call c_l_frame.ok (hr.mono (by decide)) rfl c_l_frame.mg c_l_frame.kp c_l_frame.bi .nil pass0 (pa_cons (pv 0) (pa_cons (pv 6) (pa_cons (pv 4) pa_nil)))))
    (pss_one (ps_if (pt_cmpR op_ne (pe_call c_l_describes.ok (hr.mono (by decide)) rfl c_l_describes.mg c_l_describes.kp c_l_describes.bi .nil pass0 (pa_cons (pv 6) (pa_cons (pv 7) pa_nil))) (pe_call c_l_describes.ok (hr.mono (by decide)) rfl c_l_describes.mg c_l_describes.kp c_l_describes.bi .nil pass0 (pa_cons (pv 1) (pa_cons (pv 7) pa_nil))) (nomark _)) (pss_one (ps_ret pe_bl)) pss_nil))))
    (pss_one (ps_ret pe_bl)))))))), fun b F => ?_⟩
  change AS K _ [En.bx _ _, En.no, En.no, En.no, En.no, En.no, En.no, En.no] _ _
  try simp only [cxOf_K, cxOf_w]
  have rg : ∀ k : Nat, (rgD 0 ((k : Nat) : Int).toNat) = (List.range k).map fun i => Dt.int ((i : Nat) : Int) := fun k => by
    unfold rgD
    rw [Int.toNat_natCast]
    exact List.map_congr_left fun i _ => by rw [Int.zero_add]
  have rl : ∀ k : Nat, ((List.range k).map fun i => Dt.int ((i : Nat) : Int)).length = k := fun k => by rw [List.length_map, List.length_range]
  have z9 : 9000 ≤ sizeLine := by decide
  refine as_seq (as_asg (ae_draw rfl (aa_nil ⟨rfl, F + 464, rfl, fun d hd => ?_⟩)))
  obtain ⟨a, ns, hs, rfl, fok⟩ := hd
  have n4 := fok.n.2
  have h2 := fok.h
  refine ag_tup rfl (ags_cons (ag_name (ags_cons (ag_name (ags_nil ?_)))))
  refine as_seq (as_par (aa_cons (ae_draw rfl (aa_cons (ae_var rfl (aa_cons (ae_bl (aa_nil ⟨⟨ns, hs, false, rfl, fok⟩, F + 352, rfl, fun d hd => ?_⟩))))))))
  obtain ⟨ns1, hs1, c1, s1, e1, rfl, ok1⟩ := hd
  obtain ⟨rfl, q1, q2⟩ := fm_inj e1
  rw [q1, q2] at ok1
  clear e1 q1 q2 ns1 hs1
  refine aa_cons (ae_draw rfl (aa_cons (ae_var rfl (aa_cons (ae_bl (aa_nil ⟨⟨ns, hs, true, rfl, fok⟩, F + 240, rfl, fun d hd => ?_⟩))))))
  obtain ⟨ns1, hs1, c1, s2, e1, rfl, ok2⟩ := hd
  obtain ⟨rfl, q1, q2⟩ := fm_inj e1
  rw [q1, q2] at ok2
  clear e1 q1 q2 ns1 hs1
  have la := ok1.ln
  have lb := ok1.lm
  have lc := ok2.ln
  have ld := ok2.lm
  refine aa_nil ⟨_, _, rfl, ?_⟩
  have g1 := ok1.no rfl
  obtain ⟨g, g2, gz⟩ := ok2.yes rfl
  rw [← lc] at gz
  have t1 : s1.d = otD (some s1) := by
    show s1.d = tiD s1
    unfold tiD
    rw [g1]
  have so1 : StaOk s1 := ⟨by omega, by omega, fun g' e => by rw [g1] at e; cases e⟩
  have so2 : StaOk s2 := ⟨by omega, by omega, fun g' e i hi => by rw [g2] at e; cases e; exact ⟨0, gz i hi⟩⟩
  have f1 := df_sta s1 (by omega) (by omega) fun ps hp => by have := (ok1.it ps hp).2.1; omega
  have f1' := df_pair (show 1 ≤ 6 by decide) f1
  refine as_seq (as_if (at_not (at_b (ae_call (aa_cons (ae_lst (aa_cons (ae_call (aa_cons (ae_var rfl (aa_nil ⟨s1.d, ⟨some s1, rfl, fun s h => (by cases h; exact so1), t1⟩, ?_⟩)))))))))))
  refine aa_cons (ae_call (aa_cons (ae_non (aa_nil ⟨.non, ⟨none, rfl, fun s h => (by cases h), rfl⟩, aa_nil ⟨(by show 2 ≤ sizeLine; omega), ?_⟩⟩))))
  refine aa_cons (ae_lst (aa_cons (ae_var rfl (aa_cons (ae_non (aa_nil ⟨(by show 2 ≤ sizeLine; omega), aa_nil ⟨_, ⟨_, rfl, f1'.1, f1'.2, rfl⟩, _, rfl, (fun h => absurd (show false = true from h) (by decide)), fun _ => as_next ?_⟩⟩))))))
  refine as_seq (as_set (ae_call (aa_cons (ae_var rfl (aa_nil ⟨_, ⟨s2, g, rfl, g2, by omega, gz, ok2.ok, rfl⟩, ?_⟩)))))
  have mz : ∀ v, v ∈ s2.vs → 0 ≤ v.m := fun v hv => (ok2.ok v hv).m0.1
  have f2 : (osD (tiO s2 g)).dep ≤ 7 ∧ (osD (tiO s2 g)).fit = true := by
    cases e : tiO s2 g with
    | none => exact ⟨(show 1 ≤ 7 by decide), rfl⟩
    | some t =>
      obtain ⟨p1, p2, p3⟩ := ti_m e mz
      exact df_mono (df_sta t (by omega) (by rw [p2]; omega) fun ps hp => by rw [p2] at hp; have := (ok2.it ps hp).2.1; omega) (by decide)
  refine as_seq (as_if (at_not (at_b (ae_call (aa_cons (ae_call (aa_cons (ae_var rfl (aa_nil ⟨osD (tiO s2 g), ⟨some s2, rfl, fun s h => (by cases h; exact so2), (ti_o s2 g g2).symm⟩, ?_⟩)))))))))
  refine aa_cons (ae_var rfl (aa_nil ⟨_, ⟨_, rfl, f2.1, f2.2, rfl⟩, _, rfl, (fun h => absurd (show false = true from h) (by decide)), fun _ => as_next ?_⟩))
  refine as_seq (as_for (ai_rng1 (aa_cons (ae_int (aa_nil ⟨_, rfl, by decide, by decide, ?_⟩)))))
  rw [show (4 : Int) = ((4 : Nat) : Int) from rfl, rg]
  refine ⟨fun t ρ => ∃ (f : Nat) (e2 e7 : En), ρ = [.bx b f, .da (osD (tiO s2 g)), e2, .da a, .da (fmD ns hs), .da s1.d, .da s2.d, e7] ∧ F + 60 * (4 - t) ≤ f, ⟨F + 240, _, _, rfl, Nat.le_refl _⟩, ?_, ?_⟩
  · rintro t d ρ hd ⟨f, e2, e7, rfl, hf⟩
    obtain ⟨lt, rfl⟩ := rg_at hd
    obtain ⟨f3, rfl⟩ : ∃ f3, f = f3 + 60 := ⟨f - 60, by omega⟩
    refine ag_name (as_seq (as_set (ae_draw rfl (aa_cons (ae_var rfl (aa_cons (ae_var rfl (aa_nil ⟨⟨s2, ns, hs, true, rfl, ok2, fok⟩, f3, rfl, fun d hd => ?_⟩))))))))
    obtain ⟨s3, fm3, fr, e3, rfl, fit⟩ := hd
    have e4 : s2.d = s3.d := by injection e3
    obtain ⟨i1, i2⟩ := sta_inj e4
    have fit2 : FitsF s2 fr := fits_of fit (by rw [i1]) (fun v hv => mz v hv) i2.symm
    have de := desc_ti s2 g g2 gz ok2.ok fr fit2.n
    refine as_if (at_test (ae_op (ae_call (aa_cons (ae_var rfl (aa_cons (ae_var rfl (aa_nil ⟨_, ⟨some s2, fr, rfl, fun s h => (by cases h; exact fit2), rfl⟩, ?_⟩))))))))
    refine ae_call (aa_cons (ae_var rfl (aa_cons (ae_var rfl (aa_nil ⟨_, ⟨tiO s2 g, fr, rfl, fun s h => ?_, rfl⟩, ?_⟩)))))
    · obtain ⟨p1, p2, p3⟩ := ti_m h mz
      exact fits_of fit2 p1 p3 p2
    rw [← de]
    refine ar_ne3 ⟨rfl, rfl, rfl⟩ ?_
    rw [decide_eq_true rfl]
    exact ⟨false, rfl, (fun h => absurd (show false = true from h) (by decide)), fun _ => as_next ⟨f3, _, _, rfl, by omega⟩⟩
  · rintro ρ ⟨f, e2, e7, rfl, hf⟩
    exact as_ret (ae_bl ⟨rfl, f, rfl, by omega⟩)
end
end Sh
set_option Elab.async false
set_option linter.all false
set_option maxRecDepth 100000
set_option maxHeartbeats 4000000
namespace Sh
open PySem PySem.Spec PyProof.Rows L2
abbrev sLaw : Stmt := topS 42
abbrev NL : List Str := ["_law_script", "_law_cells_here", "_law_k", "_law_box_here", "_law_turn"]
theorem scLaw : FnScope NL ["_law_script"] (defScope sLaw) := ⟨rfl, rfl, rfl, by decide +kernel, rfl, by decide +kernel, by decide +kernel⟩
section
variable {P : Program} {w : World} {K : PySem.W.Frag} {mg : Str → Option Value} {base : Heap}
def spLaw (K : PySem.W.Frag) : Sp := fun vs H Q _ => ∃ (a : Addr) (ns : List Int), vs = [.ref a] ∧ SqL K H a (ns.map V.int) ∧ ns.length ≤ 63 ∧ ∀ H', Q (.bl true) H'
theorem ok_law {f gC gB gR : Addr} {fd dC dB dR : FuncData} (F : Fun K "law" "law" sLaw f fd)
    (GC : FnOk P w K mg base CX0 1 gC dC ["_law_script", "_law_most"] (spCells K)) (bC : Binds K dC ["_law_script", "_law_most"] []) (kC : PySem.W.keepIn K (.ref gC) = true) (mC : mg "_law_cells" = some (.ref gC))
    (GB : FnOk P w K mg base CX0 1 gB dB ["_law_script", "_law_k"] (spBox K)) (bB : Binds K dB ["_law_script", "_law_k"] []) (kB : PySem.W.keepIn K (.ref gB) = true) (mB : mg "_law_box" = some (.ref gB))
    (GR : FnOk P w K mg base CX0 37 gR dR ["_law_box_here"] (spB K 468 domR postR)) (bR : Binds K dR ["_law_box_here"] []) (kR : PySem.W.keepIn K (.ref gR) = true) (mR : mg "_law_right" = some (.ref gR))
    (mr : mg "range" = none) (ml : mg "len" = none) (mall : mg "all" = none) : FnOk P w K mg base CX0 38 f fd ["_law_script"] (spLaw K) := by
  refine F.ok scLaw (fun vs H Q E h => ?_) (fun cdv A outer s H vs Q Ex hr h => ?_)
  · obtain ⟨a, ns, rfl, _⟩ := h
    rfl
  obtain ⟨a, ns, rfl, hS, hlen, q⟩ := h
  refine ⟨_, pss_cons (ps_set (i := 1) scLaw.nd rfl (Or.inl rfl) (pe_call GC (hr.mono (by decide)) rfl mC kC bC .nil pass0 (pa_cons (pv 0) (pa_cons pe_int pa_nil))))
    (pss_cons (ps_for PassesOwn.never rfl (pi_range1 rfl mr (pa_cons (pe_callB call_len_seq rfl ml PySem.boot_len (pa_cons (pv 1) pa_nil)) pa_nil)) (pg_name (i := 2) scLaw.nd rfl (Or.inl rfl))
      (pss_cons (ps_set (i := 3) scLaw.nd rfl (Or.inr rfl) (pe_call GB (hr.mono (by decide)) rfl mB kB bB .nil pass0 (pa_cons (pv 1) (pa_cons (pv 2) pa_nil))))
      (pss_one (ps_if (pt_not (pt_val (pe_callB (cr_all rfl) rfl mall (by decide +kernel) (pa_cons (pe_lc (own := [("_law_turn", 4)]) (g := gName 4) (tt := tYes) rfl scLaw.nd (pi_range1 rfl mr (pa_cons pe_int pa_nil)) (blkOk_by (N := NL) (sc := defScope sLaw) (by decide +kernel))
        (fun _ _ _ _ _ => pg_name (i := 4) scLaw.nd rfl (Or.inl rfl)) (fun _ _ _ _ _ => pts_nil) (fun _ _ _ _ _ => pe_call GR hr rfl mR kR bR .nil pass0 (pa_cons (pv 3) pa_nil))) pa_nil)))) (pss_one (ps_ret pe_bl)) pss_nil))))
    (pss_one (ps_ret pe_bl))), ?_⟩
  refine ⟨_, rfl, a, ns, 3, rfl, hS, hlen, by decide, by decide, fun p ms H1 np s1 ep l1 l2 => ?_⟩
  have hml : (ms.map V.int).length = ms.length := List.length_map _
  refine ⟨_, rfl, p, _, rfl, .inl (SqL.of ep), _, rfl, by omega, by omega, for_range (lo := 0) (n := (ms.map V.int).length) (fun i σ H2 => ∃ o2 o3 o4 : Option V, σ = [some (.ref a), some (.ref p), o2, o3, o4] ∧ Same H1 H2)
    ⟨none, none, none, rfl, Same.refl _⟩ ?_ ?_⟩
  · rintro i σ H2 hi ⟨o2, o3, o4, rfl, s2⟩
    rw [hml] at hi
    refine ⟨_, rfl, _, rfl, p, ms, _, rfl, SqL.of (s2 _ _ ep), by omega, by omega, by omega, fun bx x y nbx x0 y0 y1 => ?_⟩
    have s3 := same_up (o := .lst [.int x, .int y, .int 0]) nbx
    have hb0 : Bx (upd H2 bx (.lst [.int x, .int y, .int 0])) bx y 0 := ⟨x, upd_same, x0, y0, y1⟩
    refine ⟨3, rfl, by decide, by decide, fun D hD => lc_range (lo := 0) (n := 3) (fun t H4 => ∃ y c : Int, Bx H4 bx y c ∧ 0 ≤ c ∧ c + (((3 - t) * 468 : Nat) : Int) ≤ BxM ∧ Same H2 H4 ∧ H4 D = some (.lst ((List.replicate t true).map V.bl))) ?_ ?_ ?_⟩
    · have s4 := same_up (o := .lst []) hD
      exact ⟨y, 0, hb0.same s4, by omega, by unfold BxM; decide, s3.trans s4, upd_same⟩
    · rintro t H4 ht ⟨y, c, hB, c0, c1, s4, e4⟩
      have nD : H2 D = none := s3.free hD
      have neD : D ≠ bx := fun e => by
        rw [e, upd_same] at hD
        cases hD
      have ef : (3 - t) * 468 = (3 - (t + 1)) * 468 + 468 := by omega
      rw [ef] at c1
      refine ⟨rfl, ?_⟩
      show tCall (spB K 468 domR postR) [] E0 (tCons (tVar 3) tNil) _ _ _
      refine ⟨_, rfl, fun _ => none, [], bx, [], y, c, _, rfl, (fun a o e => nomatch e), hB, c0, c1, rfl, rfl, rfl, fun v d G' H5 y' c' nb hB' c0' c1' rd hp => ?_⟩
      have e5 := nb.h _ _ neD e4
      refine ⟨_, e5, ?_, y', c', ?_, c0', c1', fun b o e => ?_, ?_⟩
      · rw [List.length_map, List.length_replicate]; exact sz60' (by omega)
      · obtain ⟨x', q1, q2⟩ := hB'
        exact ⟨x', by rw [upd_ne neD.symm]; exact q1, q2⟩
      · rw [upd_ne (ne_of_none e nD)]; exact nb.h _ _ (ne_of_none e nbx) (s4 _ _ e)
      · subst hp
        cases (show v = .bl true from rd)
        rw [upd_same, List.replicate_succ', List.map_append]; rfl
    · rintro H4 ⟨y, c, hB, c0, c1, s4, e4⟩
      refine ⟨D, _, rfl, SqL.of e4, true, congrArg V.bl (all_true 3), ?_⟩
      exact ⟨_, _, _, rfl, s2.trans s4⟩
  · rintro σ H2 ⟨o2, o3, o4, rfl, s2⟩
    exact q H2
end
theorem all_mk {l : PySem.W.OpenLaw} {w : World} {K : PySem.W.Frag} {h : Heap} {mg : Str → Option Value} {fa fD0 fD1 fD2 fD3 fD4 fD5 fD6 fD7 fD8 fD9 fD10 fD11 fD12 fD13 fD14 fD15 fD16 fD17 fD18 fD19 fD20 fD21 fD22 fD23 fD24 fD25 fD26 fD27 fD28 fD29 fD30 fD31 fD32 fD33 fD34 fD35 : Addr} (X : K.In h) (G : h.Ns mainGlobals mg) (hfa : mg "law" = some (.ref fa))
    {odD0 anD0 odD1 anD1 odD2 anD2 odD3 anD3 odD4 anD4 odD5 anD5 odD6 anD6 odD7 anD7 odD8 anD8 odD9 anD9 odD10 anD10 odD11 anD11 odD12 anD12 odD13 anD13 odD14 anD14 odD15 anD15 odD16 anD16 odD17 anD17 odD18 anD18 odD19 anD19 odD20 anD20 odD21 anD21 odD22 anD22 odD23 anD23 odD24 anD24 odD25 anD25 odD26 anD26 odD27 anD27 odD28 anD28 odD29 anD29 odD30 anD30 odD31 anD31 odD32 anD32 odD33 anD33 odD34 anD34 odD35 anD35 : Option Addr} {slD0 slD1 slD2 slD3 slD4 slD5 slD6 slD7 slD8 slD9 slD10 slD11 slD12 slD13 slD14 slD15 slD16 slD17 slD18 slD19 slD20 slD21 slD22 slD23 slD24 slD25 slD26 slD27 slD28 slD29 slD30 slD31 slD32 slD33 slD34 slD35 : Array (Option Value)} {ocD0 kVD0 dcD0 pmD0 cdD0 ctD0 ocD1 kVD1 dcD1 pmD1 cdD1 ctD1 ocD2 kVD2 dcD2 pmD2 cdD2 ctD2 ocD3 kVD3 dcD3 pmD3 cdD3 ctD3 ocD4 kVD4 dcD4 pmD4 cdD4 ctD4 ocD5 kVD5 dcD5 pmD5 cdD5 ctD5 ocD6 kVD6 dcD6 pmD6 cdD6 ctD6 ocD7 kVD7 dcD7 pmD7 cdD7 ctD7 ocD8 kVD8 dcD8 pmD8 cdD8 ctD8 ocD9 kVD9 dcD9 pmD9 cdD9 ctD9 ocD10 kVD10 dcD10 pmD10 cdD10 ctD10 ocD11 kVD11 dcD11 pmD11 cdD11 ctD11 ocD12 kVD12 dcD12 pmD12 cdD12 ctD12 ocD13 kVD13 dcD13 pmD13 cdD13 ctD13 ocD14 kVD14 dcD14 pmD14 cdD14 ctD14 ocD15 kVD15 dcD15 pmD15 cdD15 ctD15 ocD16 kVD16 dcD16 pmD16 cdD16 ctD16 ocD17 kVD17 dcD17 pmD17 cdD17 ctD17 ocD18 kVD18 dcD18 pmD18 cdD18 ctD18 ocD19 kVD19 dcD19 pmD19 cdD19 ctD19 ocD20 kVD20 dcD20 pmD20 cdD20 ctD20 ocD21 kVD21 dcD21 pmD21 cdD21 ctD21 ocD22 kVD22 dcD22 pmD22 cdD22 ctD22 ocD23 kVD23 dcD23 pmD23 cdD23 ctD23 ocD24 kVD24 dcD24 pmD24 cdD24 ctD24 ocD25 kVD25 dcD25 pmD25 cdD25 ctD25 ocD26 kVD26 dcD26 pmD26 cdD26 ctD26 ocD27 kVD27 dcD27 pmD27 cdD27 ctD27 ocD28 kVD28 dcD28 pmD28 cdD28 ctD28 ocD29 kVD29 dcD29 pmD29 cdD29 ctD29 ocD30 kVD30 dcD30 pmD30 cdD30 ctD30 ocD31 kVD31 dcD31 pmD31 cdD31 ctD31 ocD32 kVD32 dcD32 pmD32 cdD32 ctD32 ocD33 kVD33 dcD33 pmD33 cdD33 ctD33 ocD34 kVD34 dcD34 pmD34 cdD34 ctD34 ocD35 kVD35 dcD35 pmD35 cdD35 ctD35 : Value} 
    (aD0 : PySem.W.nsIn K mainGlobals "tightest_low" = some (some (.ref fD0)))
    (lD0 : K.lookup fD0 = some ⟨ocD0, odD0, .func (PySem.W.fnOf "tightest_low" "tightest_low" (defArgs s_tightest_low) (defBody s_tightest_low) (defScope s_tightest_low) .none kVD0 dcD0 pmD0 anD0 cdD0 ctD0), slD0⟩)
    (cD0 : PySem.W.codeIn K cdD0 "tightest_low" = true)
    (kD0 : PySem.W.keepIn K (.ref fD0) = true)
    (aD1 : PySem.W.nsIn K mainGlobals "tightest_high" = some (some (.ref fD1)))
    (lD1 : K.lookup fD1 = some ⟨ocD1, odD1, .func (PySem.W.fnOf "tightest_high" "tightest_high" (defArgs s_tightest_high) (defBody s_tightest_high) (defScope s_tightest_high) .none kVD1 dcD1 pmD1 anD1 cdD1 ctD1), slD1⟩)
    (cD1 : PySem.W.codeIn K cdD1 "tightest_high" = true)
    (kD1 : PySem.W.keepIn K (.ref fD1) = true)
    (aD2 : PySem.W.nsIn K mainGlobals "low_within" = some (some (.ref fD2)))
    (lD2 : K.lookup fD2 = some ⟨ocD2, odD2, .func (PySem.W.fnOf "low_within" "low_within" (defArgs s_low_within) (defBody s_low_within) (defScope s_low_within) .none kVD2 dcD2 pmD2 anD2 cdD2 ctD2), slD2⟩)
    (cD2 : PySem.W.codeIn K cdD2 "low_within" = true)
    (kD2 : PySem.W.keepIn K (.ref fD2) = true)
    (aD3 : PySem.W.nsIn K mainGlobals "high_within" = some (some (.ref fD3)))
    (lD3 : K.lookup fD3 = some ⟨ocD3, odD3, .func (PySem.W.fnOf "high_within" "high_within" (defArgs s_high_within) (defBody s_high_within) (defScope s_high_within) .none kVD3 dcD3 pmD3 anD3 cdD3 ctD3), slD3⟩)
    (cD3 : PySem.W.codeIn K cdD3 "high_within" = true)
    (kD3 : PySem.W.keepIn K (.ref fD3) = true)
    (aD4 : PySem.W.nsIn K mainGlobals "lets_in" = some (some (.ref fD4)))
    (lD4 : K.lookup fD4 = some ⟨ocD4, odD4, .func (PySem.W.fnOf "lets_in" "lets_in" (defArgs s_lets_in) (defBody s_lets_in) (defScope s_lets_in) .none kVD4 dcD4 pmD4 anD4 cdD4 ctD4), slD4⟩)
    (cD4 : PySem.W.codeIn K cdD4 "lets_in" = true)
    (kD4 : PySem.W.keepIn K (.ref fD4) = true)
    (aD5 : PySem.W.nsIn K mainGlobals "opposite" = some (some (.ref fD5)))
    (lD5 : K.lookup fD5 = some ⟨ocD5, odD5, .func (PySem.W.fnOf "opposite" "opposite" (defArgs s_opposite) (defBody s_opposite) (defScope s_opposite) .none kVD5 dcD5 pmD5 anD5 cdD5 ctD5), slD5⟩)
    (cD5 : PySem.W.codeIn K cdD5 "opposite" = true)
    (kD5 : PySem.W.keepIn K (.ref fD5) = true)
    (aD6 : PySem.W.nsIn K mainGlobals "gaps_closed" = some (some (.ref fD6)))
    (lD6 : K.lookup fD6 = some ⟨ocD6, odD6, .func (PySem.W.fnOf "gaps_closed" "gaps_closed" (defArgs s_gaps_closed) (defBody s_gaps_closed) (defScope s_gaps_closed) .none kVD6 dcD6 pmD6 anD6 cdD6 ctD6), slD6⟩)
    (cD6 : PySem.W.codeIn K cdD6 "gaps_closed" = true)
    (kD6 : PySem.W.keepIn K (.ref fD6) = true)
    (aD7 : PySem.W.nsIn K mainGlobals "with_zero" = some (some (.ref fD7)))
    (lD7 : K.lookup fD7 = some ⟨ocD7, odD7, .func (PySem.W.fnOf "with_zero" "with_zero" (defArgs s_with_zero) (defBody s_with_zero) (defScope s_with_zero) .none kVD7 dcD7 pmD7 anD7 cdD7 ctD7), slD7⟩)
    (cD7 : PySem.W.codeIn K cdD7 "with_zero" = true)
    (kD7 : PySem.W.keepIn K (.ref fD7) = true)
    (aD8 : PySem.W.nsIn K mainGlobals "shorten" = some (some (.ref fD8)))
    (lD8 : K.lookup fD8 = some ⟨ocD8, odD8, .func (PySem.W.fnOf "shorten" "shorten" (defArgs s_shorten) (defBody s_shorten) (defScope s_shorten) .none kVD8 dcD8 pmD8 anD8 cdD8 ctD8), slD8⟩)
    (cD8 : PySem.W.codeIn K cdD8 "shorten" = true)
    (kD8 : PySem.W.keepIn K (.ref fD8) = true)
    (aD9 : PySem.W.nsIn K mainGlobals "as_tuples" = some (some (.ref fD9)))
    (lD9 : K.lookup fD9 = some ⟨ocD9, odD9, .func (PySem.W.fnOf "as_tuples" "as_tuples" (defArgs s_as_tuples) (defBody s_as_tuples) (defScope s_as_tuples) .none kVD9 dcD9 pmD9 anD9 cdD9 ctD9), slD9⟩)
    (cD9 : PySem.W.codeIn K cdD9 "as_tuples" = true)
    (kD9 : PySem.W.keepIn K (.ref fD9) = true)
    (aD10 : PySem.W.nsIn K mainGlobals "single" = some (some (.ref fD10)))
    (lD10 : K.lookup fD10 = some ⟨ocD10, odD10, .func (PySem.W.fnOf "single" "single" (defArgs s_single) (defBody s_single) (defScope s_single) .none kVD10 dcD10 pmD10 anD10 cdD10 ctD10), slD10⟩)
    (cD10 : PySem.W.codeIn K cdD10 "single" = true)
    (kD10 : PySem.W.keepIn K (.ref fD10) = true)
    (aD11 : PySem.W.nsIn K mainGlobals "value_of" = some (some (.ref fD11)))
    (lD11 : K.lookup fD11 = some ⟨ocD11, odD11, .func (PySem.W.fnOf "value_of" "value_of" (defArgs s_value_of) (defBody s_value_of) (defScope s_value_of) .none kVD11 dcD11 pmD11 anD11 cdD11 ctD11), slD11⟩)
    (cD11 : PySem.W.codeIn K cdD11 "value_of" = true)
    (kD11 : PySem.W.keepIn K (.ref fD11) = true)
    (aD12 : PySem.W.nsIn K mainGlobals "value_cut" = some (some (.ref fD12)))
    (lD12 : K.lookup fD12 = some ⟨ocD12, odD12, .func (PySem.W.fnOf "value_cut" "value_cut" (defArgs s_value_cut) (defBody s_value_cut) (defScope s_value_cut) .none kVD12 dcD12 pmD12 anD12 cdD12 ctD12), slD12⟩)
    (cD12 : PySem.W.codeIn K cdD12 "value_cut" = true)
    (kD12 : PySem.W.keepIn K (.ref fD12) = true)
    (aD13 : PySem.W.nsIn K mainGlobals "tighten" = some (some (.ref fD13)))
    (lD13 : K.lookup fD13 = some ⟨ocD13, odD13, .func (PySem.W.fnOf "tighten" "tighten" (defArgs s_tighten) (defBody s_tighten) (defScope s_tighten) .none kVD13 dcD13 pmD13 anD13 cdD13 ctD13), slD13⟩)
    (cD13 : PySem.W.codeIn K cdD13 "tighten" = true)
    (kD13 : PySem.W.keepIn K (.ref fD13) = true)
    (aD14 : PySem.W.nsIn K mainGlobals "state_of" = some (some (.ref fD14)))
    (lD14 : K.lookup fD14 = some ⟨ocD14, odD14, .func (PySem.W.fnOf "state_of" "state_of" (defArgs s_state_of) (defBody s_state_of) (defScope s_state_of) .none kVD14 dcD14 pmD14 anD14 cdD14 ctD14), slD14⟩)
    (cD14 : PySem.W.codeIn K cdD14 "state_of" = true)
    (kD14 : PySem.W.keepIn K (.ref fD14) = true)
    (aD15 : PySem.W.nsIn K mainGlobals "tightened" = some (some (.ref fD15)))
    (lD15 : K.lookup fD15 = some ⟨ocD15, odD15, .func (PySem.W.fnOf "tightened" "tightened" (defArgs s_tightened) (defBody s_tightened) (defScope s_tightened) .none kVD15 dcD15 pmD15 anD15 cdD15 ctD15), slD15⟩)
    (cD15 : PySem.W.codeIn K cdD15 "tightened" = true)
    (kD15 : PySem.W.keepIn K (.ref fD15) = true)
    (aD16 : PySem.W.nsIn K mainGlobals "_law_box" = some (some (.ref fD16)))
    (lD16 : K.lookup fD16 = some ⟨ocD16, odD16, .func (PySem.W.fnOf "_law_box" "_law_box" (defArgs sBox) (defBody sBox) (defScope sBox) .none kVD16 dcD16 pmD16 anD16 cdD16 ctD16), slD16⟩)
    (cD16 : PySem.W.codeIn K cdD16 "_law_box" = true)
    (kD16 : PySem.W.keepIn K (.ref fD16) = true)
    (aD17 : PySem.W.nsIn K mainGlobals "_law_take" = some (some (.ref fD17)))
    (lD17 : K.lookup fD17 = some ⟨ocD17, odD17, .func (PySem.W.fnOf "_law_take" "_law_take" (defArgs sTake) (defBody sTake) (defScope sTake) .none kVD17 dcD17 pmD17 anD17 cdD17 ctD17), slD17⟩)
    (cD17 : PySem.W.codeIn K cdD17 "_law_take" = true)
    (kD17 : PySem.W.keepIn K (.ref fD17) = true)
    (aD18 : PySem.W.nsIn K mainGlobals "_law_cells" = some (some (.ref fD18)))
    (lD18 : K.lookup fD18 = some ⟨ocD18, odD18, .func (PySem.W.fnOf "_law_cells" "_law_cells" (defArgs sCells) (defBody sCells) (defScope sCells) .none kVD18 dcD18 pmD18 anD18 cdD18 ctD18), slD18⟩)
    (cD18 : PySem.W.codeIn K cdD18 "_law_cells" = true)
    (kD18 : PySem.W.keepIn K (.ref fD18) = true)
    (aD19 : PySem.W.nsIn K mainGlobals "_law_of" = some (some (.ref fD19)))
    (lD19 : K.lookup fD19 = some ⟨ocD19, odD19, .func (PySem.W.fnOf "_law_of" "_law_of" (defArgs sOf) (defBody sOf) (defScope sOf) .none kVD19 dcD19 pmD19 anD19 cdD19 ctD19), slD19⟩)
    (cD19 : PySem.W.codeIn K cdD19 "_law_of" = true)
    (kD19 : PySem.W.keepIn K (.ref fD19) = true)
    (aD20 : PySem.W.nsIn K mainGlobals "_law_same" = some (some (.ref fD20)))
    (lD20 : K.lookup fD20 = some ⟨ocD20, odD20, .func (PySem.W.fnOf "_law_same" "_law_same" (defArgs s_l_same) (defBody s_l_same) (defScope s_l_same) .none kVD20 dcD20 pmD20 anD20 cdD20 ctD20), slD20⟩)
    (cD20 : PySem.W.codeIn K cdD20 "_law_same" = true)
    (kD20 : PySem.W.keepIn K (.ref fD20) = true)
    (aD21 : PySem.W.nsIn K mainGlobals "_law_has" = some (some (.ref fD21)))
    (lD21 : K.lookup fD21 = some ⟨ocD21, odD21, .func (PySem.W.fnOf "_law_has" "_law_has" (defArgs s_l_has) (defBody s_l_has) (defScope s_l_has) .none kVD21 dcD21 pmD21 anD21 cdD21 ctD21), slD21⟩)
    (cD21 : PySem.W.codeIn K cdD21 "_law_has" = true)
    (kD21 : PySem.W.keepIn K (.ref fD21) = true)
    (aD22 : PySem.W.nsIn K mainGlobals "_law_describes" = some (some (.ref fD22)))
    (lD22 : K.lookup fD22 = some ⟨ocD22, odD22, .func (PySem.W.fnOf "_law_describes" "_law_describes" (defArgs s_l_describes) (defBody s_l_describes) (defScope s_l_describes) .none kVD22 dcD22 pmD22 anD22 cdD22 ctD22), slD22⟩)
    (cD22 : PySem.W.codeIn K cdD22 "_law_describes" = true)
    (kD22 : PySem.W.keepIn K (.ref fD22) = true)
    (aD23 : PySem.W.nsIn K mainGlobals "_law_settled" = some (some (.ref fD23)))
    (lD23 : K.lookup fD23 = some ⟨ocD23, odD23, .func (PySem.W.fnOf "_law_settled" "_law_settled" (defArgs s_l_settled) (defBody s_l_settled) (defScope s_l_settled) .none kVD23 dcD23 pmD23 anD23 cdD23 ctD23), slD23⟩)
    (cD23 : PySem.W.codeIn K cdD23 "_law_settled" = true)
    (kD23 : PySem.W.keepIn K (.ref fD23) = true)
    (aD24 : PySem.W.nsIn K mainGlobals "_law_value" = some (some (.ref fD24)))
    (lD24 : K.lookup fD24 = some ⟨ocD24, odD24, .func (PySem.W.fnOf "_law_value" "_law_value" (defArgs s_l_value) (defBody s_l_value) (defScope s_l_value) .none kVD24 dcD24 pmD24 anD24 cdD24 ctD24), slD24⟩)
    (cD24 : PySem.W.codeIn K cdD24 "_law_value" = true)
    (kD24 : PySem.W.keepIn K (.ref fD24) = true)
    (aD25 : PySem.W.nsIn K mainGlobals "_law_member" = some (some (.ref fD25)))
    (lD25 : K.lookup fD25 = some ⟨ocD25, odD25, .func (PySem.W.fnOf "_law_member" "_law_member" (defArgs s_l_member) (defBody s_l_member) (defScope s_l_member) .none kVD25 dcD25 pmD25 anD25 cdD25 ctD25), slD25⟩)
    (cD25 : PySem.W.codeIn K cdD25 "_law_member" = true)
    (kD25 : PySem.W.keepIn K (.ref fD25) = true)
    (aD26 : PySem.W.nsIn K mainGlobals "_law_gaps" = some (some (.ref fD26)))
    (lD26 : K.lookup fD26 = some ⟨ocD26, odD26, .func (PySem.W.fnOf "_law_gaps" "_law_gaps" (defArgs s_l_gaps) (defBody s_l_gaps) (defScope s_l_gaps) .none kVD26 dcD26 pmD26 anD26 cdD26 ctD26), slD26⟩)
    (cD26 : PySem.W.codeIn K cdD26 "_law_gaps" = true)
    (kD26 : PySem.W.keepIn K (.ref fD26) = true)
    (aD27 : PySem.W.nsIn K mainGlobals "_law_pieces" = some (some (.ref fD27)))
    (lD27 : K.lookup fD27 = some ⟨ocD27, odD27, .func (PySem.W.fnOf "_law_pieces" "_law_pieces" (defArgs s_l_pieces) (defBody s_l_pieces) (defScope s_l_pieces) .none kVD27 dcD27 pmD27 anD27 cdD27 ctD27), slD27⟩)
    (cD27 : PySem.W.codeIn K cdD27 "_law_pieces" = true)
    (kD27 : PySem.W.keepIn K (.ref fD27) = true)
    (aD28 : PySem.W.nsIn K mainGlobals "_law_state" = some (some (.ref fD28)))
    (lD28 : K.lookup fD28 = some ⟨ocD28, odD28, .func (PySem.W.fnOf "_law_state" "_law_state" (defArgs s_l_state) (defBody s_l_state) (defScope s_l_state) .none kVD28 dcD28 pmD28 anD28 cdD28 ctD28), slD28⟩)
    (cD28 : PySem.W.codeIn K cdD28 "_law_state" = true)
    (kD28 : PySem.W.keepIn K (.ref fD28) = true)
    (aD29 : PySem.W.nsIn K mainGlobals "_law_frame" = some (some (.ref fD29)))
    (lD29 : K.lookup fD29 = some ⟨ocD29, odD29, .func (PySem.W.fnOf "_law_frame" "_law_frame" (defArgs s_l_frame) (defBody s_l_frame) (defScope s_l_frame) .none kVD29 dcD29 pmD29 anD29 cdD29 ctD29), slD29⟩)
    (cD29 : PySem.W.codeIn K cdD29 "_law_frame" = true)
    (kD29 : PySem.W.keepIn K (.ref fD29) = true)
    (aD30 : PySem.W.nsIn K mainGlobals "_law_body" = some (some (.ref fD30)))
    (lD30 : K.lookup fD30 = some ⟨ocD30, odD30, .func (PySem.W.fnOf "_law_body" "_law_body" (defArgs s_l_body) (defBody s_l_body) (defScope s_l_body) .none kVD30 dcD30 pmD30 anD30 cdD30 ctD30), slD30⟩)
    (cD30 : PySem.W.codeIn K cdD30 "_law_body" = true)
    (kD30 : PySem.W.keepIn K (.ref fD30) = true)
    (aD31 : PySem.W.nsIn K mainGlobals "_law_less" = some (some (.ref fD31)))
    (lD31 : K.lookup fD31 = some ⟨ocD31, odD31, .func (PySem.W.fnOf "_law_less" "_law_less" (defArgs s_l_less) (defBody s_l_less) (defScope s_l_less) .none kVD31 dcD31 pmD31 anD31 cdD31 ctD31), slD31⟩)
    (cD31 : PySem.W.codeIn K cdD31 "_law_less" = true)
    (kD31 : PySem.W.keepIn K (.ref fD31) = true)
    (aD32 : PySem.W.nsIn K mainGlobals "_law_least" = some (some (.ref fD32)))
    (lD32 : K.lookup fD32 = some ⟨ocD32, odD32, .func (PySem.W.fnOf "_law_least" "_law_least" (defArgs s_l_least) (defBody s_l_least) (defScope s_l_least) .none kVD32 dcD32 pmD32 anD32 cdD32 ctD32), slD32⟩)
    (cD32 : PySem.W.codeIn K cdD32 "_law_least" = true)
    (kD32 : PySem.W.keepIn K (.ref fD32) = true)
    (aD33 : PySem.W.nsIn K mainGlobals "_law_due" = some (some (.ref fD33)))
    (lD33 : K.lookup fD33 = some ⟨ocD33, odD33, .func (PySem.W.fnOf "_law_due" "_law_due" (defArgs s_l_due) (defBody s_l_due) (defScope s_l_due) .none kVD33 dcD33 pmD33 anD33 cdD33 ctD33), slD33⟩)
    (cD33 : PySem.W.codeIn K cdD33 "_law_due" = true)
    (kD33 : PySem.W.keepIn K (.ref fD33) = true)
    (aD34 : PySem.W.nsIn K mainGlobals "_law_right" = some (some (.ref fD34)))
    (lD34 : K.lookup fD34 = some ⟨ocD34, odD34, .func (PySem.W.fnOf "_law_right" "_law_right" (defArgs s_l_right) (defBody s_l_right) (defScope s_l_right) .none kVD34 dcD34 pmD34 anD34 cdD34 ctD34), slD34⟩)
    (cD34 : PySem.W.codeIn K cdD34 "_law_right" = true)
    (kD34 : PySem.W.keepIn K (.ref fD34) = true)
    (aD35 : PySem.W.nsIn K mainGlobals "law" = some (some (.ref fD35)))
    (lD35 : K.lookup fD35 = some ⟨ocD35, odD35, .func (PySem.W.fnOf "law" "law" (defArgs sLaw) (defBody sLaw) (defScope sLaw) .none kVD35 dcD35 pmD35 anD35 cdD35 ctD35), slD35⟩)
    (cD35 : PySem.W.codeIn K cdD35 "law" = true)
    (kD35 : PySem.W.keepIn K (.ref fD35) = true)
    (b_len : PySem.W.nsIn K mainGlobals "len" = some none)
    (b_abs : PySem.W.nsIn K mainGlobals "abs" = some none)
    (b_int : PySem.W.nsIn K mainGlobals "int" = some none)
    (b_list : PySem.W.nsIn K mainGlobals "list" = some none)
    (b_tuple : PySem.W.nsIn K mainGlobals "tuple" = some none)
    (b_bool : PySem.W.nsIn K mainGlobals "bool" = some none)
    (b_str : PySem.W.nsIn K mainGlobals "str" = some none)
    (b_enumerate : PySem.W.nsIn K mainGlobals "enumerate" = some none)
    (b_isinstance : PySem.W.nsIn K mainGlobals "isinstance" = some none)
    (b_all : PySem.W.nsIn K mainGlobals "all" = some none)
    (b_any : PySem.W.nsIn K mainGlobals "any" = some none)
    (b_zip : PySem.W.nsIn K mainGlobals "zip" = some none)
    (b_range : PySem.W.nsIn K mainGlobals "range" = some none)
    (b_min : PySem.W.nsIn K mainGlobals "min" = some none)
    (b_max : PySem.W.nsIn K mainGlobals "max" = some none)
    (b_set : PySem.W.nsIn K mainGlobals "set" = some none)
    (b_sorted : PySem.W.nsIn K mainGlobals "sorted" = some none)
    (b_repr : PySem.W.nsIn K mainGlobals "repr" = some none)
    (b_sum : PySem.W.nsIn K mainGlobals "sum" = some none)
    (b_map : PySem.W.nsIn K mainGlobals "map" = some none) :
    ∃ fd : FuncData, (∀ (s : Shared) (v : Value), BindsTo s fd ⟨[v], []⟩ [("_law_script", v)]) ∧ ∀ base : Heap, K.In base → base.Ns mainGlobals mg → FnOk l.prog w K mg base CX0 38 fa fd ["_law_script"] (spLaw K) := by
  have e := hfa.symm.trans (PySem.W.mg_of X G aD35)
  cases e
  have F_tightest_low := fun_mk (st := s_tightest_low) lD0 cD0 kD0
  have b_tightest_low := F_tightest_low.binds (ps := ["one", "other"]) fun _ _ _ _ _ _ us hl => match us, hl with | [_, _], _ => rfl
  have F_tightest_high := fun_mk (st := s_tightest_high) lD1 cD1 kD1
  have b_tightest_high := F_tightest_high.binds (ps := ["one", "other"]) fun _ _ _ _ _ _ us hl => match us, hl with | [_, _], _ => rfl
  have F_low_within := fun_mk (st := s_low_within) lD2 cD2 kD2
  have b_low_within := F_low_within.binds (ps := ["one", "other"]) fun _ _ _ _ _ _ us hl => match us, hl with | [_, _], _ => rfl
  have F_high_within := fun_mk (st := s_high_within) lD3 cD3 kD3
  have b_high_within := F_high_within.binds (ps := ["one", "other"]) fun _ _ _ _ _ _ us hl => match us, hl with | [_, _], _ => rfl
  have F_lets_in := fun_mk (st := s_lets_in) lD4 cD4 kD4
  have b_lets_in := F_lets_in.binds (ps := ["low", "high", "n"]) fun _ _ _ _ _ _ us hl => match us, hl with | [_, _, _], _ => rfl
  have F_opposite := fun_mk (st := s_opposite) lD5 cD5 kD5
  have b_opposite := F_opposite.binds (ps := ["bound"]) fun _ _ _ _ _ _ us hl => match us, hl with | [_], _ => rfl
  have F_gaps_closed := fun_mk (st := s_gaps_closed) lD6 cD6 kD6
  have b_gaps_closed := F_gaps_closed.binds (ps := ["gaps", "spans"]) fun _ _ _ _ _ _ us hl => match us, hl with | [_, _], _ => rfl
  have F_with_zero := fun_mk (st := s_with_zero) lD7 cD7 kD7
  have b_with_zero := F_with_zero.binds (ps := ["gaps", "spans"]) fun _ _ _ _ _ _ us hl => match us, hl with | [_, _], _ => rfl
  have F_shorten := fun_mk (st := s_shorten) lD8 cD8 kD8
  have b_shorten := F_shorten.binds (ps := ["ways"]) fun _ _ _ _ _ _ us hl => match us, hl with | [_], _ => rfl
  have F_as_tuples := fun_mk (st := s_as_tuples) lD9 cD9 kD9
  have b_as_tuples := F_as_tuples.binds (ps := ["thing"]) fun _ _ _ _ _ _ us hl => match us, hl with | [_], _ => rfl
  have F_single := fun_mk (st := s_single) lD10 cD10 kD10
  have b_single := F_single.binds (ps := ["n"]) fun _ _ _ _ _ _ us hl => match us, hl with | [_], _ => rfl
  have F_value_of := fun_mk (st := s_value_of) lD11 cD11 kD11
  have b_value_of := F_value_of.binds (ps := ["low", "high", "m", "r"]) fun _ _ _ _ _ _ us hl => match us, hl with | [_, _, _, _], _ => rfl
  have F_value_cut := fun_mk (st := s_value_cut) lD12 cD12 kD12
  have b_value_cut := F_value_cut.binds (ps := ["value", "low", "high"]) fun _ _ _ _ _ _ us hl => match us, hl with | [_, _, _], _ => rfl
  have F_tighten := fun_mk (st := s_tighten) lD13 cD13 kD13
  have b_tighten := F_tighten.binds (ps := ["state"]) fun _ _ _ _ _ _ us hl => match us, hl with | [_], _ => rfl
  have F_state_of := fun_mk (st := s_state_of) lD14 cD14 kD14
  have b_state_of := F_state_of.binds (ps := ["values", "gaps", "items"]) fun _ _ _ _ _ _ us hl => match us, hl with | [_, _, _], _ => rfl
  have F_tightened := fun_mk (st := s_tightened) lD15 cD15 kD15
  have b_tightened := F_tightened.binds (ps := ["state"]) fun _ _ _ _ _ _ us hl => match us, hl with | [_], _ => rfl
  have F_l_box := fun_mk (st := sBox) lD16 cD16 kD16
  have b_l_box := F_l_box.binds (ps := ["_law_script", "_law_k"]) fun _ _ _ _ _ _ us hl => match us, hl with | [_, _], _ => rfl
  have F_l_take := fun_mk (st := sTake) lD17 cD17 kD17
  have b_l_take := F_l_take.binds (ps := ["_law_box_here", "_law_below"]) fun _ _ _ _ _ _ us hl => match us, hl with | [_, _], _ => rfl
  have F_l_cells := fun_mk (st := sCells) lD18 cD18 kD18
  have b_l_cells := F_l_cells.binds (ps := ["_law_script", "_law_most"]) fun _ _ _ _ _ _ us hl => match us, hl with | [_, _], _ => rfl
  have F_l_of := fun_mk (st := sOf) lD19 cD19 kD19
  have b_l_of := F_l_of.binds (ps := ["_law_box_here", "_law_some"]) fun _ _ _ _ _ _ us hl => match us, hl with | [_, _], _ => rfl
  have F_l_same := fun_mk (st := s_l_same) lD20 cD20 kD20
  have b_l_same := F_l_same.binds (ps := ["_law_found", "_law_due_here"]) fun _ _ _ _ _ _ us hl => match us, hl with | [_, _], _ => rfl
  have F_l_has := fun_mk (st := s_l_has) lD21 cD21 kD21
  have b_l_has := F_l_has.binds (ps := ["_law_value_so", "_law_number_so"]) fun _ _ _ _ _ _ us hl => match us, hl with | [_, _], _ => rfl
  have F_l_describes := fun_mk (st := s_l_describes) lD22 cD22 kD22
  have b_l_describes := F_l_describes.binds (ps := ["_law_state_so", "_law_frame_here"]) fun _ _ _ _ _ _ us hl => match us, hl with | [_, _], _ => rfl
  have F_l_settled := fun_mk (st := s_l_settled) lD23 cD23 kD23
  have b_l_settled := F_l_settled.binds (ps := ["_law_low", "_law_high", "_law_m", "_law_r"]) fun _ _ _ _ _ _ us hl => match us, hl with | [_, _, _, _], _ => rfl
  have F_l_value := fun_mk (st := s_l_value) lD24 cD24 kD24
  have b_l_value := F_l_value.binds (ps := ["_law_box_here"]) fun _ _ _ _ _ _ us hl => match us, hl with | [_], _ => rfl
  have F_l_member := fun_mk (st := s_l_member) lD25 cD25 kD25
  have b_l_member := F_l_member.binds (ps := ["_law_box_here", "_law_value_so"]) fun _ _ _ _ _ _ us hl => match us, hl with | [_, _], _ => rfl
  have F_l_gaps := fun_mk (st := s_l_gaps) lD26 cD26 kD26
  have b_l_gaps := F_l_gaps.binds (ps := ["_law_box_here", "_law_many_so"]) fun _ _ _ _ _ _ us hl => match us, hl with | [_, _], _ => rfl
  have F_l_pieces := fun_mk (st := s_l_pieces) lD27 cD27 kD27
  have b_l_pieces := F_l_pieces.binds (ps := ["_law_box_here", "_law_length"]) fun _ _ _ _ _ _ us hl => match us, hl with | [_, _], _ => rfl
  have F_l_state := fun_mk (st := s_l_state) lD28 cD28 kD28
  have b_l_state := F_l_state.binds (ps := ["_law_box_here", "_law_form_so", "_law_has_so"]) fun _ _ _ _ _ _ us hl => match us, hl with | [_, _, _], _ => rfl
  have F_l_frame := fun_mk (st := s_l_frame) lD29 cD29 kD29
  have b_l_frame := F_l_frame.binds (ps := ["_law_box_here", "_law_state_so", "_law_form_so"]) fun _ _ _ _ _ _ us hl => match us, hl with | [_, _, _], _ => rfl
  have F_l_body := fun_mk (st := s_l_body) lD30 cD30 kD30
  have b_l_body := F_l_body.binds (ps := ["_law_box_here"]) fun _ _ _ _ _ _ us hl => match us, hl with | [_], _ => rfl
  have F_l_less := fun_mk (st := s_l_less) lD31 cD31 kD31
  have b_l_less := F_l_less.binds (ps := ["_law_one", "_law_other"]) fun _ _ _ _ _ _ us hl => match us, hl with | [_, _], _ => rfl
  have F_l_least := fun_mk (st := s_l_least) lD32 cD32 kD32
  have b_l_least := F_l_least.binds (ps := ["_law_state_so"]) fun _ _ _ _ _ _ us hl => match us, hl with | [_], _ => rfl
  have F_l_due := fun_mk (st := s_l_due) lD33 cD33 kD33
  have b_l_due := F_l_due.binds (ps := ["_law_state_so"]) fun _ _ _ _ _ _ us hl => match us, hl with | [_], _ => rfl
  have F_l_right := fun_mk (st := s_l_right) lD34 cD34 kD34
  have b_l_right := F_l_right.binds (ps := ["_law_box_here"]) fun _ _ _ _ _ _ us hl => match us, hl with | [_], _ => rfl
  have F_law := fun_mk (st := sLaw) lD35 cD35 kD35
  have b_law := F_law.binds (ps := ["_law_script"]) fun _ _ _ _ _ _ us hl => match us, hl with | [_], _ => rfl
  have bl : Blts mg := ⟨PySem.W.mg_none_of X G b_len, PySem.W.mg_none_of X G b_abs, PySem.W.mg_none_of X G b_int, PySem.W.mg_none_of X G b_list, PySem.W.mg_none_of X G b_tuple, PySem.W.mg_none_of X G b_bool, PySem.W.mg_none_of X G b_str, PySem.W.mg_none_of X G b_enumerate, PySem.W.mg_none_of X G b_isinstance, PySem.W.mg_none_of X G b_all, PySem.W.mg_none_of X G b_any, PySem.W.mg_none_of X G b_zip, PySem.W.mg_none_of X G b_range, PySem.W.mg_none_of X G b_min, PySem.W.mg_none_of X G b_max, PySem.W.mg_none_of X G b_set, PySem.W.mg_none_of X G b_sorted, PySem.W.mg_none_of X G b_repr, PySem.W.mg_none_of X G b_sum⟩
  have hmap := PySem.W.mg_none_of X G b_map
  have n_tightest_low := PySem.W.mg_of X G aD0
  have n_tightest_high := PySem.W.mg_of X G aD1
  have n_low_within := PySem.W.mg_of X G aD2
  have n_high_within := PySem.W.mg_of X G aD3
  have n_lets_in := PySem.W.mg_of X G aD4
  have n_opposite := PySem.W.mg_of X G aD5
  have n_gaps_closed := PySem.W.mg_of X G aD6
  have n_with_zero := PySem.W.mg_of X G aD7
  have n_shorten := PySem.W.mg_of X G aD8
  have n_as_tuples := PySem.W.mg_of X G aD9
  have n_single := PySem.W.mg_of X G aD10
  have n_value_of := PySem.W.mg_of X G aD11
  have n_value_cut := PySem.W.mg_of X G aD12
  have n_tighten := PySem.W.mg_of X G aD13
  have n_state_of := PySem.W.mg_of X G aD14
  have n_tightened := PySem.W.mg_of X G aD15
  have n_l_box := PySem.W.mg_of X G aD16
  have n_l_take := PySem.W.mg_of X G aD17
  have n_l_cells := PySem.W.mg_of X G aD18
  have n_l_of := PySem.W.mg_of X G aD19
  have n_l_same := PySem.W.mg_of X G aD20
  have n_l_has := PySem.W.mg_of X G aD21
  have n_l_describes := PySem.W.mg_of X G aD22
  have n_l_settled := PySem.W.mg_of X G aD23
  have n_l_value := PySem.W.mg_of X G aD24
  have n_l_member := PySem.W.mg_of X G aD25
  have n_l_gaps := PySem.W.mg_of X G aD26
  have n_l_pieces := PySem.W.mg_of X G aD27
  have n_l_state := PySem.W.mg_of X G aD28
  have n_l_frame := PySem.W.mg_of X G aD29
  have n_l_body := PySem.W.mg_of X G aD30
  have n_l_less := PySem.W.mg_of X G aD31
  have n_l_least := PySem.W.mg_of X G aD32
  have n_l_due := PySem.W.mg_of X G aD33
  have n_l_right := PySem.W.mg_of X G aD34
  refine ⟨PySem.W.fnOf "law" "law" (defArgs sLaw) (defBody sLaw) (defScope sLaw) .none kVD35 dcD35 pmD35 anD35 cdD35 ctD35, fun s v => .of_eq rfl, fun base _ _ => ?_⟩
  have OV := ok_oppV (P := l.prog) (w := w) (mg := mg) (base := base) F_opposite
  have cv_opposite : Cal l.prog w K mg base 1 "opposite" ["bound"] (spOpp K) _ _ := ⟨OV, b_opposite, F_opposite.kp, n_opposite⟩
  have c_opposite : Cal l.prog w K mg base 1 "opposite" ["bound"] (spP K S_ng) _ _ := ⟨negP OV, b_opposite, F_opposite.kp, n_opposite⟩
  have c_with_zero : Cal l.prog w K mg base 2 "with_zero" ["gaps", "spans"] (spWz K) _ _ := ⟨ok_wz bl cv_opposite F_with_zero, b_with_zero, F_with_zero.kp, n_with_zero⟩
  have c_shorten : Cal l.prog w K mg base 1 "shorten" ["ways"] (spShorten K) _ _ := ⟨ok_shorten bl F_shorten, b_shorten, F_shorten.kp, n_shorten⟩
  have c_gaps_closed : Cal l.prog w K mg base 3 "gaps_closed" ["gaps", "spans"] (spP K S_gc) _ _ := ⟨ok_gaps_closed bl c_with_zero c_shorten c_opposite F_gaps_closed, b_gaps_closed, F_gaps_closed.kp, n_gaps_closed⟩
  have c_as_tuples : Cal l.prog w K mg base 35 "as_tuples" ["thing"] (spP K (S_as 7)) _ _ := ⟨all_as (P := l.prog) (w := w) (mg := mg) (base := base) bl hmap F_as_tuples b_as_tuples n_as_tuples 7, b_as_tuples, F_as_tuples.kp, n_as_tuples⟩
  have c_low_within : Cal l.prog w K mg base 1 "low_within" ["one", "other"] (spP K (S2b lwB)) _ _ := ⟨ok_low_within (P := l.prog) (w := w) (mg := mg) (base := base) bl F_low_within, b_low_within, F_low_within.kp, n_low_within⟩
  have c_high_within : Cal l.prog w K mg base 1 "high_within" ["one", "other"] (spP K (S2b hwB)) _ _ := ⟨ok_high_within (P := l.prog) (w := w) (mg := mg) (base := base) bl F_high_within, b_high_within, F_high_within.kp, n_high_within⟩
  have c_tightest_low : Cal l.prog w K mg base 1 "tightest_low" ["one", "other"] (spP K (S2o tmL)) _ _ := ⟨ok_tightest_low (P := l.prog) (w := w) (mg := mg) (base := base) bl F_tightest_low, b_tightest_low, F_tightest_low.kp, n_tightest_low⟩
  have c_tightest_high : Cal l.prog w K mg base 1 "tightest_high" ["one", "other"] (spP K (S2o tmH2)) _ _ := ⟨ok_tightest_high (P := l.prog) (w := w) (mg := mg) (base := base) bl F_tightest_high, b_tightest_high, F_tightest_high.kp, n_tightest_high⟩
  have c_single : Cal l.prog w K mg base 1 "single" ["n"] (spP K (S_sing)) _ _ := ⟨ok_single (P := l.prog) (w := w) (mg := mg) (base := base) bl F_single, b_single, F_single.kp, n_single⟩
  have c_state_of : Cal l.prog w K mg base 1 "state_of" ["values", "gaps", "items"] (spP K (S_so)) _ _ := ⟨ok_state_of (P := l.prog) (w := w) (mg := mg) (base := base) bl F_state_of, b_state_of, F_state_of.kp, n_state_of⟩
  have c_lets_in : Cal l.prog w K mg base 2 "lets_in" ["low", "high", "n"] (spP K S_lets) _ _ := ⟨ok_lets_in bl c_low_within c_high_within F_lets_in, b_lets_in, F_lets_in.kp, n_lets_in⟩
  have c_value_of : Cal l.prog w K mg base 3 "value_of" ["low", "high", "m", "r"] (spP K S_vo) _ _ := ⟨ok_value_of bl c_lets_in c_single F_value_of, b_value_of, F_value_of.kp, n_value_of⟩
  have c_value_cut : Cal l.prog w K mg base 4 "value_cut" ["value", "low", "high"] (spP K S_vc) _ _ := ⟨ok_value_cut bl c_tightest_low c_tightest_high c_value_of F_value_cut, b_value_cut, F_value_cut.kp, n_value_cut⟩
  have c_tighten : Cal l.prog w K mg base 5 "tighten" ["state"] (spP K S_ti) _ _ := ⟨ok_tighten bl c_gaps_closed c_value_cut c_state_of F_tighten, b_tighten, F_tighten.kp, n_tighten⟩
  have c_tightened : Cal l.prog w K mg base 36 "tightened" ["state"] (spP K S_ti) _ _ := ⟨ok_tightened bl c_tighten c_as_tuples F_tightened, b_tightened, F_tightened.kp, n_tightened⟩
  have T1 := ok_take (n := 1) (P := l.prog) (w := w) (mg := mg) (base := base) F_l_take
  have c_l_take : Cal l.prog w K mg base 2 "_law_take" ["_law_box_here", "_law_below"] (spB K 1 domT postT) _ _ := ⟨take_B T1, b_l_take, F_l_take.kp, n_l_take⟩
  have c_l_of : Cal l.prog w K mg base 3 "_law_of" ["_law_box_here", "_law_some"] (spB K 1 domO postO) _ _ := ⟨ok_l_of bl c_l_take F_l_of, b_l_of, F_l_of.kp, n_l_of⟩
  have c_l_same : Cal l.prog w K mg base 7 "_law_same" ["_law_found", "_law_due_here"] (spP K (S_same 7)) _ _ := ⟨all_same bl F_l_same b_l_same n_l_same 7, b_l_same, F_l_same.kp, n_l_same⟩
  have c_l_less : Cal l.prog w K mg base 1 "_law_less" ["_law_one", "_law_other"] (spP K S_ls) _ _ := ⟨ok_l_less (P := l.prog) (w := w) (mg := mg) (base := base) bl F_l_less, b_l_less, F_l_less.kp, n_l_less⟩
  have c_l_has : Cal l.prog w K mg base 1 "_law_has" ["_law_value_so", "_law_number_so"] (spP K S_hv) _ _ := ⟨ok_l_has (P := l.prog) (w := w) (mg := mg) (base := base) bl F_l_has, b_l_has, F_l_has.kp, n_l_has⟩
  have c_l_settled : Cal l.prog w K mg base 1 "_law_settled" ["_law_low", "_law_high", "_law_m", "_law_r"] (spP K S_set) _ _ := ⟨ok_l_settled (P := l.prog) (w := w) (mg := mg) (base := base) bl F_l_settled, b_l_settled, F_l_settled.kp, n_l_settled⟩
  have c_l_describes : Cal l.prog w K mg base 2 "_law_describes" ["_law_state_so", "_law_frame_here"] (spP K S_desc) _ _ := ⟨ok_l_describes bl c_l_has F_l_describes, b_l_describes, F_l_describes.kp, n_l_describes⟩
  have c_l_value : Cal l.prog w K mg base 4 "_law_value" ["_law_box_here"] (spB K 5 domVa postVa) _ _ := ⟨ok_l_value bl c_l_take c_l_of c_l_settled F_l_value, b_l_value, F_l_value.kp, n_l_value⟩
  have c_l_member : Cal l.prog w K mg base 4 "_law_member" ["_law_box_here", "_law_value_so"] (spB K 2 domMe postMe) _ _ := ⟨ok_l_member bl c_l_take c_l_of F_l_member, b_l_member, F_l_member.kp, n_l_member⟩
  have c_l_gaps : Cal l.prog w K mg base 4 "_law_gaps" ["_law_box_here", "_law_many_so"] (spB K 32 domGp postGp) _ _ := ⟨ok_l_gaps bl c_l_take c_l_of F_l_gaps, b_l_gaps, F_l_gaps.kp, n_l_gaps⟩
  have c_l_pieces : Cal l.prog w K mg base 5 "_law_pieces" ["_law_box_here", "_law_length"] (spB K 30 domPs postPs) _ _ := ⟨ok_l_pieces bl c_l_take c_l_value F_l_pieces, b_l_pieces, F_l_pieces.kp, n_l_pieces⟩
  have c_l_state : Cal l.prog w K mg base 6 "_law_state" ["_law_box_here", "_law_form_so", "_law_has_so"] (spB K 112 domSt postSt) _ _ := ⟨ok_l_state bl c_l_value c_l_gaps c_l_pieces F_l_state, b_l_state, F_l_state.kp, n_l_state⟩
  have c_l_body : Cal l.prog w K mg base 4 "_law_body" ["_law_box_here"] (spB K 4 domBo postBo) _ _ := ⟨ok_l_body bl c_l_take c_l_of F_l_body, b_l_body, F_l_body.kp, n_l_body⟩
  have c_l_frame : Cal l.prog w K mg base 5 "_law_frame" ["_law_box_here", "_law_state_so", "_law_form_so"] (spB K 60 domFr postFr) _ _ := ⟨ok_l_frame bl c_l_take c_l_member F_l_frame, b_l_frame, F_l_frame.kp, n_l_frame⟩
  have c_l_least : Cal l.prog w K mg base 2 "_law_least" ["_law_state_so"] (spP K S_le) _ _ := ⟨ok_l_least bl c_l_less F_l_least, b_l_least, F_l_least.kp, n_l_least⟩
  have c_l_due : Cal l.prog w K mg base 3 "_law_due" ["_law_state_so"] (spP K S_du) _ _ := ⟨ok_l_due bl c_l_least c_l_settled F_l_due, b_l_due, F_l_due.kp, n_l_due⟩
  have GR := ok_l_right bl c_l_body c_l_state c_tightened c_l_same c_l_due c_l_frame c_l_describes F_l_right
  have GC := ok_cells (P := l.prog) (w := w) (mg := mg) (base := base) (n := 0) F_l_cells bl.list bl.enumerate
  have GB := ok_box (P := l.prog) (w := w) (mg := mg) (base := base) (n := 0) F_l_box bl.len bl.abs bl.int
  exact ok_law F_law GC b_l_cells F_l_cells.kp n_l_cells GB b_l_box F_l_box.kp n_l_box GR b_l_right F_l_right.kp n_l_right bl.range bl.len bl.all
end Sh
set_option Elab.async false
open PySem PySem.W PyProof.Rows
set_option maxRecDepth 100000 in
set_option maxHeartbeats 0 in
theorem PySem.Challenge.cw_shadowruns_k52_states_tightened_holds : PySem.Challenge.rw_shadowruns_k52_states_tightened.Holds := by
  w_on; o_law; k_head; (case hw => w_witness2)
  k_fill
  refine L2.walk_of (l := PySem.Challenge.rw_shadowruns_k52_states_tightened) (n := 63) (k := 38) (x := "_law_script") (CX := fun _ => L2.CX0) (sp := fun w => Sh.spLaw _) rfl (by decide) rfl ⟨rfl, by decide, by decide⟩ (fun w h Y => PySem.W.kIn_of Y) ?F (fun _ _ a ns hl _ hS => ⟨a, ns, rfl, hS, hl, fun _ => rfl⟩) (fun _ _ _ _ _ h => h)
  case F =>
    intro w mg fa h KX G hmg
    refine' Sh.all_mk KX G hmg ?aD0 ?lD0 ?cD0 ?kD0 ?aD1 ?lD1 ?cD1 ?kD1 ?aD2 ?lD2 ?cD2 ?kD2 ?aD3 ?lD3 ?cD3 ?kD3 ?aD4 ?lD4 ?cD4 ?kD4 ?aD5 ?lD5 ?cD5 ?kD5 ?aD6 ?lD6 ?cD6 ?kD6 ?aD7 ?lD7 ?cD7 ?kD7 ?aD8 ?lD8 ?cD8 ?kD8 ?aD9 ?lD9 ?cD9 ?kD9 ?aD10 ?lD10 ?cD10 ?kD10 ?aD11 ?lD11 ?cD11 ?kD11 ?aD12 ?lD12 ?cD12 ?kD12 ?aD13 ?lD13 ?cD13 ?kD13 ?aD14 ?lD14 ?cD14 ?kD14 ?aD15 ?lD15 ?cD15 ?kD15 ?aD16 ?lD16 ?cD16 ?kD16 ?aD17 ?lD17 ?cD17 ?kD17 ?aD18 ?lD18 ?cD18 ?kD18 ?aD19 ?lD19 ?cD19 ?kD19 ?aD20 ?lD20 ?cD20 ?kD20 ?aD21 ?lD21 ?cD21 ?kD21 ?aD22 ?lD22 ?cD22 ?kD22 ?aD23 ?lD23 ?cD23 ?kD23 ?aD24 ?lD24 ?cD24 ?kD24 ?aD25 ?lD25 ?cD25 ?kD25 ?aD26 ?lD26 ?cD26 ?kD26 ?aD27 ?lD27 ?cD27 ?kD27 ?aD28 ?lD28 ?cD28 ?kD28 ?aD29 ?lD29 ?cD29 ?kD29 ?aD30 ?lD30 ?cD30 ?kD30 ?aD31 ?lD31 ?cD31 ?kD31 ?aD32 ?lD32 ?cD32 ?kD32 ?aD33 ?lD33 ?cD33 ?kD33 ?aD34 ?lD34 ?cD34 ?kD34 ?aD35 ?lD35 ?cD35 ?kD35 ?b_len ?b_abs ?b_int ?b_list ?b_tuple ?b_bool ?b_str ?b_enumerate ?b_isinstance ?b_all ?b_any ?b_zip ?b_range ?b_min ?b_max ?b_set ?b_sorted ?b_repr ?b_sum ?b_map
    (case aD0 => k_is)
    (case lD0 => k_is)
    (case cD0 => k_is)
    (case kD0 => k_is)
    (case aD1 => k_is)
    (case lD1 => k_is)
    (case cD1 => k_is)
    (case kD1 => k_is)
    (case aD2 => k_is)
    (case lD2 => k_is)
    (case cD2 => k_is)
    (case kD2 => k_is)
    (case aD3 => k_is)
    (case lD3 => k_is)
    (case cD3 => k_is)
    (case kD3 => k_is)
    (case aD4 => k_is)
    (case lD4 => k_is)
    (case cD4 => k_is)
    (case kD4 => k_is)
    (case aD5 => k_is)
    (case lD5 => k_is)
    (case cD5 => k_is)
    (case kD5 => k_is)
    (case aD6 => k_is)
    (case lD6 => k_is)
    (case cD6 => k_is)
    (case kD6 => k_is)
    (case aD7 => k_is)
    (case lD7 => k_is)
    (case cD7 => k_is)
    (case kD7 => k_is)
    (case aD8 => k_is)
    (case lD8 => k_is)
    (case cD8 => k_is)
    (case kD8 => k_is)
    (case aD9 => k_is)
    (case lD9 => k_is)
    (case cD9 => k_is)
    (case kD9 => k_is)
    (case aD10 => k_is)
    (case lD10 => k_is)
    (case cD10 => k_is)
    (case kD10 => k_is)
    (case aD11 => k_is)
    (case lD11 => k_is)
    (case cD11 => k_is)
    (case kD11 => k_is)
    (case aD12 => k_is)
    (case lD12 => k_is)
    (case cD12 => k_is)
    (case kD12 => k_is)
    (case aD13 => k_is)
    (case lD13 => k_is)
    (case cD13 => k_is)
    (case kD13 => k_is)
    (case aD14 => k_is)
    (case lD14 => k_is)
    (case cD14 => k_is)
    (case kD14 => k_is)
    (case aD15 => k_is)
    (case lD15 => k_is)
    (case cD15 => k_is)
    (case kD15 => k_is)
    (case aD16 => k_is)
    (case lD16 => k_is)
    (case cD16 => k_is)
    (case kD16 => k_is)
    (case aD17 => k_is)
    (case lD17 => k_is)
    (case cD17 => k_is)
    (case kD17 => k_is)
    (case aD18 => k_is)
    (case lD18 => k_is)
    (case cD18 => k_is)
    (case kD18 => k_is)
    (case aD19 => k_is)
    (case lD19 => k_is)
    (case cD19 => k_is)
    (case kD19 => k_is)
    (case aD20 => k_is)
    (case lD20 => k_is)
    (case cD20 => k_is)
    (case kD20 => k_is)
    (case aD21 => k_is)
    (case lD21 => k_is)
    (case cD21 => k_is)
    (case kD21 => k_is)
    (case aD22 => k_is)
    (case lD22 => k_is)
    (case cD22 => k_is)
    (case kD22 => k_is)
    (case aD23 => k_is)
    (case lD23 => k_is)
    (case cD23 => k_is)
    (case kD23 => k_is)
    (case aD24 => k_is)
    (case lD24 => k_is)
    (case cD24 => k_is)
    (case kD24 => k_is)
    (case aD25 => k_is)
    (case lD25 => k_is)
    (case cD25 => k_is)
    (case kD25 => k_is)
    (case aD26 => k_is)
    (case lD26 => k_is)
    (case cD26 => k_is)
    (case kD26 => k_is)
    (case aD27 => k_is)
    (case lD27 => k_is)
    (case cD27 => k_is)
    (case kD27 => k_is)
    (case aD28 => k_is)
    (case lD28 => k_is)
    (case cD28 => k_is)
    (case kD28 => k_is)
    (case aD29 => k_is)
    (case lD29 => k_is)
    (case cD29 => k_is)
    (case kD29 => k_is)
    (case aD30 => k_is)
    (case lD30 => k_is)
    (case cD30 => k_is)
    (case kD30 => k_is)
    (case aD31 => k_is)
    (case lD31 => k_is)
    (case cD31 => k_is)
    (case kD31 => k_is)
    (case aD32 => k_is)
    (case lD32 => k_is)
    (case cD32 => k_is)
    (case kD32 => k_is)
    (case aD33 => k_is)
    (case lD33 => k_is)
    (case cD33 => k_is)
    (case kD33 => k_is)
    (case aD34 => k_is)
    (case lD34 => k_is)
    (case cD34 => k_is)
    (case kD34 => k_is)
    (case aD35 => k_is)
    (case lD35 => k_is)
    (case cD35 => k_is)
    (case kD35 => k_is)
    (case b_len => k_is)
    (case b_abs => k_is)
    (case b_int => k_is)
    (case b_list => k_is)
    (case b_tuple => k_is)
    (case b_bool => k_is)
    (case b_str => k_is)
    (case b_enumerate => k_is)
    (case b_isinstance => k_is)
    (case b_all => k_is)
    (case b_any => k_is)
    (case b_zip => k_is)
    (case b_range => k_is)
    (case b_min => k_is)
    (case b_max => k_is)
    (case b_set => k_is)
    (case b_sorted => k_is)
    (case b_repr => k_is)
    (case b_sum => k_is)
    (case b_map => k_is)
