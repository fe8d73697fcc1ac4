import PyProof.Rows.All
import Wide.All
import OpenK.AllK
import Wide.FinOn
import HandS.ForMost
import HandS.Flow
import HandS.IsInst
import HandS.FStr
import HandS.Zip
import HandS.Walk
import HandS.Wide
import HandS.TupAny
import HandS.Defaults
import HandS.Style
import HandS.SetFor
import HandS.Strs
import HandS.SortKw
import KE.DatumOrd
import HandS.NoneIn
import HandS.Conv
import HandS.Rev
import HandS.RevTup
import HandS.MapObj
import HandS.MapJoin
import HandS.Gcd
import PyProof.Rows.SortShellAny
import HandS.FromBytesMap
import KE.GoesMore
import PyProof.TupleOfGen
import HandS.Iter
import KE.KDictZip
import PyProof.ListNew
import HandS.Deep
import KE.RegKIsAll
import PySem.Challenge.RW_shadowruns_k35_arrays_by_pieces
set_option Elab.async false
set_option linter.all false
set_option maxRecDepth 100000
set_option maxHeartbeats 4000000
/-! A layer of its own over the hand layer: values as data, the heap out of sight. -/
namespace Sh
open PySem PySem.Spec PyProof.Rows L2
inductive Dt where
  | non | bl (b : Bool) | int (i : Int) | str (s : Str) | ty (n : String) | tup (l : List Dt) | lst (l : List Dt)
section
variable (K : PySem.W.Frag)
mutual
def RD (G : Hp) : Dt → V → Prop
  | .non, v => v = .non
  | .bl b, v => v = .bl b
  | .int i, v => v = .int i
  | .str s, v => v = .str s
  | .ty n, v => v = .ty n
  | .tup l, v => ∃ a xs, v = .ref a ∧ SqT K G a xs ∧ RDs G l xs
  | .lst l, v => ∃ a xs, v = .ref a ∧ G a = some (.lst xs) ∧ RDs G l xs
def RDs (G : Hp) : List Dt → List V → Prop
  | [], xs => xs = []
  | d :: l, xs => ∃ x r, xs = x :: r ∧ RD G d x ∧ RDs G l r
end
end
section
variable {K : PySem.W.Frag}
theorem same_rd {H H' : Hp} {a : Addr} {u : HO} (e : Same H H') (h : Rd H a u) : Rd H' a u := by
  rcases h with h | ⟨o, h⟩
  · exact .inl (e _ _ h)
  · exact .inr ⟨o, e _ _ h⟩
theorem same_sqT {H H' : Hp} {a : Addr} {xs : List V} (e : Same H H') (h : SqT K H a xs) : SqT K H' a xs := by
  rcases h with h | h
  · exact .inl (same_rd e h)
  · exact .inr h
theorem same_sqL {H H' : Hp} {a : Addr} {xs : List V} (e : Same H H') (h : SqL K H a xs) : SqL K H' a xs := by
  rcases h with h | h
  · exact .inl (same_rd e h)
  · exact .inr h
mutual
theorem RD.same {G G' : Hp} (k : Same G G') : ∀ {d : Dt} {v : V}, RD K G d v → RD K G' d v
  | .non, _, h => h
  | .bl _, _, h => h
  | .int _, _, h => h
  | .str _, _, h => h
  | .ty _, _, h => h
  | .tup _, _, ⟨a, xs, e, q, r⟩ => ⟨a, xs, e, same_sqT k q, RDs.same k r⟩
  | .lst _, _, ⟨a, xs, e, q, r⟩ => ⟨a, xs, e, k _ _ q, RDs.same k r⟩
theorem RDs.same {G G' : Hp} (k : Same G G') : ∀ {l : List Dt} {xs : List V}, RDs K G l xs → RDs K G' l xs
  | [], _, h => h
  | _ :: _, _, ⟨x, r, e, h1, h2⟩ => ⟨x, r, e, RD.same k h1, RDs.same k h2⟩
end
theorem RDs.length {G : Hp} : ∀ {l : List Dt} {xs : List V}, RDs K G l xs → xs.length = l.length
  | [], _, h => by rw [show _ = [] from h]; rfl
  | _ :: _, _, ⟨x, r, e, h1, h2⟩ => by rw [e, List.length_cons, List.length_cons, RDs.length h2]
theorem RDs.get {G : Hp} : ∀ {l : List Dt} {xs : List V} {i : Nat} {d : Dt}, RDs K G l xs → l[i]? = some d → ∃ x, xs[i]? = some x ∧ RD K G d x
  | [], _, i, _, h, e => by simp at e
  | d :: l, _, 0, _, ⟨y, r, e1, h1, h2⟩, e => by
    cases e; subst e1; exact ⟨y, rfl, h1⟩
  | d :: l, _, i + 1, _, ⟨y, r, e1, h1, h2⟩, e => by
    subst e1
    obtain ⟨x, q1, q2⟩ := RDs.get (i := i) h2 (by simpa using e)
    exact ⟨x, by simpa using q1, q2⟩
theorem RDs.back {G : Hp} : ∀ {l : List Dt} {xs : List V} {i : Nat} {x : V}, RDs K G l xs → xs[i]? = some x → ∃ d, l[i]? = some d ∧ RD K G d x
  | [], _, i, x, h, e => by rw [show _ = [] from h] at e; simp at e
  | d :: l, _, 0, x, ⟨y, r, e1, h1, h2⟩, e => by
    rw [e1] at e; cases e; exact ⟨d, rfl, h1⟩
  | d :: l, _, i + 1, x, ⟨y, r, e1, h1, h2⟩, e => by
    rw [e1] at e
    obtain ⟨d', q1, q2⟩ := RDs.back (i := i) h2 (by simpa using e)
    exact ⟨d', by simpa using q1, q2⟩
theorem RDs.snoc {G : Hp} : ∀ {l : List Dt} {xs : List V} {d : Dt} {x : V}, RDs K G l xs → RD K G d x → RDs K G (l ++ [d]) (xs ++ [x])
  | [], _, d, x, h, r => by rw [show _ = [] from h]; exact ⟨x, [], rfl, r, rfl⟩
  | d :: l, _, _, x, ⟨y, r, e1, h1, h2⟩, q => ⟨y, r ++ [x], by rw [e1]; rfl, h1, RDs.snoc h2 q⟩
theorem RDs.app {G : Hp} : ∀ {l m : List Dt} {xs ys : List V}, RDs K G l xs → RDs K G m ys → RDs K G (l ++ m) (xs ++ ys)
  | [], _, _, _, h, r => by rw [show _ = [] from h]; exact r
  | d :: l, _, _, ys, ⟨y, r, e1, h1, h2⟩, q => ⟨y, r ++ ys, by rw [e1]; rfl, h1, RDs.app h2 q⟩
theorem RDs.take {G : Hp} : ∀ {l : List Dt} {xs : List V} (n : Nat), RDs K G l xs → RDs K G (l.take n) (xs.take n)
  | _, _, 0, h => by rw [List.take_zero, List.take_zero]; rfl
  | [], _, n + 1, h => by rw [show _ = [] from h]; rfl
  | d :: l, _, n + 1, ⟨y, r, e1, h1, h2⟩ => ⟨y, r.take n, by rw [e1]; rfl, h1, RDs.take n h2⟩
theorem RDs.drop {G : Hp} : ∀ {l : List Dt} {xs : List V} (n : Nat), RDs K G l xs → RDs K G (l.drop n) (xs.drop n)
  | _, _, 0, h => h
  | [], _, n + 1, h => by rw [show _ = [] from h]; rfl
  | d :: l, _, n + 1, ⟨y, r, e1, h1, h2⟩ => by rw [e1]; exact RDs.drop n h2
theorem RDs.bls {G : Hp} : ∀ {ns : List Bool} {xs : List V}, RDs K G (ns.map Dt.bl) xs → xs = ns.map V.bl
  | [], _, h => h
  | n :: ns, _, ⟨y, r, e1, h1, h2⟩ => by rw [e1, show y = V.bl n from h1, RDs.bls h2]; rfl
theorem RDs.one {G : Hp} {d : Dt} {xs : List V} (h : RDs K G [d] xs) : ∃ x, xs = [x] ∧ RD K G d x := by
  obtain ⟨x, r, rfl, h1, rfl⟩ := h
  exact ⟨x, rfl, h1⟩
theorem RDs.two {G : Hp} {d e : Dt} {xs : List V} (h : RDs K G [d, e] xs) : ∃ x y, xs = [x, y] ∧ RD K G d x ∧ RD K G e y := by
  obtain ⟨x, r, rfl, h1, y, r2, rfl, h2, rfl⟩ := h
  exact ⟨x, y, rfl, h1, h2⟩
theorem same_up {H : Hp} {p : Addr} {o : HO} (h : H p = none) : Same H (upd H p o) := fun b x e => by
  rw [upd_ne (ne_of_none e h)]; exact e
theorem same_upd {G H : Hp} {p : Addr} {o : HO} (h : Same G H) : Same (upd G p o) (upd H p o) := fun b x e => by
  by_cases z : b = p
  · subst z; rw [upd_same] at e ⊢; exact e
  · rw [upd_ne z] at e ⊢; exact h _ _ e
/-! ### what stands in the slots -/
def BxM : Int := 1000000000000
def Bx (H : Hp) (b : Addr) (y c : Int) : Prop := ∃ x : Int, H b = some (.lst [.int x, .int y, .int c]) ∧ 0 ≤ x ∧ 0 ≤ y ∧ y < 4611686018427387904
inductive En where
  | no | da (d : Dt) | own (l : List Dt) | bx (b : Addr) (f : Nat)
def En.isOwn : En → Prop
  | .own _ => True
  | .bx _ _ => True
  | _ => False
end
/-- G: what is data; H: all; B: what others hold and is no data -/
structure Mt (K : PySem.W.Frag) (B : Addr → Prop) (ρ : List En) (σ : L2.St) (G H : Hp) : Prop where
  sub : Same G H
  pro : ∀ a, B a → G a = none ∧ H a ≠ none
  len : σ.length = ρ.length
  da : ∀ (i : Nat) (d : Dt), ρ[i]? = some (.da d) → ∃ v, σ[i]? = some (some v) ∧ RD K G d v
  own : ∀ (i : Nat) (l : List Dt), ρ[i]? = some (.own l) → ∃ (q : Addr) (xs : List V), σ[i]? = some (some (V.ref q)) ∧ H q = some (.lst xs) ∧ RDs K G l xs ∧ G q = none ∧ ¬ B q
  bx : ∀ (i : Nat) (b : Addr) (f : Nat), ρ[i]? = some (.bx b f) → ∃ (y c : Int), σ[i]? = some (some (V.ref b)) ∧ Bx H b y c ∧ 0 ≤ c ∧ c + f ≤ BxM ∧ G b = none ∧ ¬ B b
  dis : ∀ (i j : Nat) (e e' : En) (a : Addr), ρ[i]? = some e → ρ[j]? = some e' → e.isOwn → e'.isOwn → i ≠ j → σ[i]? = some (some (V.ref a)) → σ[j]? = some (some (V.ref a)) → False
/-- what others hold stays -/
def Tr (B : Addr → Prop) (H H' : Hp) : Prop := ∀ a o, B a → H a = some o → H' a = some o
theorem Tr.refl {B : Addr → Prop} {H : Hp} : Tr B H H := fun _ _ _ e => e
theorem Tr.trans {B : Addr → Prop} {H H1 H2 : Hp} (x : Tr B H H1) (y : Tr B H1 H2) : Tr B H H2 := fun a o b e => y a o b (x a o b e)
theorem Tr.same {B : Addr → Prop} {H H' : Hp} (x : Same H H') : Tr B H H' := fun a o _ e => x a o e
/-- a step that only lays new data -/
structure Nw (G H G' H' : Hp) : Prop where
  g : Same G G'
  s : Same G' H'
  h : Same H H'
  f : ∀ a, G a = none → H a ≠ none → G' a = none
theorem Nw.refl {G H : Hp} (s : Same G H) : Nw G H G H := ⟨Same.refl _, s, Same.refl _, fun _ h _ => h⟩
theorem Nw.trans {G H G1 H1 G2 H2 : Hp} (x : Nw G H G1 H1) (y : Nw G1 H1 G2 H2) : Nw G H G2 H2 :=
  ⟨x.g.trans y.g, y.s, x.h.trans y.h, fun a h1 h2 => y.f a (x.f a h1 h2) (fun z => by
    cases e : H a with
    | none => exact h2 e
    | some o => rw [x.h _ _ e] at z; cases z)⟩
theorem Nw.new {G H : Hp} {p : Addr} {o : HO} (s : Same G H) (n : H p = none) : Nw G H (upd G p o) (upd H p o) :=
  ⟨same_up (s.free n), same_upd s, same_up n, fun a h1 h2 => by
    rw [upd_ne (fun z => h2 (by rw [z]; exact n))]; exact h1⟩
section
variable {K : PySem.W.Frag} {B : Addr → Prop} {ρ : List En} {σ : L2.St} {G H G' H' : Hp}
theorem ne_none {H H' : Hp} {a : Addr} (s : Same H H') (h : H a ≠ none) : H' a ≠ none := fun z => h (s.free z)
theorem some_ne {H : Hp} {a : Addr} {o : HO} (e : H a = some o) : H a ≠ none := fun z => by rw [z] at e; cases e
theorem Bx.ne {b : Addr} {y c : Int} (h : Bx H b y c) : H b ≠ none := by
  obtain ⟨x, e, _⟩ := h
  exact some_ne e
theorem Bx.same {b : Addr} {y c : Int} (s : Same H H') (h : Bx H b y c) : Bx H' b y c := by
  obtain ⟨x, e, r⟩ := h
  exact ⟨x, s _ _ e, r⟩
theorem Mt.nw (m : Mt K B ρ σ G H) (n : Nw G H G' H') : Mt K B ρ σ G' H' where
  sub := n.s
  pro := fun a b => ⟨n.f a (m.pro a b).1 (m.pro a b).2, ne_none n.h (m.pro a b).2⟩
  len := m.len
  da := fun i d e => by
    obtain ⟨v, h1, h2⟩ := m.da i d e
    exact ⟨v, h1, h2.same n.g⟩
  own := fun i l e => by
    obtain ⟨q, xs, h1, h2, h3, h4, h5⟩ := m.own i l e
    exact ⟨q, xs, h1, n.h _ _ h2, h3.same n.g, n.f q h4 (some_ne h2), h5⟩
  bx := fun i b f e => by
    obtain ⟨y, c, h1, h2, h3, h4, h5, h6⟩ := m.bx i b f e
    exact ⟨y, c, h1, h2.same n.h, h3, h4, n.f b h5 h2.ne, h6⟩
  dis := m.dis
theorem get_set {α : Type} {l : List α} {i j : Nat} {x y : α} (h : (l.set i x)[j]? = some y) : (i = j ∧ y = x ∧ i < l.length) ∨ (i ≠ j ∧ l[j]? = some y) := by
  rw [List.getElem?_set] at h
  by_cases e : i = j
  · rw [if_pos e] at h
    split at h
    · cases h; exact .inl ⟨e, rfl, by assumption⟩
    · cases h
  · rw [if_neg e] at h; exact .inr ⟨e, h⟩
theorem set_at {α : Type} {l : List α} {i : Nat} {x : α} (h : i < l.length) : (l.set i x)[i]? = some x := by
  rw [List.getElem?_set, if_pos rfl, if_pos h]
theorem set_off {α : Type} {l : List α} {i j : Nat} {x : α} (h : i ≠ j) : (l.set i x)[j]? = l[j]? := by
  rw [List.getElem?_set, if_neg h]
/-- a slot gets data -/
theorem Mt.set (m : Mt K B ρ σ G H) (i : Nat) {d : Dt} {v : V} (r : RD K G d v) : Mt K B (ρ.set i (.da d)) (σ.set i (some v)) G H where
  sub := m.sub
  pro := m.pro
  len := by rw [List.length_set, List.length_set]; exact m.len
  da := fun j e h => by
    rcases get_set h with ⟨rfl, z, lt⟩ | ⟨ne, z⟩
    · cases z; exact ⟨v, set_at (by rw [m.len]; exact lt), r⟩
    · rw [set_off ne]; exact m.da j e z
  own := fun j l h => by
    rcases get_set h with ⟨rfl, z, lt⟩ | ⟨ne, z⟩
    · cases z
    · rw [set_off ne]; exact m.own j l z
  bx := fun j b f h => by
    rcases get_set h with ⟨rfl, z, lt⟩ | ⟨ne, z⟩
    · cases z
    · rw [set_off ne]; exact m.bx j b f z
  dis := fun j k e e' a h1 h2 o1 o2 ne s1 s2 => by
    rcases get_set h1 with ⟨rfl, z, lt⟩ | ⟨n1, z1⟩
    · subst z; exact o1
    · rcases get_set h2 with ⟨rfl, z, lt⟩ | ⟨n2, z2⟩
      · subst z; exact o2
      · rw [set_off n1] at s1; rw [set_off n2] at s2; exact m.dis j k e e' a z1 z2 o1 o2 ne s1 s2
/-- a slot is forgotten -/
theorem Mt.drop (m : Mt K B ρ σ G H) (i : Nat) (o : Option V) : Mt K B (ρ.set i .no) (σ.set i o) G H where
  sub := m.sub
  pro := m.pro
  len := by rw [List.length_set, List.length_set]; exact m.len
  da := fun j e h => by
    rcases get_set h with ⟨rfl, z, lt⟩ | ⟨ne, z⟩
    · cases z
    · rw [set_off ne]; exact m.da j e z
  own := fun j l h => by
    rcases get_set h with ⟨rfl, z, lt⟩ | ⟨ne, z⟩
    · cases z
    · rw [set_off ne]; exact m.own j l z
  bx := fun j b f h => by
    rcases get_set h with ⟨rfl, z, lt⟩ | ⟨ne, z⟩
    · cases z
    · rw [set_off ne]; exact m.bx j b f z
  dis := fun j k e e' a h1 h2 o1 o2 ne s1 s2 => by
    rcases get_set h1 with ⟨rfl, z, lt⟩ | ⟨n1, z1⟩
    · subst z; exact o1
    · rcases get_set h2 with ⟨rfl, z, lt⟩ | ⟨n2, z2⟩
      · subst z; exact o2
      · rw [set_off n1] at s1; rw [set_off n2] at s2; exact m.dis j k e e' a z1 z2 o1 o2 ne s1 s2
/-- less is protected -/
theorem Mt.less (m : Mt K B ρ σ G H) {B' : Addr → Prop} (h : ∀ a, B' a → B a) : Mt K B' ρ σ G H where
  sub := m.sub
  pro := fun a b => m.pro a (h a b)
  len := m.len
  da := m.da
  own := fun i l e => by
    obtain ⟨q, xs, h1, h2, h3, h4, h5⟩ := m.own i l e
    exact ⟨q, xs, h1, h2, h3, h4, fun z => h5 (h _ z)⟩
  bx := fun i b f e => by
    obtain ⟨y, c, h1, h2, h3, h4, h5, h6⟩ := m.bx i b f e
    exact ⟨y, c, h1, h2, h3, h4, h5, fun z => h6 (h _ z)⟩
  dis := m.dis
/-- a new object that is no data is protected, too -/
theorem Mt.guard (m : Mt K B ρ σ G H) {p : Addr} {o : HO} (n : H p = none) : Mt K (fun a => B a ∨ a = p) ρ σ G (upd H p o) where
  sub := m.sub.trans (same_up n)
  pro := fun a b => by
    rcases b with b | rfl
    · exact ⟨(m.pro a b).1, ne_none (same_up n) (m.pro a b).2⟩
    · exact ⟨m.sub.free n, some_ne upd_same⟩
  len := m.len
  da := m.da
  own := fun i l e => by
    obtain ⟨q, xs, h1, h2, h3, h4, h5⟩ := m.own i l e
    exact ⟨q, xs, h1, same_up n _ _ h2, h3, h4, fun z => z.elim h5 (ne_of_none h2 n)⟩
  bx := fun i b f e => by
    obtain ⟨y, c, h1, h2, h3, h4, h5, h6⟩ := m.bx i b f e
    exact ⟨y, c, h1, h2.same (same_up n), h3, h4, h5, fun z => z.elim h6 (fun w => h2.ne (by rw [w]; exact n))⟩
  dis := m.dis
/-- a protected object changes -/
theorem Mt.turn (m : Mt K B ρ σ G H) {p : Addr} {o : HO} (bp : B p) : Mt K B ρ σ G (upd H p o) where
  sub := fun a u e => by
    rw [upd_ne (fun z => by rw [z, (m.pro p bp).1] at e; cases e)]; exact m.sub _ _ e
  pro := fun a ba => ⟨(m.pro a ba).1, by
    by_cases z : a = p
    · subst z; exact some_ne upd_same
    · rw [upd_ne z]; exact (m.pro a ba).2⟩
  len := m.len
  da := m.da
  own := fun i l e => by
    obtain ⟨q, xs, h1, h2, h3, h4, h5⟩ := m.own i l e
    exact ⟨q, xs, h1, by rw [upd_ne (fun z => h5 (by rw [z]; exact bp))]; exact h2, h3, h4, h5⟩
  bx := fun i b f e => by
    obtain ⟨y, k, h1, ⟨x, h2, h2'⟩, h3, h4, h5, h6⟩ := m.bx i b f e
    exact ⟨y, k, h1, ⟨x, by rw [upd_ne (fun z => h6 (by rw [z]; exact bp))]; exact h2, h2'⟩, h3, h4, h5, h6⟩
  dis := m.dis
/-- an own list becomes data -/
theorem Mt.frz (m : Mt K B ρ σ G H) {i : Nat} {l : List Dt} (e : ρ[i]? = some (.own l)) : ∃ G', Mt K B (ρ.set i (.da (.lst l))) σ G' H ∧ Same G G' := by
  obtain ⟨q, xs, h1, h2, h3, h4, h5⟩ := m.own i l e
  have sg : Same G (upd G q (.lst xs)) := same_up h4
  have li : i < ρ.length := (List.getElem?_eq_some_iff.mp e).1
  refine ⟨upd G q (.lst xs), ⟨?_, ?_, ?_, ?_, ?_, ?_, ?_⟩, sg⟩
  · intro a o z
    by_cases w : a = q
    · subst w; rw [upd_same] at z; cases z; exact h2
    · rw [upd_ne w] at z; exact m.sub _ _ z
  · exact fun a b => ⟨by rw [upd_ne (fun z => h5 (by rw [← z]; exact b))]; exact (m.pro a b).1, (m.pro a b).2⟩
  · rw [List.length_set]; exact m.len
  · intro j d h
    rcases get_set h with ⟨rfl, z, lt⟩ | ⟨ne, z⟩
    · cases z; exact ⟨_, h1, q, xs, rfl, upd_same, h3.same sg⟩
    · obtain ⟨v, z1, z2⟩ := m.da j d z
      exact ⟨v, z1, z2.same sg⟩
  · intro j k h
    rcases get_set h with ⟨rfl, z, lt⟩ | ⟨ne, z⟩
    · cases z
    · obtain ⟨q', ys, z1, z2, z3, z4, z5⟩ := m.own j k z
      exact ⟨q', ys, z1, z2, z3.same sg, by rw [upd_ne (fun w => m.dis i j _ _ q e z trivial trivial ne h1 (by rw [← w]; exact z1))]; exact z4, z5⟩
  · intro j b f h
    rcases get_set h with ⟨rfl, z, lt⟩ | ⟨ne, z⟩
    · cases z
    · obtain ⟨y, c, z1, z2, z3, z4, z5, z6⟩ := m.bx j b f z
      exact ⟨y, c, z1, z2, z3, z4, by rw [upd_ne (fun w => m.dis i j _ _ q e z trivial trivial ne h1 (by rw [← w]; exact z1))]; exact z5, z6⟩
  · intro j k e1 e2 a g1 g2 o1 o2 ne s1 s2
    rcases get_set g1 with ⟨rfl, z, lt⟩ | ⟨n1, z1⟩
    · subst z; exact o1
    · rcases get_set g2 with ⟨rfl, z, lt⟩ | ⟨n2, z2⟩
      · subst z; exact o2
      · exact m.dis j k e1 e2 a z1 z2 o1 o2 ne s1 s2
end
end Sh
set_option Elab.async false
set_option linter.all false
set_option maxRecDepth 100000
set_option maxHeartbeats 4000000
namespace Sh
open PySem PySem.Spec PyProof.Rows L2
section
variable (K : PySem.W.Frag)
/-- what must hold so that an expression gives d, leaving ρ', of which Ψ d ρ' holds: of data alone -/
def AE (te : TE) (ρ : List En) (Ψ : Dt → List En → Prop) : Prop := ∀ B σ G H, Mt K B ρ σ G H → ∀ Q : VK, (∀ v d ρ' G' H', Mt K B ρ' σ G' H' → Same G G' → Tr B H H' → RD K G' d v → Ψ d ρ' → Q v H') → te σ H Q
def AT (tt : TT) (ρ : List En) (Ψ : Bool → List En → Prop) : Prop := ∀ B σ G H, Mt K B ρ σ G H → ∀ Q : Bool → Hp → Prop, (∀ b ρ' G' H', Mt K B ρ' σ G' H' → Same G G' → Tr B H H' → Ψ b ρ' → Q b H') → tt σ H Q
def AA (ta : TA) (ρ : List En) (Ψ : List Dt → List En → Prop) : Prop := ∀ B σ G H, Mt K B ρ σ G H → ∀ Q : List V → Hp → Prop, (∀ vs ds ρ' G' H', Mt K B ρ' σ G' H' → Same G G' → Tr B H H' → RDs K G' ds vs → Ψ ds ρ' → Q vs H') → ta σ H Q
/-- a block: N of what it goes on with, R of what it returns -/
def AS (ts : TS) (ρ : List En) (N : List En → Prop) (R : Dt → List En → Prop) : Prop := ∀ B σ G H, Mt K B ρ σ G H → ∀ D : Ends,
  (∀ σ' ρ' G' H', Mt K B ρ' σ' G' H' → Same G G' → Tr B H H' → N ρ' → D.nx σ' H') →
  (∀ v d σ' ρ' G' H', Mt K B ρ' σ' G' H' → Same G G' → Tr B H H' → RD K G' d v → R d ρ' → D.rt v H') → ts D σ H
/-- by values: of data to data, only new data laid -/
def AR (r : R2) (d1 d2 : Dt) (Φ : Dt → Prop) : Prop := ∀ G H, Same G H → ∀ x y, RD K G d1 x → RD K G d2 y → ∀ Q : VK, (∀ v d G' H', Nw G H G' H' → RD K G' d v → Φ d → Q v H') → r x y H Q
def AU (r : V → Hp → VK → Prop) (d1 : Dt) (Φ : Dt → Prop) : Prop := ∀ G H, Same G H → ∀ x, RD K G d1 x → ∀ Q : VK, (∀ v d G' H', Nw G H G' H' → RD K G' d v → Φ d → Q v H') → r x H Q
def AC (r : List V → Hp → VK → Prop) (ds : List Dt) (Φ : Dt → Prop) : Prop := ∀ G H, Same G H → ∀ vs, RDs K G ds vs → ∀ Q : VK, (∀ v d G' H', Nw G H G' H' → RD K G' d v → Φ d → Q v H') → r vs H Q
end
section
variable {K : PySem.W.Frag} {ρ : List En} {Ψ : Dt → List En → Prop} {ΨT : Bool → List En → Prop} {ΨA : List Dt → List En → Prop} {N : List En → Prop} {R : Dt → List En → Prop} {Φ : Dt → Prop}
theorem ae_var {i : Nat} {d : Dt} (e : ρ[i]? = some (.da d)) (h : Ψ d ρ) : AE K (tVar i) ρ Ψ := fun B σ G H m Q q => by
  obtain ⟨v, h1, h2⟩ := m.da i d e
  exact ⟨v, h1, q v d ρ G H m (Same.refl _) Tr.refl h2 h⟩
theorem ae_c {v : V} (d : Dt) (e : ∀ G, RD K G d v) (h : Ψ d ρ) : AE K (tC v) ρ Ψ := fun B σ G H m Q q => q v d ρ G H m (Same.refl _) Tr.refl (e G) h
theorem ae_int {i : Int} (h : Ψ (.int i) ρ) : AE K (tC (.int i)) ρ Ψ := ae_c (.int i) (fun _ => rfl) h
theorem ae_non (h : Ψ .non ρ) : AE K (tC .non) ρ Ψ := ae_c .non (fun _ => rfl) h
theorem ae_bl {b : Bool} (h : Ψ (.bl b) ρ) : AE K (tC (.bl b)) ρ Ψ := ae_c (.bl b) (fun _ => rfl) h
theorem ae_mono {te : TE} {Ψ' : Dt → List En → Prop} (h : AE K te ρ Ψ') (k : ∀ d ρ', Ψ' d ρ' → Ψ d ρ') : AE K te ρ Ψ := fun B σ G H m Q q =>
  h B σ G H m Q fun v d ρ' G' H' m' s t r p => q v d ρ' G' H' m' s t r (k d ρ' p)
theorem at_mono {te : TT} {Ψ' : Bool → List En → Prop} (h : AT K te ρ Ψ') (k : ∀ d ρ', Ψ' d ρ' → ΨT d ρ') : AT K te ρ ΨT := fun B σ G H m Q q =>
  h B σ G H m Q fun d ρ' G' H' m' s t p => q d ρ' G' H' m' s t (k d ρ' p)
theorem ae_op {r : R2} {ta tb : TE} (h : AE K ta ρ fun d1 ρ1 => AE K tb ρ1 fun d2 ρ2 => AR K r d1 d2 fun d => Ψ d ρ2) : AE K (tOp r ta tb) ρ Ψ := fun B σ G H m Q q =>
  h B σ G H m _ fun x d1 ρ1 G1 H1 m1 s1 t1 r1 h1 => h1 B σ G1 H1 m1 _ fun y d2 ρ2 G2 H2 m2 s2 t2 r2 h2 =>
    h2 G2 H2 m2.sub x y (r1.same s2) r2 Q fun v d G3 H3 n3 r3 p3 => q v d ρ2 G3 H3 (m2.nw n3) ((s1.trans s2).trans n3.g) ((t1.trans t2).trans (Tr.same n3.h)) r3 p3
theorem ae_un {r : V → Hp → VK → Prop} {ta : TE} (h : AE K ta ρ fun d1 ρ1 => AU K r d1 fun d => Ψ d ρ1) : AE K (tUn r ta) ρ Ψ := fun B σ G H m Q q =>
  h B σ G H m _ fun x d1 ρ1 G1 H1 m1 s1 t1 r1 h1 => h1 G1 H1 m1.sub x r1 Q fun v d G3 H3 n3 r3 p3 => q v d ρ1 G3 H3 (m1.nw n3) (s1.trans n3.g) (t1.trans (Tr.same n3.h)) r3 p3
theorem aa_nil (h : ΨA [] ρ) : AA K tNil ρ ΨA := fun B σ G H m Q q => q [] [] ρ G H m (Same.refl _) Tr.refl rfl h
theorem aa_cons {ta : TE} {tr : TA} (h : AE K ta ρ fun d ρ1 => AA K tr ρ1 fun ds ρ2 => ΨA (d :: ds) ρ2) : AA K (tCons ta tr) ρ ΨA := fun B σ G H m Q q =>
  h B σ G H m _ fun x d ρ1 G1 H1 m1 s1 t1 r1 h1 => h1 B σ G1 H1 m1 _ fun xs ds ρ2 G2 H2 m2 s2 t2 r2 h2 =>
    q (x :: xs) (d :: ds) ρ2 G2 H2 m2 (s1.trans s2) (t1.trans t2) ⟨x, xs, rfl, r1.same s2, r2⟩ h2
theorem ae_cb {r : List V → Hp → VK → Prop} {ta : TA} (h : AA K ta ρ fun ds ρ1 => AC K r ds fun d => Ψ d ρ1) : AE K (tCB r ta) ρ Ψ := fun B σ G H m Q q =>
  h B σ G H m _ fun x d1 ρ1 G1 H1 m1 s1 t1 r1 h1 => h1 G1 H1 m1.sub x r1 Q fun v d G3 H3 n3 r3 p3 => q v d ρ1 G3 H3 (m1.nw n3) (s1.trans n3.g) (t1.trans (Tr.same n3.h)) r3 p3
theorem ae_tup {ta : TA} (h : AA K ta ρ fun ds ρ1 => ds.length ≤ sizeLine ∧ Ψ (.tup ds) ρ1) : AE K (tTup ta) ρ Ψ := fun B σ G H m Q q =>
  h B σ G H m _ fun xs ds ρ1 G1 H1 m1 s1 t1 r1 h1 => ⟨by rw [r1.length]; exact h1.1, fun p hp => by
    have n := Nw.new (o := .tup xs) m1.sub hp
    exact q _ (.tup ds) ρ1 _ _ (m1.nw n) (s1.trans n.g) (t1.trans (Tr.same n.h)) ⟨p, xs, rfl, SqT.of upd_same, r1.same n.g⟩ h1.2⟩
theorem ae_lst {ta : TA} (h : AA K ta ρ fun ds ρ1 => ds.length ≤ sizeLine ∧ Ψ (.lst ds) ρ1) : AE K (tLst ta) ρ Ψ := fun B σ G H m Q q =>
  h B σ G H m _ fun xs ds ρ1 G1 H1 m1 s1 t1 r1 h1 => ⟨by rw [r1.length]; exact h1.1, fun p hp => by
    have n := Nw.new (o := .lst xs) m1.sub hp
    exact q _ (.lst ds) ρ1 _ _ (m1.nw n) (s1.trans n.g) (t1.trans (Tr.same n.h)) ⟨p, xs, rfl, upd_same, r1.same n.g⟩ h1.2⟩
theorem ae_if {tt : TT} {ta tb : TE} (h : AT K tt ρ fun b ρ1 => (b = true → AE K ta ρ1 Ψ) ∧ (b = false → AE K tb ρ1 Ψ)) : AE K (tIf tt ta tb) ρ Ψ := fun B σ G H m Q q =>
  h B σ G H m _ fun b ρ1 G1 H1 m1 s1 t1 h1 => by
    cases b
    · rw [if_neg (by decide)]; exact h1.2 rfl B σ G1 H1 m1 Q fun v d ρ' G' H' m' s t r p => q v d ρ' G' H' m' (s1.trans s) (t1.trans t) r p
    · rw [if_pos rfl]; exact h1.1 rfl B σ G1 H1 m1 Q fun v d ρ' G' H' m' s t r p => q v d ρ' G' H' m' (s1.trans s) (t1.trans t) r p
theorem at_test {te : TE} (h : AE K te ρ fun d ρ1 => ∃ b, d = .bl b ∧ ΨT b ρ1) : AT K (tTest te) ρ ΨT := fun B σ G H m Q q =>
  h B σ G H m _ fun v d ρ1 G1 H1 m1 s1 t1 r1 ⟨b, e, p⟩ => by
    subst e; exact ⟨b, r1, q b ρ1 G1 H1 m1 s1 t1 p⟩
theorem at_b {te : TE} (h : AE K te ρ fun d ρ1 => ∃ b, d = .bl b ∧ ΨT b ρ1) : AT K (tB te) ρ ΨT := at_test h
theorem at_and {t u : TT} (h : AT K t ρ fun b ρ1 => (b = true → AT K u ρ1 ΨT) ∧ (b = false → ΨT false ρ1)) : AT K (tAnd t u) ρ ΨT := fun B σ G H m Q q =>
  h B σ G H m _ fun b ρ1 G1 H1 m1 s1 t1 h1 => by
    cases b
    · rw [if_neg (by decide)]; exact q false ρ1 G1 H1 m1 s1 t1 (h1.2 rfl)
    · rw [if_pos rfl]; exact h1.1 rfl B σ G1 H1 m1 Q fun d ρ' G' H' m' s t p => q d ρ' G' H' m' (s1.trans s) (t1.trans t) p
theorem at_or {t u : TT} (h : AT K t ρ fun b ρ1 => (b = true → ΨT true ρ1) ∧ (b = false → AT K u ρ1 ΨT)) : AT K (tOr t u) ρ ΨT := fun B σ G H m Q q =>
  h B σ G H m _ fun b ρ1 G1 H1 m1 s1 t1 h1 => by
    cases b
    · rw [if_neg (by decide)]; exact h1.2 rfl B σ G1 H1 m1 Q fun d ρ' G' H' m' s t p => q d ρ' G' H' m' (s1.trans s) (t1.trans t) p
    · rw [if_pos rfl]; exact q true ρ1 G1 H1 m1 s1 t1 (h1.1 rfl)
theorem at_not {t : TT} (h : AT K t ρ fun b ρ1 => ΨT (!b) ρ1) : AT K (tNot t) ρ ΨT := fun B σ G H m Q q =>
  h B σ G H m _ fun b ρ1 G1 H1 m1 s1 t1 h1 => q (!b) ρ1 G1 H1 m1 s1 t1 h1
theorem ae_andV {ta tb : TE} (h : AE K ta ρ fun d ρ1 => ∃ b, d = .bl b ∧ (b = true → AE K tb ρ1 Ψ) ∧ (b = false → Ψ (.bl false) ρ1)) : AE K (tAndV ta tb) ρ Ψ := fun B σ G H m Q q =>
  h B σ G H m _ fun v d ρ1 G1 H1 m1 s1 t1 r1 ⟨b, e, h1, h2⟩ => by
    subst e
    refine ⟨b, r1, ?_⟩
    cases b
    · rw [if_neg (by decide)]; exact q _ (.bl false) ρ1 G1 H1 m1 s1 t1 rfl (h2 rfl)
    · rw [if_pos rfl]; exact h1 rfl B σ G1 H1 m1 Q fun v d ρ' G' H' m' s t r p => q v d ρ' G' H' m' (s1.trans s) (t1.trans t) r p
theorem ae_orV {ta tb : TE} (h : AE K ta ρ fun d ρ1 => ∃ b, d = .bl b ∧ (b = true → Ψ (.bl true) ρ1) ∧ (b = false → AE K tb ρ1 Ψ)) : AE K (tOrV ta tb) ρ Ψ := fun B σ G H m Q q =>
  h B σ G H m _ fun v d ρ1 G1 H1 m1 s1 t1 r1 ⟨b, e, h1, h2⟩ => by
    subst e
    refine ⟨b, r1, ?_⟩
    cases b
    · rw [if_neg (by decide)]; exact h2 rfl B σ G1 H1 m1 Q fun v d ρ' G' H' m' s t r p => q v d ρ' G' H' m' (s1.trans s) (t1.trans t) r p
    · rw [if_pos rfl]; exact q _ (.bl true) ρ1 G1 H1 m1 s1 t1 rfl (h1 rfl)
theorem ae_notV {ta : TE} (h : AE K ta ρ fun d ρ1 => ∃ b, d = .bl b ∧ Ψ (.bl (!b)) ρ1) : AE K (tNotV ta) ρ Ψ := fun B σ G H m Q q =>
  h B σ G H m _ fun v d ρ1 G1 H1 m1 s1 t1 r1 ⟨b, e, h1⟩ => by
    subst e
    exact ⟨b, r1, q _ (.bl (!b)) ρ1 G1 H1 m1 s1 t1 rfl h1⟩
/-! statements -/
theorem as_seq {t u : TS} (h : AS K t ρ (fun ρ1 => AS K u ρ1 N R) R) : AS K (tSeq t u) ρ N R := fun B σ G H m D qn qr =>
  h B σ G H m { D with nx := u D } (fun σ1 ρ1 G1 H1 m1 s1 t1 h1 => h1 B σ1 G1 H1 m1 D (fun σ' ρ' G' H' m' s t p => qn σ' ρ' G' H' m' (s1.trans s) (t1.trans t) p) fun v d σ' ρ' G' H' m' s t r p => qr v d σ' ρ' G' H' m' (s1.trans s) (t1.trans t) r p) qr
theorem as_next (h : N ρ) : AS K tNext ρ N R := fun B σ G H m D qn qr => qn σ ρ G H m (Same.refl _) Tr.refl h
theorem as_ret {te : TE} (h : AE K te ρ R) : AS K (tRet te) ρ N R := fun B σ G H m D qn qr => h B σ G H m _ fun v d ρ1 G1 H1 m1 s1 t1 r1 h1 => qr v d σ ρ1 G1 H1 m1 s1 t1 r1 h1
theorem as_if {c : TT} {t u : TS} (h : AT K c ρ fun b ρ1 => (b = true → AS K t ρ1 N R) ∧ (b = false → AS K u ρ1 N R)) : AS K (tIfS c t u) ρ N R := fun B σ G H m D qn qr =>
  h B σ G H m _ fun b ρ1 G1 H1 m1 s1 t1 h1 => by
    cases b
    · rw [if_neg (by decide)]
      exact h1.2 rfl B σ G1 H1 m1 D (fun σ' ρ' G' H' m' s t p => qn σ' ρ' G' H' m' (s1.trans s) (t1.trans t) p) fun v d σ' ρ' G' H' m' s t r p => qr v d σ' ρ' G' H' m' (s1.trans s) (t1.trans t) r p
    · rw [if_pos rfl]
      exact h1.1 rfl B σ G1 H1 m1 D (fun σ' ρ' G' H' m' s t p => qn σ' ρ' G' H' m' (s1.trans s) (t1.trans t) p) fun v d σ' ρ' G' H' m' s t r p => qr v d σ' ρ' G' H' m' (s1.trans s) (t1.trans t) r p
theorem as_set {te : TE} {i : Nat} (h : AE K te ρ fun d ρ1 => N (ρ1.set i (.da d))) : AS K (tAsg te (gName i)) ρ N R := fun B σ G H m D qn qr =>
  h B σ G H m _ fun v d ρ1 G1 H1 m1 s1 t1 r1 h1 => qn _ _ G1 H1 (m1.set i r1) s1 t1 h1
theorem as_par {ta : TA} {i j : Nat} (h : AA K ta ρ fun ds ρ1 => ∃ d e, ds = [d, e] ∧ N ((ρ1.set i (.da d)).set j (.da e))) : AS K (tPar i j ta) ρ N R := fun B σ G H m D qn qr =>
  h B σ G H m _ fun vs ds ρ1 G1 H1 m1 s1 t1 r1 ⟨d, e, z, h1⟩ => by
    subst z
    obtain ⟨x, y, rfl, r2, r3⟩ := r1.two
    exact ⟨x, y, rfl, qn _ _ G1 H1 ((m1.set i r2).set j r3) s1 t1 h1⟩
/-- targets -/
def AG (K : PySem.W.Frag) (g : TG) (d : Dt) (ρ : List En) (N : List En → Prop) : Prop := ∀ B σ G H, Mt K B ρ σ G H → ∀ v, RD K G d v → ∀ Q : L2.St → Hp → Prop, (∀ σ' ρ' G' H', Mt K B ρ' σ' G' H' → Same G G' → Tr B H H' → N ρ' → Q σ' H') → g v σ H Q
def AGs (K : PySem.W.Frag) (g : TGs) (ds : List Dt) (ρ : List En) (N : List En → Prop) : Prop := ∀ B σ G H, Mt K B ρ σ G H → ∀ vs, RDs K G ds vs → ∀ Q : L2.St → Hp → Prop, (∀ σ' ρ' G' H', Mt K B ρ' σ' G' H' → Same G G' → Tr B H H' → N ρ' → Q σ' H') → g vs σ H Q
theorem ag_name {i : Nat} {d : Dt} (h : N (ρ.set i (.da d))) : AG K (gName i) d ρ N := fun B σ G H m v r Q q => q _ _ G H (m.set i r) (Same.refl _) Tr.refl h
theorem ags_nil (h : N ρ) : AGs K gNil [] ρ N := fun B σ G H m vs r Q q => ⟨r, q σ ρ G H m (Same.refl _) Tr.refl h⟩
theorem ags_cons {t : TG} {u : TGs} {d : Dt} {ds : List Dt} (h : AG K t d ρ fun ρ1 => AGs K u ds ρ1 N) : AGs K (gCons t u) (d :: ds) ρ N := fun B σ G H m vs r Q q => by
  obtain ⟨x, xs, rfl, r1, r2⟩ := r
  exact ⟨x, xs, rfl, h B σ G H m x r1 _ fun σ1 ρ1 G1 H1 m1 s1 t1 h1 => h1 B σ1 G1 H1 m1 xs (r2.same s1) Q fun σ' ρ' G' H' m' s t p => q σ' ρ' G' H' m' (s1.trans s) (t1.trans t) p⟩
theorem ag_tup {t : TGs} {n : Nat} {ds : List Dt} (hn : ds.length = n) (h : AGs K t ds ρ N) : AG K (gTup K n t) (.tup ds) ρ N := fun B σ G H m v r Q q => by
  obtain ⟨a, xs, rfl, r1, r2⟩ := r
  exact ⟨a, xs, rfl, same_sqT m.sub r1, by rw [r2.length]; exact hn, h B σ G H m xs r2 Q q⟩
theorem as_asg {te : TE} {g : TG} (h : AE K te ρ fun d ρ1 => AG K g d ρ1 N) : AS K (tAsg te g) ρ N R := fun B σ G H m D qn qr =>
  h B σ G H m _ fun v d ρ1 G1 H1 m1 s1 t1 r1 h1 => h1 B σ G1 H1 m1 v r1 _ fun σ' ρ' G' H' m' s t p => qn σ' ρ' G' H' m' (s1.trans s) (t1.trans t) p
/-! own lists -/
theorem Mt.setOwn {B : Addr → Prop} {σ : L2.St} {G H : Hp} (m : Mt K B ρ σ G H) (i : Nat) {p : Addr} {xs : List V} {l : List Dt} (n : H p = none) (r : RDs K G l xs) : Mt K B (ρ.set i (.own l)) (σ.set i (some (.ref p))) G (upd H p (.lst xs)) where
  sub := m.sub.trans (same_up n)
  pro := fun a b => ⟨(m.pro a b).1, ne_none (same_up n) (m.pro a b).2⟩
  len := by rw [List.length_set, List.length_set]; exact m.len
  da := fun j e h => by
    rcases get_set h with ⟨rfl, z, lt⟩ | ⟨ne, z⟩
    · cases z
    · rw [set_off ne]; exact m.da j e z
  own := fun j k h => by
    rcases get_set h with ⟨rfl, z, lt⟩ | ⟨ne, z⟩
    · cases z
      exact ⟨p, xs, set_at (by rw [m.len]; exact lt), upd_same, r, m.sub.free n, fun b => (m.pro p b).2 n⟩
    · rw [set_off ne]
      obtain ⟨q, ys, z1, z2, z3, z4, z5⟩ := m.own j k z
      exact ⟨q, ys, z1, same_up n _ _ z2, z3, z4, z5⟩
  bx := fun j b f h => by
    rcases get_set h with ⟨rfl, z, lt⟩ | ⟨ne, z⟩
    · cases z
    · rw [set_off ne]
      obtain ⟨y, c, z1, z2, z3⟩ := m.bx j b f z
      exact ⟨y, c, z1, z2.same (same_up n), z3⟩
  dis := fun j k e e' a h1 h2 o1 o2 ne s1 s2 => by
    have there : ∀ (j : Nat) (e : En), ρ[j]? = some e → e.isOwn → σ[j]? = some (some (V.ref a)) → H a ≠ none := fun j e h o s => by
      cases e with
      | no => exact o.elim
      | da d => exact o.elim
      | own l => obtain ⟨q, ys, z1, z2, _⟩ := m.own j l h; rw [z1] at s; cases s; exact some_ne z2
      | bx b f => obtain ⟨y, c, z1, z2, _⟩ := m.bx j b f h; rw [z1] at s; cases s; exact z2.ne
    rcases get_set h1 with ⟨rfl, z, lt⟩ | ⟨n1, z1⟩
    · rcases get_set h2 with ⟨w, z', lt'⟩ | ⟨n2, z2⟩
      · exact ne w
      · rw [set_at (by rw [m.len]; exact lt)] at s1
        cases s1
        rw [set_off n2] at s2
        exact there k e' z2 o2 s2 n
    · rcases get_set h2 with ⟨rfl, z, lt⟩ | ⟨n2, z2⟩
      · rw [set_at (by rw [m.len]; exact lt)] at s2
        cases s2
        rw [set_off n1] at s1
        exact there j e z1 o1 s1 n
      · rw [set_off n1] at s1; rw [set_off n2] at s2; exact m.dis j k e e' a z1 z2 o1 o2 ne s1 s2
/-- xs = [e, ..], a list that will grow -/
theorem as_own {ta : TA} {i : Nat} (h : AA K ta ρ fun ds ρ1 => ds.length ≤ sizeLine ∧ N (ρ1.set i (.own ds))) : AS K (tAsg (tLst ta) (gName i)) ρ N R := fun B σ G H m D qn qr =>
  h B σ G H m _ fun vs ds ρ1 G1 H1 m1 s1 t1 r1 h1 => ⟨by rw [r1.length]; exact h1.1, fun p hp => qn _ _ G1 _ (m1.setOwn i hp r1) s1 (t1.trans (Tr.same (same_up hp))) h1.2⟩
/-- an own list's content changes -/
theorem Mt.chOwn {B : Addr → Prop} {σ : L2.St} {G H : Hp} (m : Mt K B ρ σ G H) {i : Nat} {p : Addr} {xs : List V} {l l' : List Dt} (e : ρ[i]? = some (.own l)) (s : σ[i]? = some (some (.ref p))) (r : RDs K G l' xs) : Mt K B (ρ.set i (.own l')) σ G (upd H p (.lst xs)) := by
  obtain ⟨q, ys, h1, h2, h3, h4, h5⟩ := m.own i l e
  rw [h1] at s
  cases s
  have keep : ∀ {a : Addr} {o : HO}, a ≠ p → H a = some o → (upd H p (.lst xs)) a = some o := fun n z => by rw [upd_ne n]; exact z
  refine ⟨?_, ?_, ?_, ?_, ?_, ?_, ?_⟩
  · intro a o z
    exact keep (fun w => by rw [w, h4] at z; cases z) (m.sub _ _ z)
  · exact fun a b => ⟨(m.pro a b).1, by rw [upd_ne (fun w => h5 (by rw [← w]; exact b))]; exact (m.pro a b).2⟩
  · rw [List.length_set]; exact m.len
  · intro j d h
    rcases get_set h with ⟨rfl, z, lt⟩ | ⟨ne, z⟩
    · cases z
    · exact m.da j d z
  · intro j k h
    rcases get_set h with ⟨rfl, z, lt⟩ | ⟨ne, z⟩
    · cases z; exact ⟨p, xs, h1, upd_same, r, h4, h5⟩
    · obtain ⟨q', zs, z1, z2, z3⟩ := m.own j k z
      exact ⟨q', zs, z1, keep (fun w => m.dis i j _ _ p e z trivial trivial ne h1 (by rw [← w]; exact z1)) z2, z3⟩
  · intro j b f h
    rcases get_set h with ⟨rfl, z, lt⟩ | ⟨ne, z⟩
    · cases z
    · obtain ⟨y, c, z1, ⟨x, z2, z2'⟩, z3⟩ := m.bx j b f z
      exact ⟨y, c, z1, ⟨x, keep (fun w => m.dis i j _ _ p e z trivial trivial ne h1 (by rw [← w]; exact z1)) z2, z2'⟩, z3⟩
  · intro j k e1 e2 a g1 g2 o1 o2 ne s1 s2
    rcases get_set g1 with ⟨rfl, z, lt⟩ | ⟨n1, z1⟩
    · rcases get_set g2 with ⟨w, z', lt'⟩ | ⟨n2, z2⟩
      · exact ne w
      · exact m.dis i k _ e2 a e z2 trivial o2 ne s1 s2
    · rcases get_set g2 with ⟨rfl, z, lt⟩ | ⟨n2, z2⟩
      · exact m.dis j i e1 _ a z1 e o1 trivial ne s1 s2
      · exact m.dis j k e1 e2 a z1 z2 o1 o2 ne s1 s2
/-- xs.append(e) -/
theorem as_append {te : TE} {i : Nat} (h : AE K te ρ fun d ρ1 => ∃ l, ρ1[i]? = some (.own l) ∧ l.length < sizeLine ∧ N (ρ1.set i (.own (l ++ [d])))) (o : ∃ l, ρ[i]? = some (.own l)) : AS K (tDrop (tBM K "list" rAppend (tVar i) (tCons te tNil))) ρ N R := fun B σ G H m D qn qr => by
  obtain ⟨l0, e0⟩ := o
  obtain ⟨p0, xs0, a1, a2, _⟩ := m.own i l0 e0
  refine ⟨_, a1, .inl ⟨rfl, _, SqL.of a2⟩, ?_⟩
  refine h B σ G H m _ fun v d ρ1 G1 H1 m1 s1 t1 r1 ⟨l, e, hl, n⟩ => ?_
  obtain ⟨p, xs, b1, b2, b3, b4, b5⟩ := m1.own i l e
  rw [a1] at b1
  cases b1
  refine ⟨p0, xs, v, rfl, rfl, b2, by rw [b3.length]; exact hl, ?_⟩
  exact qn _ _ G1 _ (m1.chOwn e a1 (b3.snoc r1)) s1 (t1.trans fun a o b z => by rw [upd_ne (fun w => b5 (by rw [← w]; exact b))]; exact z) n
/-- from here on the list is data -/
theorem ae_frz {te : TE} {i : Nat} {l : List Dt} (e : ρ[i]? = some (.own l)) (h : AE K te (ρ.set i (.da (.lst l))) Ψ) : AE K te ρ Ψ := fun B σ G H m Q q => by
  obtain ⟨G1, m1, s1⟩ := m.frz e
  exact h B σ G1 H m1 Q fun v d ρ' G' H' m' s t r p => q v d ρ' G' H' m' (s1.trans s) t r p
theorem as_frz {ts : TS} {i : Nat} {l : List Dt} (e : ρ[i]? = some (.own l)) (h : AS K ts (ρ.set i (.da (.lst l))) N R) : AS K ts ρ N R := fun B σ G H m D qn qr => by
  obtain ⟨G1, m1, s1⟩ := m.frz e
  exact h B σ G1 H m1 D (fun σ' ρ' G' H' m' s t p => qn σ' ρ' G' H' m' (s1.trans s) t p) fun v d σ' ρ' G' H' m' s t r p => qr v d σ' ρ' G' H' m' (s1.trans s) t r p
end
end Sh
set_option Elab.async false
set_option linter.all false
set_option maxRecDepth 100000
set_option maxHeartbeats 4000000
namespace Sh
open PySem PySem.Spec PyProof.Rows L2
section
variable {K : PySem.W.Frag} {ρ : List En} {Ψ : Dt → List En → Prop} {ΨT : Bool → List En → Prop} {ΨA : List Dt → List En → Prop} {N : List En → Prop} {R : Dt → List En → Prop} {Φ : Dt → Prop}
/-! ### operators -/
theorem ar_I0i {g : Int → Int → Int} {i j : Int} (h : Φ (.int (g i j))) : AR K (rI0 fun i j => .int (g i j)) (.int i) (.int j) Φ := fun G H s x y r1 r2 Q q =>
  ⟨i, j, r1, r2, q _ (.int (g i j)) G H (Nw.refl s) rfl h⟩
theorem ar_I0b {g : Int → Int → Bool} {i j : Int} (h : Φ (.bl (g i j))) : AR K (rI0 fun i j => .bl (g i j)) (.int i) (.int j) Φ := fun G H s x y r1 r2 Q q =>
  ⟨i, j, r1, r2, q _ (.bl (g i j)) G H (Nw.refl s) rfl h⟩
theorem ar_Ii {C : Int → Int → Prop} {g : Int → Int → Int} {i j : Int} (c : C i j) (h : Φ (.int (g i j))) : AR K (rI C fun i j => .int (g i j)) (.int i) (.int j) Φ := fun G H s x y r1 r2 Q q =>
  ⟨i, j, r1, r2, c, q _ (.int (g i j)) G H (Nw.refl s) rfl h⟩
theorem au_Ui {g : Int → Int} {i : Int} (h : Φ (.int (g i))) : AU K (rU fun i => .int (g i)) (.int i) Φ := fun G H s x r1 Q q => ⟨i, r1, q _ (.int (g i)) G H (Nw.refl s) rfl h⟩
def Dt.isNon : Dt → Bool
  | .non => true
  | _ => false
theorem RD.isNon {G : Hp} : ∀ {d : Dt} {x : V}, RD K G d x → decide (x = V.non) = d.isNon
  | .non, _, r => by rw [show _ = V.non from r]; rfl
  | .bl _, _, r => by rw [show _ = V.bl _ from r]; rfl
  | .int _, _, r => by rw [show _ = V.int _ from r]; rfl
  | .str _, _, r => by rw [show _ = V.str _ from r]; rfl
  | .ty _, _, r => by rw [show _ = V.ty _ from r]; rfl
  | .tup _, _, ⟨a, _, e, _⟩ => by rw [e]; rfl
  | .lst _, _, ⟨a, _, e, _⟩ => by rw [e]; rfl
theorem ar_isN {d : Dt} (h : Φ (.bl d.isNon)) : AR K (fun x y H Q => y = .non ∧ Q (.bl (decide (x = .non))) H) d .non Φ := fun G H s x y r1 r2 Q q =>
  ⟨r2, q _ (.bl d.isNon) G H (Nw.refl s) (by rw [r1.isNon]; rfl) h⟩
theorem ar_notN {d : Dt} (h : Φ (.bl (!d.isNon))) : AR K (fun x y H Q => y = .non ∧ Q (.bl (!decide (x = .non))) H) d .non Φ := fun G H s x y r1 r2 Q q =>
  ⟨r2, q _ (.bl (!d.isNon)) G H (Nw.refl s) (by rw [r1.isNon]; rfl) h⟩
/-- flat data as a value -/
def Dt.v? : Dt → Option V
  | .non => some .non
  | .bl b => some (.bl b)
  | .int i => some (.int i)
  | .str s => some (.str s)
  | _ => none
theorem RD.v {G : Hp} : ∀ {d : Dt} {x y : V}, d.v? = some y → RD K G d x → x = y
  | .non, _, _, e, r => by cases e; exact r
  | .bl _, _, _, e, r => by cases e; exact r
  | .int _, _, _, e, r => by cases e; exact r
  | .str _, _, _, e, r => by cases e; exact r
theorem ar_eq {d e : Dt} {x y : V} (h1 : d.v? = some x) (h2 : e.v? = some y) (hs : scal x y = true) (h : Φ (.bl (decide (x = y)))) : AR K rEq d e Φ := fun G H s x' y' r1 r2 Q q => by
  cases RD.v h1 r1; cases RD.v h2 r2
  exact ⟨hs, q _ (.bl (decide (x = y))) G H (Nw.refl s) rfl h⟩
theorem ar_ne {d e : Dt} {x y : V} (h1 : d.v? = some x) (h2 : e.v? = some y) (hs : scal x y = true) (h : Φ (.bl (!decide (x = y)))) : AR K rNe d e Φ := fun G H s x' y' r1 r2 Q q => by
  cases RD.v h1 r1; cases RD.v h2 r2
  exact ⟨hs, q _ (.bl (!decide (x = y))) G H (Nw.refl s) rfl h⟩
def vs? : List Dt → Option (List V)
  | [] => some []
  | d :: l => match d.v?, vs? l with
    | some x, some xs => some (x :: xs)
    | _, _ => none
theorem RDs.v {G : Hp} : ∀ {l : List Dt} {xs ys : List V}, vs? l = some ys → RDs K G l xs → xs = ys
  | [], _, _, e, r => by cases e; exact r
  | d :: l, _, ys, e, ⟨x, r, e1, h1, h2⟩ => by
    unfold vs? at e
    cases q1 : d.v? with
    | none => rw [q1] at e; cases e
    | some z =>
      cases q2 : vs? l with
      | none => rw [q1, q2] at e; cases e
      | some zs => rw [q1, q2] at e; cases e; rw [e1, RD.v q1 h1, RDs.v q2 h2]
theorem ar_inL {neg : Bool} {d : Dt} {l : List Dt} {x : V} {xs : List V} (h1 : d.v? = some x) (h2 : vs? l = some xs) (f1 : flatV x = true) (f2 : xs.all flatV = true) (h : Φ (.bl (if neg then !inV x xs else inV x xs))) : AR K (rIn K neg) d (.lst l) Φ := fun G H s x' y' r1 ⟨a, ys, e, q1, q2⟩ Q q => by
  cases RD.v h1 r1; cases RDs.v h2 q2
  exact ⟨a, xs, e, .inl (SqL.of (s _ _ q1)), f1, f2, q _ (.bl (if neg then !inV x xs else inV x xs)) G H (Nw.refl s) rfl h⟩
/-! places -/
theorem atI_get {l : List Dt} {xs : List V} {G : Hp} {i : Int} {d : Dt} (r : RDs K G l xs) (e : atI l i = some d) : ∃ x, atI xs i = some x ∧ RD K G d x := by
  unfold atI at e ⊢
  rw [r.length]
  cases q : ixN l.length i with
  | none => rw [q] at e; cases e
  | some j =>
    rw [q] at e
    obtain ⟨x, h1, h2⟩ := r.get (i := j) e
    exact ⟨x, h1, h2⟩
theorem ar_ixT {l : List Dt} {i : Int} {d : Dt} (e : atI l i = some d) (h : Φ d) : AR K (rIxT K) (.tup l) (.int i) Φ := fun G H s x y ⟨a, xs, e1, q1, q2⟩ r2 Q q => by
  obtain ⟨z, h1, h2⟩ := atI_get q2 e
  exact ⟨a, xs, i, z, e1, r2, same_sqT s q1, h1, q _ d G H (Nw.refl s) h2 h⟩
theorem ar_ixL {l : List Dt} {i : Int} {d : Dt} (e : atI l i = some d) (h : Φ d) : AR K (rIxL K) (.lst l) (.int i) Φ := fun G H s x y ⟨a, xs, e1, q1, q2⟩ r2 Q q => by
  obtain ⟨z, h1, h2⟩ := atI_get q2 e
  exact ⟨a, xs, i, z, e1, r2, SqL.of (s _ _ q1), h1, q _ d G H (Nw.refl s) h2 h⟩
def sq (k : Bool) (l : List Dt) : Dt := if k then .tup l else .lst l
theorem ar_ix {k : Bool} {l : List Dt} {i : Int} {d : Dt} (e : atI l i = some d) (h : Φ d) : AR K (rIx K) (sq k l) (.int i) Φ := fun G H s x y r1 r2 Q q => by
  cases k
  · exact .inl (ar_ixL e h G H s x y r1 r2 Q q)
  · exact .inr (.inl (ar_ixT e h G H s x y r1 r2 Q q))
theorem ar_ixTs {l : List Dt} {i : Int} {d : Dt} (e : atI l i = some d) (h : Φ d) : AR K (rIx K) (.tup l) (.int i) Φ := ar_ix (k := true) e h
/-! ### built-ins -/
theorem ac_max2 {i j : Int} (h : Φ (.int (if j > i then j else i))) : AC K (fun xs H Q => ∃ i j, xs = [.int i, .int j] ∧ Q (.int (if j > i then j else i)) H) [.int i, .int j] Φ := fun G H s vs r Q q => by
  obtain ⟨x, y, rfl, h1, h2⟩ := r.two
  exact ⟨i, j, by rw [show x = V.int i from h1, show y = V.int j from h2], q _ (.int (if j > i then j else i)) G H (Nw.refl s) rfl h⟩
theorem ac_min2 {i j : Int} (h : Φ (.int (if j < i then j else i))) : AC K (fun xs H Q => ∃ i j, xs = [.int i, .int j] ∧ Q (.int (if j < i then j else i)) H) [.int i, .int j] Φ := fun G H s vs r Q q => by
  obtain ⟨x, y, rfl, h1, h2⟩ := r.two
  exact ⟨i, j, by rw [show x = V.int i from h1, show y = V.int j from h2], q _ (.int (if j < i then j else i)) G H (Nw.refl s) rfl h⟩
theorem ac_lenT {l : List Dt} (h : Φ (.int (l.length : Nat))) : AC K (fun xs H Q => ∃ p ys, xs = [.ref p] ∧ (SqL K H p ys ∨ SqT K H p ys) ∧ Q (.int ys.length) H) [.tup l] Φ := fun G H s vs r Q q => by
  obtain ⟨x, rfl, a, xs, rfl, h1, h2⟩ := r.one
  exact ⟨a, xs, rfl, .inr (same_sqT s h1), q _ (.int (l.length : Nat)) G H (Nw.refl s) (by rw [h2.length]; rfl) h⟩
theorem ac_lenL {l : List Dt} (h : Φ (.int (l.length : Nat))) : AC K (fun xs H Q => ∃ p ys, xs = [.ref p] ∧ (SqL K H p ys ∨ SqT K H p ys) ∧ Q (.int ys.length) H) [.lst l] Φ := fun G H s vs r Q q => by
  obtain ⟨x, rfl, a, xs, rfl, h1, h2⟩ := r.one
  exact ⟨a, xs, rfl, .inl (SqL.of (s _ _ h1)), q _ (.int (l.length : Nat)) G H (Nw.refl s) (by rw [h2.length]; rfl) h⟩
theorem ac_listT {l : List Dt} (h : Φ (.lst l)) : AC K (fun xs H Q => ∃ p ys, xs = [.ref p] ∧ (SqL K H p ys ∨ SqT K H p ys) ∧ ∀ l, H l = none → Q (.ref l) (upd H l (.lst ys))) [.tup l] Φ := fun G H s vs r Q q => by
  obtain ⟨x, rfl, a, xs, rfl, h1, h2⟩ := r.one
  refine ⟨a, xs, rfl, .inr (same_sqT s h1), fun p hp => ?_⟩
  have n := Nw.new (o := .lst xs) s hp
  exact q _ (.lst l) _ _ n ⟨p, xs, rfl, upd_same, h2.same n.g⟩ h
theorem ac_tupL {l : List Dt} (h : Φ (.tup l)) : AC K (fun xs H Q => ∃ p ys, xs = [.ref p] ∧ ((SqL K H p ys ∧ ∀ l, H l = none → Q (.ref l) (upd H l (.tup ys))) ∨ (SqT K H p ys ∧ Q (.ref p) H))) [.lst l] Φ := fun G H s vs r Q q => by
  obtain ⟨x, rfl, a, xs, rfl, h1, h2⟩ := r.one
  refine ⟨a, xs, rfl, .inl ⟨SqL.of (s _ _ h1), fun p hp => ?_⟩⟩
  have n := Nw.new (o := .tup xs) s hp
  exact q _ (.tup l) _ _ n ⟨p, xs, rfl, SqT.of upd_same, h2.same n.g⟩ h
theorem ac_all {bs : List Bool} (h : Φ (.bl (bs.all id))) : AC K (rAll K) [.lst (bs.map Dt.bl)] Φ := fun G H s vs r Q q => by
  obtain ⟨x, rfl, a, xs, rfl, h1, h2⟩ := r.one
  cases h2.bls
  exact ⟨a, bs, rfl, SqL.of (s _ _ h1), q _ (.bl (bs.all id)) G H (Nw.refl s) rfl h⟩
theorem ac_any {bs : List Bool} (h : Φ (.bl (bs.any id))) : AC K (rAny K) [.lst (bs.map Dt.bl)] Φ := fun G H s vs r Q q => by
  obtain ⟨x, rfl, a, xs, rfl, h1, h2⟩ := r.one
  cases h2.bls
  exact ⟨a, bs, rfl, SqL.of (s _ _ h1), q _ (.bl (bs.any id)) G H (Nw.refl s) rfl h⟩
/-! kinds -/
def Dt.kind : Dt → String
  | .non => "NoneType" | .bl _ => "bool" | .int _ => "int" | .str _ => "str" | .ty _ => "type" | .tup _ => "tuple" | .lst _ => "list"
def Dt.noTy : Dt → Bool
  | .ty _ => false
  | _ => true
theorem RD.kind {G H : Hp} (s : Same G H) : ∀ {d : Dt} {x : V}, d.noTy = true → RD K G d x → TyX K H x (.type d.kind)
  | .non, _, _, r => by cases (show _ = V.non from r); exact .base .non
  | .bl _, _, _, r => by cases (show _ = V.bl _ from r); exact .base (.bl _)
  | .int _, _, _, r => by cases (show _ = V.int _ from r); exact .base (.int _)
  | .str _, _, _, r => by cases (show _ = V.str _ from r); exact .base (.str _)
  | .tup _, _, _, ⟨a, xs, e, q, _⟩ => by
    subst e
    rcases q with (q | ⟨o, q⟩) | ⟨o, its, n, q1, q2, _⟩
    · exact .base (.tup (s _ _ q))
    · exact .fTuple (s _ _ q)
    · exact .kTuple q1 q2
  | .lst _, _, _, ⟨a, xs, e, q, _⟩ => by subst e; exact .base (.lst (s _ _ q))
theorem ac_isi {d : Dt} {T : String} {b : Bool} (n : d.noTy = true) (hb : kitB d.kind T = some b) (h : Φ (.bl b)) : AC K (rIsi K) [d, .ty T] Φ := fun G H s vs r Q q => by
  obtain ⟨x, y, rfl, h1, h2⟩ := r.two
  cases (show y = V.ty T from h2)
  exact ⟨x, .ty T, _, _, b, rfl, .ty T, h1.kind s n, kit_ty hb, q _ (.bl b) G H (Nw.refl s) rfl h⟩
theorem kit_2 {a S T : String} {r : Bool} (h1 : kitB a S = some false) (h2 : kitB a T = some r) : PySem.W.kitAny K (.type a) [.type S, .type T] = some r :=
  kitAny_cons (kit_ty h1) (fun _ => kitAny_cons (kit_ty h2) (fun e => by rw [e]; exact kitAny_nil) (fun e => e)) (fun e => nomatch e)
theorem kit_1 {a S T : String} (h1 : kitB a S = some true) : PySem.W.kitAny K (.type a) [.type S, .type T] = some true :=
  kitAny_cons (kit_ty h1) (fun e => nomatch e) (fun _ => rfl)
/-- isinstance(e, (S, T)) -/
theorem ae_isi2 {te : TE} {S T : String} (h : AE K te ρ fun d ρ1 => d.noTy = true ∧ ∃ b, ((kitB d.kind S = some true ∧ b = true) ∨ (kitB d.kind S = some false ∧ kitB d.kind T = some b)) ∧ Ψ (.bl b) ρ1) :
    AE K (tCB (rIsiT K) (tCons te (tCons (tTup (tCons (tC (.ty S)) (tCons (tC (.ty T)) tNil))) tNil))) ρ Ψ := fun B σ G H m Q q =>
  h B σ G H m _ fun v d ρ1 G1 H1 m1 s1 t1 r1 ⟨n, b, hb, p⟩ => by
    refine ⟨by show 2 ≤ sizeLine; decide, fun a ha => ?_⟩
    have k : PySem.W.kitAny K (.type d.kind) [.type S, .type T] = some b := by
      rcases hb with ⟨h1, rfl⟩ | ⟨h1, h2⟩
      · exact kit_1 h1
      · exact kit_2 h1 h2
    have nw := Nw.new (o := .tup [V.ty S, V.ty T]) m1.sub ha
    exact ⟨v, a, _, _, _, b, rfl, upd_same, .cons (.ty _) (.cons (.ty _) .nil), (r1.same nw.g).kind nw.s n, k, q _ (.bl b) ρ1 _ _ (m1.nw nw) (s1.trans nw.g) (t1.trans (Tr.same nw.h)) rfl p⟩
theorem ae_ty {T : String} (h : Ψ (.ty T) ρ) : AE K (tC (.ty T)) ρ Ψ := ae_c (.ty T) (fun _ => rfl) h
/-! ### deep equality -/
mutual
def Dt.pd : Dt → PyData
  | .non => .none | .bl b => .bool b | .int i => .int i | .str s => .str s | .ty _ => .none
  | .tup l => .tuple (pds l)
  | .lst l => .list (pds l)
def pds : List Dt → List PyData
  | [] => []
  | d :: l => d.pd :: pds l
def Dt.pl : Dt → Bool
  | .ty _ => false
  | .tup l => pls l
  | .lst l => pls l
  | _ => true
def pls : List Dt → Bool
  | [] => true
  | d :: l => d.pl && pls l
end
mutual
theorem RD.dp {G H : Hp} (s : Same G H) : ∀ {d : Dt} {v : V}, d.pl = true → RD K G d v → Dp K H v d.pd
  | .non, v, _, h => by cases (show v = .non from h); exact .non
  | .bl b, v, _, h => by cases (show v = .bl b from h); exact .bl b
  | .int i, v, _, h => by cases (show v = .int i from h); exact .int i
  | .str z, v, _, h => by cases (show v = .str z from h); exact .str z
  | .tup l, _, p, ⟨a, xs, e, ha, r⟩ => by subst e; exact .tup (same_sqT s ha) (RDs.dp s p r)
  | .lst l, _, p, ⟨a, xs, e, ha, r⟩ => by subst e; exact .lst (SqL.of (s _ _ ha)) (RDs.dp s p r)
theorem RDs.dp {G H : Hp} (s : Same G H) : ∀ {l : List Dt} {xs : List V}, pls l = true → RDs K G l xs → DpAll K H xs (pds l)
  | [], xs, _, h => by cases (show xs = [] from h); exact .nil
  | d :: l, _, p, ⟨x, r, e, h1, h2⟩ => by
    subst e
    have p' : (d.pl && pls l) = true := p
    rw [Bool.and_eq_true] at p'
    exact .cons (RD.dp s p'.1 h1) (RDs.dp s p'.2 h2)
end
theorem ar_eqD {d e : Dt} (p1 : d.pl = true) (p2 : e.pl = true) (s1 : SeqAt.shaped d.pd = true) (s2 : SeqAt.shaped e.pd = true) (h : Φ (.bl (PyData.eqv d.pd e.pd))) : AR K (rEqD K) d e Φ := fun G H s x y r1 r2 Q q =>
  ⟨d.pd, e.pd, r1.dp s p1, r2.dp s p2, s1, s2, q _ (.bl (PyData.eqv d.pd e.pd)) G H (Nw.refl s) rfl h⟩
theorem ar_neD {d e : Dt} (p1 : d.pl = true) (p2 : e.pl = true) (s1 : SeqAt.shaped d.pd = true) (s2 : SeqAt.shaped e.pd = true) (h : Φ (.bl (!PyData.eqv d.pd e.pd))) : AR K (rNeD K) d e Φ := fun G H s x y r1 r2 Q q =>
  ⟨d.pd, e.pd, r1.dp s p1, r2.dp s p2, s1, s2, q _ (.bl (!PyData.eqv d.pd e.pd)) G H (Nw.refl s) rfl h⟩
end
end Sh
set_option Elab.async false
set_option linter.all false
set_option maxRecDepth 100000
set_option maxHeartbeats 4000000
namespace Sh
open PySem PySem.Spec PyProof.Rows L2
section
variable {K : PySem.W.Frag} {ρ : List En} {Ψ : Dt → List En → Prop} {ΨT : Bool → List En → Prop} {ΨA : List Dt → List En → Prop} {N : List En → Prop} {R : Dt → List En → Prop} {Φ : Dt → Prop}
/-! ### walks -/
def Wj (K : PySem.W.Frag) (J : It) (l : List Dt) (G0 : Hp) : Prop :=
  (∀ i H, i < l.length → Same G0 H → J.go i H) ∧ (∀ H, Same G0 H → J.stop l.length H) ∧ ∀ i G H x H', i < l.length → Same G0 G → Same G H → J.yld i H x H' → ∃ G' d, Nw G H G' H' ∧ l[i]? = some d ∧ RD K G' d x
theorem Wj.walk {J : It} {l : List Dt} {G0 : Hp} (w : Wj K J l G0) : Walk J l.length (fun H => Same G0 H) fun i H x H' => ∀ G, Same G0 G → Same G H → ∃ G' d, Nw G H G' H' ∧ l[i]? = some d ∧ RD K G' d x :=
  ⟨fun i H hi s => w.1 i H hi s, fun H s => w.2.1 H s, fun i H x H' hi s y G s1 s2 => w.2.2 i G H x H' hi s1 s2 y⟩
def AI (K : PySem.W.Frag) (wi : TI) (ρ : List En) (Θ : List Dt → List En → Prop) : Prop := ∀ B σ G H, Mt K B ρ σ G H → ∀ R : It → Hp → Prop, (∀ J l ρ' G' H', Mt K B ρ' σ G' H' → Same G G' → Tr B H H' → Wj K J l G' → Θ l ρ' → R J H') → wi σ H R
theorem wj_list {a : Addr} {xs : List V} {l : List Dt} {G : Hp} (h : G a = some (.lst xs)) (r : RDs K G l xs) : Wj K (Itl K a) l G := by
  have e := r.length
  refine ⟨fun i H hi s => ⟨xs, xs[i]'(by omega), SqL.of (s _ _ h), by simp [show i < xs.length by omega]⟩, fun H s => ⟨xs, SqL.of (s _ _ h), by omega⟩, fun i G1 H x H' hi s1 s2 y => ?_⟩
  obtain ⟨d, h1, h2⟩ := r.back (i := i) (y.2 xs (SqL.of (s2 _ _ (s1 _ _ h))))
  refine ⟨G1, d, ?_, h1, h2.same s1⟩
  rw [y.1]; exact Nw.refl s2
theorem wj_tup {a : Addr} {xs : List V} {l : List Dt} {G : Hp} (h : SqT K G a xs) (r : RDs K G l xs) : Wj K (Itt K a) l G := by
  have e := r.length
  refine ⟨fun i H hi s => ⟨xs, xs[i]'(by omega), same_sqT s h, by simp [show i < xs.length by omega]⟩, fun H s => ⟨xs, same_sqT s h, by omega⟩, fun i G1 H x H' hi s1 s2 y => ?_⟩
  obtain ⟨d, h1, h2⟩ := r.back (i := i) (y.2 xs (same_sqT s2 (same_sqT s1 h)))
  refine ⟨G1, d, ?_, h1, h2.same s1⟩
  rw [y.1]; exact Nw.refl s2
def rgD (lo : Int) (n : Nat) : List Dt := (List.range n).map fun i => .int (lo + (i : Nat))
theorem wj_range {lo : Int} {n : Nat} {G : Hp} : Wj K (Itr lo n) (rgD lo n) G := by
  have e : (rgD lo n).length = n := by unfold rgD; rw [List.length_map, List.length_range]
  refine ⟨fun i H hi s => by rw [e] at hi; exact hi, fun H s => by rw [e]; exact Nat.le_refl _, fun i G1 H x H' hi s1 s2 y => ⟨G1, .int (lo + (i : Nat)), ?_, ?_, y.2⟩⟩
  · rw [y.1]; exact Nw.refl s2
  · rw [e] at hi; unfold rgD; rw [List.getElem?_map, List.getElem?_range hi]; rfl
theorem ai_list {te : TE} {Θ : List Dt → List En → Prop} (h : AE K te ρ fun d ρ1 => ∃ l, d = .lst l ∧ Θ l ρ1) : AI K (iList K te) ρ Θ := fun B σ G H m Rr q =>
  h B σ G H m _ fun v d ρ1 G1 H1 m1 s1 t1 r1 ⟨l, e, p⟩ => by
    subst e
    obtain ⟨a, xs, e, h1, h2⟩ := r1
    exact ⟨a, e, ⟨xs, SqL.of (m1.sub _ _ h1)⟩, q _ l ρ1 G1 H1 m1 s1 t1 (wj_list h1 h2) p⟩
theorem ai_tup {te : TE} {Θ : List Dt → List En → Prop} (h : AE K te ρ fun d ρ1 => ∃ l, d = .tup l ∧ Θ l ρ1) : AI K (iTup K te) ρ Θ := fun B σ G H m Rr q =>
  h B σ G H m _ fun v d ρ1 G1 H1 m1 s1 t1 r1 ⟨l, e, p⟩ => by
    subst e
    obtain ⟨a, xs, e, h1, h2⟩ := r1
    exact ⟨a, e, ⟨xs, same_sqT m1.sub h1⟩, q _ l ρ1 G1 H1 m1 s1 t1 (wj_tup h1 h2) p⟩
theorem ai_rng1 {ta : TA} {Θ : List Dt → List En → Prop} (h : AA K ta ρ fun ds ρ1 => ∃ j : Int, ds = [.int j] ∧ -(2 ^ 62) ≤ j ∧ j < 2 ^ 62 ∧ Θ (rgD 0 j.toNat) ρ1) : AI K (iRng1 ta) ρ Θ := fun B σ G H m Rr q =>
  h B σ G H m _ fun vs ds ρ1 G1 H1 m1 s1 t1 r1 ⟨j, e, p1, p2, p⟩ => by
    subst e
    obtain ⟨x, rfl, h1⟩ := r1.one
    cases (show x = .int j from h1)
    exact ⟨j, rfl, p1, p2, q _ _ ρ1 G1 H1 m1 s1 t1 wj_range p⟩
/-! new pairs -/
theorem nw_pair {G H : Hp} {T : Addr} {x y : V} {d e : Dt} (s : Same G H) (n : H T = none) (r1 : RD K G d x) (r2 : RD K G e y) : ∃ G', Nw G H G' (upd H T (.tup [x, y])) ∧ RD K G' (.tup [d, e]) (.ref T) := by
  have nw := Nw.new (o := .tup [x, y]) s n
  exact ⟨_, nw, T, _, rfl, SqT.of upd_same, x, [y], rfl, r1.same nw.g, y, [], rfl, r2.same nw.g, rfl⟩
theorem zip_get {α β : Type} : ∀ {xs : List α} {ys : List β} {i : Nat} {x : α} {y : β}, xs[i]? = some x → ys[i]? = some y → (xs.zip ys)[i]? = some (x, y)
  | a :: xs, b :: ys, 0, _, _, h1, h2 => by cases h1; cases h2; rfl
  | a :: xs, b :: ys, i + 1, x, y, h1, h2 => by
    have := zip_get (i := i) (by simpa using h1) (by simpa using h2)
    simpa using this
  | [], _, _, _, _, h1, _ => by simp at h1
  | _ :: _, [], _, _, _, _, h2 => by simp at h2
def zpD (l m : List Dt) : List Dt := (l.zip m).map fun p => .tup [p.1, p.2]
theorem zpD_len {l m : List Dt} : (zpD l m).length = min l.length m.length := by unfold zpD; rw [List.length_map, List.length_zip]
theorem zpD_get {l m : List Dt} {i : Nat} {d e : Dt} (h1 : l[i]? = some d) (h2 : m[i]? = some e) : (zpD l m)[i]? = some (.tup [d, e]) := by
  unfold zpD; rw [List.getElem?_map, zip_get h1 h2]; rfl
theorem wj_zipL {a b : Addr} {xs ys : List V} {l m : List Dt} {G : Hp} (h : G a = some (.lst xs)) (h' : G b = some (.lst ys)) (r : RDs K G l xs) (r' : RDs K G m ys) : Wj K (Itz K a b) (zpD l m) G := by
  have e := r.length
  have e' := r'.length
  have w := walk_zip (K := K) (a := a) (b := b) (xs := xs) (ys := ys) rfl
  have el : (zpD l m).length = min xs.length ys.length := by rw [zpD_len, e, e']
  refine ⟨fun i H hi s => w.goes i H (by rw [el] at hi; exact hi) ⟨SqL.of (s _ _ h), SqL.of (s _ _ h')⟩, fun H s => by rw [el]; exact w.stops H ⟨SqL.of (s _ _ h), SqL.of (s _ _ h')⟩, fun i G1 H x H' hi s1 s2 y => ?_⟩
  obtain ⟨T, u, v, rfl, nT, rfl, f1, f2⟩ := w.yields i H x H' (by rw [el] at hi; exact hi) ⟨SqL.of (s2 _ _ (s1 _ _ h)), SqL.of (s2 _ _ (s1 _ _ h'))⟩ y
  obtain ⟨d1, g1, q1⟩ := r.back f1
  obtain ⟨d2, g2, q2⟩ := r'.back f2
  obtain ⟨G', n, rd⟩ := nw_pair s2 nT (q1.same s1) (q2.same s1)
  exact ⟨G', _, n, zpD_get g1 g2, rd⟩
theorem walk_zipT {a b : Addr} {xs ys : List V} : Walk (RZ.ItzT K a b) (min xs.length ys.length) (fun H => SqT K H a xs ∧ SqT K H b ys) (YPair (fun i => xs[i]?) (fun i => ys[i]?)) := by
  refine ⟨fun i H hi q => ?_, fun _ q => ⟨xs, ys, q.1, q.2, by omega⟩, fun _ _ _ _ _ q ⟨T, x, y, e1, e2, e3, f, g⟩ => ⟨T, x, y, e1, e2, e3, f xs q.1, g ys q.2⟩⟩
  have h1 : i < xs.length := by omega
  have h2 : i < ys.length := by omega
  exact ⟨xs, ys, xs[i], ys[i], q.1, q.2, List.getElem?_eq_getElem h1, List.getElem?_eq_getElem h2⟩
theorem wj_zipT {a b : Addr} {xs ys : List V} {l m : List Dt} {G : Hp} (h : SqT K G a xs) (h' : SqT K G b ys) (r : RDs K G l xs) (r' : RDs K G m ys) : Wj K (RZ.ItzT K a b) (zpD l m) G := by
  have e := r.length
  have e' := r'.length
  have w := walk_zipT (K := K) (a := a) (b := b) (xs := xs) (ys := ys)
  have el : (zpD l m).length = min xs.length ys.length := by rw [zpD_len, e, e']
  refine ⟨fun i H hi s => w.goes i H (by rw [el] at hi; exact hi) ⟨same_sqT s h, same_sqT s h'⟩, fun H s => by rw [el]; exact w.stops H ⟨same_sqT s h, same_sqT s h'⟩, fun i G1 H x H' hi s1 s2 y => ?_⟩
  obtain ⟨T, u, v, rfl, nT, rfl, f1, f2⟩ := w.yields i H x H' (by rw [el] at hi; exact hi) ⟨same_sqT s2 (same_sqT s1 h), same_sqT s2 (same_sqT s1 h')⟩ y
  obtain ⟨d1, g1, q1⟩ := r.back f1
  obtain ⟨d2, g2, q2⟩ := r'.back f2
  obtain ⟨G', n, rd⟩ := nw_pair s2 nT (q1.same s1) (q2.same s1)
  exact ⟨G', _, n, zpD_get g1 g2, rd⟩
theorem ai_zipL {ta : TA} {Θ : List Dt → List En → Prop} (h : AA K ta ρ fun ds ρ1 => ∃ l m, ds = [.lst l, .lst m] ∧ Θ (zpD l m) ρ1) : AI K (RZ.iZipA K ta) ρ Θ := fun B σ G H mm Rr q =>
  h B σ G H mm _ fun vs ds ρ1 G1 H1 m1 s1 t1 r1 ⟨l, m, e, p⟩ => by
    subst e
    obtain ⟨x, y, rfl, ⟨a, xs, rfl, h1, h2⟩, ⟨b, ys, rfl, h3, h4⟩⟩ := r1.two
    exact ⟨a, b, xs, ys, rfl, .inl ⟨SqL.of (m1.sub _ _ h1), SqL.of (m1.sub _ _ h3), q _ _ ρ1 G1 H1 m1 s1 t1 (wj_zipL h1 h3 h2 h4) p⟩⟩
theorem ai_zipT {ta : TA} {Θ : List Dt → List En → Prop} (h : AA K ta ρ fun ds ρ1 => ∃ l m, ds = [.tup l, .tup m] ∧ Θ (zpD l m) ρ1) : AI K (RZ.iZipA K ta) ρ Θ := fun B σ G H mm Rr q =>
  h B σ G H mm _ fun vs ds ρ1 G1 H1 m1 s1 t1 r1 ⟨l, m, e, p⟩ => by
    subst e
    obtain ⟨x, y, rfl, ⟨a, xs, rfl, h1, h2⟩, ⟨b, ys, rfl, h3, h4⟩⟩ := r1.two
    exact ⟨a, b, xs, ys, rfl, .inr ⟨same_sqT m1.sub h1, same_sqT m1.sub h3, q _ _ ρ1 G1 H1 m1 s1 t1 (wj_zipT h1 h3 h2 h4) p⟩⟩
def enD (l : List Dt) : List Dt := (List.range l.length).zipWith (fun (i : Nat) d => .tup [.int ((i : Nat) : Int), d]) l
theorem enD_len {l : List Dt} : (enD l).length = l.length := by unfold enD; simp
theorem enD_get {l : List Dt} {i : Nat} {d : Dt} (h : l[i]? = some d) : (enD l)[i]? = some (.tup [.int ((i : Nat) : Int), d]) := by
  have hi := (List.getElem?_eq_some_iff.mp h).1
  unfold enD
  rw [List.getElem?_zipWith, List.getElem?_range hi, h]
theorem wj_enum {a : Addr} {xs : List V} {l : List Dt} {G : Hp} (h : G a = some (.lst xs)) (r : RDs K G l xs) : Wj K (Ite K a) (enD l) G := by
  have e := r.length
  have w := walk_enum (K := K) (a := a) (xs := xs)
  have el : (enD l).length = xs.length := by rw [enD_len, e]
  refine ⟨fun i H hi s => w.goes i H (by rw [el] at hi; exact hi) (SqL.of (s _ _ h)), fun H s => by rw [el]; exact w.stops H (SqL.of (s _ _ h)), fun i G1 H x H' hi s1 s2 y => ?_⟩
  obtain ⟨T, u, v, rfl, nT, rfl, f1, f2⟩ := w.yields i H x H' (by rw [el] at hi; exact hi) (SqL.of (s2 _ _ (s1 _ _ h))) y
  cases f1
  obtain ⟨d2, g2, q2⟩ := r.back f2
  obtain ⟨G', n, rd⟩ := nw_pair (K := K) (d := .int ((i : Nat) : Int)) s2 nT rfl (q2.same s1)
  exact ⟨G', _, n, enD_get g2, rd⟩
theorem ai_enum {ta : TA} {Θ : List Dt → List En → Prop} (h : AA K ta ρ fun ds ρ1 => ∃ l, ds = [.lst l] ∧ Θ (enD l) ρ1) : AI K (iEnum K ta) ρ Θ := fun B σ G H mm Rr q =>
  h B σ G H mm _ fun vs ds ρ1 G1 H1 m1 s1 t1 r1 ⟨l, e, p⟩ => by
    subst e
    obtain ⟨x, rfl, ⟨a, xs, rfl, h1, h2⟩⟩ := r1.one
    exact ⟨a, xs, rfl, SqL.of (m1.sub _ _ h1), q _ _ ρ1 G1 H1 m1 s1 t1 (wj_enum h1 h2) p⟩
/-! ### for -/
theorem as_for {wi : TI} {g : TG} {tb : TS} (h : AI K wi ρ fun l ρ1 => ∃ I : Nat → List En → Prop, I 0 ρ1 ∧ (∀ i d ρ2, l[i]? = some d → I i ρ2 → AG K g d ρ2 fun ρ3 => AS K tb ρ3 (I (i + 1)) R) ∧ ∀ ρ2, I l.length ρ2 → N ρ2) : AS K (tFor wi g tb) ρ N R := fun B σ G H m D qn qr =>
  h B σ G H m _ fun J l ρ1 G1 H1 m1 s1 t1 w ⟨I, i0, is, ie⟩ => by
    refine for_it w.walk (fun i σ2 H2 => ∃ ρ2 G2, Mt K B ρ2 σ2 G2 H2 ∧ Same G1 G2 ∧ Tr B H1 H2 ∧ I i ρ2) ⟨ρ1, G1, m1, Same.refl _, Tr.refl, i0⟩ (fun i σ2 H2 _ ⟨ρ2, G2, m2, s2, t2, p⟩ => s2.trans m2.sub) ?_ ?_
    · rintro i x σ2 H2 H3 hi ⟨ρ2, G2, m2, s2, t2, p⟩ y
      obtain ⟨G3, d, n3, hd, rd⟩ := y G2 s2 m2.sub
      refine is i d ρ2 hd p B σ2 G3 H3 (m2.nw n3) x rd _ fun σ4 ρ4 G4 H4 m4 s4 t4 h4 => ?_
      refine h4 B σ4 G4 H4 m4 _ (fun σ5 ρ5 G5 H5 m5 s5 t5 p5 => ⟨ρ5, G5, m5, (((s2.trans n3.g).trans s4).trans s5), (((t2.trans (Tr.same n3.h)).trans t4).trans t5), p5⟩) ?_
      exact fun v d σ5 ρ5 G5 H5 m5 s5 t5 r5 p5 => qr v d σ5 ρ5 G5 H5 m5 ((((s1.trans s2).trans n3.g).trans s4).trans s5) ((((t1.trans t2).trans (Tr.same n3.h)).trans t4).trans t5) r5 p5
    · rintro σ2 H2 ⟨ρ2, G2, m2, s2, t2, p⟩
      exact qn σ2 ρ2 G2 H2 m2 (s1.trans s2) (t1.trans t2) (ie ρ2 p)
/-! ### comprehensions -/
def wipeE (ρ : List En) : List Nat → List En
  | [] => ρ
  | v :: vs => (wipeE ρ vs).set v .no
theorem Mt.wipe {B : Addr → Prop} {σ : L2.St} {G H : Hp} (m : Mt K B ρ σ G H) : ∀ vs : List Nat, Mt K B (wipeE ρ vs) (L2.wipe σ vs) G H
  | [] => m
  | v :: vs => (Mt.wipe m vs).drop v none
/-- the slots may be others where nothing is known -/
theorem Mt.other {B : Addr → Prop} {σ σ' : L2.St} {G H : Hp} (m : Mt K B ρ σ G H) (hl : σ'.length = σ.length) (h : ∀ i : Nat, ρ[i]? = some En.no ∨ σ'[i]? = σ[i]?) : Mt K B ρ σ' G H where
  sub := m.sub
  pro := m.pro
  len := hl.trans m.len
  da := fun i d e => by
    rcases h i with z | z
    · rw [z] at e; cases e
    · rw [z]; exact m.da i d e
  own := fun i d e => by
    rcases h i with z | z
    · rw [z] at e; cases e
    · rw [z]; exact m.own i d e
  bx := fun i b f e => by
    rcases h i with z | z
    · rw [z] at e; cases e
    · rw [z]; exact m.bx i b f e
  dis := fun i j e e' a h1 h2 o1 o2 ne s1 s2 => by
    rcases h i with z | z
    · rw [z] at h1; cases h1; exact o1
    · rcases h j with z' | z'
      · rw [z'] at h2; cases h2; exact o2
      · rw [z] at s1; rw [z'] at s2; exact m.dis i j e e' a h1 h2 o1 o2 ne s1 s2
/-- off vs the slots are the same -/
def Off (vs : List Nat) (σ σ' : L2.St) : Prop := σ'.length = σ.length ∧ ∀ i, i ∉ vs → σ'[i]? = σ[i]?
theorem wipe_in {σ : L2.St} {i : Nat} : ∀ {vs : List Nat}, i ∈ vs → i < σ.length → (L2.wipe σ vs)[i]? = some none
  | v :: vs, h, lt => by
    unfold L2.wipe
    by_cases e : v = i
    · subst e; exact set_at (by rw [wipe_length]; exact lt)
    · rw [set_off e]
      exact wipe_in (by rcases List.mem_cons.mp h with z | z; exact absurd z.symm e; exact z) lt
theorem Off.wipe {vs : List Nat} {σ σ' : L2.St} (o : Off vs σ σ') : L2.wipe σ' vs = L2.wipe σ vs := by
  apply List.ext_getElem?
  intro i
  by_cases h : i ∈ vs
  · by_cases lt : i < σ.length
    · rw [wipe_in h lt, wipe_in h (by rw [o.1]; exact lt)]
    · rw [List.getElem?_eq_none (by rw [wipe_length, o.1]; omega), List.getElem?_eq_none (by rw [wipe_length]; omega)]
  · rw [wipe_out h, wipe_out h, o.2 i h]
theorem wipe_off (vs : List Nat) (σ : L2.St) : Off vs (L2.wipe σ vs) σ := ⟨(wipe_length σ vs).symm, fun i h => (wipe_out h).symm⟩
def AGv (K : PySem.W.Frag) (vs : List Nat) (g : TG) (d : Dt) (ρ : List En) (N : List En → Prop) : Prop := ∀ B σ G H, Mt K B ρ σ G H → ∀ v, RD K G d v → ∀ Q : L2.St → Hp → Prop, (∀ σ' ρ' G' H', Mt K B ρ' σ' G' H' → Same G G' → Tr B H H' → Off vs σ σ' → N ρ' → Q σ' H') → g v σ H Q
def AGvs (K : PySem.W.Frag) (vs : List Nat) (g : TGs) (ds : List Dt) (ρ : List En) (N : List En → Prop) : Prop := ∀ B σ G H, Mt K B ρ σ G H → ∀ xs, RDs K G ds xs → ∀ Q : L2.St → Hp → Prop, (∀ σ' ρ' G' H', Mt K B ρ' σ' G' H' → Same G G' → Tr B H H' → Off vs σ σ' → N ρ' → Q σ' H') → g xs σ H Q
theorem agv_name {vs : List Nat} {i : Nat} {d : Dt} (hi : i ∈ vs) (h : N (ρ.set i (.da d))) : AGv K vs (gName i) d ρ N := fun B σ G H m v r Q q => q _ _ G H (m.set i r) (Same.refl _) Tr.refl ⟨List.length_set, fun j hj => set_off (fun z => hj (by rw [← z]; exact hi))⟩ h
theorem agvs_nil {vs : List Nat} (h : N ρ) : AGvs K vs gNil [] ρ N := fun B σ G H m xs r Q q => ⟨r, q σ ρ G H m (Same.refl _) Tr.refl ⟨rfl, fun _ _ => rfl⟩ h⟩
theorem agvs_cons {vs : List Nat} {t : TG} {u : TGs} {d : Dt} {ds : List Dt} (h : AGv K vs t d ρ fun ρ1 => AGvs K vs u ds ρ1 N) : AGvs K vs (gCons t u) (d :: ds) ρ N := fun B σ G H m xs r Q q => by
  obtain ⟨x, ys, rfl, r1, r2⟩ := r
  exact ⟨x, ys, rfl, h B σ G H m x r1 _ fun σ1 ρ1 G1 H1 m1 s1 t1 o1 h1 => h1 B σ1 G1 H1 m1 ys (r2.same s1) Q fun σ' ρ' G' H' m' s t o p => q σ' ρ' G' H' m' (s1.trans s) (t1.trans t) ⟨o.1.trans o1.1, fun i hi => (o.2 i hi).trans (o1.2 i hi)⟩ p⟩
theorem agv_tup {vs : List Nat} {t : TGs} {n : Nat} {ds : List Dt} (hn : ds.length = n) (h : AGvs K vs t ds ρ N) : AGv K vs (gTup K n t) (.tup ds) ρ N := fun B σ G H m v r Q q => by
  obtain ⟨a, xs, rfl, r1, r2⟩ := r
  exact ⟨a, xs, rfl, same_sqT m.sub r1, by rw [r2.length]; exact hn, h B σ G H m xs r2 Q q⟩
theorem at_yes (h : ΨT true ρ) : AT K tYes ρ ΨT := fun B σ G H m Q q => q true ρ G H m (Same.refl _) Tr.refl h
/-- [e for .. in ..]: ρ is silent about the slots of the targets -/
theorem ae_lc {wi : TI} {g : TG} {tt : TT} {te : TE} {vs : List Nat}
    (h : AI K wi ρ fun l ρ1 => ∃ I : Nat → List Dt → List En → Prop, I 0 [] (wipeE ρ1 vs) ∧
      (∀ i d acc ρ2, l[i]? = some d → I i acc ρ2 → AGv K vs g d ρ2 fun ρ3 => AT K tt ρ3 fun b ρ4 => (b = true → AE K te ρ4 fun e ρ5 => acc.length < sizeLine ∧ I (i + 1) (acc ++ [e]) (wipeE ρ5 vs)) ∧ (b = false → I (i + 1) acc (wipeE ρ4 vs))) ∧
      ∀ acc ρ2, I l.length acc ρ2 → (∀ i ∈ vs, i < ρ2.length → ρ2[i]? = some En.no) ∧ Ψ (.lst acc) ρ2) : AE K (tLc wi g tt te vs) ρ Ψ := fun B σ G H m Q q =>
  h B σ G H m _ fun J l ρ1 G1 H1 m1 s1 t1 w ⟨I, i0, is, ie⟩ => fun D hD => by
    have back : ∀ {σ2 : L2.St} {ρ2 : List En} {B' : Addr → Prop} {G2 H2 : Hp}, L2.wipe σ2 vs = L2.wipe σ vs → Mt K B' ρ2 σ2 G2 H2 → Mt K B' (wipeE ρ2 vs) (L2.wipe σ vs) G2 H2 := fun e m2 => by
      rw [← e]; exact m2.wipe vs
    have mg := m1.guard (o := .lst []) hD
    refine lc_it w.walk (fun i H2 => ∃ (acc : List Dt) (xs : List V) (ρ2 : List En) (G2 : Hp), Mt K (fun a => B a ∨ a = D) ρ2 (L2.wipe σ vs) G2 H2 ∧ Same G1 G2 ∧ Tr B H1 H2 ∧ H2 D = some (.lst xs) ∧ RDs K G2 acc xs ∧ I i acc ρ2)
      ⟨[], [], wipeE ρ1 vs, G1, mg.wipe vs, Same.refl _, Tr.same (same_up hD), upd_same, rfl, i0⟩ (fun i H2 _ ⟨acc, xs, ρ2, G2, m2, s2, t2, e2, r2, p⟩ => s2.trans m2.sub) ?_ ?_
    · rintro i x H2 H3 hi ⟨acc, xs, ρ2, G2, m2, s2, t2, e2, r2, p⟩ y
      obtain ⟨G3, d, n3, hd, rd⟩ := y G2 s2 m2.sub
      have m3 := m2.nw n3
      refine is i d acc ρ2 hd p _ (L2.wipe σ vs) G3 H3 m3 x rd _ fun σ4 ρ4 G4 H4 m4 s4 t4 o4 h4 => ?_
      have ew : L2.wipe σ4 vs = L2.wipe σ vs := by
        rw [o4.wipe]
        exact (Off.wipe (wipe_off vs σ)).symm
      have e3 := n3.h _ _ e2
      have e4 := t4 _ _ (.inr rfl) e3
      have tB3 : Tr B H1 H4 := (t2.trans (Tr.same n3.h)).trans fun a o b e => t4 a o (.inl b) e
      refine ⟨ew, ?_⟩
      refine h4 _ σ4 G4 H4 m4 _ fun b ρ5 G5 H5 m5 s5 t5 h5 => ?_
      have e5 := t5 _ _ (.inr rfl) e4
      have tB5 : Tr B H1 H5 := tB3.trans fun a o b e => t5 a o (.inl b) e
      have s15 : Same G1 G5 := ((s2.trans n3.g).trans s4).trans s5
      cases b
      · rw [if_neg (by decide)]
        exact ⟨acc, xs, wipeE ρ5 vs, G5, back ew m5, s15, tB5, e5, ((r2.same n3.g).same s4).same s5, h5.2 rfl⟩
      · rw [if_pos rfl]
        refine h5.1 rfl _ σ4 G5 H5 m5 _ fun v e ρ6 G6 H6 m6 s6 t6 r6 h6 => ?_
        have e6 := t6 _ _ (.inr rfl) e5
        have rr : RDs K G6 acc xs := (((r2.same n3.g).same s4).same s5).same s6
        refine ⟨xs, e6, by rw [rr.length]; exact h6.1, acc ++ [e], xs ++ [v], wipeE ρ6 vs, G6, (back ew m6).turn (.inr rfl), s15.trans s6, ?_, upd_same, rr.snoc r6, h6.2⟩
        intro a o b z
        have z1 := t6 a o (.inl b) (tB5 a o b z)
        rw [upd_ne (fun z' => (m1.pro a b).2 (by rw [z']; exact hD))]; exact z1
    · rintro H2 ⟨acc, xs, ρ2, G2, m2, s2, t2, e2, r2, p⟩
      obtain ⟨hn, hp⟩ := ie acc ρ2 p
      have m3 : Mt K (fun a => B a ∨ a = D) ρ2 σ G2 H2 := m2.other (wipe_length σ vs).symm fun i => by
        by_cases hi : i ∈ vs
        · by_cases lt : i < ρ2.length
          · exact .inl (hn i hi lt)
          · exact .inr (by rw [List.getElem?_eq_none (by have := m2.len; rw [wipe_length] at this; omega), List.getElem?_eq_none (by have := m2.len; omega)])
        · exact .inr (wipe_out hi).symm
      have nD : G2 D = none := (m2.pro D (.inr rfl)).1
      have mB : Mt K B ρ2 σ G2 H2 := m3.less fun a b => .inl b
      -- the new list becomes data
      have sg : Same G2 (upd G2 D (.lst xs)) := same_up nD
      have mF : Mt K B ρ2 σ (upd G2 D (.lst xs)) H2 := ⟨fun a o z => by
          by_cases w : a = D
          · subst w; rw [upd_same] at z; cases z; exact e2
          · rw [upd_ne w] at z; exact m2.sub _ _ z,
        fun a b => ⟨by rw [upd_ne (fun w => (m1.pro a b).2 (by rw [w]; exact hD))]; exact (mB.pro a b).1, (mB.pro a b).2⟩, mB.len, fun i d e => by
          obtain ⟨v, z1, z2⟩ := mB.da i d e
          exact ⟨v, z1, z2.same sg⟩, fun i k e => by
          obtain ⟨q', ys, z1, z2, z3, z4, z5⟩ := m3.own i k e
          exact ⟨q', ys, z1, z2, z3.same sg, by rw [upd_ne (fun w => z5 (.inr w))]; exact z4, fun b => z5 (.inl b)⟩, fun i b f e => by
          obtain ⟨y, c, z1, z2, z3, z4, z5, z6⟩ := m3.bx i b f e
          exact ⟨y, c, z1, z2, z3, z4, by rw [upd_ne (fun w => z6 (.inr w))]; exact z5, fun b => z6 (.inl b)⟩, mB.dis⟩
      exact q _ (.lst acc) ρ2 _ H2 mF ((s1.trans s2).trans sg) (t1.trans t2) ⟨D, xs, rfl, upd_same, r2.same sg⟩ hp
end
end Sh
set_option Elab.async false
set_option linter.all false
set_option maxRecDepth 100000
set_option maxHeartbeats 4000000
namespace Sh
open PySem PySem.Spec PyProof.Rows L2
/-! ### promises over data -/
def spP (K : PySem.W.Frag) (S : List Dt → Dt → Prop) : Sp := fun vs H Q _ => ∃ G ds r, Same G H ∧ RDs K G ds vs ∧ S ds r ∧ ∀ v G' H', Nw G H G' H' → RD K G' r v → Q v H'
def But (b : Addr) (H H' : Hp) : Prop := ∀ a o, a ≠ b → H a = some o → H' a = some o
theorem but_upd {H : Hp} {b : Addr} {o : HO} : But b H (upd H b o) := fun a u n e => by rw [upd_ne n]; exact e
structure Nb (b : Addr) (G H G' H' : Hp) : Prop where
  g : Same G G'
  s : Same G' H'
  h : But b H H'
  f : ∀ a, G a = none → H a ≠ none → G' a = none
def spB (K : PySem.W.Frag) (n : Nat) (dom : List Dt → Prop) (post : List Dt → Dt → Prop) : Sp := fun vs H Q _ => ∃ G ds b us y c, ∃ F : Nat, vs = .ref b :: us ∧ Same G H ∧ Bx H b y c ∧ 0 ≤ c ∧ c + (F + n : Nat) ≤ BxM ∧ G b = none ∧ RDs K G ds us ∧ dom ds ∧
  ∀ v d G' H' y' c', Nb b G H G' H' → Bx H' b y' c' → 0 ≤ c' → c' + F ≤ BxM → RD K G' d v → post ds d → Q v H'
section
variable {K : PySem.W.Frag} {ρ : List En} {Ψ : Dt → List En → Prop} {ΨT : Bool → List En → Prop} {ΨA : List Dt → List En → Prop} {N : List En → Prop} {R : Dt → List En → Prop} {Φ : Dt → Prop}
theorem ae_call {S : List Dt → Dt → Prop} {E : XK} {ta : TA} (h : AA K ta ρ fun ds ρ1 => ∃ r, S ds r ∧ Ψ r ρ1) : AE K (tCall (spP K S) [] E ta) ρ Ψ := fun B σ G H m Q q =>
  h B σ G H m _ fun vs ds ρ1 G1 H1 m1 s1 t1 r1 ⟨r, hs, p⟩ => ⟨G1, ds, r, m1.sub, by rw [List.append_nil]; exact r1, hs, fun v G2 H2 n r2 => q v r ρ1 G2 H2 (m1.nw n) (s1.trans n.g) (t1.trans (Tr.same n.h)) r2 p⟩
/-- a box has been drawn from -/
theorem Mt.box {B : Addr → Prop} {σ : L2.St} {G H G' H' : Hp} (m : Mt K B ρ σ G H) {i f : Nat} {b : Addr} {y c : Int} (e : ρ[i]? = some (.bx b f)) (n : Nb b G H G' H') {F : Nat} (h : Bx H' b y c) (c0 : 0 ≤ c) (c1 : c + F ≤ BxM) : Mt K B (ρ.set i (.bx b F)) σ G' H' ∧ Tr B H H' := by
  obtain ⟨y0, k0, z1, z2, z3, z4, z5, z6⟩ := m.bx i b f e
  have tr : Tr B H H' := fun a o ba e => n.h a o (fun w => z6 (by rw [← w]; exact ba)) e
  refine ⟨⟨n.s, fun a ba => ⟨n.f a (m.pro a ba).1 (m.pro a ba).2, ?_⟩, by rw [List.length_set]; exact m.len, ?_, ?_, ?_, ?_⟩, tr⟩
  · intro z
    cases q : H a with
    | none => exact (m.pro a ba).2 q
    | some o => rw [tr a o ba q] at z; cases z
  · intro j d hj
    rcases get_set hj with ⟨rfl, w, lt⟩ | ⟨ne, w⟩
    · cases w
    · obtain ⟨v, w1, w2⟩ := m.da j d w
      exact ⟨v, w1, w2.same n.g⟩
  · intro j l hj
    rcases get_set hj with ⟨rfl, w, lt⟩ | ⟨ne, w⟩
    · cases w
    · obtain ⟨q, xs, w1, w2, w3, w4, w5⟩ := m.own j l w
      exact ⟨q, xs, w1, n.h _ _ (fun z => m.dis i j _ _ b e w trivial trivial ne z1 (by rw [← z]; exact w1)) w2, w3.same n.g, n.f q w4 (some_ne w2), w5⟩
  · intro j b' f' hj
    rcases get_set hj with ⟨rfl, w, lt⟩ | ⟨ne, w⟩
    · cases w
      exact ⟨y, c, z1, h, c0, c1, n.f b z5 z2.ne, z6⟩
    · obtain ⟨y', c', w1, ⟨x, w2, w2'⟩, w3, w4, w5, w6⟩ := m.bx j b' f' w
      exact ⟨y', c', w1, ⟨x, n.h _ _ (fun z => m.dis i j _ _ b e w trivial trivial ne z1 (by rw [← z]; exact w1)) w2, w2'⟩, w3, w4, n.f b' w5 (some_ne w2), w6⟩
  · intro j k e1 e2 a g1 g2 o1 o2 ne s1 s2
    rcases get_set g1 with ⟨rfl, z, lt⟩ | ⟨n1, z1'⟩
    · rcases get_set g2 with ⟨w, z', lt'⟩ | ⟨n2, z2'⟩
      · exact ne w
      · exact m.dis i k _ e2 a e z2' trivial o2 ne s1 s2
    · rcases get_set g2 with ⟨rfl, z, lt⟩ | ⟨n2, z2'⟩
      · exact m.dis j i e1 _ a z1' e o1 trivial ne s1 s2
      · exact m.dis j k e1 e2 a z1' z2' o1 o2 ne s1 s2
theorem ae_draw {n : Nat} {dom : List Dt → Prop} {post : List Dt → Dt → Prop} {E : XK} {ta : TA} {i : Nat} {b : Addr} {f0 : Nat} (e0 : ρ[i]? = some (.bx b f0))
    (h : AA K ta ρ fun ds ρ1 => dom ds ∧ ∃ F, ρ1[i]? = some (.bx b (F + n)) ∧ ∀ d, post ds d → Ψ d (ρ1.set i (.bx b F))) : AE K (tCall (spB K n dom post) [] E (tCons (tVar i) ta)) ρ Ψ := fun B σ G H m Q q => by
  obtain ⟨y0, k0, z1, _⟩ := m.bx i b f0 e0
  refine ⟨_, z1, h B σ G H m _ fun vs ds ρ1 G1 H1 m1 s1 t1 r1 ⟨hd, F, e, p⟩ => ?_⟩
  obtain ⟨y, c, w1, w2, w3, w4, w5, w6⟩ := m1.bx i b (F + n) e
  refine ⟨G1, ds, b, vs, y, c, F, by rw [List.append_nil], m1.sub, w2, w3, w4, w5, r1, hd, fun v d G2 H2 y' c' nb hb c0 c1 r2 hp => ?_⟩
  obtain ⟨m2, t2⟩ := m1.box e nb hb c0 c1
  exact q v d _ G2 H2 m2 (s1.trans nb.g) (t1.trans t2) r2 (p d hp)
/-! ### a def keeps such a promise -/
def env0 (N : List Str) (ds : List Dt) : List En := ds.map En.da ++ List.replicate (N.length - ds.length) .no
def envB (N : List Str) (b : Addr) (f : Nat) (ds : List Dt) : List En := .bx b f :: (ds.map En.da ++ List.replicate (N.length - (ds.length + 1)) .no)
theorem rep_get {n i : Nat} {e : En} (h : (List.replicate n En.no)[i]? = some e) : e = .no := by
  rw [List.getElem?_replicate] at h
  split at h
  · cases h; rfl
  · cases h
theorem da_get {ds : List Dt} {n i : Nat} {e : En} (h : (ds.map En.da ++ List.replicate n En.no)[i]? = some e) : e = .no ∨ ∃ d, ds[i]? = some d ∧ e = .da d := by
  by_cases lt : i < ds.length
  · rw [List.getElem?_append_left (by rw [List.length_map]; exact lt), List.getElem?_map] at h
    obtain ⟨d, h1, h2⟩ := Option.map_eq_some_iff.mp h
    exact .inr ⟨d, h1, h2.symm⟩
  · rw [List.getElem?_append_right (by rw [List.length_map]; omega)] at h
    exact .inl (rep_get h)
theorem start_get {N : List Str} {vs : List V} {i : Nat} {x : V} (h : vs[i]? = some x) : (L2.start N vs)[i]? = some (some x) := by
  have lt := (List.getElem?_eq_some_iff.mp h).1
  unfold L2.start
  rw [List.getElem?_append_left (by rw [List.length_map]; exact lt), List.getElem?_map, h]; rfl
theorem mt_start {N : List Str} {ds : List Dt} {vs : List V} {G H : Hp} (s : Same G H) (r : RDs K G ds vs) : Mt K (fun a => H a ≠ none ∧ G a = none) (env0 N ds) (L2.start N vs) G H where
  sub := s
  pro := fun a b => ⟨b.2, b.1⟩
  len := by unfold L2.start env0; simp [r.length]
  da := fun i d e => by
    rcases da_get e with z | ⟨d', z1, z2⟩
    · cases z
    · cases z2
      obtain ⟨x, h1, h2⟩ := r.get z1
      exact ⟨x, start_get h1, h2⟩
  own := fun i l e => by rcases da_get e with z | ⟨d', z1, z2⟩ <;> contradiction
  bx := fun i b f e => by rcases da_get e with z | ⟨d', z1, z2⟩ <;> contradiction
  dis := fun i j e e' a h1 h2 o1 o2 ne s1 s2 => by
    rcases da_get h1 with z | ⟨d', z1, z2⟩
    · subst z; exact o1
    · subst z2; exact o1
theorem mt_startB {N : List Str} {ds : List Dt} {vs : List V} {G H : Hp} {b : Addr} {y c : Int} {f : Nat} (s : Same G H) (r : RDs K G ds vs) (hb : Bx H b y c) (c0 : 0 ≤ c) (c1 : c + f ≤ BxM) (gb : G b = none) : Mt K (fun a => H a ≠ none ∧ G a = none ∧ a ≠ b) (envB N b f ds) (L2.start N (.ref b :: vs)) G H where
  sub := s
  pro := fun a b => ⟨b.2.1, b.1⟩
  len := by unfold L2.start envB; simp [r.length]
  da := fun i d e => by
    cases i with
    | zero => cases e
    | succ i =>
      rcases da_get (show _ = some _ from e) with z | ⟨d', z1, z2⟩
      · cases z
      · cases z2
        obtain ⟨x, h1, h2⟩ := r.get z1
        exact ⟨x, start_get (vs := .ref b :: vs) (i := i + 1) h1, h2⟩
  own := fun i l e => by
    cases i with
    | zero => cases e
    | succ i => rcases da_get (show _ = some _ from e) with z | ⟨d', z1, z2⟩ <;> contradiction
  bx := fun i b' f' e => by
    cases i with
    | zero => cases e; exact ⟨y, c, rfl, hb, c0, c1, gb, fun z => z.2.2 rfl⟩
    | succ i => rcases da_get (show _ = some _ from e) with z | ⟨d', z1, z2⟩ <;> contradiction
  dis := fun i j e e' a h1 h2 o1 o2 ne s1 s2 => by
    cases i with
    | zero =>
      cases j with
      | zero => exact ne rfl
      | succ j => rcases da_get (show _ = some _ from h2) with z | ⟨d', z1, z2⟩ <;> (subst_vars; exact o2)
    | succ i => rcases da_get (show _ = some _ from h1) with z | ⟨d', z1, z2⟩ <;> (subst_vars; exact o1)
end
section
variable {P : Program} {w : World} {K : PySem.W.Frag} {mg : Str → Option Value} {base : Heap}
theorem okP {x qual : Str} {st : Stmt} {f : Addr} {fd : FuncData} {N ps : List Str} {k : Nat} {S : List Dt → Dt → Prop} (F : Fun K x qual st f fd) (sc : FnScope N ps (defScope st)) (len : ∀ ds r, S ds r → ds.length = ps.length)
    (body : ∀ (cdv : Value) (A : Around) (outer : List Env) (s : Shared) (H : Hp) (E : XK), Room k (A.deeper (envOfC qual (defScope st) s.heap.objs.size f cdv)) → ∀ ds r, S ds r →
      ∃ t, PSs (cxOf CX0 P w K mg base N qual (defScope st) f cdv A outer s H E).nox (defBody st) t ∧ AS K t (env0 N ds) (fun _ => r = .non) (fun d _ => d = r)) : FnOk P w K mg base CX0 (k + 1) f fd ps (spP K S) := by
  refine F.ok sc (fun vs H Q E h => ?_) (fun cdv A outer s H vs Q E hr h => ?_)
  · obtain ⟨G, ds, r, s, rd, hs, _⟩ := h
    rw [rd.length]; exact len ds r hs
  · obtain ⟨G, ds, r, sm, rd, hs, q⟩ := h
    obtain ⟨t, ht, ha⟩ := body cdv A outer s H E hr ds r hs
    refine ⟨t, ht, ha _ _ G H (mt_start sm rd) _ (fun σ' ρ' G' H' m' s' t' e => ?_) (fun v d σ' ρ' G' H' m' s' t' rv e => ?_)⟩
    all_goals
      have nw : Nw G H G' H' := ⟨s', m'.sub, fun a o e => by
          cases z : G a with
          | none => exact t' a o ⟨some_ne e, z⟩ e
          | some o' => rw [sm _ _ z] at e; cases e; exact m'.sub _ _ (s' _ _ z), fun a h1 h2 => (m'.pro a ⟨h2, h1⟩).1⟩
    · exact q .non G' H' nw (by rw [e]; rfl)
    · exact q v G' H' nw (by rw [← e]; exact rv)
theorem okB {x qual : Str} {st : Stmt} {f : Addr} {fd : FuncData} {N ps : List Str} {k n : Nat} {dom : List Dt → Prop} {post : List Dt → Dt → Prop} (F : Fun K x qual st f fd) (sc : FnScope N ps (defScope st)) (len : ∀ ds, dom ds → ds.length + 1 = ps.length)
    (body : ∀ (cdv : Value) (A : Around) (outer : List Env) (s : Shared) (H : Hp) (E : XK), Room k (A.deeper (envOfC qual (defScope st) s.heap.objs.size f cdv)) → ∀ ds, dom ds →
      ∃ t, PSs (cxOf CX0 P w K mg base N qual (defScope st) f cdv A outer s H E).nox (defBody st) t ∧ ∀ (b : Addr) (F : Nat), AS K t (envB N b (F + n) ds) (fun ρ => post ds .non ∧ ∃ f, ρ[0]? = some (.bx b f) ∧ F ≤ f) (fun d ρ => post ds d ∧ ∃ f, ρ[0]? = some (.bx b f) ∧ F ≤ f)) : FnOk P w K mg base CX0 (k + 1) f fd ps (spB K n dom post) := by
  refine F.ok sc (fun vs H Q E h => ?_) (fun cdv A outer s H vs Q E hr h => ?_)
  · obtain ⟨G, ds, b, us, y, c, F', rfl, sm, hb, c0, c1, gb, rd, hd, _⟩ := h
    rw [List.length_cons, rd.length]; exact len ds hd
  · obtain ⟨G, ds, b, us, y, c, F', rfl, sm, hb, c0, c1, gb, rd, hd, q⟩ := h
    obtain ⟨t, ht, ha⟩ := body cdv A outer s H E hr ds hd
    refine ⟨t, ht, ha b F' _ _ G H (mt_startB sm rd hb c0 c1 gb) _ (fun σ' ρ' G' H' m' s' t' e => ?_) (fun v d σ' ρ' G' H' m' s' t' rv e => ?_)⟩
    all_goals
      obtain ⟨hp, f', he, hf⟩ := e
      have nb : Nb b G H G' H' := ⟨s', m'.sub, fun a o ne e => by
          cases z : G a with
          | none => exact t' a o ⟨some_ne e, z, ne⟩ e
          | some o' => rw [sm _ _ z] at e; cases e; exact m'.sub _ _ (s' _ _ z), fun a h1 h2 => by
          by_cases w : a = b
          · subst w
            obtain ⟨_, _, _, _, _, _, z, _⟩ := m'.bx 0 a f' he
            exact z
          · exact (m'.pro a ⟨h2, h1, w⟩).1⟩
      obtain ⟨y', c', w1, w2, w3, w4, w5, w6⟩ := m'.bx 0 b f' he
    · exact q .non .non G' H' y' c' nb w2 w3 (by omega) rfl hp
    · exact q v d G' H' y' c' nb w2 w3 (by omega) rv hp
end
/-! ### calls by keywords alone -/
def tCallK0 (m : Nat) (sp : Sp) (gV : List V → List V) (E : XK) (tk : TA) : TE := fun σ H Q => tk σ H fun zs H2 => zs.length = m ∧ sp (gV zs) H2 Q E
structure KB0 (K : PySem.W.Frag) (fd : FuncData) (ps ks : List Str) (g : List Value → List Value) (gV : List V → List V) : Prop where
  to : ∀ (s : Shared) (ws : List Value), ws.length = ks.length → BindsTo s fd ⟨[], ks.zip ws⟩ (ps.zip (g ws))
  rel : ∀ {zs : List V} {ws : List Value}, Vals zs ws → zs.length = ks.length → Vals (gV zs) (g ws)
section
variable {X : Cx} {CX : CXT} {k n : Nat} {f : Addr} {fd : FuncData} {ps ks : List Str} {sp : Sp} {E : XK} {x : Str} {p pos : Pos} {kws : List Keyword} {tk : TA} {g : List Value → List Value} {gV : List V → List V}
theorem run_fnK0 {pins : List (Addr × Obj)} {σ : L2.St} {H : Hp} {s : Shared} {Q : VK} {ws : List Value} {zs : List V} (F : FnOk X.prog X.w X.K X.mg X.base CX k f fd ps sp) (hr : Room k X.A) (hb : KB0 X.K fd ps ks g gV) (hx : Passes CX X E)
    (I : Inv X pins σ H s) (rz : Vals zs ws) (l2 : zs.length = ks.length) (h : sp (gV zs) H Q E) : wpAny (model X.prog X.w) X.A (call (.ref f) [] (ks.zip ws)) (EP X pins σ Q) X.xe s := by
  have r2 := hb.rel rz l2
  refine wpAny_call (codeAny_mono (F.run X.A X.stack s H ⟨[], ks.zip ws⟩ (g ws) (gV zs) Q E hr I.env0 (hb.to s ws (rz.length.symm.trans l2)) r2 h) fun r s' hq => ?_)
  cases r with
  | error e => exact hx pins σ H s e s' I hq
  | ok fl =>
    cases fl with
    | ret u => exact I.after hq
    | next => exact False.elim hq
    | brk => exact False.elim hq
    | cont => exact False.elim hq
theorem pe_callK0 (F : FnOk X.prog X.w X.K X.mg X.base CX k f fd ps sp) (hr : Room k X.A) (hg : Gl X x) (hm : X.mg x = some (.ref f)) (hk : PySem.W.keepIn X.K (.ref f) = true) (hb : KB0 X.K fd ps ks g gV) (hx : Passes CX X E)
    (hkw : PK X kws tk) (hall : (backToKw pos (keywordEach kws X.env)).all (·.1.isSome) = true := by rfl) (hks : (backToKw pos (keywordEach kws X.env)).filterMap (·.1) = ks := by rfl)
    (hdb : (x == ("__debug__" : Str)) = false := by decide) (hpl : ((backTo pos (starEach [] X.env)).any (·.1) || (backToKw pos (keywordEach kws X.env)).any (·.1.isNone)) = false := by rfl) :
    PE X (.Call (.Name x p) [] kws pos) (tCallK0 ks.length sp gV E tk) := by
  refine ⟨fun pins s σ H Q I h => ?_⟩
  refine wpAny_Call_Name_kw (ld_glob I hg hm ?_ hdb)
  refine PySem.W.callWith_KW0 (h₀ := X.base) I.ok.mod.kin hk hall ?_ hpl
  refine thn (hkw.run pos pins s σ H _ I h) fun ws s2 ⟨zs, H2, I2, rz, l2, q2⟩ => ⟨I2.kIn, ?_⟩
  rw [hks]
  exact run_fnK0 F hr hb hx I2 rz l2 q2
end
section
variable {K : PySem.W.Frag} {ρ : List En} {Ψ : Dt → List En → Prop} {E : XK} {tk : TA}
theorem ae_callK {m : Nat} {S : List Dt → Dt → Prop} {gV : List V → List V} (gD : List Dt → List Dt) (hg : ∀ {G : Hp} {ds : List Dt} {vs : List V}, RDs K G ds vs → ds.length = m → RDs K G (gD ds) (gV vs)) (h : AA K tk ρ fun ds ρ1 => ds.length = m ∧ ∃ r, S (gD ds) r ∧ Ψ r ρ1) : AE K (tCallK0 m (spP K S) gV E tk) ρ Ψ := fun B σ G H mm Q q =>
  h B σ G H mm _ fun vs ds ρ1 G1 H1 m1 s1 t1 r1 ⟨l, r, hs, p⟩ => ⟨by rw [r1.length]; exact l, G1, gD ds, r, m1.sub, hg r1 l, hs, fun v G2 H2 n r2 => q v r ρ1 G2 H2 (m1.nw n) (s1.trans n.g) (t1.trans (Tr.same n.h)) r2 p⟩
end
end Sh
set_option Elab.async false
set_option linter.all false
set_option maxRecDepth 100000
set_option maxHeartbeats 4000000
namespace Sh
open PySem PySem.Spec PyProof.Rows L2
/-- a def that may be called: its promise, how its arguments bind -/
structure Cal (P : Program) (w : World) (K : PySem.W.Frag) (mg : Str → Option Value) (base : Heap) (n : Nat) (x : Str) (ps : List Str) (sp : Sp) (g : Addr) (d : FuncData) : Prop where
  ok : FnOk P w K mg base CX0 n g d ps sp
  bi : Binds K d ps []
  kp : PySem.W.keepIn K (.ref g) = true
  mg : mg x = some (.ref g)
structure Blts (mg : Str → Option Value) : Prop where
  len : mg "len" = none
  abs : mg "abs" = none
  int : mg "int" = none
  list : mg "list" = none
  tuple : mg "tuple" = none
  bool : mg "bool" = none
  str : mg "str" = none
  enumerate : mg "enumerate" = none
  isinstance : mg "isinstance" = none
  all : mg "all" = none
  any : mg "any" = none
  zip : mg "zip" = none
  range : mg "range" = none
  min : mg "min" = none
  max : mg "max" = none
  set : mg "set" = none
  sorted : mg "sorted" = none
  repr : mg "repr" = none
  sum : mg "sum" = none
section
variable {K : PySem.W.Frag} {ρ : List En} {N : List En → Prop} {R : Dt → List En → Prop}
theorem ar_eq3 {d e : Dt} {x y : V} {Φ : Dt → Prop} (c : d.v? = some x ∧ e.v? = some y ∧ scal x y = true) (h : Φ (.bl (decide (x = y)))) : AR K rEq d e Φ := ar_eq c.1 c.2.1 c.2.2 h
theorem ar_ne3 {d e : Dt} {x y : V} {Φ : Dt → Prop} (c : d.v? = some x ∧ e.v? = some y ∧ scal x y = true) (h : Φ (.bl (!decide (x = y)))) : AR K rNe d e Φ := ar_ne c.1 c.2.1 c.2.2 h
theorem ac_isi1 {d : Dt} {T : String} {b : Bool} {Φ : Dt → Prop} (c : d.noTy = true ∧ kitB d.kind T = some b) (h : Φ (.bl b)) : AC K (rIsi K) [d, .ty T] Φ := ac_isi c.1 c.2 h
theorem kb_NoneType_list : kitB "NoneType" "list" = some false := by decide +kernel
theorem kb_NoneType_tuple : kitB "NoneType" "tuple" = some false := by decide +kernel
theorem kb_NoneType_bool : kitB "NoneType" "bool" = some false := by decide +kernel
theorem kb_NoneType_int : kitB "NoneType" "int" = some false := by decide +kernel
theorem kb_NoneType_str : kitB "NoneType" "str" = some false := by decide +kernel
theorem kb_bool_list : kitB "bool" "list" = some false := by decide +kernel
theorem kb_bool_tuple : kitB "bool" "tuple" = some false := by decide +kernel
theorem kb_bool_bool : kitB "bool" "bool" = some true := by decide +kernel
theorem kb_bool_int : kitB "bool" "int" = some true := by decide +kernel
theorem kb_bool_str : kitB "bool" "str" = some false := by decide +kernel
theorem kb_int_list : kitB "int" "list" = some false := by decide +kernel
theorem kb_int_tuple : kitB "int" "tuple" = some false := by decide +kernel
theorem kb_int_bool : kitB "int" "bool" = some false := by decide +kernel
theorem kb_int_int : kitB "int" "int" = some true := by decide +kernel
theorem kb_int_str : kitB "int" "str" = some false := by decide +kernel
theorem kb_str_list : kitB "str" "list" = some false := by decide +kernel
theorem kb_str_tuple : kitB "str" "tuple" = some false := by decide +kernel
theorem kb_str_bool : kitB "str" "bool" = some false := by decide +kernel
theorem kb_str_int : kitB "str" "int" = some false := by decide +kernel
theorem kb_str_str : kitB "str" "str" = some true := by decide +kernel
theorem kb_tuple_list : kitB "tuple" "list" = some false := by decide +kernel
theorem kb_tuple_tuple : kitB "tuple" "tuple" = some true := by decide +kernel
theorem kb_tuple_bool : kitB "tuple" "bool" = some false := by decide +kernel
theorem kb_tuple_int : kitB "tuple" "int" = some false := by decide +kernel
theorem kb_tuple_str : kitB "tuple" "str" = some false := by decide +kernel
theorem kb_list_list : kitB "list" "list" = some true := by decide +kernel
theorem kb_list_tuple : kitB "list" "tuple" = some false := by decide +kernel
theorem kb_list_bool : kitB "list" "bool" = some false := by decide +kernel
theorem kb_list_int : kitB "list" "int" = some false := by decide +kernel
theorem kb_list_str : kitB "list" "str" = some false := by decide +kernel
theorem ac_len {k : Bool} {l : List Dt} {Φ : Dt → Prop} (h : Φ (.int (l.length : Nat))) : AC K (fun xs H Q => ∃ p ys, xs = [.ref p] ∧ (SqL K H p ys ∨ SqT K H p ys) ∧ Q (.int ys.length) H) [sq k l] Φ := by
  cases k
  · exact ac_lenL h
  · exact ac_lenT h
theorem wipe_no {ρ : List En} {i : Nat} : ∀ {vs : List Nat}, i ∈ vs → i < ρ.length → (wipeE ρ vs)[i]? = some En.no
  | v :: vs, h, lt => by
    have hl : ∀ ws : List Nat, (wipeE ρ ws).length = ρ.length := fun ws => by
      induction ws with
      | nil => rfl
      | cons w ws ih => unfold wipeE; rw [List.length_set, ih]
    unfold wipeE
    by_cases e : v = i
    · subst e; exact set_at (by rw [hl]; exact lt)
    · rw [set_off e]
      exact wipe_no (by rcases List.mem_cons.mp h with z | z; exact absurd z.symm e; exact z) lt
theorem wipeE_len {ρ : List En} (ws : List Nat) : (wipeE ρ ws).length = ρ.length := by
  induction ws with
  | nil => rfl
  | cons w ws ih => unfold wipeE; rw [List.length_set, ih]
/-- a comprehension item by item -/
theorem ae_lcMap {Ψ : Dt → List En → Prop} {wi : TI} {g : TG} {te : TE} {vs : List Nat} (f : Dt → Dt)
    (h : AI K wi ρ fun l ρ1 => l.length < sizeLine ∧ (∀ d ∈ l, AGv K vs g d (wipeE ρ1 vs) fun ρ3 => AE K te ρ3 fun e ρ5 => e = f d ∧ wipeE ρ5 vs = wipeE ρ1 vs) ∧ Ψ (.lst (l.map f)) (wipeE ρ1 vs)) : AE K (tLc wi g tYes te vs) ρ Ψ := by
  refine ae_lc (fun B σ G H m R q => h B σ G H m R fun J l ρ1 G1 H1 m1 s1 t1 w ⟨h1, h2, h3⟩ => q J l ρ1 G1 H1 m1 s1 t1 w ⟨fun i acc ρ2 => i ≤ l.length ∧ acc = (l.take i).map f ∧ ρ2 = wipeE ρ1 vs, ⟨Nat.zero_le _, rfl, rfl⟩, ?_, ?_⟩)
  · rintro i d acc ρ2 hd ⟨hi, rfl, rfl⟩
    have lt := (List.getElem?_eq_some_iff.mp hd).1
    have hm := List.mem_of_getElem? hd
    intro B σ G H m v r Q q
    refine h2 d hm B σ G H m v r Q fun σ' ρ' G' H' m' s t o p => q σ' ρ' G' H' m' s t o (at_yes ⟨fun _ => ?_, fun z => nomatch z⟩)
    refine ae_mono p fun e ρ5 ⟨e1, e2⟩ => ⟨?_, lt, ?_, e2⟩
    · rw [List.length_map, List.length_take]; exact Nat.lt_of_le_of_lt (Nat.min_le_right _ _) h1
    · rw [e1, List.take_succ, hd, List.map_append]; rfl
  · rintro acc ρ2 ⟨_, rfl, rfl⟩
    refine ⟨fun i hi lt => wipe_no hi (by rw [wipeE_len] at lt; exact lt), ?_⟩
    rw [List.take_length]; exact h3
/-- a comprehension with a test -/
theorem ae_lcFil {Ψ : Dt → List En → Prop} {wi : TI} {g : TG} {tt : TT} {te : TE} {vs : List Nat} (f : Dt → Option Dt)
    (h : AI K wi ρ fun l ρ1 => l.length < sizeLine ∧ (∀ d ∈ l, AGv K vs g d (wipeE ρ1 vs) fun ρ3 => AT K tt ρ3 fun b ρ4 => (b = true → AE K te ρ4 fun e ρ5 => f d = some e ∧ wipeE ρ5 vs = wipeE ρ1 vs) ∧ (b = false → f d = none ∧ wipeE ρ4 vs = wipeE ρ1 vs)) ∧ Ψ (.lst (l.filterMap f)) (wipeE ρ1 vs)) : AE K (tLc wi g tt te vs) ρ Ψ := by
  refine ae_lc (fun B σ G H m R q => h B σ G H m R fun J l ρ1 G1 H1 m1 s1 t1 w ⟨h1, h2, h3⟩ => q J l ρ1 G1 H1 m1 s1 t1 w ⟨fun i acc ρ2 => i ≤ l.length ∧ acc = (l.take i).filterMap f ∧ ρ2 = wipeE ρ1 vs, ⟨Nat.zero_le _, rfl, rfl⟩, ?_, ?_⟩)
  · rintro i d acc ρ2 hd ⟨hi, rfl, rfl⟩
    have lt := (List.getElem?_eq_some_iff.mp hd).1
    have hm := List.mem_of_getElem? hd
    intro B σ G H m v r Q q
    refine h2 d hm B σ G H m v r Q fun σ' ρ' G' H' m' s t o p => q σ' ρ' G' H' m' s t o (at_mono p fun b ρ4 ⟨p1, p2⟩ => ⟨fun hb => ae_mono (p1 hb) fun e ρ5 ⟨e1, e2⟩ => ⟨?_, lt, ?_, e2⟩, fun hb => ⟨lt, ?_, (p2 hb).2⟩⟩)
    · exact Nat.lt_of_le_of_lt (Nat.le_trans (List.length_filterMap_le _ _) (by rw [List.length_take]; exact Nat.min_le_right _ _)) h1
    · rw [List.take_succ, hd, List.filterMap_append]; simp [e1]
    · rw [List.take_succ, hd, List.filterMap_append]; simp [(p2 hb).1]
  · rintro acc ρ2 ⟨_, rfl, rfl⟩
    refine ⟨fun i hi lt => wipe_no hi (by rw [wipeE_len] at lt; exact lt), ?_⟩
    rw [List.take_length]; exact h3
theorem sz60 {n : Nat} (h : n ≤ 60) : n ≤ sizeLine := Nat.le_trans h (by decide)
theorem sz60' {n : Nat} (h : n ≤ 60) : n < sizeLine := Nat.lt_of_le_of_lt h (by decide)
theorem cxOf_K {CX : CXT} {P : Program} {w : World} {mg : Str → Option Value} {base : Heap} {N : List Str} {q : Str} {sc : Scope} {f : Addr} {cdv : Value} {A : Around} {outer : List Env} {s : Shared} {H : Hp} {E : XK} : (cxOf CX P w K mg base N q sc f cdv A outer s H E).K = K := rfl
end
def oD : Option Int → Dt
  | none => .non
  | some i => .int i
theorem oD_some {i : Int} : oD (some i) = .int i := rfl
theorem oD_none : oD none = .non := rfl
end Sh
set_option Elab.async false
set_option linter.all false
set_option maxRecDepth 100000
set_option maxHeartbeats 4000000
/-! ### set(xs) of a list of whole numbers; max, min of one with a default -/
set_option Elab.async false
set_option linter.all false
set_option maxRecDepth 100000
set_option maxHeartbeats 4000000
namespace Sh
open PySem PySem.Spec PyProof.Rows L2
section
variable {K : PySem.W.Frag} {ρ : List En} {Ψ : Dt → List En → Prop} {N : List En → Prop} {R : Dt → List En → Prop}
/-! an own list, item by item -/
theorem ae_ixOwn {ti : TE} {i : Nat} (o : ∃ l, ρ[i]? = some (.own l)) (h : AE K ti ρ fun d ρ1 => ∃ (l : List Dt) (k : Int) (e : Dt), ρ1[i]? = some (.own l) ∧ d = .int k ∧ atI l k = some e ∧ Ψ e ρ1) : AE K (tOp (rIxL K) (tVar i) ti) ρ Ψ := fun B σ G H m Q q => by
  obtain ⟨l0, e0⟩ := o
  obtain ⟨p0, xs0, a1, _⟩ := m.own i l0 e0
  refine ⟨_, a1, h B σ G H m _ fun v d ρ1 G1 H1 m1 s1 t1 r1 ⟨l, k, e, z1, z2, z3, p⟩ => ?_⟩
  subst z2
  obtain ⟨p, xs, b1, b2, b3, _⟩ := m1.own i l z1
  rw [a1] at b1
  cases b1
  obtain ⟨x, y1, y2⟩ := atI_get b3 z3
  exact ⟨p0, xs, k, x, rfl, r1, SqL.of b2, y1, q x e ρ1 G1 H1 m1 s1 t1 y2 p⟩
end
end Sh
set_option Elab.async false
set_option linter.all false
set_option maxRecDepth 100000
set_option maxHeartbeats 4000000
namespace Sh
open PySem PySem.Spec PyProof.Rows L2
theorem pg_or {X : Cx} {tg : Expr} {g1 g2 : TG} (h1 : PG X tg g1) (h2 : PG X tg g2) : PG X tg (fun v σ H Q => g1 v σ H Q ∨ g2 v σ H Q) :=
  ⟨fun pins s σ H v u Q I r h => h.elim (h1.run pins s σ H v u Q I r) (h2.run pins s σ H v u Q I r)⟩
section
variable {K : PySem.W.Frag} {ρ : List En} {N : List En → Prop} {Φ : Dt → Prop}
theorem ag_unl {t : TGs} {n : Nat} {ds : List Dt} (hn : ds.length = n) (h : AGs K t ds ρ N) : AG K (gUnl K n t) (.lst ds) ρ N := fun B σ G H m v r Q q => by
  obtain ⟨a, xs, rfl, r1, r2⟩ := r
  exact ⟨a, xs, rfl, SqL.of (m.sub _ _ r1), by rw [r2.length]; exact hn, h B σ G H m xs r2 Q q⟩
theorem ag_seq {t : TGs} {n : Nat} {k : Bool} {ds : List Dt} (hn : ds.length = n) (h : AGs K t ds ρ N) : AG K (fun v σ H Q => gTup K n t v σ H Q ∨ gUnl K n t v σ H Q) (sq k ds) ρ N := fun B σ G H m v r Q q => by
  cases k
  · exact .inr (ag_unl hn h B σ G H m v r Q q)
  · exact .inl (ag_tup hn h B σ G H m v r Q q)
/-- whole numbers that pass -/
def fI (p : Int → Bool) : Dt → Option Dt
  | .int m => if p m then some (.int m) else none
  | _ => none
theorem fI_map (p : Int → Bool) : ∀ ms : List Int, (ms.map Dt.int).filterMap (fI p) = (ms.filter p).map Dt.int
  | [] => rfl
  | m :: ms => by
    rw [List.map_cons, List.filterMap_cons, List.filter_cons, fI_map p ms]
    cases h : p m <;> simp [fI, h]
theorem ints_pl : ∀ ns : List Int, pls (ns.map Dt.int) = true
  | [] => rfl
  | n :: ns => by show (true && pls (ns.map Dt.int)) = true; rw [ints_pl ns]; rfl
theorem ints_lay : ∀ ns : List Int, PyData.canLayAll0 (pds (ns.map Dt.int)) = true ∧ PyData.depthAll (pds (ns.map Dt.int)) = 0
  | [] => ⟨rfl, rfl⟩
  | n :: ns => by
    obtain ⟨h1, h2⟩ := ints_lay ns
    refine ⟨?_, ?_⟩
    · show (true && PyData.canLayAll0 (pds (ns.map Dt.int))) = true
      rw [h1]; rfl
    · show max 0 (PyData.depthAll (pds (ns.map Dt.int))) = 0
      rw [h2]; rfl
theorem ints_shaped (ns : List Int) : SeqAt.shaped (Dt.lst (ns.map Dt.int)).pd = true := by
  obtain ⟨h1, h2⟩ := ints_lay ns
  show (PyData.canLayAll0 (pds (ns.map Dt.int)) && decide (PyData.depthAll (pds (ns.map Dt.int)) + 1 ≤ 64)) = true
  rw [h1, h2]; rfl
theorem ar_neNil {ns : List Int} (h : Φ (.bl (!ns.isEmpty))) : AR K (rNeD K) (.lst (ns.map Dt.int)) (.lst []) Φ := by
  refine ar_neD (ints_pl ns) rfl (ints_shaped ns) rfl ?_
  cases ns with
  | nil => exact h
  | cons n ns => exact h
theorem cxOf_w {CX : CXT} {P : Program} {w : World} {mg : Str → Option Value} {base : Heap} {N : List Str} {q : Str} {sc : Scope} {f : Addr} {cdv : Value} {A : Around} {outer : List Env} {s : Shared} {H : Hp} {E : XK} : (cxOf CX P w K mg base N q sc f cdv A outer s H E).w = w := rfl
theorem RDs.rev {G : Hp} : ∀ {ds : List Dt} {vs : List V}, RDs K G ds vs → RDs K G ds.reverse vs.reverse
  | [], _, h => by cases (show _ = [] from h); rfl
  | d :: ds, _, ⟨x, r, e, h1, h2⟩ => by
    subst e
    rw [List.reverse_cons, List.reverse_cons]
    exact (RDs.rev h2).snoc h1
theorem vals_rev : ∀ {zs : List V} {ws : List Value}, Vals zs ws → Vals zs.reverse ws.reverse
  | _, _, .nil => .nil
  | _, _, .cons (l₁ := zs) (l₂ := ws) r t => by
    rw [List.reverse_cons, List.reverse_cons]
    exact (vals_rev t).append (.cons r .nil)
end
end Sh
set_option Elab.async false
set_option linter.all false
set_option maxRecDepth 100000
set_option maxHeartbeats 4000000
namespace Sh
open PySem PySem.Spec PyProof.Rows L2
def topS (i : Nat) : Stmt := PySem.Challenge.pw_shadowruns_k35_arrays_by_pieces.main.body.getD i (.Pass ⟨0, 0, 0, 0⟩)
abbrev sBox : Stmt := topS 43
abbrev sTake : Stmt := topS 44
abbrev sCells : Stmt := topS 45
abbrev sOf : Stmt := topS 46
theorem scBox : FnScope ["_law_script", "_law_k", "_law_cell"] ["_law_script", "_law_k"] (defScope sBox) := ⟨rfl, rfl, rfl, by decide +kernel, rfl, by decide +kernel, by decide +kernel⟩
theorem scTake : FnScope ["_law_box_here", "_law_below", "_law_found", "_law_once", "_law_twice"] ["_law_box_here", "_law_below"] (defScope sTake) := ⟨rfl, rfl, rfl, by decide +kernel, rfl, by decide +kernel, by decide +kernel⟩
theorem scCells : FnScope ["_law_script", "_law_most", "_law_cells_here", "_law_k", "_law_cell"] ["_law_script", "_law_most"] (defScope sCells) := ⟨rfl, rfl, rfl, by decide +kernel, rfl, by decide +kernel, by decide +kernel⟩
/-! numbers -/
theorem fm0 {a b : Int} (h : 0 < b) : 0 ≤ a.fmod b := Int.fmod_nonneg_of_pos a h
theorem fm1 {a b : Int} (h : 0 < b) : a.fmod b < b := Int.fmod_lt_of_pos a h
theorem fd0 {a b : Int} (h : 0 ≤ a) (hb : 0 ≤ b) : 0 ≤ a.fdiv b := Int.fdiv_nonneg h hb
theorem fdle {a b : Int} (h : 0 ≤ a) (hb : 0 < b) : a.fdiv b ≤ a := by
  rw [Int.fdiv_eq_ediv_of_nonneg _ (by omega)]
  exact Int.ediv_le_self b h
theorem b01 (c : Bool) : (if c = true then (1 : Int) else 0) = 0 ∨ (if c = true then (1 : Int) else 0) = 1 := by cases c <;> simp
theorem b01s (c : Bool) : -(2 ^ 64) < (if c = true then (1 : Int) else 0) ∧ (if c = true then (1 : Int) else 0) < 2 ^ 64 := by cases c <;> decide
theorem nz (k : Int) (h : decide (k = 0) = false := by decide) : k ≠ 0 := of_decide_eq_false h
theorem But.of {b : Addr} {H H' : Hp} (h : Same H H') : But b H H' := fun a o _ e => h a o e
theorem But.refl {b : Addr} {H : Hp} : But b H H := fun _ _ _ e => e
theorem But.trans {b : Addr} {H H1 H2 : Hp} (x : But b H H1) (y : But b H1 H2) : But b H H2 := fun a o n e => y a o n (x a o n e)
section
variable {P : Program} {w : World} {K : PySem.W.Frag} {mg : Str → Option Value} {base : Heap}
/-! ### _law_box -/
def spBox (K : PySem.W.Frag) : Sp := fun vs H Q _ => ∃ (a : Addr) (ns : List Int) (k : Int), vs = [.ref a, .int k] ∧ SqL K H a (ns.map V.int) ∧ ns.length ≤ 1000 ∧ 0 ≤ k ∧ k ≤ 1000 ∧
  ∀ p x y, H p = none → 0 ≤ x → 0 ≤ y → y < 4611686018427387904 → Q (.ref p) (upd H p (.lst [.int x, .int y, .int 0]))
/-- what is left behind the cell z -/
theorem box_tail {H : Hp} {Q : VK} {k z : Int} (hq : ∀ p x y, H p = none → 0 ≤ x → 0 ≤ y → y < 4611686018427387904 → Q (.ref p) (upd H p (.lst [.int x, .int y, .int 0]))) (k0 : 0 ≤ k) (k1 : k ≤ 1000)
    {p : Addr} (hp : H p = none) (j : Int) (hj : j = 0 ∨ j = 1) : Q (.ref p) (upd H p (.lst [.int ((if z < 0 then -z else z) * j), .int (z.fmod 2305843009213693951 + 39373 * k + 71), .int 0])) := by
  have e0 : (0 : Int) ≤ z.fmod 2305843009213693951 := fm0 (by decide)
  have e1 : z.fmod 2305843009213693951 < 2305843009213693951 := fm1 (by decide)
  refine hq p _ _ hp ?_ (by omega) (by omega)
  have a0 : 0 ≤ (if z < 0 then -z else z) := by split <;> omega
  rcases hj with rfl | rfl
  · rw [Int.mul_zero] <;> decide
  · rw [Int.mul_one]; exact a0
theorem ok_box {f : Addr} {fd : FuncData} {n : Nat} (F : Fun K "_law_box" "_law_box" sBox f fd) (ml : mg "len" = none) (ma : mg "abs" = none) (mi : mg "int" = none) : FnOk P w K mg base CX0 (n + 1) f fd ["_law_script", "_law_k"] (spBox K) := by
  refine F.ok scBox (fun vs H Q E h => ?_) (fun cdv A outer s H vs Q E hr h => ?_)
  · obtain ⟨a, ns, k, rfl, _⟩ := h
    rfl
  obtain ⟨a, ns, k, rfl, hS, hlen, k0, k1, q⟩ := h
  refine ⟨_, pss_cons (ps_set (i := 2) scBox.nd rfl (Or.inl rfl) (pe_ifExp (pt_cmpR op_lt (pv 1) (pe_callB call_len_seq rfl ml PySem.boot_len (pa_cons (pv 0) pa_nil)) (nomark _)) (pe_ix ix_list (pv 0) (pv 1) (fun _ _ => rfl)) pe_int))
    (pss_one (ps_ret (pe_lst (pa_cons (pe_op op_mul (pe_callB call_abs rfl ma (by decide +kernel) (pa_cons (pv 2) pa_nil)) (pe_callTy call_int1 rfl mi (by decide +kernel) (pa_cons (pe_cmpR op_ge (pe_callB call_abs rfl ma (by decide +kernel) (pa_cons (pv 2) pa_nil)) (pe_op op_pow pe_int pe_int) (nomark _)) pa_nil)))
      (pa_cons (pe_op op_add (pe_op op_add (pe_op op_modN (pv 2) pe_int) (pe_op op_mul pe_int (pv 1))) pe_int) (pa_cons pe_int pa_nil)))))), ?_⟩
  have hl : (ns.map V.int).length = ns.length := List.length_map _
  refine ⟨_, rfl, _, rfl, a, _, rfl, .inl hS, _, _, rfl, rfl, _, rfl, ?_⟩
  have hr64 : (0 : Int) < 2305843009213693951 := by decide
  refine ite2 (fun c => ?_) (fun c => ?_)
  have c' : k < (((ns.map V.int).length : Nat) : Int) := of_decide_eq_true c
  rw [hl] at c'
  have hk : k.toNat < ns.length := by omega
  have ek : k = ((k.toNat : Nat) : Int) := by omega
  have g : atI (ns.map V.int) k = some (.int ns[k.toNat]) := at_of ek (by rw [List.getElem?_map, List.getElem?_eq_getElem hk] <;> rfl)
  refine ⟨_, rfl, _, rfl, a, _, _, _, rfl, rfl, hS, g, ?_⟩
  generalize ns[k.toNat] = z
  all_goals
    refine ⟨_, rfl, _, rfl, _, rfl, _, rfl, _, _, rfl, rfl, ⟨by decide, by decide, by decide⟩, _, _, rfl, rfl, .inr ⟨_, rfl, _, _, rfl, rfl, .inr (b01s _), ?_⟩⟩
    refine ⟨_, rfl, _, _, rfl, rfl, (nz _), _, rfl, _, _, rfl, rfl, .inl ⟨by decide, by decide⟩, _, _, rfl, rfl, _, _, rfl, rfl, (by show 3 ≤ sizeLine; decide), fun p hp => ?_⟩
    exact box_tail q k0 k1 hp _ (b01 _)
/-! ### _law_take -/
def spTake : Sp := fun vs H Q _ => ∃ (b : Addr) (m y c : Int), vs = [.ref b, .int m] ∧ Bx H b y c ∧ 0 ≤ c ∧ c < 1000000000000 ∧ 1 ≤ m ∧ m ≤ 10000000 ∧
  ∀ v c' H', 0 ≤ v → v < m → c ≤ c' → c' ≤ c + 1 → Bx H' b y c' → But b H H' → Q (.int v) H'
theorem bx_up {H : Hp} {b : Addr} {x y c : Int} {xs : List V} (e : xs = [.int x, .int y, .int c]) (h : 0 ≤ x) (h1 : 0 ≤ y) (h2 : y < 4611686018427387904) : Bx (upd H b (.lst xs)) b y c := ⟨x, by rw [e, upd_same], h, h1, h2⟩
theorem tw_ok {o c y : Int} (c0 : 0 ≤ c) (c1 : c < 1000000000000) (y0 : 0 ≤ y) (y1 : y < 4611686018427387904) : -(2 ^ 64) < o.fmod 2147483647 + (c + 1) + y.fdiv 1000003 ∧ o.fmod 2147483647 + (c + 1) + y.fdiv 1000003 < 2 ^ 64 := by
  have h0 : (0 : Int) ≤ o.fmod 2147483647 := fm0 (by decide)
  have h1 : o.fmod 2147483647 < 2147483647 := fm1 (by decide)
  have h2 : 0 ≤ y.fdiv 1000003 := fd0 y0 (by decide)
  have h3 : y.fdiv 1000003 ≤ y := fdle y0 (by decide)
  refine ⟨?_, ?_⟩ <;> omega
theorem tw_ok2 {o : Int} : -(2 ^ 64) < o.fmod 2147483629 ∧ o.fmod 2147483629 < 2 ^ 64 := by
  have h0 : (0 : Int) ≤ o.fmod 2147483629 := fm0 (by decide)
  have h1 : o.fmod 2147483629 < 2147483629 := fm1 (by decide)
  refine ⟨?_, ?_⟩ <;> omega
theorem ok_take {f : Addr} {fd : FuncData} {n : Nat} (F : Fun K "_law_take" "_law_take" sTake f fd) : FnOk P w K mg base CX0 (n + 1) f fd ["_law_box_here", "_law_below"] spTake := by
  refine F.ok scTake (fun vs H Q E h => ?_) (fun cdv A outer s H vs Q E hr h => ?_)
  · obtain ⟨b, m, y, c, rfl, _⟩ := h
    rfl
  obtain ⟨b, m, y, c, rfl, ⟨x, hB, x0, y0, y1⟩, c0, c1, m0, m1, q⟩ := h
  refine ⟨_, pss_cons (ps_if (pt_cmpR op_gt (pe_ix ix_list (pv 0) pe_int (fun _ _ => rfl)) pe_int (nomark _))
      (pss_cons (ps_set (i := 2) scTake.nd rfl (Or.inl rfl) (pe_op op_modN (pe_ix ix_list (pv 0) pe_int (fun _ _ => rfl)) (pv 1)))
      (pss_cons (ps_asg (pe_op op_fdivN (pe_ix ix_list (pv 0) pe_int (fun _ _ => rfl)) (pv 1)) (pg_sub (pv 0) pe_int set_list))
      (pss_one (ps_ret (pv 2))))) pss_nil)
    (pss_cons (ps_if (pt_cmpR op_gt (pv 1) (pe_op op_pow pe_int pe_int) (nomark _)) pss_never pss_nil)
    (pss_cons (ps_asg (pe_op op_add (pe_ix ix_list (pv 0) pe_int (fun _ _ => rfl)) pe_int) (pg_sub (pv 0) pe_int set_list))
    (pss_cons (ps_set (i := 3) scTake.nd rfl (Or.inl rfl) (pe_op op_modN (pe_op op_mul (pe_op op_add (pe_ix ix_list (pv 0) pe_int (fun _ _ => rfl)) (pe_op op_mul pe_int (pe_ix ix_list (pv 0) pe_int (fun _ _ => rfl)))) (pe_op op_add pe_int (pe_ix ix_list (pv 0) pe_int (fun _ _ => rfl)))) pe_int))
    (pss_cons (ps_set (i := 4) scTake.nd rfl (Or.inl rfl) (pe_op op_modN (pe_op op_mul (pe_op op_add (pe_op op_add (pv 3) (pe_ix ix_list (pv 0) pe_int (fun _ _ => rfl))) (pe_op op_fdivN (pe_ix ix_list (pv 0) pe_int (fun _ _ => rfl)) pe_int)) (pe_op op_add (pe_op op_modN (pv 3) pe_int) pe_int)) pe_int))
    (pss_one (ps_ret (pe_op op_modN (pe_op op_fdivN (pe_op op_modN (pe_op op_add (pe_op op_mul (pv 4) pe_int) (pv 3)) pe_int) pe_int) (pv 1)))))))), ?_⟩
  refine ⟨_, rfl, b, _, _, _, rfl, rfl, SqL.of hB, at_of (j := 0) rfl rfl, _, _, rfl, rfl, _, rfl, ?_⟩
  refine ite2 (fun t => ?_) (fun t => ?_)
  · have t' : x > 0 := of_decide_eq_true t
    refine ⟨_, rfl, b, _, _, _, rfl, rfl, SqL.of hB, at_of (j := 0) rfl rfl, _, rfl, _, _, rfl, rfl, (by omega), ?_⟩
    refine ⟨_, rfl, b, _, _, _, rfl, rfl, SqL.of hB, at_of (j := 0) rfl rfl, _, rfl, _, _, rfl, rfl, ⟨by omega, by omega⟩, ?_⟩
    refine ⟨_, rfl, b, _, _, 0, rfl, rfl, hB, rfl, _, rfl, ?_⟩
    exact q _ c _ (fm0 (by omega)) (fm1 (by omega)) (by omega) (by omega) (bx_up rfl (fd0 x0 (by omega)) y0 y1) but_upd
  · refine ⟨_, rfl, _, _, rfl, rfl, ⟨by decide, by decide, by decide⟩, _, _, rfl, rfl, _, rfl, ?_⟩
    refine ite2 (fun t2 => ?_) (fun t2 => ?_)
    · exfalso
      have t3 : m > 10 ^ 7 := of_decide_eq_true t2
      have t4 : (10 : Int) ^ 7 = 10000000 := by decide
      omega
    · have hB1 : (upd H b (.lst [.int x, .int y, .int (c + 1)])) b = some (.lst [.int x, .int y, .int (c + 1)]) := upd_same
      refine ⟨_, rfl, b, _, _, _, rfl, rfl, SqL.of hB, at_of (j := 2) rfl rfl, _, _, rfl, rfl, _, rfl, b, _, _, 2, rfl, rfl, hB, rfl, ?_⟩
      refine ⟨_, rfl, b, _, _, _, rfl, rfl, SqL.of hB1, at_of (j := 1) rfl rfl, _, rfl, b, _, _, _, rfl, rfl, SqL.of hB1, at_of (j := 2) rfl rfl, _, _, rfl, rfl, .inl ⟨by decide, by decide⟩, _, _, rfl, rfl,
        _, rfl, b, _, _, _, rfl, rfl, SqL.of hB1, at_of (j := 2) rfl rfl, _, _, rfl, rfl, _, _, rfl, rfl, .inl ⟨by omega, by omega⟩, _, _, rfl, rfl, (nz _), ?_⟩
      refine ⟨_, rfl, _, rfl, b, _, _, _, rfl, rfl, SqL.of hB1, at_of (j := 2) rfl rfl, _, _, rfl, rfl, _, rfl, b, _, _, _, rfl, rfl, SqL.of hB1, at_of (j := 1) rfl rfl, _, _, rfl, rfl, ⟨by decide, by decide⟩, _, _, rfl, rfl,
        _, rfl, _, _, rfl, rfl, (nz _), _, _, rfl, rfl, _, _, rfl, rfl, .inl (tw_ok c0 c1 y0 y1), _, _, rfl, rfl, (nz _), ?_⟩
      refine ⟨_, rfl, _, _, rfl, rfl, .inl tw_ok2, _, rfl, _, _, rfl, rfl, _, _, rfl, rfl, (nz _), _, _, rfl, rfl, ⟨by decide, by decide⟩, _, rfl, _, _, rfl, rfl, (by omega), ?_⟩
      exact q _ (c + 1) _ (fm0 (by omega)) (fm1 (by omega)) (by omega) (by omega) (bx_up rfl x0 y0 y1) but_upd
/-! ### _law_of -/
theorem But.seq {b a : Addr} {H H' : Hp} {xs : List V} (e : But b H H') (n : a ≠ b) (h : SqL K H a xs) : SqL K H' a xs := by
  rcases h with (h | ⟨o, h⟩) | h
  · exact .inl (.inl (e _ _ n h))
  · exact .inl (.inr ⟨o, e _ _ n h⟩)
  · exact .inr h
/-! ### _law_cells -/
theorem fm_nat (i m : Nat) : (i : Int).fmod (m : Int) = ((i % m : Nat) : Int) := by
  rw [Int.fmod_eq_emod_of_nonneg _ (Int.natCast_nonneg m)]; exact (Int.natCast_emod i m).symm
theorem cut_to (ns : List Int) (m : Nat) : cutV (ns.map V.int) none (some (m : Int)) = (ns.take m).map V.int := by
  unfold cutV
  rw [HT.sIx_none, HT.sIx_nat, List.length_map, List.drop_zero, Nat.sub_zero, List.map_take]
  by_cases h : m ≤ ns.length
  · rw [Nat.min_eq_left h]
  · rw [Nat.min_eq_right (by omega), List.take_of_length_le (by rw [List.length_map]; exact Nat.le_refl _), List.take_of_length_le (by rw [List.length_map]; omega)]
theorem cut_from (ns : List Int) (m : Nat) (h : ns.length ≤ 63) : cutV (ns.map V.int) (some (m : Int)) (some 63) = (ns.drop m).map V.int := by
  unfold cutV
  have e63 : HT.sIx (ns.map V.int).length (ns.map V.int).length (some 63) = min 63 (ns.map V.int).length := HT.sIx_nat _ _ 63
  rw [HT.sIx_nat, e63, List.length_map, Nat.min_eq_right h, List.map_drop]
  by_cases hm : m ≤ ns.length
  · rw [Nat.min_eq_left hm, List.take_of_length_le (by rw [List.length_drop, List.length_map]; exact Nat.le_refl _)]
  · rw [Nat.min_eq_right (by omega), List.drop_eq_nil_of_le (by rw [List.length_map]; exact Nat.le_refl _), List.drop_eq_nil_of_le (by rw [List.length_map]; omega), List.take_nil]
def cells0 (ns : List Int) (m : Nat) : List Int := if ns.take m = [] then [0] else ns.take m
theorem cells0_pos {ns : List Int} {m : Nat} : 1 ≤ (cells0 ns m).length := by
  unfold cells0
  split
  · exact Nat.le_refl _
  · rename_i h
    exact List.length_pos_iff.mpr h
theorem cells0_le {ns : List Int} {m : Nat} (hm : 1 ≤ m) : (cells0 ns m).length ≤ m := by
  unfold cells0
  split
  · exact hm
  · rw [List.length_take]; omega
theorem cells0_full {ns : List Int} {m : Nat} (hm : 1 ≤ m) (h : m ≤ ns.length) : (cells0 ns m).length = m := by
  unfold cells0
  have e : (ns.take m).length = m := by rw [List.length_take]; omega
  rw [if_neg (fun z => by rw [z] at e; simp at e; omega), e]
def spCells (K : PySem.W.Frag) : Sp := fun vs H Q _ => ∃ (a : Addr) (ns : List Int) (m : Nat), vs = [.ref a, .int (m : Int)] ∧ SqL K H a (ns.map V.int) ∧ ns.length ≤ 63 ∧ 1 ≤ m ∧ m ≤ 63 ∧
  ∀ p (ms : List Int) H', H p = none → Same H H' → H' p = some (.lst (ms.map V.int)) → 1 ≤ ms.length → ms.length ≤ m → Q (.ref p) H'
theorem ok_cells {f : Addr} {fd : FuncData} {n : Nat} (F : Fun K "_law_cells" "_law_cells" sCells f fd) (ml : mg "list" = none) (me : mg "enumerate" = none) : FnOk P w K mg base CX0 (n + 1) f fd ["_law_script", "_law_most"] (spCells K) := by
  refine F.ok scCells (fun vs H Q E h => ?_) (fun cdv A outer s H vs Q E hr h => ?_)
  · obtain ⟨a, ns, m, rfl, _⟩ := h
    rfl
  obtain ⟨a, ns, m, rfl, hS, hn, m1, m2, q⟩ := h
  refine ⟨_, pss_cons (ps_set (i := 2) scCells.nd rfl (Or.inl rfl) (pe_orT (pe_callTy call_list_of rfl ml (by decide +kernel) (pa_cons (pe_slice sl_list (pv 0) po_none (po_some (pv 1))) pa_nil)) (pe_one (pe_lst (pa_cons pe_int pa_nil)))))
    (pss_cons (ps_for PassesOwn.never rfl (pi_enum rfl me (pa_cons (pe_slice sl_list (pv 0) (po_some (pv 1)) (po_some pe_int)) pa_nil)) (pg_tup rfl (pgs_cons (pg_name (i := 3) scCells.nd rfl (Or.inl rfl)) (pgs_cons (pg_name (i := 4) scCells.nd rfl (Or.inl rfl)) pgs_nil)))
      (pss_one (ps_asg (pe_op op_add (pe_ix ix_list (pv 2) (pe_op op_modN (pv 3) (pv 1)) (fun _ _ => rfl)) (pe_op op_mul (pv 4) (pe_op op_add (pv 3) pe_int))) (pg_sub (pv 2) (pe_op op_modN (pv 3) (pv 1)) set_list))))
    (pss_one (ps_ret (pv 2)))), ?_⟩
  refine ⟨_, rfl, _, rfl, _, rfl, a, _, rfl, hS, fun c nc => ?_⟩
  rw [cut_to]
  refine ⟨c, _, rfl, .inl (SqL.of upd_same), fun l nl => ?_⟩
  have sc1 : Same H (upd H c (.lst ((ns.take m).map V.int))) := same_up nc
  have sl1 := sc1.trans (same_up (o := .lst ((ns.take m).map V.int)) nl)
  have nl0 : H l = none := sc1.free nl
  refine ⟨_, .inl ⟨_, SqL.of upd_same, rfl⟩, ?_⟩
  refine ite2 (fun t => ?_) (fun t => ?_)
  rotate_left
  have et : ns.take m = [] := by
    cases e : ns.take m with
    | nil => rfl
    | cons z r => rw [e] at t; exact absurd rfl t
  refine ⟨by show 1 ≤ sizeLine; decide, fun p np => ?_⟩
  have nl0 : H p = none := sl1.free np
  have sl1 := sl1.trans (same_up (o := .lst [.int 0]) np)
  have hp : (upd (upd (upd H c (.lst ((ns.take m).map V.int))) l (.lst ((ns.take m).map V.int))) p (.lst [.int 0])) p = some (.lst ((cells0 ns m).map V.int)) := by rw [upd_same, cells0, if_pos et]; rfl
  generalize upd (upd (upd H c (.lst ((ns.take m).map V.int))) l (.lst ((ns.take m).map V.int))) p (.lst [.int 0]) = H1 at hp sl1 ⊢
  rotate_left
  have et : ns.take m ≠ [] := fun e => by
    rw [e] at t
    exact absurd t (by decide)
  have hp : (upd (upd H c (.lst ((ns.take m).map V.int))) l (.lst ((ns.take m).map V.int))) l = some (.lst ((cells0 ns m).map V.int)) := by rw [upd_same, cells0, if_neg et]
  generalize upd (upd H c (.lst ((ns.take m).map V.int))) l (.lst ((ns.take m).map V.int)) = H1 at hp sl1 ⊢
  obtain ⟨p, ep⟩ : ∃ p, p = l := ⟨_, rfl⟩
  subst ep
  all_goals
    refine ⟨_, rfl, _, rfl, _, rfl, 63, rfl, a, _, rfl, sl1.seq hS, fun d nd => ?_⟩
    rw [cut_from ns m hn]
    have sd := sl1.trans (same_up (o := .lst ((ns.drop m).map V.int)) nd)
    have hd : (upd H1 d (.lst ((ns.drop m).map V.int))) d = some (.lst ((ns.drop m).map V.int)) := upd_same
    have hpd : (upd H1 d (.lst ((ns.drop m).map V.int))) p = some (.lst ((cells0 ns m).map V.int)) := by rw [upd_ne (ne_of_none hp nd)]; exact hp
    have ndp : d ≠ p := (ne_of_none hp nd).symm
    generalize upd H1 d (.lst ((ns.drop m).map V.int)) = H2 at sd hd hpd ⊢
    refine ⟨d, _, rfl, SqL.of hd, for_it walk_enum (fun i σ H3 => ∃ y3 y4, ∃ ms : List Int, σ = [some (.ref a), some (.int (m : Int)), some (.ref p), y3, y4] ∧ Same H H3 ∧ H3 d = some (.lst ((ns.drop m).map V.int)) ∧ H3 p = some (.lst (ms.map V.int)) ∧ ms.length = (cells0 ns m).length)
      ⟨none, none, _, rfl, sd, hd, hpd, rfl⟩ (fun i σ H3 _ ⟨_, _, _, _, _, e, _⟩ => SqL.of e) ?_ ?_⟩
    · rintro i x σ H3 H4 hi ⟨y3, y4, ms, rfl, s3, e3, ep, el⟩ ⟨T, v1, v2, rfl, nT, rfl, f1, f2⟩
      cases f1
      have hi' : i < (ns.drop m).length := by rw [List.length_map] at hi; exact hi
      have f2' : some (V.int (ns.drop m)[i]) = some v2 := by rw [← f2]; show _ = (List.map V.int (List.drop m ns))[i]?; rw [List.getElem?_map, List.getElem?_eq_getElem hi'] <;> rfl
      cases f2'
      rw [List.length_drop] at hi'
      have lm : ms.length = m := by rw [el]; exact cells0_full m1 (by omega)
      have hk : i % m < ms.length := by rw [lm]; exact Nat.mod_lt _ (by omega)
      have hA : atI (ms.map V.int) ((i : Int).fmod (m : Int)) = some (.int ms[i % m]) := at_of (fm_nat i m) (by rw [List.getElem?_map, List.getElem?_eq_getElem hk] <;> rfl)
      have hX : ixN (ms.map V.int).length ((i : Int).fmod (m : Int)) = some (i % m) := by
        rw [fm_nat]
        unfold ixN
        rw [if_pos (Int.natCast_nonneg _), if_pos (by rw [List.length_map]; exact Int.ofNat_lt.mpr hk), Int.toNat_natCast]
      have mz : (m : Int) ≠ 0 := by omega
      have sT : Same H3 (upd H3 T (.tup [.int (i : Int), .int (ns.drop m)[i]])) := same_up nT
      have eT := sT _ _ ep
      refine ⟨T, _, rfl, .inl (.inl upd_same), rfl, _, _, rfl, _, _, rfl, rfl, ?_⟩
      refine ⟨_, rfl, _, rfl, _, rfl, _, _, rfl, rfl, mz, p, _, _, _, rfl, rfl, SqL.of eT, hA, _, rfl, _, rfl, _, _, rfl, rfl, _, _, rfl, rfl, .inr ⟨by omega, by omega⟩, _, _, rfl, rfl, _, rfl, _, rfl, _, rfl, _, _, rfl, rfl, mz, p, _, _, _, rfl, rfl, eT, hX, ?_⟩
      refine ⟨_, _, ms.set (i % m) (ms[i % m] + (ns.drop m)[i] * ((i : Int) + 2)), rfl, fun b z e => ?_, ?_, ?_, ?_⟩
      rotate_left 2
      · rw [upd_same, List.map_set]
      · rw [List.length_set]; exact el
      · rw [upd_ne (ne_of_none e nl0)]; exact sT _ _ (s3 _ _ e)
      · rw [upd_ne ndp]; exact sT _ _ e3
    · rintro σ H3 ⟨y3, y4, ms, rfl, s3, e3, ep, el⟩
      exact ⟨_, rfl, q p ms H3 nl0 s3 ep (by rw [el]; exact cells0_pos) (by rw [el]; exact cells0_le m1)⟩
abbrev p_l_take : List Str := ["_law_box_here", "_law_below"]
/-! the layer's promises of them -/
def domT (ds : List Dt) : Prop := ∃ m : Int, ds = [.int m] ∧ 1 ≤ m ∧ m ≤ 10000000
def postT (ds : List Dt) (d : Dt) : Prop := ∃ m v : Int, ds = [.int m] ∧ d = .int v ∧ 0 ≤ v ∧ v < m
theorem take_B {f : Addr} {fd : FuncData} {n : Nat} {ps : List Str} (C : FnOk P w K mg base CX0 n f fd ps spTake) : FnOk P w K mg base CX0 n f fd ps (spB K 1 domT postT) := C.imp fun vs H Q E h => by
  obtain ⟨G, ds, b, us, y, c, F, rfl, sm, hb, c0, c1, gb, rd, ⟨m, rfl, m1, m2⟩, q⟩ := h
  obtain ⟨x, rfl, e⟩ := rd.one
  have c2 : c + ((F + 1 : Nat) : Int) ≤ 1000000000000 := c1
  refine ⟨b, m, y, c, by rw [show x = V.int m from e], hb, c0, by omega, m1, m2, fun v c' H' v0 v1 e0 e1 hb' bt => ?_⟩
  refine q (.int v) (.int v) G H' y c' ⟨Same.refl _, fun a o z => bt a o (fun w => by rw [w, gb] at z; cases z) (sm _ _ z), bt, fun a h1 h2 => h1⟩ hb' (by omega) ?_ rfl ⟨m, v, rfl, rfl, v0, v1⟩
  show c' + (F : Int) ≤ 1000000000000
  omega
theorem ae_take {ρ : List En} {Ψ : Dt → List En → Prop} {E : XK} {te : TE} {i : Nat} {b : Addr} {f0 : Nat} (e0 : ρ[i]? = some (.bx b f0))
    (h : AE K te ρ fun d ρ1 => ∃ m : Int, d = .int m ∧ 1 ≤ m ∧ m ≤ 10000000 ∧ ∃ F, ρ1[i]? = some (.bx b (F + 1)) ∧ ∀ v : Int, 0 ≤ v → v < m → Ψ (.int v) (ρ1.set i (.bx b F))) : AE K (tCall (spB K 1 domT postT) [] E (tCons (tVar i) (tCons te tNil))) ρ Ψ :=
  ae_draw e0 (aa_cons (ae_mono h fun d ρ1 ⟨m, e, m1, m2, F, e1, k⟩ => aa_nil ⟨⟨m, by rw [e], m1, m2⟩, F, e1, fun d' hp => by
    obtain ⟨m', v, z1, z2, z3, z4⟩ := hp
    rw [e] at z1
    cases z1
    rw [z2]; exact k v z3 z4⟩))
def domO (ds : List Dt) : Prop := ∃ k l, ds = [sq k l] ∧ 1 ≤ l.length ∧ l.length ≤ 1000
def postO (ds : List Dt) (d : Dt) : Prop := ∀ k l, ds = [sq k l] → d ∈ l
theorem sq_inj {k k' : Bool} {l l' : List Dt} (h : sq k l = sq k' l') : l = l' := by
  cases k <;> cases k' <;> first | (cases h; rfl) | (exact absurd h (fun z => nomatch z))
theorem ae_ofL {ρ : List En} {Ψ : Dt → List En → Prop} {E : XK} {te : TE} {i : Nat} {b : Addr} {f0 : Nat} (e0 : ρ[i]? = some (.bx b f0))
    (h : AE K te ρ fun d ρ1 => ∃ l, d = .lst l ∧ 1 ≤ l.length ∧ l.length ≤ 1000 ∧ ∃ F, ρ1[i]? = some (.bx b (F + 1)) ∧ ∀ d, d ∈ l → Ψ d (ρ1.set i (.bx b F))) : AE K (tCall (spB K 1 domO postO) [] E (tCons (tVar i) (tCons te tNil))) ρ Ψ :=
  ae_draw e0 (aa_cons (ae_mono h fun d ρ1 ⟨l, e, m1, m2, F, e1, k⟩ => aa_nil ⟨⟨false, l, by rw [e]; rfl, m1, m2⟩, F, e1, fun d' hp => k d' (hp false l (by rw [e]; rfl))⟩))
abbrev s_l_of : Stmt := topS 46
abbrev N_l_of : List Str := ["_law_box_here", "_law_some"]
abbrev p_l_of : List Str := ["_law_box_here", "_law_some"]
theorem sc_l_of : FnScope N_l_of p_l_of (defScope s_l_of) := ⟨rfl, rfl, rfl, by decide +kernel, rfl, by decide +kernel, by decide +kernel⟩
theorem ok_l_of (bl : Blts mg) {g_l_take : Addr} {d_l_take : FuncData} (c_l_take : Cal P w K mg base 2 "_law_take" p_l_take (spB K 1 domT postT) g_l_take d_l_take)  {f : Addr} {fd : FuncData} (F : Fun K "_law_of" "_law_of" s_l_of f fd) : FnOk P w K mg base CX0 3 f fd p_l_of (spB K 1 (domO) (postO)) := by
  refine okB F sc_l_of (fun ds h => ?_) (fun cdv A outer s H E hr ds h => ?_)
  · obtain ⟨k, l, rfl, l0, l1⟩ := h
    rfl
  obtain ⟨k, l, rfl, l0, l1⟩ := h
  refine ⟨_, (pss_one (ps_ret (pe_ix ix_seq (pv 1) (pe_call c_l_take.ok (hr.mono (by decide)) rfl c_l_take.mg c_l_take.kp c_l_take.bi .nil pass0 (pa_cons (pv 0) (pa_cons (pe_callB call_len_seq rfl bl.len (by decide +kernel) (pa_cons (pv 1) pa_nil)) pa_nil))) (fun _ _ => rfl)))), fun b F => ?_⟩
  change AS K _ [En.bx _ _, En.da _] _ _
  try simp only [cxOf_K, cxOf_w]
  repeat' (first
    | ((with_reducible apply ae_take); · rfl)
    | with_reducible apply ac_len
    | refine ⟨_, rfl, by omega, by omega, _, rfl, fun v v0 v1 => ?_⟩
    | with_reducible apply as_ret
    | ((with_reducible apply ae_var); · rfl)
    | with_reducible apply ae_op
    | with_reducible apply aa_nil
    | with_reducible apply aa_cons
    | with_reducible apply ae_cb
    | fail)
  have hv : v.toNat < l.length := by omega
  have ev : v = ((v.toNat : Nat) : Int) := by omega
  refine ar_ix (d := l[v.toNat]) ?_ ?_
  · have e := atI_nat (List.getElem?_eq_getElem hv)
    rw [← ev] at e; exact e
  · refine ⟨fun k' l' z => ?_, _, rfl, Nat.le_refl _⟩
    rw [← sq_inj (List.cons.inj z).1]
    exact List.getElem_mem hv
end
end Sh
set_option Elab.async false
set_option linter.all false
set_option maxRecDepth 100000
set_option maxHeartbeats 4000000
set_option Elab.async false
set_option linter.all false
set_option maxRecDepth 100000
set_option maxHeartbeats 4000000
set_option Elab.async false
set_option linter.all false
set_option maxRecDepth 100000
set_option maxHeartbeats 4000000
namespace Sh
open PySem PySem.Spec PyProof.Rows L2
abbrev IP := Int × Int
section
variable {K : PySem.W.Frag} {ρ : List En} {Ψ : Dt → List En → Prop} {N : List En → Prop} {R : Dt → List En → Prop} {Φ : Dt → Prop}
abbrev pD (p : IP) : Dt := .tup [.int p.1, .int p.2]
end
end Sh
set_option Elab.async false
set_option linter.all false
set_option maxRecDepth 100000
set_option maxHeartbeats 4000000
set_option Elab.async false
set_option linter.all false
set_option maxRecDepth 100000
set_option maxHeartbeats 4000000
namespace Sh
open PySem PySem.Spec PyProof.Rows L2
section
variable {K : PySem.W.Frag} {ρ : List En} {N : List En → Prop} {R : Dt → List En → Prop} {Φ : Dt → Prop}
/-- a list of three own lists -/
structure L3 where
  a : List Dt
  b : List Dt
  c : List Dt
end
end Sh
set_option Elab.async false
set_option linter.all false
set_option maxRecDepth 100000
set_option maxHeartbeats 4000000
/-! a pair backwards, extend of a list of one's own, None in a list -/
namespace Sh
open PySem PySem.Spec PyProof.Rows L2 PySem.Calls
section
variable {K : PySem.W.Frag} {ρ : List En} {Ψ : Dt → List En → Prop} {N : List En → Prop} {R : Dt → List En → Prop} {Φ : Dt → Prop}
theorem as_extend {te : TE} {i : Nat} (h : AE K te ρ fun d ρ1 => ∃ l m, ρ1[i]? = some (.own l) ∧ d = .lst m ∧ l.length + m.length ≤ sizeLine ∧ N (ρ1.set i (.own (l ++ m)))) (o : ∃ l, ρ[i]? = some (.own l)) : AS K (tDrop (tBM K "list" rExtend (tVar i) (tCons te tNil))) ρ N R := fun B σ G H m D qn qr => by
  obtain ⟨l0, e0⟩ := o
  obtain ⟨p0, xs0, a1, a2, _⟩ := m.own i l0 e0
  refine ⟨_, a1, .inl ⟨rfl, _, SqL.of a2⟩, ?_⟩
  refine h B σ G H m _ fun v d ρ1 G1 H1 m1 s1 t1 r1 ⟨l, mm, e, ed, hl, n⟩ => ?_
  subst ed
  obtain ⟨p, xs, b1, b2, b3, b4, b5⟩ := m1.own i l e
  rw [a1] at b1
  cases b1
  obtain ⟨q, ys, rfl, g, r2⟩ := r1
  refine ⟨p0, q, xs, ys, rfl, rfl, b2, m1.sub _ _ g, by rw [b3.length, r2.length]; exact hl, ?_⟩
  exact qn _ _ G1 _ (m1.chOwn e a1 (b3.app r2)) s1 (t1.trans fun a o b z => by rw [upd_ne (fun w => b5 (by rw [← w]; exact b))]; exact z) n
end
end Sh
set_option Elab.async false
set_option linter.all false
set_option maxRecDepth 100000
set_option maxHeartbeats 4000000
/-! texts: join of a list backwards, f-strings, str, a loop that is not entered, a name that stands for a number, or of tuples -/
set_option Elab.async false
set_option linter.all false
set_option maxRecDepth 100000
set_option maxHeartbeats 4000000
set_option Elab.async false
set_option linter.all false
set_option maxRecDepth 100000
set_option maxHeartbeats 4000000
/-! gcd of three, is True, slices of four -/
namespace Sh
open PySem PySem.Spec PyProof.Rows L2 PySem.Calls PySem.W
theorem args_gcd3 (a b c : Value) : argsOk "math.gcd" ⟨[a, b, c], []⟩ := by unfold argsOk; kernel_rfl
theorem run_gcd3 (a : Int) (t : Tok) (b : Int) (u : Tok) (c : Int) (v : Tok) :
    Gives (Builtin.«math.gcd» ⟨[.int a t, .int b u, .int c v], []⟩) (.int ((((Nat.gcd 0 a.natAbs).gcd b.natAbs).gcd c.natAbs : Nat) : Int)) :=
  .of_wp fun M A E s Q h => by obtain ⟨hp, g, d, tk, os⟩ := s; wp_walk; exact ⟨_, rfl, h⟩
def g3 (a b c : Int) : Int := (((Nat.gcd a.natAbs b.natAbs).gcd c.natAbs : Nat) : Int)
def rGcd3 : List V → Hp → VK → Prop := fun vs H Q => ∃ a b c : Int, vs = [.int a, .int b, .int c] ∧ Q (.int (g3 a b c)) H
section
variable {X : Cx}
theorem cr_gcd3 : CallR X (.builtin "math.gcd") rGcd3 := by
  intro pins s σ H vs us Q I r h
  obtain ⟨a, b, c, rfl, q⟩ := h
  cases r with
  | cons r1 r => cases r with
    | cons r2 r => cases r with
      | cons r3 r =>
        cases r
        obtain ⟨t, rfl⟩ := r1
        obtain ⟨u, rfl⟩ := r2
        obtain ⟨v, rfl⟩ := r3
        have g := run_gcd3 a t b u c v
        rw [Nat.gcd_zero_left] at g
        exact call_function_meets MGF.kind_gcd MGF.plain_gcd MGF.entry_gcd (args_gcd3 _ _ _) g.meets ⟨.int _, H, I.tok _, ⟨_, rfl⟩, q⟩
def rSlS (K : PySem.W.Frag) : V → Option Int → Option Int → Hp → VK → Prop := fun x lo hi H Q => rSlL K x lo hi H Q ∨ rSlA K x lo hi H Q
theorem sl_seq : SlR X (rSlS X.K) := SlR.or sl_list sl_tupA
end
section
variable {K : PySem.W.Frag} {ρ : List En} {Ψ : Dt → List En → Prop} {Φ : Dt → Prop}
theorem ac_gcd3 {a b c : Int} (h : Φ (.int (g3 a b c))) : AC K rGcd3 [.int a, .int b, .int c] Φ := fun G H s vs r Q q => by
  obtain ⟨x, r1, rfl, h1, y, r2, rfl, h2, z, r3, rfl, h3, e⟩ := r
  cases (show r3 = [] from e)
  cases (show x = V.int a from h1)
  cases (show y = V.int b from h2)
  cases (show z = V.int c from h3)
  exact ⟨a, b, c, rfl, q _ (.int (g3 a b c)) G H (Nw.refl s) rfl h⟩
theorem ar_notBl {a b : Bool} (h : Φ (.bl (!decide (a = b)))) : AR K rNotB (.bl a) (.bl b) Φ := fun G H s x y r1 r2 Q q => by
  cases (show x = V.bl a from r1)
  cases (show y = V.bl b from r2)
  exact ⟨a, b, rfl, rfl, q _ (.bl (!decide (a = b))) G H (Nw.refl s) rfl h⟩
theorem RDs.four {G : Hp} {a b c d : Dt} {xs : List V} (h : RDs K G [a, b, c, d] xs) : ∃ w x y z, xs = [w, x, y, z] ∧ RD K G a w ∧ RD K G b x ∧ RD K G c y ∧ RD K G d z := by
  obtain ⟨w, r1, rfl, h1, x, r2, rfl, h2, y, r3, rfl, h3, z, r4, rfl, h4, e⟩ := h
  cases (show r4 = [] from e)
  exact ⟨w, x, y, z, rfl, h1, h2, h3, h4⟩
theorem ae_sl2 {lo hi : Option Int} {tl th : TO} {te : TE} {f : Dt → Dt → Dt → Dt → List Dt} {g : V → V → V → V → List V}
    (el : tl = (fun _ H Q => Q lo H)) (eh : th = (fun _ H Q => Q hi H)) (hc : ∀ w x y z, cutV [w, x, y, z] lo hi = g w x y z) (hn : ¬ (HT.sIx 4 0 lo = 0 ∧ HT.sIx 4 4 hi = 4))
    (hr : ∀ {G : Hp} {a b c d : Dt} {w x y z : V}, RD K G a w → RD K G b x → RD K G c y → RD K G d z → RDs K G (f a b c d) (g w x y z))
    (h : AE K te ρ fun d ρ1 => ∃ k a b c e, d = sq k [a, b, c, e] ∧ Ψ (sq k (f a b c e)) ρ1) : AE K (tSl (rSlS K) te tl th) ρ Ψ := fun B σ G H m Q q => by
  subst el eh
  refine h B σ G H m _ fun v d ρ1 G1 H1 m1 s1 t1 r1 ⟨k, a, b, c, e, ed, n⟩ => ?_
  subst ed
  cases k with
  | false =>
    obtain ⟨p, xs, rfl, hp, r⟩ := r1
    obtain ⟨w, x, y, z, rfl, h1, h2, h3, h4⟩ := r.four
    refine .inl ⟨p, _, rfl, SqL.of (m1.sub _ _ hp), fun p' hp' => ?_⟩
    have nw := Nw.new (o := .lst (cutV [w, x, y, z] lo hi)) m1.sub hp'
    rw [hc] at nw
    rw [hc]
    exact q _ (.lst (f a b c e)) ρ1 _ _ (m1.nw nw) (s1.trans nw.g) (t1.trans (Tr.same nw.h)) ⟨p', _, rfl, upd_same, (hr h1 h2 h3 h4).same nw.g⟩ n
  | true =>
    obtain ⟨p, xs, rfl, hp, r⟩ := r1
    obtain ⟨w, x, y, z, rfl, h1, h2, h3, h4⟩ := r.four
    refine .inr ⟨p, _, rfl, same_sqT m1.sub hp, fun c => absurd c hn, fun _ p' hp' => ?_⟩
    have nw := Nw.new (o := .tup (cutV [w, x, y, z] lo hi)) m1.sub hp'
    rw [hc] at nw
    rw [hc]
    exact q _ (.tup (f a b c e)) ρ1 _ _ (m1.nw nw) (s1.trans nw.g) (t1.trans (Tr.same nw.h)) ⟨p', _, rfl, SqT.of upd_same, (hr h1 h2 h3 h4).same nw.g⟩ n
theorem part_int {i : Int} : tPart (tC (.int i)) = (fun _ H Q => Q (some i) H) := by
  funext σ H Q
  exact propext ⟨fun ⟨j, e, q⟩ => by cases e; exact q, fun q => ⟨i, rfl, q⟩⟩
theorem ae_slTo {te : TE} (h : AE K te ρ fun d ρ1 => ∃ k a b c e, d = sq k [a, b, c, e] ∧ Ψ (sq k [a, b]) ρ1) : AE K (tSl (rSlS K) te tNoPart (tPart (tC (.int 2)))) ρ Ψ :=
  ae_sl2 (lo := none) (hi := some 2) (f := fun a b _ _ => [a, b]) (g := fun a b _ _ => [a, b]) rfl part_int (fun _ _ _ _ => rfl) (by decide) (fun h1 h2 _ _ => ⟨_, _, rfl, h1, _, _, rfl, h2, rfl⟩) h
theorem ae_slFrom {te : TE} (h : AE K te ρ fun d ρ1 => ∃ k a b c e, d = sq k [a, b, c, e] ∧ Ψ (sq k [c, e]) ρ1) : AE K (tSl (rSlS K) te (tPart (tC (.int 2))) tNoPart) ρ Ψ :=
  ae_sl2 (lo := some 2) (hi := none) (f := fun _ _ c d => [c, d]) (g := fun _ _ c d => [c, d]) part_int rfl (fun _ _ _ _ => rfl) (by decide) (fun _ _ h3 h4 => ⟨_, _, rfl, h3, _, _, rfl, h4, rfl⟩) h
end
end Sh
set_option Elab.async false
set_option linter.all false
set_option maxRecDepth 100000
set_option maxHeartbeats 4000000
/-! loops by a measure, quotients by great numbers, chains of comparisons, gcd of two -/
namespace Sh
open PySem PySem.Spec PyProof.Rows L2 PySem.Calls
def CDivB (_ j : Int) : Prop := j ≠ 0 ∧ j.natAbs.log2 < 9000
section
variable {X : Cx}
theorem op_fdivB : OpR X (binaryOp .FloorDiv) (rI CDivB fun i j => .int (i.fdiv j)) := opI fun _ _ _ _ _ _ _ hc q => floordiv_int hc.1 q (.inl (PyProof.noPylong_of_log2 (by have := hc.2; omega)))
end
theorem divB {x y : Int} (h : y ≠ 0) (h1 : -(10 ^ 60) ≤ y) (h2 : y ≤ 10 ^ 60) : CDivB x y := by
  refine ⟨h, (Nat.log2_lt (by omega)).mpr ?_⟩
  have : y.natAbs ≤ 10 ^ 60 := by
    have : (10 : Int) ^ 60 = ((10 ^ 60 : Nat) : Int) := by decide
    omega
  exact Nat.lt_of_le_of_lt this (by decide +kernel)
section
variable {K : PySem.W.Frag} {ρ : List En} {Ψ : Dt → List En → Prop} {N : List En → Prop} {R : Dt → List En → Prop} {Φ : Dt → Prop}
theorem ac_gcd2 {a b : Int} (h : Φ (.int ((Nat.gcd a.natAbs b.natAbs : Nat) : Int))) : AC K rGcd [.int a, .int b] Φ := fun G H s vs r Q q => by
  obtain ⟨x, r1, rfl, h1, y, r2, rfl, h2, e⟩ := r
  cases (show r2 = [] from e)
  cases (show x = V.int a from h1)
  cases (show y = V.int b from h2)
  exact ⟨a, b, rfl, q _ (.int ((Nat.gcd a.natAbs b.natAbs : Nat) : Int)) G H (Nw.refl s) rfl h⟩
/-- a loop: what holds ahead of each turn, with a number that falls -/
theorem as_while {c : TT} {tb : TS} (h : ∃ I : Nat → List En → Prop, (∃ k, I k ρ) ∧ ∀ k ρ1, I k ρ1 → AT K c ρ1 fun b ρ2 => (b = true → AS K tb ρ2 (fun ρ3 => ∃ j, j < k ∧ I j ρ3) R) ∧ (b = false → N ρ2)) : AS K (tWhile c tb) ρ N R := fun B σ G H m D qn qr => by
  obtain ⟨I, ⟨k0, i0⟩, step⟩ := h
  refine ⟨fun k σ1 H1 => ∃ ρ1 G1, Mt K B ρ1 σ1 G1 H1 ∧ Same G G1 ∧ Tr B H H1 ∧ I k ρ1, ⟨k0, ρ, G, m, Same.refl _, Tr.refl, i0⟩, ?_⟩
  rintro k σ1 H1 ⟨ρ1, G1, m1, s1, t1, i1⟩
  refine step k ρ1 i1 B σ1 G1 H1 m1 _ fun b ρ2 G2 H2 m2 s2 t2 ⟨p1, p2⟩ => ?_
  cases b with
  | false =>
    rw [if_neg Bool.false_ne_true]
    exact qn σ1 ρ2 G2 H2 m2 (s1.trans s2) (t1.trans t2) (p2 rfl)
  | true =>
    rw [if_pos rfl]
    refine ⟨fun σ3 H3 => ∃ j, j < k ∧ ∃ ρ3 G3, Mt K B ρ3 σ3 G3 H3 ∧ Same G G3 ∧ Tr B H H3 ∧ I j ρ3, fun σ3 H3 h => h, ?_⟩
    refine p1 rfl B σ1 G2 H2 m2 _ (fun σ3 ρ3 G3 H3 m3 s3 t3 ⟨j, lt, i3⟩ => ⟨j, lt, ρ3, G3, m3, (s1.trans s2).trans s3, (t1.trans t2).trans t3, i3⟩) ?_
    exact fun v d σ3 ρ3 G3 H3 m3 s3 t3 r3 p3 => qr v d σ3 ρ3 G3 H3 m3 ((s1.trans s2).trans s3) ((t1.trans t2).trans t3) r3 p3
end
end Sh
set_option Elab.async false
set_option linter.all false
set_option maxRecDepth 100000
set_option maxHeartbeats 4000000
namespace Sh
open PySem PySem.Spec PyProof.Rows L2
/-! sorted(set(xs)), ints, as many as a set's bound lets -/
section
variable {K : PySem.W.Frag} {ρ : List En} {Ψ : Dt → List En → Prop}
theorem ar_catL {Φ : Dt → Prop} {l l' : List Dt} (hz : l.length + l'.length ≤ sizeLine) (h : Φ (.lst (l ++ l'))) : AR K rCat (.lst l) (.lst l') Φ := fun G H s x y r1 r2 Q q => by
  obtain ⟨a, xs, rfl, h1, h2⟩ := r1
  obtain ⟨b, ys, rfl, h3, h4⟩ := r2
  refine ⟨a, b, xs, ys, rfl, rfl, s _ _ h1, s _ _ h3, (by rw [h2.length, h4.length]; exact hz), fun p hp => ?_⟩
  have n := Nw.new (o := .lst (xs ++ ys)) s hp
  exact q _ (.lst (l ++ l')) _ _ n ⟨p, _, rfl, upd_same, (h2.same n.g).app (h4.same n.g)⟩ h
end
end Sh
set_option Elab.async false
set_option linter.all false
set_option maxRecDepth 100000
set_option maxHeartbeats 4000000
namespace Sh
open PySem PySem.Spec PyProof.Rows L2
/-! lists: * k, slices of ints; a tuple of the module; a conditional expression as a test -/
section
variable {K : PySem.W.Frag} {ρ : List En} {Ψ : Dt → List En → Prop} {Φ : Dt → Prop}
theorem ar_rep2 {d : Dt} (h : Φ (.lst [d, d])) : AR K rRep (.lst [d]) (.int 2) Φ := fun G H s x y r1 r2 Q q => by
  obtain ⟨a, xs, rfl, h1, h2⟩ := r1
  cases (show y = V.int 2 from r2)
  obtain ⟨z, r, rfl, h3, e⟩ := h2
  cases (show r = [] from e)
  refine ⟨a, 2, [z], rfl, rfl, s _ _ h1, by decide, by decide, (by show 1 * 2 ≤ sizeLine; rw [sizeLine_eq]; omega), fun p hp => ?_⟩
  have e : (List.replicate (2 : Int).toNat [z]).flatten = [z, z] := rfl
  rw [e]
  have n := Nw.new (o := .lst [z, z]) s hp
  exact q _ (.lst [d, d]) _ _ n ⟨p, _, rfl, upd_same, ⟨z, [z], rfl, h3.same n.g, z, [], rfl, h3.same n.g, rfl⟩⟩ h
theorem ar_isBl {a b : Bool} (h : Φ (.bl (decide (a = b)))) : AR K rIsB (.bl a) (.bl b) Φ := fun G H s x y r1 r2 Q q => by
  cases (show x = V.bl a from r1)
  cases (show y = V.bl b from r2)
  exact ⟨a, b, rfl, rfl, q _ (.bl (decide (a = b))) G H (Nw.refl s) rfl h⟩
end
end Sh
set_option Elab.async false
set_option linter.all false
set_option maxRecDepth 100000
set_option maxHeartbeats 4000000
/-! tuple(map(f, xs)), f a def of one's own that may lay out -/
namespace MpT
open PySem PySem.Spec PyProof.Rows L2 FbM
section
variable {prog : Program} {w : World} {A : Around} {E : Value → Shared → Prop} {s : Shared}
theorem next_anyT {m T it l : Addr} {f : Value} {items : Array Value} {i : Nat} {u : Value} {Q : Value → Shared → Prop} (hm : MpR.IsMap s.heap m T f) (hT : MpR.IsOne s.heap T (.ref it)) (hit : s.heap.IsTupleIter it l i) (hl : s.heap.IsTuple l items)
    (hu : items[i]? = some u) (hmi : m ≠ it)
    (hc : ∀ h', h'.IsTupleIter it l (i + 1) → Heap.SameBut it s.heap h' → wpAny (model prog w) A (call f [u]) Q E { s with heap := h' }) :
    wpAny (model prog w) A (Builtin.«map.__next__» ⟨[.ref m], []⟩) (fun fin s' => ∃ v, fin = .done (.ret v) ∧ Q v s') E s := by
  show wpAny _ _ (field (.ref m) 0 >>= _) _ _ _
  refine wpAny_bind (wpAny_field hm rfl (x := .ref T) rfl ?_)
  refine wpAny_bind (wpAny_seqItems hT rfl ?_)
  try dsimp only
  refine wpAny_bind ?_
  simp only [List.forIn_toArray, List.forIn_cons, List.forIn_nil]
  refine wpAny_bind (wpAny_bind (wpAny_holding (wpAny_nextOf_tuple_item hit hl hu fun h' hit' hs' => ?_)))
  first
  | refine wpAny_pure (wpAny_pure ?_)
  | refine wpAny_bind (wpAny_pure (wpAny_pure (wpAny_pure ?_)))
  have hm' : MpR.IsMap h' m T f := hs'.extBut _ _ hmi hm
  show wpAny _ _ (field (.ref m) 1 >>= _) _ _ _
  refine wpAny_bind (wpAny_field hm' rfl (x := f) rfl ?_)
  show wpAny _ _ (holding _ (call f [u]) >>= _) _ _ _
  refine wpAny_bind (wpAny_holding (wpAny_mono (hc h' hit' hs') (fun v s' hv => ?_) fun _ _ z => z))
  refine wpAny_bind (wpAny_letGo ?_)
  exact wpAny_pure ⟨v, rfl, hv⟩
theorem pyNext_anyT {m T it l : Addr} {f : Value} {items : Array Value} {i : Nat} {u : Value} {Q : Option Value → Shared → Prop} (hm : MpR.IsMap s.heap m T f) (hT : MpR.IsOne s.heap T (.ref it)) (hit : s.heap.IsTupleIter it l i) (hl : s.heap.IsTuple l items)
    (hu : items[i]? = some u) (hmi : m ≠ it)
    (hc : ∀ h', h'.IsTupleIter it l (i + 1) → Heap.SameBut it s.heap h' → wpAny (model prog w) A.in1 (call f [u]) (fun v s' => Q (some v) s') (fun e s' => NotStop e s' ∧ E e s') { s with heap := h' }) :
    wpAny (model prog w) A (pyNext (.ref m)) Q E s := by
  have hT0 : s.TypeIs (.ref m) "map" := ⟨_, hm, rfl⟩
  unfold pyNext
  refine wpAny_bind (wpAny_attempt (wpAny_callSpecial?_slot (name := Str.ofString "__next__") hT0 MpR.slot_mp_next
    (wpAny_call_entry MpR.slot_mp_next hT0 MpR.entry_mp_next (next_anyT hm hT hit hl hu hmi fun h' hit' hs' => ?_) (MpR.args_mp_next _))))
  refine wpAny_mono (hc h' hit' hs') (fun v s' hv => wpAny_pure hv) fun e s' he => ?_
  obtain ⟨⟨Te, hTe, hsub⟩, hE⟩ := he
  refine wpAny_bind (wpAny_isInstance hTe hsub ?_)
  exact bm_if_false rfl (wpAny_throw hE)
end
/-- the source of a map: a list or a tuple -/
structure Src (X : Cx) (pins : List (Addr × Obj)) (σ : L2.St) (g m T it : Addr) (xs : List V) (Gs : Hp → Prop) (itS : Nat → Heap → Prop) : Prop where
  keep : ∀ i h h', itS i h → (∀ o, h.get? it = some o → h'.get? it = some o) → itS i h'
  live : ∀ i h, itS i h → ∃ o, h.get? it = some o
  item : ∀ (A : Around) (E : Value → Shared → Prop) (s : Shared) (H : Hp) (i : Nat) (x : V) (Q : Option Value → Shared → Prop), Inv X pins σ H s → Gs H → MpR.IsMap s.heap m T (.ref g) → MpR.IsOne s.heap T (.ref it) → itS i s.heap → xs[i]? = some x → m ≠ it →
    (∀ u h', RelV x u → itS (i + 1) h' → Heap.SameBut it s.heap h' → wpAny (model X.prog X.w) A.in1 (call (.ref g) [u]) (fun v s' => Q (some v) s') (fun e s' => NotStop e s' ∧ E e s') { s with heap := h' }) →
    wpAny (model X.prog X.w) A (pyNext (.ref m)) Q E s
  done : ∀ (A : Around) (E : Value → Shared → Prop) (s : Shared) (H : Hp) (Q : Option Value → Shared → Prop), A.handled = none → Inv X pins σ H s → Gs H → MpR.IsMap s.heap m T (.ref g) → MpR.IsOne s.heap T (.ref it) → itS xs.length s.heap →
    (∀ h', Heap.ExtBut it s.heap h' → Q none { s with heap := h' }) → wpAny (model X.prog X.w) A (pyNext (.ref m)) Q E s
theorem src_list {X : Cx} {pins : List (Addr × Obj)} {σ : L2.St} {g m T it l : Addr} {xs : List V} (li : l ≠ it) : Src X pins σ g m T it xs (fun H => SqL X.K H l xs) (fun i h => h.IsListIter it l i) where
  keep := fun i h h' q k => by obtain ⟨o, ho, r⟩ := q; exact ⟨o, k _ ho, r⟩
  live := fun i h q => by obtain ⟨o, ho, r⟩ := q; exact ⟨o, ho⟩
  item := fun A E s H i x Q I hl hm hT hit hx mi hc => by
    obtain ⟨its, rv, pl, _⟩ := I.list hl
    obtain ⟨u, hu, rx⟩ := rv.get hx
    exact pyNext_any hm hT hit pl.isList (u := u) (by simpa using hu) mi fun h' hit' hs' => hc u h' rx hit' hs'
  done := fun A E s H Q hh I hl hm hT hit hq => by
    obtain ⟨its, rv, pl, _⟩ := I.list hl
    have hsz : its.toArray.size = xs.length := by rw [List.size_toArray]; exact rv.length.symm
    exact MpR.mp_pyNext_end (A := A) (n := its.toArray.size) (Draws.list (show A.in1.handled = none from hh) it l li its.toArray) hm hT ⟨(by rw [hsz]; exact hit), pl.isList⟩ hq
theorem src_tup {X : Cx} {pins : List (Addr × Obj)} {σ : L2.St} {g m T it l : Addr} {xs : List V} (li : l ≠ it) : Src X pins σ g m T it xs (fun H => SqT X.K H l xs) (fun i h => h.IsTupleIter it l i) where
  keep := fun i h h' q k => by obtain ⟨o, ho, r⟩ := q; exact ⟨o, k _ ho, r⟩
  live := fun i h q => by obtain ⟨o, ho, r⟩ := q; exact ⟨o, ho⟩
  item := fun A E s H i x Q I hl hm hT hit hx mi hc => by
    obtain ⟨its, rv, pl, _⟩ := I.tuple hl
    obtain ⟨u, hu, rx⟩ := rv.get hx
    exact pyNext_anyT hm hT hit pl (u := u) (by simpa using hu) mi fun h' hit' hs' => hc u h' rx hit' hs'
  done := fun A E s H Q hh I hl hm hT hit hq => by
    obtain ⟨its, rv, pl, _⟩ := I.tuple hl
    have hsz : its.toArray.size = xs.length := by rw [List.size_toArray]; exact rv.length.symm
    exact MpR.mp_pyNext_end (A := A) (n := its.toArray.size) (Draws.tuple (show A.in1.handled = none from hh) it l li its.toArray) hm hT ⟨(by rw [hsz]; exact hit), pl⟩ hq
/-- the items one after another; G: the source stands -/
def mapR (sp : Sp) (G : Hp → Prop) : List V → List V → Hp → (List V → Hp → Prop) → Prop
  | [], ys, H, Q => Q ys H
  | x :: r, ys, H, Q => sp [x] H (fun y H' => G H' ∧ mapR sp G r (ys ++ [y]) H' Q) E0
theorem Vals.snoc {xs : List V} {us : List Value} {x : V} {u : Value} (r : Vals xs us) (q : RelV x u) : Vals (xs ++ [x]) (us ++ [u]) := r.append (.cons q .nil)
section
variable {X : Cx} {pins : List (Addr × Obj)} {σ : L2.St} {kk : Nat} {g m T it S : Addr} {sp : Sp} {xs : List V} {Gs : Hp → Prop} {itS : Nat → Heap → Prop} {A : Around} {R : Result → Shared → Prop} {fin : List V → Hp → Prop} {res : Value}
theorem mp_loop (hh : A.handled = none) (hr : Room kk A.in1.in1) (hA : A.frames = some X.stack) (Fn : FnR X.prog X.w X.K X.mg X.base CX0 kk g sp) (sr : Src X pins σ g m T it xs Gs itS) (hz : xs.length ≤ sizeLine)
    (rm : Rec X pins m) (rT : Rec X pins T) (rS : Rec X pins S) (ri : Rec X pins it)
    (mi : m ≠ it) (Ti : T ≠ it) (Si : S ≠ it) (mS : m ≠ S) (TS : T ≠ S)
    (hR : ∀ ys acc c H' s', fin ys H' → Vals ys acc → ys.length = xs.length → Inv X pins σ H' s' → s'.heap.get? S = some { cls := .type "list", dict := none, data := .seq acc.toArray c, slots := #[] } → R (.ok (.ret res)) s') :
    ∀ (r : List V) (i : Nat) (ys : List V) (acc : Array Value) (c : Nat) (s : Shared) (H : Hp), xs.drop i = r → i ≤ xs.length → ys.length = i → Vals ys acc.toList → Inv X pins σ H s → Gs H → H m = none → H T = none → H S = none → H it = none →
      MpR.IsMap s.heap m T (.ref g) → MpR.IsOne s.heap T (.ref it) → itS i s.heap → s.heap.get? S = some { cls := .type "list", dict := none, data := .seq acc c, slots := #[] } →
      mapR sp Gs r ys H fin → codeAny (model X.prog X.w) A (.builtin "list.extend.loop" ⟨[.ref S, .ref m, res], []⟩) R s
  | [], i, ys, acc, c, s, H, hd, hi, ha, hv, I, hG, um, uT, uS, ui, hm, hT, hit, hS, D => by
    have hin : i = xs.length := by
      have e := congrArg List.length hd
      rw [List.length_drop] at e
      have e2 : xs.length - i = 0 := e
      omega
    subst hin
    refine codeAny_builtin F.entry_extend_loop ?_
    rw [Around.under_plainId F.plain_extend_loop _]
    show wpAny _ A.in1 (pyNext (.ref m) >>= _) _ _ s
    refine wpAny_bind (sr.done A.in1 _ s H _ hh I hG hm hT hit fun h' he => ?_)
    have I2 : Inv X pins σ H { s with heap := h' } := ri.turn (t' := s.toks) I ui fun c o hc e => he c o hc e
    have hS' := he S _ Si hS
    exact wpAny_pure (hR ys acc.toList c H _ D hv ha I2 (by simpa using hS'))
  | x :: r, i, ys, acc, c, s, H, hd, hi, ha, hv, I, hG, um, uT, uS, ui, hm, hT, hit, hS, D => by
    have hlt : i < xs.length := by
      rcases Nat.lt_or_ge i xs.length with z | z
      · exact z
      · rw [List.drop_eq_nil_of_le z] at hd
        exact (nomatch hd)
    have hxi : xs[i]? = some x := by
      have e : (xs.drop i)[0]? = (x :: r)[0]? := by rw [hd]
      rw [List.getElem?_drop] at e
      exact e
    have hdr : xs.drop (i + 1) = r := by
      have e := congrArg (List.drop 1) hd
      rw [List.drop_drop] at e
      first
        | exact e
        | (rw [Nat.add_comm] at e; exact e)
    have hac : acc.size = i := by
      have e : ys.length = acc.toList.length := Vals.length hv
      have e2 : acc.toList.length = acc.size := Array.length_toList
      omega
    refine codeAny_builtin F.entry_extend_loop ?_
    rw [Around.under_plainId F.plain_extend_loop _]
    show wpAny _ A.in1 (pyNext (.ref m) >>= _) _ _ s
    refine wpAny_bind (sr.item A.in1 _ s H i x _ I hG hm hT hit hxi mi fun u h1 rx hit1 hs1 => ?_)
    have I1 : Inv X pins σ H { s with heap := h1 } := ri.turn (t' := s.toks) I ui fun c o hc e => hs1.extBut c o hc e
    have e0 := I1.env0
    have e1 : Env0 X.prog X.w X.K X.mg X.base A.in1.in1 X.stack { s with heap := h1 } H := ⟨hA, e0.mod, e0.bs, e0.bsz, e0.funs, e0.frf, e0.hok, e0.bare⟩
    refine wpAny_call (codeAny_mono (Fn A.in1.in1 X.stack _ H [u] [x] _ E0 hr e1 (.cons rx .nil) D) fun rr s2 hrr => ?_)
    cases rr with
    | error e => exact False.elim hrr
    | ok fl =>
      cases fl with
      | next => exact False.elim hrr
      | brk => exact False.elim hrr
      | cont => exact False.elim hrr
      | ret v =>
        obtain ⟨y, H', os, bare, un, hok, ry, hG', D'⟩ := (show CE X.stack X.prog X.w H _ _ v s2 from hrr)
        have I2 : Inv X pins σ H' s2 := I1.call' os un hok bare (fun b y => absurd y List.not_mem_nil)
        have keep : ∀ {b : Addr} {o : Obj}, Rec X pins b → H b = none → h1.get? b = some o → s2.heap.get? b = some o := fun rb ub eb => un.keep _ _ eb ub rb.fr List.not_mem_nil
        have hm1 := hs1.extBut _ _ mi hm
        have hT1 := hs1.extBut _ _ Ti hT
        have hS1 := hs1.extBut _ _ Si hS
        obtain ⟨oi, hoi⟩ := sr.live _ _ hit1
        have hm2 : MpR.IsMap s2.heap m T (.ref g) := keep rm um hm1
        have hT2 : MpR.IsOne s2.heap T (.ref it) := keep rT uT hT1
        have hS2 := keep rS uS hS1
        have hit2 : itS (i + 1) s2.heap := sr.keep _ _ _ hit1 fun o e => keep ri ui e
        have um2 : H' m = none := un.free _ _ hm1 um List.not_mem_nil
        have uT2 : H' T = none := un.free _ _ hT1 uT List.not_mem_nil
        have uS2 : H' S = none := un.free _ _ hS1 uS List.not_mem_nil
        have ui2 : H' it = none := un.free _ _ hoi ui List.not_mem_nil
        show wpAny _ A.in1 (updateSeq S (·.push v) >>= _) _ _ _
        refine wpAny_bind ?_
        have upS := Heap.get?_update_self (Obj.mapSeq (·.push v)) hS2 rfl
        have sb : Heap.SameBut S s2.heap (s2.heap.update S (Obj.mapSeq (·.push v))) := Heap.SameBut.update ..
        have I3 : Inv X pins σ H' { s2 with heap := s2.heap.update S (Obj.mapSeq (·.push v)) } := rS.turn (t' := s2.toks) I2 uS2 fun c o hc e => sb.extBut c o hc e
        refine wpAny_updateSeq hS2 rfl (wpAny_pure ⟨plainId_quiet F.plain_extend_loop _, mp_loop hh hr hA Fn sr hz rm rT rS ri mi Ti Si mS TS hR r (i + 1) (ys ++ [y]) (acc.push v) _ _ H' hdr hlt ?_ ?_ I3 hG' um2 uT2 uS2 ui2 ?_ ?_ ?_ upS D'⟩)
          (by rw [hac]; omega) (by show (acc.push v).size ≤ sizeLine + 1; rw [Array.size_push, hac]; omega)
        · rw [List.length_append, ha]; rfl
        · rw [Array.toList_push]; exact Vals.snoc hv ry
        · exact sb.extBut _ _ mS hm2
        · exact sb.extBut _ _ TS hT2
        · exact sr.keep _ _ _ hit2 fun o e => sb.extBut _ _ (Ne.symm Si) e
/-- the list of all that a map gives -/
theorem mp_collect {s : Shared} {H : Hp} {E : Value → Shared → Prop} {Q : List Value → Shared → Prop} (hh : A.handled = none) (hr : Room kk A.in1.in1) (hA : A.frames = some X.stack) (Fn : FnR X.prog X.w X.K X.mg X.base CX0 kk g sp) (sr : Src X pins σ g m T it xs Gs itS) (hz : xs.length ≤ sizeLine)
    (rm : Rec X pins m) (rT : Rec X pins T) (ri : Rec X pins it) (um : H m = none) (uT : H T = none) (ui : H it = none) (mi : m ≠ it) (Ti : T ≠ it)
    (I : Inv X pins σ H s) (hG : Gs H) (hm : MpR.IsMap s.heap m T (.ref g)) (hT : MpR.IsOne s.heap T (.ref it)) (hit : itS 0 s.heap) (D : mapR sp Gs xs [] H fin)
    (hQ : ∀ ys acc H' s', fin ys H' → Vals ys acc → ys.length = xs.length → Inv X pins σ H' s' → Q acc s') : wpAny (model X.prog X.w) A (collect (.ref m)) Q E s := by
  have hTy : ∀ {s' : Shared}, MpR.IsMap s'.heap m T (.ref g) → s'.TypeIs (.ref m) "map" := fun h => ⟨_, h, rfl⟩
  have nm : m ≠ s.heap.objs.size := Nat.ne_of_lt (Heap.lt_size hm)
  have nT : T ≠ s.heap.objs.size := Nat.ne_of_lt (Heap.lt_size hT)
  have ni : it ≠ s.heap.objs.size := by obtain ⟨o, ho⟩ := sr.live _ _ hit; exact Nat.ne_of_lt (Heap.lt_size ho)
  unfold collect
  refine wpAny_bind (wpAny_runValue (codeAny_builtin F.entry_proto_collect ?_))
  rw [Around.under_plainId F.plain_proto_collect _]
  show wpAny _ A.in1 (newList [] >>= fun l => again (.builtin "list.__iadd__" ⟨[l, .ref m], []⟩)) _ _ s
  refine wpAny_bind (wpAny_newObj_type ?_)
  refine wpAny_pure ⟨plainId_quiet F.plain_list_iadd _, codeAny_builtin F.entry_list_iadd ?_⟩
  rw [Around.under_plainId F.plain_list_iadd _]
  have kp : ∀ b o, s.heap.get? b = some o → (s.heap.push { cls := .type "list", data := .seq ([] : List Value).toArray }).get? b = some o := fun b o e => Heap.get?_push_of_some _ e
  have hm₁ : MpR.IsMap (s.heap.push { cls := .type "list", data := .seq ([] : List Value).toArray }) m T (.ref g) := kp _ _ hm
  show wpAny _ A.in1 (Builtin.List.listExtendWith (.ref s.heap.objs.size) (.ref m) (.ref s.heap.objs.size)) _ _ _
  unfold Builtin.List.listExtendWith
  refine wpAny_bind (wpAny_typeOf (hTy hm₁) ?_)
  have h1 : Builtin.List.listSameRef (.ref s.heap.objs.size) (.ref m) = false := by simp [Builtin.List.listSameRef, Ne.symm nm]
  have h2 : (Value.type "map" == Value.type "list") = false := by decide
  have h3 : (Value.type "map" == Value.type "tuple") = false := by decide
  simp only [h1, h2, h3, Bool.or_false, Bool.false_eq_true, if_false]
  refine wpAny_bind (MpR.mp_pyIter hm₁ ?_)
  refine wpAny_bind (wpAny_holding ?_)
  unfold Builtin.List.listLengthHint
  refine wpAny_bind (wpAny_specialOf (hTy hm₁) MpR.nolen_mp ?_)
  show wpAny _ A.in1 (specialOf (Value.ref m) (Str.ofString "__length_hint__") >>= _) _ _ _
  refine wpAny_bind (wpAny_specialOf (hTy hm₁) MpR.nohint_mp ?_)
  refine wpAny_pure ?_
  show wpAny _ A.in1 (rule "list.extend.makes-room" >>= fun _ => Builtin.List.listTouch (.ref s.heap.objs.size) >>= fun _ =>
    again (.builtin "list.extend.loop" ⟨[.ref s.heap.objs.size, .ref m, .ref s.heap.objs.size], []⟩)) _ _ _
  refine wpAny_bind (wpAny_rule ?_)
  have hS₁ : (s.heap.push { cls := .type "list", data := .seq ([] : List Value).toArray }).get? s.heap.objs.size = some { cls := .type "list", data := .seq ([] : List Value).toArray } := Heap.get?_push_size _ rfl
  refine wpAny_bind ?_
  show wpAny _ A.in1 (updateSeq s.heap.objs.size (·.push .none) >>= fun _ => updateSeq s.heap.objs.size (·.pop)) _ _ _
  refine wpAny_bind (wpAny_updateSeq hS₁ rfl ?_)
  have hS₂ := Heap.get?_update_self (Obj.mapSeq (·.push Value.none)) hS₁ rfl
  refine wpAny_updateSeq hS₂ rfl ?_
  have hS₃ := Heap.get?_update_self (Obj.mapSeq (·.pop)) hS₂ rfl
  have oth : ∀ b o, b ≠ s.heap.objs.size → s.heap.get? b = some o →
      (((s.heap.push { cls := .type "list", data := .seq ([] : List Value).toArray }).update s.heap.objs.size (Obj.mapSeq (·.push Value.none))).update s.heap.objs.size (Obj.mapSeq (·.pop))).get? b = some o :=
    fun b o hb e => (Heap.get?_update_other _ _ (Ne.symm hb)).trans ((Heap.get?_update_other _ _ (Ne.symm hb)).trans (kp b o e))
  have I4 := I.kept (t' := s.toks) (h' := ((s.heap.push { cls := .type "list", data := .seq ([] : List Value).toArray }).update s.heap.objs.size (Obj.mapSeq (·.push Value.none))).update s.heap.objs.size (Obj.mapSeq (·.pop)))
    fun b o e => oth b o (Nat.ne_of_lt (Heap.lt_size e)) e
  have rS : Rec X pins s.heap.objs.size := rec_new I (Nat.le_refl _)
  have uS : H s.heap.objs.size = none := I.hok.fresh (Nat.le_refl _)
  refine wpAny_pure ⟨plainId_quiet F.plain_extend_loop _, mp_loop (S := s.heap.objs.size) (res := .ref s.heap.objs.size) (A := A) (fin := fin) hh hr hA Fn sr hz rm rT rS ri mi Ti (Ne.symm ni) nm nT ?_ xs 0 [] _ _ _ H rfl (Nat.zero_le _) rfl .nil I4 hG um uT uS ui
    (oth _ _ nm hm) (oth _ _ nT hT) (sr.keep _ _ _ hit fun o e => oth _ _ ni e) hS₃ D⟩
  intro ys acc c H' s' hf hv hn I' hS'
  show wpAny _ A (load s.heap.objs.size >>= _) _ _ s'
  refine wpAny_bind (wpAny_load hS' ?_)
  exact wpAny_pure (hQ ys acc H' s' hf hv hn I')
theorem mp_new {s : Shared} {H : Hp} {E : Value → Shared → Prop} {Q₁ : Value → Shared → Prop} (hh : A.handled = none) (hr : Room kk A.in1.in1.in1) (hA : A.frames = some X.stack) (Fn : FnR X.prog X.w X.K X.mg X.base CX0 kk g sp) (sr : Src X pins σ g m T it xs Gs itS) (hz : xs.length ≤ sizeLine)
    (rm : Rec X pins m) (rT : Rec X pins T) (ri : Rec X pins it) (um : H m = none) (uT : H T = none) (ui : H it = none) (mi : m ≠ it) (Ti : T ≠ it)
    (I : Inv X pins σ H s) (hG : Gs H) (hm : MpR.IsMap s.heap m T (.ref g)) (hT : MpR.IsOne s.heap T (.ref it)) (hit : itS 0 s.heap) (D : mapR sp Gs xs [] H fin)
    (hQ : ∀ ys acc H' s', fin ys H' → Vals ys acc → ys.length = xs.length → Inv X pins σ H' s' → Q₁ (.ref s'.heap.objs.size) { s' with heap := s'.heap.push { cls := .type "tuple", data := .seq acc.toArray } }) :
    codeAny (model X.prog X.w) A (.call (.builtin "tuple.__new__") ⟨[.type "tuple", .ref m], []⟩) (wants Q₁ E) s := by
  refine codeAny_of_tree ?_
  show wpAny _ A.in1 (do checkBuiltinCall "tuple.__new__" ⟨[.type "tuple", .ref m], []⟩; again (.builtin "tuple.__new__" ⟨[.type "tuple", .ref m], []⟩)) _ _ s
  refine wpAny_bind (wpAny_of_eq (F.newCall_tuple_1 _) (wpAny_pure ⟨plainId_quiet F.plain_tuple_new _, codeAny_builtin F.entry_tuple_new ?_⟩))
  rw [Around.under_plainId F.plain_tuple_new _]
  have hsub := sub_tuple_self
  have hinit := init_tuple_lookup
  have hmh := madeHere_tuple
  have hTI : s.TypeIs (.ref m) "map" := ⟨_, hm, rfl⟩
  have hC : ∀ (E' : Value → Shared → Prop) (Q' : List Value → Shared → Prop), (∀ l s', (∃ ys H', fin ys H' ∧ Vals ys l ∧ ys.length = xs.length ∧ Inv X pins σ H' s') → Q' l s') → wpAny (model X.prog X.w) A.in1 (collect (.ref m)) Q' E' s := fun E' Q' k => mp_collect (A := A.in1) (fin := fin) hh hr hA Fn sr hz rm rT ri um uT ui mi Ti I hG hm hT hit D
    fun ys acc H' s' hf hv hn I' => k _ _ ⟨ys, H', hf, hv, hn, I'⟩
  wp_walk using wpAny_typeOf hTI, hC _ _
  intro l s' hl
  obtain ⟨ys, H', hf, hv, hn, I'⟩ := hl
  show wpAny _ _ (Builtin.Tuple.tupleExact l.toArray >>= fun v => ret v) _ _ _
  unfold Builtin.Tuple.tupleExact
  refine wpAny_bind (wpAny_newObj_type ?_ (by show l.toArray.size ≤ sizeLine; rw [List.size_toArray, ← hv.length, hn]; exact hz))
  refine wpAny_pure ?_
  exact hQ ys l H' s' hf hv hn I'
theorem mp_tuple {s : Shared} {H : Hp} {E : Value → Shared → Prop} {Q : Value → Shared → Prop} (hh : A.handled = none) (hr : Room kk A.in1.in1.in1.in1) (hA : A.frames = some X.stack) (Fn : FnR X.prog X.w X.K X.mg X.base CX0 kk g sp) (sr : Src X pins σ g m T it xs Gs itS) (hz : xs.length ≤ sizeLine)
    (rm : Rec X pins m) (rT : Rec X pins T) (ri : Rec X pins it) (um : H m = none) (uT : H T = none) (ui : H it = none) (mi : m ≠ it) (Ti : T ≠ it)
    (I : Inv X pins σ H s) (hG : Gs H) (hm : MpR.IsMap s.heap m T (.ref g)) (hT : MpR.IsOne s.heap T (.ref it)) (hit : itS 0 s.heap) (D : mapR sp Gs xs [] H fin)
    (hQ : ∀ ys acc H' s', fin ys H' → Vals ys acc → ys.length = xs.length → Inv X pins σ H' s' → Q (.ref s'.heap.objs.size) { s' with heap := s'.heap.push { cls := .type "tuple", data := .seq acc.toArray } }) :
    wpAny (model X.prog X.w) A (call (.type "tuple") [.ref m]) Q E s := by
  refine callType_codes (Q₁ := fun obj s₁ => s₁.TypeIs obj "tuple" ∧ Q obj s₁) F.called_tuple (F.typeCall_tuple_1 _) F.entry_object_init
    (mp_new (A := A.in1) hh hr hA Fn sr hz rm rT ri um uT ui mi Ti I hG hm hT hit D fun ys acc H' s' hf hv hn I' => ⟨⟨_, Heap.get?_push_size _ rfl, rfl⟩, hQ ys acc H' s' hf hv hn I'⟩) fun obj s₁ h₁ => ?_
  exact ⟨h₁.1, F.args_object_init_2 obj _, object_init_meets F.called_tuple.init.lookup F.called_tuple.made (by decide) X.prog X.w A.in1 _ s₁ ⟨h₁.1, rfl, h₁.2⟩⟩
end
theorem raw0 {P : Program} {w : World} {K : PySem.W.Frag} {mg : Str → Option Value} {base : Heap} {CX : CXT} {k : Nat} {f : Addr} {fd : FuncData} {ps : List Str} {sp : Sp} (F : FnOk P w K mg base CX k f fd ps sp) (hb : Binds K fd ps []) : FnR P w K mg base CX k f sp :=
  (F.raw hb .nil).imp fun vs H Q E h => by
    show sp (vs ++ []) H Q E
    rw [List.append_nil]
    exact h
/-- tuple(map(f, e)), e a list or a tuple -/
def tTupMap (K : PySem.W.Frag) (sp : Sp) (te : TE) : TE := fun σ H Q => te σ H fun x H2 => ∃ q xs, x = V.ref q ∧
  ((SqL K H2 q xs ∧ mapR sp (fun H3 => SqL K H3 q xs) xs [] H2 fun ys H3 => ∀ l, H3 l = none → Q (.ref l) (upd H3 l (.tup ys))) ∨
   (SqT K H2 q xs ∧ mapR sp (fun H3 => SqT K H3 q xs) xs [] H2 fun ys H3 => ∀ l, H3 l = none → Q (.ref l) (upd H3 l (.tup ys))))
section
variable {X : Cx} {kk : Nat} {g : Addr} {sp : Sp}
theorem pe_tupMap {fe e : Expr} {te : TE} {p0 pos p pos2 : Pos} (hc : X.calm = true) (hgs : Gl X "tuple") (hms : X.mg "tuple" = none) (hg : Gl X "map") (hm : X.mg "map" = none) (hf : PF X fe (.ref g)) (ha : PE X e te)
    (Fn : FnR X.prog X.w X.K X.mg X.base CX0 kk g sp) (hr : Room (kk + 4) X.A)
    (hs1 : starEach [.Call (.Name "map" p) [fe, e] [] pos2] X.env = (false, eval (.Call (.Name "map" p) [fe, e] [] pos2) X.env) :: starEach [] X.env := by rfl)
    (hp1 : (backTo pos (starEach [] X.env)).any (·.1) = false := by rfl) (hs : starEach [fe, e] X.env = (false, eval fe X.env) :: starEach [e] X.env := by rfl)
    (hs2 : starEach [e] X.env = (false, eval e X.env) :: starEach [] X.env := by rfl) (hpl : (backTo pos2 (starEach [e] X.env)).any (·.1) = false := by rfl) :
    PE X (.Call (.Name "tuple" p0) [.Call (.Name "map" p) [fe, e] [] pos2] [] pos) (tTupMap X.K sp te) := by
  refine ⟨fun pins s σ H Q I h => ?_⟩
  have hh : X.A.handled = none := I.ok.hd hc
  have hA : X.A.frames = some X.stack := I.ok.frames
  refine wpAny_Call_Name_kw (ld_blt I hgs hms (u := .type "tuple") (by decide +kernel) ?_)
  refine PyProof.Rows.callWith_type1 ?_ hs1 hp1
  rw [hs1]
  show wpAny _ _ (spliced ((false, eval (.Call (.Name "map" p) [fe, e] [] pos2) X.env) :: backTo pos (starEach [] X.env))) _ _ s
  refine Calls.spliced_cons ?_
  refine wpAny_Call_Name_kw (ld_blt I hg hm boot_map ?_)
  refine PyProof.Rows.callWith_type1 ?_ hs hpl
  rw [hs, hs2]
  show wpAny _ _ (spliced ((false, eval fe X.env) :: (false, eval e X.env) :: backTo pos2 (starEach [] X.env))) _ _ s
  refine Calls.spliced_cons (hf.run pins s σ H _ I fun s2 I2 => ?_)
  refine Calls.spliced_cons (thn (ha.run pins s2 σ H _ I2 h) fun u s3 ⟨x, H2, I3, r3, q3⟩ => ?_)
  refine Calls.spliced_nil ?_
  obtain ⟨q, xs, rfl, q3⟩ := q3
  cases r3
  rcases q3 with ⟨hq, D⟩ | ⟨hq, D⟩
  · obtain ⟨its, rv, pl, hz⟩ := I3.list hq
    have ql : q < s3.heap.objs.size := by obtain ⟨o, ho, _⟩ := pl.isList; exact Heap.lt_size ho
    refine MpR.call_map (wpAny_pyIter_list pl.isList fun h5 hO hM hsz5 hk => ?_)
    have hs5 : (s3.heap.push { cls := .type "list_iterator", data := .fields #[.ref q, .int 0 0] }).objs.size = s3.heap.objs.size + 1 := Heap.size_push ..
    have kp : ∀ b o, s3.heap.get? b = some o → h5.get? b = some o := fun b o e => hk b o (Heap.get?_push_of_some _ e)
    have I5 : Inv X pins σ H2 { s3 with heap := h5 } := I3.kept (t' := s3.toks) kp
    have fresh : ∀ b, s3.heap.objs.size ≤ b → H2 b = none := fun b hb => I3.hok.fresh hb
    have lt0 : s3.heap.objs.size ≤ (s3.heap.push { cls := .type "list_iterator", data := .fields #[.ref q, .int 0 0] }).objs.size := by rw [hs5]; exact Nat.le_succ _
    have hsx := hs5
    generalize (s3.heap.push { cls := .type "list_iterator", data := .fields #[.ref q, .int 0 0] }).objs.size = TT at *
    refine Calls.spliced_nil (mp_tuple (it := s3.heap.objs.size) (T := TT) (m := TT + 1) hh hr.in1.in1.in1.in1 hA Fn (src_list (Nat.ne_of_lt ql)) hz (rec_new I3 (Nat.le_trans lt0 (Nat.le_succ _))) (rec_new I3 lt0) (rec_new I3 (Nat.le_refl _)) (fresh _ (Nat.le_trans lt0 (Nat.le_succ _))) (fresh _ lt0) (fresh _ (Nat.le_refl _))
      (by rw [hsx]; exact Nat.ne_of_gt (Nat.lt_succ_of_lt (Nat.lt_succ_self _))) (by rw [hsx]; exact Nat.succ_ne_self _) I5 hq hM hO ⟨_, hk _ _ (Heap.get?_push_size _ rfl), rfl, rfl⟩ D fun ys acc H' s' hf hv hn I' => ?_)
    have I6 : Inv X pins σ (upd H' s'.heap.objs.size (.tup ys)) { s' with heap := s'.heap.push { cls := .type "tuple", data := .seq acc.toArray } } :=
      I'.laid (t' := s'.toks) (fun b o e => Heap.get?_push_of_some _ e) (Nat.le_refl _) (show ObjOk X.prog X.w _ _ _ (.tup ys) from ⟨by rw [hn]; exact hz, acc, hv, IsTup.new _ _⟩)
    exact ⟨.ref s'.heap.objs.size, _, I6, rfl, hf _ (I'.hok.fresh (Nat.le_refl _))⟩
  · obtain ⟨its, rv, pl, hz⟩ := I3.tuple hq
    have ql : q < s3.heap.objs.size := by obtain ⟨o, ho, _⟩ := id pl; exact Heap.lt_size ho
    refine MpR.call_map (wpAny_pyIter_tuple pl fun h5 hO hM hsz5 hk => ?_)
    have hs5 : (s3.heap.push { cls := .type "tuple_iterator", data := .fields #[.ref q, .int 0 0] }).objs.size = s3.heap.objs.size + 1 := Heap.size_push ..
    have kp : ∀ b o, s3.heap.get? b = some o → h5.get? b = some o := fun b o e => hk b o (Heap.get?_push_of_some _ e)
    have I5 : Inv X pins σ H2 { s3 with heap := h5 } := I3.kept (t' := s3.toks) kp
    have fresh : ∀ b, s3.heap.objs.size ≤ b → H2 b = none := fun b hb => I3.hok.fresh hb
    have lt0 : s3.heap.objs.size ≤ (s3.heap.push { cls := .type "tuple_iterator", data := .fields #[.ref q, .int 0 0] }).objs.size := by rw [hs5]; exact Nat.le_succ _
    have hsx := hs5
    generalize (s3.heap.push { cls := .type "tuple_iterator", data := .fields #[.ref q, .int 0 0] }).objs.size = TT at *
    refine Calls.spliced_nil (mp_tuple (it := s3.heap.objs.size) (T := TT) (m := TT + 1) hh hr.in1.in1.in1.in1 hA Fn (src_tup (Nat.ne_of_lt ql)) hz (rec_new I3 (Nat.le_trans lt0 (Nat.le_succ _))) (rec_new I3 lt0) (rec_new I3 (Nat.le_refl _)) (fresh _ (Nat.le_trans lt0 (Nat.le_succ _))) (fresh _ lt0) (fresh _ (Nat.le_refl _))
      (by rw [hsx]; exact Nat.ne_of_gt (Nat.lt_succ_of_lt (Nat.lt_succ_self _))) (by rw [hsx]; exact Nat.succ_ne_self _) I5 hq hM hO ⟨_, hk _ _ (Heap.get?_push_size _ rfl), rfl, rfl⟩ D fun ys acc H' s' hf hv hn I' => ?_)
    have I6 : Inv X pins σ (upd H' s'.heap.objs.size (.tup ys)) { s' with heap := s'.heap.push { cls := .type "tuple", data := .seq acc.toArray } } :=
      I'.laid (t' := s'.toks) (fun b o e => Heap.get?_push_of_some _ e) (Nat.le_refl _) (show ObjOk X.prog X.w _ _ _ (.tup ys) from ⟨by rw [hn]; exact hz, acc, hv, IsTup.new _ _⟩)
    exact ⟨.ref s'.heap.objs.size, _, I6, rfl, hf _ (I'.hok.fresh (Nat.le_refl _))⟩
end
end MpT
set_option Elab.async false
set_option linter.all false
set_option maxRecDepth 100000
set_option maxHeartbeats 4000000
namespace Sh
open PySem PySem.Spec PyProof.Rows L2
/-! tuple(map(f, xs)) over data -/
def All2 (S : List Dt → Dt → Prop) : List Dt → List Dt → Prop
  | [], o => o = []
  | d :: l, o => ∃ e r, o = e :: r ∧ S [d] e ∧ All2 S l r
section
variable {K : PySem.W.Frag} {ρ : List En} {Ψ : Dt → List En → Prop} {S : List Dt → Dt → Prop}
theorem map_walk {B : Addr → Prop} {σ : L2.St} {Gs : Hp → Prop} {fin : List V → Hp → Prop} {G1 H1 : Hp} (kp : ∀ G' H', Same G1 G' → Same G' H' → Gs H') : ∀ (l outs done : List Dt) (xs ys : List V) (G H : Hp), Mt K B ρ σ G H → Same G1 G → Tr B H1 H → RDs K G l xs → RDs K G done ys → All2 S l outs →
    (∀ ys' G' H', Mt K B ρ σ G' H' → Same G1 G' → Tr B H1 H' → RDs K G' (done ++ outs) ys' → fin ys' H') → MpT.mapR (spP K S) Gs xs ys H fin
  | [], outs, done, xs, ys, G, H, m, s, t, r, r2, a, k => by
    cases (show xs = [] from r)
    cases (show outs = [] from a)
    exact k ys G H m s t (by rw [List.append_nil]; exact r2)
  | d :: l, outs, done, xs, ys, G, H, m, s, t, r, r2, a, k => by
    obtain ⟨x, xr, rfl, h1, h2⟩ := r
    obtain ⟨e, o, rfl, hS, ha⟩ := a
    refine ⟨G, [d], e, m.sub, ⟨x, [], rfl, h1, rfl⟩, hS, fun v G' H' n rv => ⟨kp G' H' (s.trans n.g) n.s, ?_⟩⟩
    exact map_walk kp l o (done ++ [e]) xr (ys ++ [v]) G' H' (m.nw n) (s.trans n.g) (t.trans (Tr.same n.h)) (h2.same n.g) ((r2.same n.g).snoc rv) ha fun ys' G'' H'' m' s' t' r' => k ys' G'' H'' m' s' t' (by rwa [List.append_assoc] at r')
theorem ae_tupMap {te : TE} (h : AE K te ρ fun d ρ1 => ∃ k l, d = sq k l ∧ ∃ out, All2 S l out ∧ Ψ (.tup out) ρ1) : AE K (MpT.tTupMap K (spP K S) te) ρ Ψ := fun B σ G H m Q q =>
  h B σ G H m _ fun v d ρ1 G1 H1 m1 s1 t1 r1 ⟨kk, l, ed, out, a2, k⟩ => by
    subst ed
    cases kk with
    | true =>
      obtain ⟨a, xs, rfl, hq, rs⟩ := r1
      refine ⟨a, xs, rfl, .inr ⟨same_sqT m1.sub hq, ?_⟩⟩
      refine map_walk (G1 := G1) (H1 := H1) (fun G' H' s s' => same_sqT (s.trans s') hq) l out [] xs [] G1 H1 m1 (Same.refl _) Tr.refl rs rfl a2 fun ys G' H' m' s' t' r' => ?_
      intro p hp
      have n := Nw.new (o := .tup ys) m'.sub hp
      exact q _ (.tup out) ρ1 _ _ (m'.nw n) (s1.trans (s'.trans n.g)) (t1.trans (t'.trans (Tr.same n.h))) ⟨p, ys, rfl, SqT.of upd_same, r'.same n.g⟩ k
    | false =>
      obtain ⟨a, xs, rfl, hq, rs⟩ := r1
      refine ⟨a, xs, rfl, .inl ⟨SqL.of (m1.sub _ _ hq), ?_⟩⟩
      refine map_walk (G1 := G1) (H1 := H1) (fun G' H' s s' => SqL.of (s' _ _ (s _ _ hq))) l out [] xs [] G1 H1 m1 (Same.refl _) Tr.refl rs rfl a2 fun ys G' H' m' s' t' r' => ?_
      intro p hp
      have n := Nw.new (o := .tup ys) m'.sub hp
      exact q _ (.tup out) ρ1 _ _ (m'.nw n) (s1.trans (s'.trans n.g)) (t1.trans (t'.trans (Tr.same n.h))) ⟨p, ys, rfl, SqT.of upd_same, r'.same n.g⟩ k
end
/-! as_tuples: tuples for lists at every depth -/
mutual
def Dt.tu : Dt → Dt
  | .tup l => .tup (tus l) | .lst l => .tup (tus l) | .non => .non | .bl b => .bl b | .int i => .int i | .str s => .str s | .ty n => .ty n
def tus : List Dt → List Dt
  | [] => []
  | d :: l => d.tu :: tus l
end
def AsN : Nat → Dt → Prop
  | 0, _ => False
  | n + 1, .tup l => ∀ d, d ∈ l → AsN n d
  | n + 1, .lst l => ∀ d, d ∈ l → AsN n d
  | _ + 1, .ty _ => False
  | _ + 1, _ => True
def S_as (n : Nat) (ds : List Dt) (r : Dt) : Prop := ∃ d, ds = [d] ∧ AsN n d ∧ r = d.tu
theorem all2_as {n : Nat} : ∀ {l : List Dt}, (∀ d, d ∈ l → AsN n d) → All2 (S_as n) l (tus l)
  | [], _ => rfl
  | d :: l, h => ⟨d.tu, tus l, rfl, ⟨d, rfl, h d List.mem_cons_self, rfl⟩, all2_as fun e he => h e (List.mem_cons_of_mem _ he)⟩
theorem tus_map : ∀ {l : List Dt}, tus l = l.map Dt.tu
  | [] => rfl
  | d :: l => by show d.tu :: tus l = _; rw [tus_map]; rfl
end Sh
set_option Elab.async false
set_option linter.all false
set_option maxRecDepth 100000
set_option maxHeartbeats 4000000
namespace Sh
open PySem PySem.Spec PyProof.Rows L2
section
variable {K : PySem.W.Frag} {ρ : List En} {Ψ : Dt → List En → Prop} {ΨT : Bool → List En → Prop} {Φ : Dt → Prop} {N : List En → Prop} {R : Dt → List En → Prop}
/-- x += e, for ints -/
theorem as_aug {te : TE} {i : Nat} {f : Int → Int → Int} (h : AE K te ρ fun d ρ1 => ∃ x y : Int, ρ1[i]? = some (.da (.int x)) ∧ d = .int y ∧ N (ρ1.set i (.da (.int (f x y))))) (o : ∃ x : Int, ρ[i]? = some (.da (.int x))) : AS K (tAug i te (ipI f)) ρ N R := fun B σ G H m D qn qr => by
  obtain ⟨x0, e0⟩ := o
  obtain ⟨v0, a1, r0⟩ := m.da i _ e0
  cases (show v0 = V.int x0 from r0)
  refine ⟨_, a1, h B σ G H m _ fun v d ρ1 G1 H1 m1 s1 t1 r1 ⟨x, y, e, ed, n⟩ => ?_⟩
  subst ed
  obtain ⟨v1, b1, r2⟩ := m1.da i _ e
  rw [a1] at b1
  cases b1
  cases (show V.int x0 = V.int x from r2)
  cases (show v = V.int y from r1)
  exact ⟨x0, y, rfl, rfl, qn _ _ G1 H1 (m1.set i (d := .int (f x0 y)) rfl) s1 t1 n⟩
/-- x = y = e -/
theorem as_asg2 {te : TE} {g1 g2 : TG} (h : AE K te ρ fun d ρ1 => AG K g1 d ρ1 fun ρ2 => AG K g2 d ρ2 N) : AS K (tAsg2 te g1 g2) ρ N R := fun B σ G H m D qn qr =>
  h B σ G H m _ fun v d ρ1 G1 H1 m1 s1 t1 r1 h1 => h1 B σ G1 H1 m1 v r1 _ fun σ2 ρ2 G2 H2 m2 s2 t2 h2 => h2 B σ2 G2 H2 m2 v (r1.same s2) _ fun σ' ρ' G' H' m' s t p => qn σ' ρ' G' H' m' ((s1.trans s2).trans s) ((t1.trans t2).trans t) p
theorem RDs.unsnoc {G : Hp} : ∀ {l : List Dt} {d : Dt} {xs : List V}, RDs K G (l ++ [d]) xs → ∃ ys x, xs = ys ++ [x] ∧ RDs K G l ys ∧ RD K G d x
  | [], d, xs, ⟨x, r, e, h1, h2⟩ => ⟨[], x, by rw [e, show r = [] from h2]; rfl, rfl, h1⟩
  | a :: l, d, xs, ⟨x, r, e, h1, h2⟩ => by
    obtain ⟨ys, z, e2, h3, h4⟩ := RDs.unsnoc (l := l) h2
    exact ⟨x :: ys, z, by rw [e, e2]; rfl, ⟨x, ys, rfl, h1, h3⟩, h4⟩
/-- xs.pop() -/
theorem as_pop {i : Nat} {l : List Dt} {d : Dt} (e : ρ[i]? = some (.own (l ++ [d]))) (n : N (ρ.set i (.own l))) : AS K (tDrop (tBM0 K "list" rPop (tVar i))) ρ N R := fun B σ G H m D qn qr => by
  obtain ⟨p, xs, a1, a2, a3, a4, a5⟩ := m.own i _ e
  obtain ⟨ys, x, rfl, r1, r2⟩ := RDs.unsnoc a3
  refine ⟨_, a1, .inl ⟨rfl, _, SqL.of a2⟩, p, _, x, rfl, rfl, a2, ?_, ?_⟩
  · rw [List.length_append, List.length_singleton, Nat.add_sub_cancel, List.getElem?_concat_length]
  · rw [List.dropLast_concat]
    exact qn _ _ G _ (m.chOwn e a1 r1) (Same.refl _) (fun a o b z => by rw [upd_ne (fun w => a5 (by rw [← w]; exact b))]; exact z) n
/-- a list of its own as a test -/
theorem at_truOwn {i : Nat} {l : List Dt} (e : ρ[i]? = some (.own l)) (h : ΨT (!l.isEmpty) ρ) : AT K (fun σ H Q => tVar i σ H fun x H' => ∃ k, TruV K x H' k ∧ Q k H') ρ ΨT := fun B σ G H m Q q => by
  obtain ⟨p, xs, a1, a2, a3, a4, a5⟩ := m.own i _ e
  refine ⟨_, a1, !xs.isEmpty, .inl ⟨xs, SqL.of a2, rfl⟩, ?_⟩
  have e2 : (!xs.isEmpty) = !l.isEmpty := by
    have := a3.length
    cases xs <;> cases l <;> first | rfl | (simp at this)
  rw [e2]
  exact q _ ρ G H m (Same.refl _) Tr.refl h
/-- a list of one * k -/
theorem ar_repN {d : Dt} {k : Int} (k0 : -(2 ^ 63) ≤ k ∧ k < 2 ^ 63) (k1 : k.toNat ≤ sizeLine) (h : Φ (.lst (List.replicate k.toNat d))) : AR K rRep (.lst [d]) (.int k) Φ := fun G H s x y r1 r2 Q q => by
  obtain ⟨a, xs, rfl, h1, h2⟩ := r1
  cases (show y = V.int k from r2)
  obtain ⟨z, r, rfl, h3, e⟩ := h2
  cases (show r = [] from e)
  refine ⟨a, k, [z], rfl, rfl, s _ _ h1, k0.1, k0.2, (by show 1 * k.toNat ≤ sizeLine; omega), fun p hp => ?_⟩
  have e : ∀ n : Nat, (List.replicate n [z]).flatten = List.replicate n z := fun n => by
    induction n with
    | zero => rfl
    | succ n ih => rw [List.replicate_succ, List.flatten_cons, ih]; rfl
  rw [e]
  have n := Nw.new (o := .lst (List.replicate k.toNat z)) s hp
  have rr : ∀ m : Nat, RDs K (upd G p (.lst (List.replicate k.toNat z))) (List.replicate m d) (List.replicate m z) := fun m => by
    induction m with
    | zero => rfl
    | succ m ih => exact ⟨z, _, rfl, h3.same n.g, ih⟩
  exact q _ (.lst (List.replicate k.toNat d)) _ _ n ⟨p, _, rfl, upd_same, rr _⟩ h
/-! slices with any bounds -/
def AO (K : PySem.W.Frag) (to : TO) (ρ : List En) (Φo : Option Int → List En → Prop) : Prop := ∀ B σ G H, Mt K B ρ σ G H → ∀ Q : Option Int → Hp → Prop, (∀ o ρ' G' H', Mt K B ρ' σ G' H' → Same G G' → Tr B H H' → Φo o ρ' → Q o H') → to σ H Q
def cutD (l : List Dt) (lo hi : Option Int) : List Dt := (l.drop (HT.sIx l.length 0 lo)).take (HT.sIx l.length l.length hi - HT.sIx l.length 0 lo)
theorem RDs.cut {G : Hp} {l : List Dt} {xs : List V} {lo hi : Option Int} (r : RDs K G l xs) : RDs K G (cutD l lo hi) (cutV xs lo hi) := by
  unfold cutD cutV
  rw [r.length]
  exact (r.drop _).take _
theorem ao_none {Φo : Option Int → List En → Prop} (k : Φo none ρ) : AO K (fun _ H Q => Q none H) ρ Φo := fun B σ G H m Q q => q none ρ G H m (Same.refl _) Tr.refl k
theorem ao_some {te : TE} {Φo : Option Int → List En → Prop} (h : AE K te ρ fun d ρ1 => ∃ i : Int, d = .int i ∧ Φo (some i) ρ1) : AO K (tPart te) ρ Φo := fun B σ G H m Q q =>
  h B σ G H m _ fun v d ρ1 G1 H1 m1 s1 t1 r1 ⟨i, ed, k⟩ => by
    subst ed
    exact ⟨i, r1, q _ ρ1 G1 H1 m1 s1 t1 k⟩
theorem ae_slD {te : TE} {tl th : TO} (h : AE K te ρ fun d ρ1 => ∃ l, d = .lst l ∧ AO K tl ρ1 fun lo ρ2 => AO K th ρ2 fun hi ρ3 => Ψ (.lst (cutD l lo hi)) ρ3) : AE K (tSl (rSlL K) te tl th) ρ Ψ := fun B σ G H m Q q =>
  h B σ G H m _ fun v d ρ1 G1 H1 m1 s1 t1 r1 ⟨l, ed, h1⟩ => h1 B σ G1 H1 m1 _ fun lo ρ2 G2 H2 m2 s2 t2 h2 => h2 B σ G2 H2 m2 _ fun hi ρ3 G3 H3 m3 s3 t3 k => by
    subst ed
    obtain ⟨p, xs, rfl, hp, r⟩ := r1
    have hp3 := s3 _ _ (s2 _ _ hp)
    refine ⟨p, _, rfl, SqL.of (m3.sub _ _ hp3), fun p' hp' => ?_⟩
    have nw := Nw.new (o := .lst (cutV xs lo hi)) m3.sub hp'
    exact q _ (.lst (cutD l lo hi)) ρ3 _ _ (m3.nw nw) (((s1.trans s2).trans s3).trans nw.g) (((t1.trans t2).trans t3).trans (Tr.same nw.h)) ⟨p', _, rfl, upd_same, ((r.same (s2.trans s3)).cut).same nw.g⟩ k
end
end Sh
set_option Elab.async false
set_option linter.all false
set_option maxRecDepth 100000
set_option maxHeartbeats 4000000
namespace Sh
open PySem PySem.Spec PyProof.Rows L2
abbrev s_as_tuples : Stmt := topS 2
abbrev N_as_tuples : List Str := ["thing"]
abbrev p_as_tuples : List Str := ["thing"]
theorem sc_as_tuples : FnScope N_as_tuples p_as_tuples (defScope s_as_tuples) := ⟨rfl, rfl, rfl, by decide +kernel, rfl, by decide +kernel, by decide +kernel⟩
section
variable {P : Program} {w : World} {K : PySem.W.Frag} {mg : Str → Option Value} {base : Heap}
theorem ok_as_tuples (bl : Blts mg) {n k : Nat} {g_as_tuples : Addr} {d_as_tuples : FuncData} (c_as_tuples : Cal P w K mg base k "as_tuples" p_as_tuples (spP K (S_as n)) g_as_tuples d_as_tuples) (hmap : mg "map" = none) {f : Addr} {fd : FuncData} (F : Fun K "as_tuples" "as_tuples" s_as_tuples f fd) : FnOk P w K mg base CX0 (k + 5) f fd p_as_tuples (spP K (S_as (n + 1))) := by
  refine okP F sc_as_tuples (fun ds r h => ?_) (fun cdv A outer s H E hr ds r h => ?_)
  · obtain ⟨d, rfl, hd, rfl⟩ := h
    rfl
  obtain ⟨d, rfl, hd, rfl⟩ := h
  refine ⟨_, (pss_cons (ps_if (pt_val (pe_callB call_isiT rfl bl.isinstance (by decide +kernel) (pa_cons (pv 0) (pa_cons (pe_tup (pa_cons (pe_bltn (v := .ty "list") rfl bl.list (by decide +kernel) rfl) (pa_cons (pe_bltn (v := .ty "tuple") rfl bl.tuple (by decide +kernel) rfl) pa_nil))) pa_nil)))) (pss_one (ps_ret (MpT.pe_tupMap rfl rfl bl.tuple rfl hmap (pf_glob rfl c_as_tuples.mg) (pv 0) (MpT.raw0 c_as_tuples.ok c_as_tuples.bi) hr))) pss_nil)
    (pss_one (ps_ret (pv 0)))), ?_⟩
  change AS K _ [En.da _] _ _
  try simp only [cxOf_K]
  cases d with
  | non =>
    repeat' (first
      | (refine ⟨rfl, false, .inr ⟨kb_NoneType_list, kb_NoneType_tuple⟩, ?_⟩)
      | with_reducible apply as_seq
      | with_reducible apply as_ret
      | with_reducible apply as_next
      | with_reducible apply as_if
      | ((with_reducible apply ae_var); · rfl)
      | with_reducible apply ae_isi2
      | with_reducible apply at_b
      | refine ⟨_, rfl, ?_⟩
      | (refine ⟨fun hc => ?_, fun hc => ?_⟩ <;> (first | (exfalso; exact absurd (show false = true from hc) (by decide)) | (exfalso; exact absurd (show true = false from hc) (by decide)) | (exfalso; simp at hc; done) | skip))
      | rfl
      | fail)
  | bl b =>
    repeat' (first
      | (refine ⟨rfl, false, .inr ⟨kb_bool_list, kb_bool_tuple⟩, ?_⟩)
      | with_reducible apply as_seq
      | with_reducible apply as_ret
      | with_reducible apply as_next
      | with_reducible apply as_if
      | ((with_reducible apply ae_var); · rfl)
      | with_reducible apply ae_isi2
      | with_reducible apply at_b
      | refine ⟨_, rfl, ?_⟩
      | (refine ⟨fun hc => ?_, fun hc => ?_⟩ <;> (first | (exfalso; exact absurd (show false = true from hc) (by decide)) | (exfalso; exact absurd (show true = false from hc) (by decide)) | (exfalso; simp at hc; done) | skip))
      | rfl
      | fail)
  | int i =>
    repeat' (first
      | (refine ⟨rfl, false, .inr ⟨kb_int_list, kb_int_tuple⟩, ?_⟩)
      | with_reducible apply as_seq
      | with_reducible apply as_ret
      | with_reducible apply as_next
      | with_reducible apply as_if
      | ((with_reducible apply ae_var); · rfl)
      | with_reducible apply ae_isi2
      | with_reducible apply at_b
      | refine ⟨_, rfl, ?_⟩
      | (refine ⟨fun hc => ?_, fun hc => ?_⟩ <;> (first | (exfalso; exact absurd (show false = true from hc) (by decide)) | (exfalso; exact absurd (show true = false from hc) (by decide)) | (exfalso; simp at hc; done) | skip))
      | rfl
      | fail)
  | str s =>
    repeat' (first
      | (refine ⟨rfl, false, .inr ⟨kb_str_list, kb_str_tuple⟩, ?_⟩)
      | with_reducible apply as_seq
      | with_reducible apply as_ret
      | with_reducible apply as_next
      | with_reducible apply as_if
      | ((with_reducible apply ae_var); · rfl)
      | with_reducible apply ae_isi2
      | with_reducible apply at_b
      | refine ⟨_, rfl, ?_⟩
      | (refine ⟨fun hc => ?_, fun hc => ?_⟩ <;> (first | (exfalso; exact absurd (show false = true from hc) (by decide)) | (exfalso; exact absurd (show true = false from hc) (by decide)) | (exfalso; simp at hc; done) | skip))
      | rfl
      | fail)
  | ty t =>
    exact hd.elim
  | tup l =>
    repeat' (first
      | (refine ⟨rfl, true, .inr ⟨kb_tuple_list, kb_tuple_tuple⟩, ?_⟩)
      | (refine ae_tupMap ?_)
      | (refine ⟨true, l, rfl, tus l, all2_as hd, ?_⟩)
      | with_reducible apply as_seq
      | with_reducible apply as_ret
      | with_reducible apply as_if
      | ((with_reducible apply ae_var); · rfl)
      | with_reducible apply ae_isi2
      | with_reducible apply at_b
      | refine ⟨_, rfl, ?_⟩
      | (refine ⟨fun hc => ?_, fun hc => ?_⟩ <;> (first | (exfalso; exact absurd (show false = true from hc) (by decide)) | (exfalso; exact absurd (show true = false from hc) (by decide)) | (exfalso; simp at hc; done) | skip))
      | rfl
      | fail)
  | lst l =>
    repeat' (first
      | (refine ⟨rfl, true, .inl ⟨kb_list_list, rfl⟩, ?_⟩)
      | (refine ae_tupMap ?_)
      | (refine ⟨false, l, rfl, tus l, all2_as hd, ?_⟩)
      | with_reducible apply as_seq
      | with_reducible apply as_ret
      | with_reducible apply as_if
      | ((with_reducible apply ae_var); · rfl)
      | with_reducible apply ae_isi2
      | with_reducible apply at_b
      | refine ⟨_, rfl, ?_⟩
      | (refine ⟨fun hc => ?_, fun hc => ?_⟩ <;> (first | (exfalso; exact absurd (show false = true from hc) (by decide)) | (exfalso; exact absurd (show true = false from hc) (by decide)) | (exfalso; simp at hc; done) | skip))
      | rfl
      | fail)
theorem as0 {ps : List Str} {f : Addr} {fd : FuncData} : FnOk P w K mg base CX0 0 f fd ps (spP K (S_as 0)) :=
  ⟨fun vs H Q E h => by obtain ⟨_, _, _, _, _, ⟨_, _, hd, _⟩, _⟩ := h; exact hd.elim, fun A outer s H args us vs Q E _ _ _ _ h => by obtain ⟨_, _, _, _, _, ⟨_, _, hd, _⟩, _⟩ := h; exact hd.elim⟩
theorem all_as (bl : Blts mg) (hmap : mg "map" = none) {f : Addr} {fd : FuncData} (F : Fun K "as_tuples" "as_tuples" s_as_tuples f fd) (b : Binds K fd p_as_tuples []) (m : mg "as_tuples" = some (.ref f)) : ∀ n : Nat, FnOk P w K mg base CX0 (5 * n) f fd p_as_tuples (spP K (S_as n))
  | 0 => as0
  | n + 1 => ok_as_tuples bl ⟨all_as bl hmap F b m n, b, F.kp, m⟩ hmap F
end
end Sh
set_option Elab.async false
set_option linter.all false
set_option maxRecDepth 100000
set_option maxHeartbeats 4000000
namespace Sh
open PySem PySem.Spec PyProof.Rows L2
def lowJ : Option Int → Option Int → Option Int
  | some a, some b => some (if b < a then b else a)
  | _, _ => none
def highJ : Option Int → Option Int → Option Int
  | some a, some b => some (if b > a then b else a)
  | _, _ => none
def lwB (a b : Option Int) : Bool := match b with | none => true | some y => match a with | none => false | some x => decide (y ≤ x)
def hwB (a b : Option Int) : Bool := match b with | none => true | some y => match a with | none => false | some x => decide (x ≤ y)
def restOf (m n : Int) : IP := if m = 0 then (0, n) else (m, n.fmod m)
def restJ (m r n s : Int) : IP := restOf (g3 m n (r - s)) r
def hasB (m r n : Int) : Bool := if m = 0 then decide (n = r) else decide (n.fmod m = r)
def rwB (m r n s : Int) : Bool := if n = 0 then decide (m = 0) && decide (r = s) else decide (m.fmod n = 0) && hasB n s r
def letsB (lo hi : Option Int) (n : Int) : Bool := lwB (some n) lo && hwB (some n) hi
def upR (r m x : Int) : Int := x + (r - x).fmod m
def dnR (r m y : Int) : Int := y - (y - r).fmod m
abbrev vD (lo hi : Option Int) (m r : Int) : Dt := .tup [oD lo, oD hi, .int m, .int r]
def voD (lo hi : Option Int) (m r : Int) : Dt := if m = 0 then (if letsB lo hi r then vD (some r) (some r) 0 r else .non) else
  match lo.map (upR r m), hi.map (dnR r m) with
  | some a, some b => if b ≤ a then (if a = b then vD (some a) (some a) 0 a else .non) else vD (some a) (some b) m r
  | a, b => vD a b m r
def setD (lo hi : Option Int) (m r : Int) : Dt := if m = 0 then vD (some r) (some r) 0 r else
  match lo.map (upR r m), hi.map (dnR r m) with
  | some a, some b => if a < b then vD (some a) (some b) m r else vD (some a) (some a) 0 a
  | a, b => vD a b m r
structure Ok (lo hi : Option Int) (m r : Int) : Prop where
  h : (m = 0 ∧ lo = some r ∧ hi = some r) ∨ (1 ≤ m ∧ 0 ≤ r ∧ r < m ∧ (∀ x, lo = some x → x.fmod m = r) ∧ (∀ y, hi = some y → y.fmod m = r) ∧ ∀ x y, lo = some x → hi = some y → x < y)
def Sub (m r n s : Int) : Prop := (n = 0 ∧ m = 0 ∧ s = r) ∨ (1 ≤ n ∧ m.fmod n = 0 ∧ r.fmod n = s)
theorem fe {x m : Int} (h : 1 ≤ m) : x.fmod m = x % m := Int.fmod_eq_emod_of_nonneg x (by omega)
theorem fm_r {x m : Int} (h : 0 < m) : 0 ≤ x.fmod m ∧ x.fmod m < m := by
  rw [fe (by omega)]; exact ⟨Int.emod_nonneg x (by omega), Int.emod_lt_of_pos x h⟩
theorem fm_same {x : Int} {m r : Int} (hm : 1 ≤ m) (h : x.fmod m = r) : (r - x).fmod m = 0 ∧ (x - r).fmod m = 0 := by
  rw [fe hm] at h; rw [fe hm, fe hm]
  subst h
  constructor
  · have : (x % m - x) = (- (x / m)) * m := by have := Int.mul_ediv_add_emod x m; rw [Int.neg_mul, Int.mul_comm]; omega
    rw [this, Int.mul_emod_left]
  · have : (x - x % m) = (x / m) * m := by have := Int.mul_ediv_add_emod x m; rw [Int.mul_comm]; omega
    rw [this, Int.mul_emod_left]
theorem up_same {x m r : Int} (hm : 1 ≤ m) (h : x.fmod m = r) : upR r m x = x := by unfold upR; rw [(fm_same hm h).1]; omega
theorem dn_same {x m r : Int} (hm : 1 ≤ m) (h : x.fmod m = r) : dnR r m x = x := by unfold dnR; rw [(fm_same hm h).2]; omega
theorem up_mod {x m r : Int} (hm : 1 ≤ m) (r0 : 0 ≤ r) (r1 : r < m) : (upR r m x).fmod m = r := by
  unfold upR
  rw [fe hm, fe hm]
  rw [Int.add_emod, Int.emod_emod_of_dvd _ (Int.dvd_refl m), ← Int.add_emod]
  rw [show x + (r - x) = r by omega]
  exact Int.emod_eq_of_lt r0 r1
theorem dn_mod {x m r : Int} (hm : 1 ≤ m) (r0 : 0 ≤ r) (r1 : r < m) : (dnR r m x).fmod m = r := by
  unfold dnR
  rw [fe hm, fe hm]
  rw [Int.sub_emod, Int.emod_emod_of_dvd _ (Int.dvd_refl m), ← Int.sub_emod]
  rw [show x - (x - r) = r by omega]
  exact Int.emod_eq_of_lt r0 r1
/-- two numbers that leave the same are apart by the modulus or equal -/
theorem apart {x y m : Int} (hm : 1 ≤ m) (h : x.fmod m = y.fmod m) (l : x < y) : x + m ≤ y := by
  rw [fe hm, fe hm] at h
  have e1 := Int.mul_ediv_add_emod x m
  have e2 := Int.mul_ediv_add_emod y m
  rw [h] at e1
  have hq : x / m < y / m := by
    have : m * (x / m) < m * (y / m) := by omega
    exact Int.lt_of_mul_lt_mul_left this (by omega)
  have : m * (x / m) + m ≤ m * (y / m) := by
    have h1 : x / m + 1 ≤ y / m := by omega
    have := Int.mul_le_mul_of_nonneg_left h1 (show 0 ≤ m by omega)
    rw [Int.mul_add, Int.mul_one] at this
    exact this
  omega
theorem up_b {x m r : Int} (hm : 1 ≤ m) : x ≤ upR r m x ∧ upR r m x < x + m := by
  have := fm_r (x := r - x) (m := m) (by omega)
  unfold upR; omega
theorem dn_b {x m r : Int} (hm : 1 ≤ m) : dnR r m x ≤ x ∧ x < dnR r m x + m := by
  have := fm_r (x := x - r) (m := m) (by omega)
  unfold dnR; omega
theorem up_le {x y m r : Int} (hm : 1 ≤ m) (r0 : 0 ≤ r) (r1 : r < m) (h : x ≤ y) (hy : y.fmod m = r) : upR r m x ≤ y := by
  have b := up_b (x := x) (r := r) hm
  have e := up_mod (x := x) hm r0 r1
  by_cases l : y < upR r m x
  · have := apart hm (hy.trans e.symm) l
    omega
  · omega
theorem dn_ge {x y m r : Int} (hm : 1 ≤ m) (r0 : 0 ≤ r) (r1 : r < m) (h : y ≤ x) (hy : y.fmod m = r) : y ≤ dnR r m x := by
  have b := dn_b (x := x) (r := r) hm
  have e := dn_mod (x := x) hm r0 r1
  by_cases l : dnR r m x < y
  · have := apart hm (e.trans hy.symm) l
    omega
  · omega
/-- what the widened value is -/
def dLo (l : Option Int) (m r : Int) : Option Int := if m = 0 then some r else l.map (upR r m)
def dHi (l : Option Int) (m r : Int) : Option Int := if m = 0 then some r else l.map (dnR r m)
theorem lw_le {x y : Int} (h : lwB (some x) (some y) = true) : y ≤ x := of_decide_eq_true h
theorem hw_le {x y : Int} (h : hwB (some x) (some y) = true) : x ≤ y := of_decide_eq_true h
section
variable {c d : Option Int} {m r : Int} (k : Ok c d m r)
include k
theorem dlo_in {l : Option Int} (h : lwB c l = true) : lwB c (dLo l m r) = true := by
  unfold dLo
  rcases k.h with ⟨rfl, rfl, rfl⟩ | ⟨hm, r0, r1, hc, hd, ho⟩
  · exact decide_eq_true (Int.le_refl _)
  · rw [if_neg (by omega)]
    cases l with
    | none => rfl
    | some x => cases c with
      | none => cases h
      | some y => exact decide_eq_true (up_le hm r0 r1 (lw_le h) (hc y rfl))
theorem dhi_in {l : Option Int} (h : hwB d l = true) : hwB d (dHi l m r) = true := by
  unfold dHi
  rcases k.h with ⟨rfl, rfl, rfl⟩ | ⟨hm, r0, r1, hc, hd, ho⟩
  · exact decide_eq_true (Int.le_refl _)
  · rw [if_neg (by omega)]
    cases l with
    | none => rfl
    | some x => cases d with
      | none => cases h
      | some y => exact decide_eq_true (dn_ge hm r0 r1 (hw_le h) (hd y rfl))
theorem d_ok {l u : Option Int} (h1 : lwB c l = true) (h2 : hwB d u = true) : Ok (dLo l m r) (dHi u m r) m r := by
  have e1 := dlo_in k h1
  have e2 := dhi_in k h2
  rcases k.h with ⟨rfl, rfl, rfl⟩ | ⟨hm, r0, r1, hc, hd, ho⟩
  · exact ⟨.inl ⟨rfl, rfl, rfl⟩⟩
  · refine ⟨.inr ⟨hm, r0, r1, ?_, ?_, ?_⟩⟩
    · intro x e
      unfold dLo at e
      rw [if_neg (by omega)] at e
      obtain ⟨y, _, rfl⟩ := Option.map_eq_some_iff.mp e
      exact up_mod hm r0 r1
    · intro x e
      unfold dHi at e
      rw [if_neg (by omega)] at e
      obtain ⟨y, _, rfl⟩ := Option.map_eq_some_iff.mp e
      exact dn_mod hm r0 r1
    · intro x y ex ey
      rw [ex] at e1; rw [ey] at e2
      cases c with
      | none => cases e1
      | some c' => cases d with
        | none => cases e2
        | some d' =>
          have := lw_le e1
          have := hw_le e2
          have := ho c' d' rfl rfl
          omega
theorem vo_d {l u : Option Int} (h1 : lwB c l = true) (h2 : hwB d u = true) : voD l u m r = vD (dLo l m r) (dHi u m r) m r ∧ setD l u m r = vD (dLo l m r) (dHi u m r) m r := by
  have o := d_ok k h1 h2
  rcases k.h with ⟨rfl, rfl, rfl⟩ | ⟨hm, r0, r1, hc, hd, ho⟩
  · refine ⟨?_, rfl⟩
    unfold voD
    rw [if_pos rfl, if_pos (show letsB l u r = true by unfold letsB; rw [h1, h2]; rfl)]
    rfl
  · have hm0 : ¬ m = 0 := by omega
    rcases o.h with ⟨e, _⟩ | ⟨_, _, _, _, _, lt⟩
    · omega
    · unfold voD setD
      unfold dLo dHi at *
      rw [if_neg hm0, if_neg hm0, if_neg hm0, if_neg hm0]
      rw [if_neg hm0, if_neg hm0] at lt
      cases hl : l.map (upR r m) with
      | none => exact ⟨rfl, rfl⟩
      | some x => cases hu : u.map (dnR r m) with
        | none => exact ⟨rfl, rfl⟩
        | some y =>
          have := lt x y hl hu
          dsimp only
          rw [if_neg (by omega), if_pos this]
          exact ⟨rfl, rfl⟩
end
/-- a value is as it is -/
theorem dlo_self {lo hi : Option Int} {m r : Int} (k : Ok lo hi m r) : dLo lo m r = lo ∧ dHi hi m r = hi := by
  unfold dLo dHi
  rcases k.h with ⟨rfl, rfl, rfl⟩ | ⟨hm, r0, r1, hc, hd, ho⟩
  · exact ⟨rfl, rfl⟩
  · rw [if_neg (by omega), if_neg (by omega)]
    constructor
    · cases lo with
      | none => rfl
      | some x => show some _ = _; rw [up_same hm (hc x rfl)]
    · cases hi with
      | none => rfl
      | some x => show some _ = _; rw [dn_same hm (hd x rfl)]
theorem lw_self {a : Option Int} : lwB a a = true := by cases a <;> simp [lwB]
theorem hw_self {a : Option Int} : hwB a a = true := by cases a <;> simp [hwB]
theorem ok_le {lo hi : Option Int} {m r x y : Int} (k : Ok lo hi m r) (h1 : lo = some x) (h2 : hi = some y) : x ≤ y := by
  rcases k.h with ⟨rfl, e, f⟩ | ⟨hm, r0, r1, hc, hd, ho⟩
  · rw [e] at h1; rw [f] at h2; cases h1; cases h2; exact Int.le_refl _
  · exact Int.le_of_lt (ho x y h1 h2)
/-! joins -/
theorem g3_dvd (a b c : Int) : g3 a b c ∣ a ∧ g3 a b c ∣ b ∧ g3 a b c ∣ c := by
  unfold g3
  refine ⟨?_, ?_, ?_⟩ <;> apply Int.natAbs_dvd_natAbs.mp <;> rw [Int.natAbs_natCast]
  · exact Nat.dvd_trans (Nat.gcd_dvd_left _ _) (Nat.gcd_dvd_left _ _)
  · exact Nat.dvd_trans (Nat.gcd_dvd_left _ _) (Nat.gcd_dvd_right _ _)
  · exact Nat.gcd_dvd_right _ _
theorem g3_nn (a b c : Int) : 0 ≤ g3 a b c := Int.natCast_nonneg _
theorem g3_zero {a b c : Int} (h : g3 a b c = 0) : a = 0 ∧ b = 0 ∧ c = 0 := by
  obtain ⟨h1, h2, h3⟩ := g3_dvd a b c
  rw [h] at h1 h2 h3
  exact ⟨Int.zero_dvd.mp h1, Int.zero_dvd.mp h2, Int.zero_dvd.mp h3⟩
theorem mod_trans {x r m g : Int} (hm : 1 ≤ m) (hg : 1 ≤ g) (h : x.fmod m = r) (d : g ∣ m) : x.fmod g = r.fmod g := by
  rw [fe hm] at h; rw [fe hg, fe hg]
  subst h
  exact (Int.emod_emod_of_dvd x d).symm
theorem mod_eq {x y g : Int} (hg : 1 ≤ g) (d : g ∣ x - y) : x.fmod g = y.fmod g := by
  rw [fe hg, fe hg]
  exact Int.emod_eq_emod_iff_emod_sub_eq_zero.mpr (Int.emod_eq_zero_of_dvd d)
theorem ok_mod {lo hi : Option Int} {m r x g : Int} (k : Ok lo hi m r) (hg : 1 ≤ g) (d : g ∣ m) (h : lo = some x ∨ hi = some x) : x.fmod g = r.fmod g := by
  rcases k.h with ⟨rfl, e, f⟩ | ⟨hm, r0, r1, hc, hd, ho⟩
  · rcases h with h | h
    · rw [e] at h; cases h; rfl
    · rw [f] at h; cases h; rfl
  · rcases h with h | h
    · exact mod_trans hm hg (hc x h) d
    · exact mod_trans hm hg (hd x h) d
theorem join_ok {a b c d : Option Int} {m r n s : Int} (k : Ok a b m r) (l : Ok c d n s) : ∃ m' r', restJ m r n s = (m', r') ∧ Ok (lowJ a c) (highJ b d) m' r' ∧ Sub m r m' r' := by
  by_cases h0 : g3 m n (r - s) = 0
  · obtain ⟨rfl, rfl, h⟩ := g3_zero h0
    refine ⟨0, r, by unfold restJ restOf; rw [if_pos h0], ⟨.inl ⟨rfl, ?_, ?_⟩⟩, .inl ⟨rfl, rfl, rfl⟩⟩
    all_goals
      rcases k.h with ⟨_, rfl, rfl⟩ | ⟨hm, _⟩
      · rcases l.h with ⟨_, rfl, rfl⟩ | ⟨hm, _⟩
        · have : s = r := by omega
          subst this
          simp [lowJ, highJ]
        · omega
      · omega
  · have hg : 1 ≤ g3 m n (r - s) := by have := g3_nn m n (r - s); omega
    obtain ⟨d1, d2, d3⟩ := g3_dvd m n (r - s)
    generalize hG : g3 m n (r - s) = g at *
    have er : r.fmod g = s.fmod g := mod_eq hg d3
    have bb := fm_r (x := r) (m := g) (by omega)
    have km : ∀ x, (a = some x ∨ b = some x) → x.fmod g = r.fmod g := fun x h => ok_mod k hg d1 h
    have lm : ∀ x, (c = some x ∨ d = some x) → x.fmod g = r.fmod g := fun x h => (ok_mod l hg d2 h).trans er.symm
    refine ⟨g, r.fmod g, by unfold restJ restOf; rw [hG, if_neg h0], ⟨.inr ⟨hg, bb.1, bb.2, ?_, ?_, ?_⟩⟩, .inr ⟨hg, ?_, rfl⟩⟩
    · intro x e
      cases a with
      | none => cases e
      | some a' => cases c with
        | none => cases e
        | some c' =>
          have e' : (if c' < a' then c' else a') = x := by injection e
          rw [← e']
          split
          · exact lm _ (.inl rfl)
          · exact km _ (.inl rfl)
    · intro x e
      cases b with
      | none => cases e
      | some a' => cases d with
        | none => cases e
        | some c' =>
          have e' : (if c' > a' then c' else a') = x := by injection e
          rw [← e']
          split
          · exact lm _ (.inr rfl)
          · exact km _ (.inr rfl)
    · intro x y ex ey
      cases a with
      | none => cases ex
      | some a' => cases c with
        | none => cases ex
        | some c' => cases b with
          | none => cases ey
          | some b' => cases d with
            | none => cases ey
            | some d' =>
              have e1 : (if c' < a' then c' else a') = x := by injection ex
              have e2 : (if d' > b' then d' else b') = y := by injection ey
              have o1 := ok_le k rfl rfl
              have o2 := ok_le l rfl rfl
              by_cases eq : a' = b' ∧ c' = d' ∧ a' = c'
              · exfalso
                obtain ⟨q1, q2, q3⟩ := eq
                rcases k.h with ⟨z1, z2, z3⟩ | ⟨hm, _, _, _, _, lt⟩
                · rcases l.h with ⟨w1, w2, w3⟩ | ⟨hm, _, _, _, _, lt⟩
                  · injection z2 with z2; injection w2 with w2
                    subst z1 w1
                    have : r - s = 0 := by omega
                    rw [this] at hG
                    exact h0 hG.symm
                  · have := lt c' d' rfl rfl; omega
                · have := lt a' b' rfl rfl; omega
              · split at e1 <;> split at e2 <;> omega
    · rw [fe hg]; exact Int.emod_eq_zero_of_dvd d1
end Sh
set_option Elab.async false
set_option linter.all false
set_option maxRecDepth 100000
set_option maxHeartbeats 4000000
namespace Sh
open PySem PySem.Spec PyProof.Rows L2
/-! arrays as pieces: up to an index, a value -/
abbrev VT := Option Int × Option Int × Int × Int
abbrev Pcs := List (Int × VT)
abbrev vT (v : VT) : Dt := vD v.1 v.2.1 v.2.2.1 v.2.2.2
abbrev pcT (P : Pcs) : Dt := .tup (P.map fun p => .tup [.int p.1, vT p.2])
def trD (t : Int × VT × VT) : Dt := .tup [.int t.1, vT t.2.1, vT t.2.2]
/-- both, cut where one of them is cut -/
inductive Al : Pcs → Pcs → List (Int × VT × VT) → Prop where
  | nil : Al [] [] []
  | eq {e : Int} {v w : VT} {P Q : Pcs} {R : List (Int × VT × VT)} : Al P Q R → Al ((e, v) :: P) ((e, w) :: Q) ((e, v, w) :: R)
  | lt {e f : Int} {v w : VT} {P Q : Pcs} {R : List (Int × VT × VT)} : e < f → Al P ((f, w) :: Q) R → Al ((e, v) :: P) ((f, w) :: Q) ((e, v, w) :: R)
  | gt {e f : Int} {v w : VT} {P Q : Pcs} {R : List (Int × VT × VT)} : f < e → Al ((e, v) :: P) Q R → Al ((e, v) :: P) ((f, w) :: Q) ((f, v, w) :: R)
theorem Al.len {P Q : Pcs} {R : List (Int × VT × VT)} (h : Al P Q R) : R.length ≤ P.length + Q.length := by
  induction h with
  | nil => exact Nat.le_refl _
  | eq _ ih => simp only [List.length_cons]; omega
  | lt _ _ ih => simp only [List.length_cons] at *; omega
  | gt _ _ ih => simp only [List.length_cons] at *; omega
/-- the same, in another form: of what is left of both -/
theorem pc_at {P : Pcs} {i : Nat} {e : Int} {v : VT} {P' : Pcs} (h : P.drop i = (e, v) :: P') : atI (P.map fun p => Dt.tup [.int p.1, vT p.2]) (i : Int) = some (.tup [.int e, vT v]) ∧ i < P.length ∧ P.drop (i + 1) = P' := by
  have hi : P[i]? = some (e, v) := by
    have := congrArg (fun l => l[0]?) h
    simpa using this
  have lt := (List.getElem?_eq_some_iff.mp hi).1
  refine ⟨atI_nat (j := i) (by rw [List.getElem?_map, hi]; rfl), lt, ?_⟩
  have := congrArg (List.drop 1) h
  rw [List.drop_drop] at this
  exact this
theorem drop_nil {P : Pcs} {i : Nat} (h : P.drop i = []) : P.length ≤ i := by
  have := congrArg List.length h
  rw [List.length_drop, List.length_nil] at this
  omega
end Sh
set_option Elab.async false
set_option linter.all false
set_option maxRecDepth 100000
set_option maxHeartbeats 4000000
namespace Sh
open PySem PySem.Spec PyProof.Rows L2
abbrev s_aligned : Stmt := topS 41
abbrev N_aligned : List Str := ["one", "other", "found", "i", "j", "left", "right", "end"]
abbrev p_aligned : List Str := ["one", "other"]
theorem sc_aligned : FnScope N_aligned p_aligned (defScope s_aligned) := ⟨rfl, rfl, rfl, by decide +kernel, rfl, by decide +kernel, by decide +kernel⟩
def S_al (ds : List Dt) (res : Dt) : Prop := ∃ (d d' : Dt) (P Q : Pcs) (R : List (Int × VT × VT)), ds = [d, d'] ∧ (AsN 4 d ∧ d.tu = pcT P) ∧ (AsN 4 d' ∧ d'.tu = pcT Q) ∧ Al P Q R ∧ P.length + Q.length ≤ 9000 ∧ res = .lst (R.map trD)
section
variable {P : Program} {w : World} {K : PySem.W.Frag} {mg : Str → Option Value} {base : Heap}
theorem ok_aligned (bl : Blts mg) {g_as_tuples : Addr} {d_as_tuples : FuncData} (c_as_tuples : Cal P w K mg base 20 "as_tuples" p_as_tuples (spP K (S_as 4)) g_as_tuples d_as_tuples)  {f : Addr} {fd : FuncData} (F : Fun K "aligned" "aligned" s_aligned f fd) : FnOk P w K mg base CX0 21 f fd p_aligned (spP K (S_al)) := by
  refine okP F sc_aligned (fun ds r h => ?_) (fun cdv A outer s H E hr ds r h => ?_)
  · obtain ⟨d, d', P, Q, R, rfl, hd, hd', ha, hn, rfl⟩ := h
    rfl
  obtain ⟨d, d', P, Q, R, rfl, hd, hd', ha, hn, rfl⟩ := h
  refine ⟨_, (pss_cons (ps_par (i := 5) (j := 6) (by rfl) sc_aligned.nd rfl rfl (by decide) rfl rfl (pa_cons (pe_call c_as_tuples.ok (hr.mono (by decide)) rfl c_as_tuples.mg c_as_tuples.kp c_as_tuples.bi .nil pass0 (pa_cons (pv 0) pa_nil)) (pa_cons (pe_call c_as_tuples.ok (hr.mono (by decide)) rfl c_as_tuples.mg c_as_tuples.kp c_as_tuples.bi .nil pass0 (pa_cons (pv 1) pa_nil)) pa_nil)) (by rfl))
    (pss_cons (ps_set (i := 2) sc_aligned.nd rfl (by first | exact Or.inl rfl | exact Or.inr rfl) (pe_lst pa_nil))
    (pss_cons (ps_asg2 pe_int (pg_name (i := 3) sc_aligned.nd rfl (by first | exact Or.inl rfl | exact Or.inr rfl)) (pg_name (i := 4) sc_aligned.nd rfl (by first | exact Or.inl rfl | exact Or.inr rfl)))
    (pss_cons (ps_while PassesOwn.never (pt_cmpR op_lt (pv 3) (pe_callB call_len_seq rfl bl.len (by decide +kernel) (pa_cons (pv 5) pa_nil)) (nomark _)) (pss_cons (ps_set (i := 7) sc_aligned.nd rfl (by first | exact Or.inl rfl | exact Or.inr rfl) (pe_callB (call_min2 rfl) rfl bl.min (by decide +kernel) (pa_cons (pe_ix ix_seq (pe_ix ix_tup (pv 5) (pv 3) (fun _ _ => rfl)) pe_int (fun _ _ => rfl)) (pa_cons (pe_ix ix_seq (pe_ix ix_tup (pv 6) (pv 4) (fun _ _ => rfl)) pe_int (fun _ _ => rfl)) pa_nil))))
    (pss_cons (ps_expr (pe_bm PySem.F.plainAttrs_list PySem.F.slot_list_append PySem.F.type_list_append mt_append (pv 2) (pa_cons (pe_tup (pa_cons (pv 7) (pa_cons (pe_ix ix_seq (pe_ix ix_tup (pv 5) (pv 3) (fun _ _ => rfl)) pe_int (fun _ _ => rfl)) (pa_cons (pe_ix ix_seq (pe_ix ix_tup (pv 6) (pv 4) (fun _ _ => rfl)) pe_int (fun _ _ => rfl)) pa_nil)))) pa_nil)))
    (pss_cons (ps_if (pt_cmpR op_eq (pe_ix ix_seq (pe_ix ix_tup (pv 5) (pv 3) (fun _ _ => rfl)) pe_int (fun _ _ => rfl)) (pv 7) (nomark _)) (pss_one (ps_aug (i := 3) sc_aligned.nd rfl (.inl rfl) pe_int ip_add)) pss_nil)
    (pss_one (ps_if (pt_cmpR op_eq (pe_ix ix_seq (pe_ix ix_tup (pv 6) (pv 4) (fun _ _ => rfl)) pe_int (fun _ _ => rfl)) (pv 7) (nomark _)) (pss_one (ps_aug (i := 4) sc_aligned.nd rfl (.inl rfl) pe_int ip_add)) pss_nil))))))
    (pss_one (ps_ret (pv 2))))))), ?_⟩
  change AS K _ [En.da _, En.da _, En.no, En.no, En.no, En.no, En.no, En.no] _ _
  try simp only [cxOf_K]
  obtain ⟨ad, ed⟩ := hd
  obtain ⟨ad', ed'⟩ := hd'
  repeat' (first
    | with_reducible apply ae_call
    | (refine ⟨pcT P, ⟨d, rfl, ad, ed.symm⟩, ?_⟩)
    | (refine ⟨pcT Q, ⟨d', rfl, ad', ed'.symm⟩, ?_⟩)
    | with_reducible apply as_own
    | with_reducible apply as_asg2
    | with_reducible apply as_seq
    | with_reducible apply as_par
    | ((with_reducible apply ae_var); · rfl)
    | with_reducible apply ae_int
    | with_reducible apply aa_nil
    | with_reducible apply aa_cons
    | with_reducible apply ag_name
    | refine ⟨sz60 (Nat.le_of_ble_eq_true rfl), ?_⟩
    | refine ⟨_, _, rfl, ?_⟩
    | fail)
  refine as_while ⟨fun kk ρ => ∃ (i j : Nat) (done rest : List (Int × VT × VT)) (e0 e1 e7 : En), kk = (P.length - i) + (Q.length - j) ∧ i ≤ P.length ∧ Al (P.drop i) (Q.drop j) rest ∧ done ++ rest = R ∧ ρ = [e0, e1, .own (done.map trD), .da (.int ((i : Nat) : Int)), .da (.int ((j : Nat) : Int)), .da (pcT P), .da (pcT Q), e7], ⟨_, 0, 0, [], R, _, _, _, rfl, Nat.zero_le _, ha, rfl, rfl⟩, ?_⟩
  rintro kk ρ1 ⟨i, j, done, rest, e0, e1, e7, rfl, hi, hal, hR, rfl⟩
  have hRl := ha.len
  have hlen : done.length + rest.length = R.length := by rw [← hR, List.length_append]
  generalize hp : P.drop i = P' at hal
  generalize hq : Q.drop j = Q' at hal
  cases hal with
  | nil =>
    have iz := drop_nil hp
    have c0 : decide (((i : Nat) : Int) < (((P.map fun p => Dt.tup [.int p.1, vT p.2]).length : Nat) : Int)) = false := decide_eq_false (by rw [List.length_map]; omega)
    have hRR : R = done := by rw [← hR, List.append_nil]
    subst hRR
    repeat' (first
      | (refine ⟨_, rfl, ?_⟩; rw [c0]; refine ⟨fun hc => (nomatch hc), fun hc => ?_⟩)
      | with_reducible apply as_ret
      | ((with_reducible apply ae_var); · rfl)
      | with_reducible apply ae_op
      | with_reducible apply aa_nil
      | with_reducible apply aa_cons
      | with_reducible apply ae_cb
      | with_reducible apply at_test
      | with_reducible apply ar_I0b
      | with_reducible apply ac_lenT
      | fail)
    all_goals (refine ae_frz (i := 2) rfl ?_)
    repeat' (first
      | ((with_reducible apply ae_var); · rfl)
      | rfl
      | fail)
  | eq hh =>
    rename_i e v w Pn Qn Rn
    obtain ⟨x1, x2, x3⟩ := pc_at hp
    obtain ⟨y1, y2, y3⟩ := pc_at hq
    have c0 : decide (((i : Nat) : Int) < (((P.map fun p => Dt.tup [.int p.1, vT p.2]).length : Nat) : Int)) = true := decide_eq_true (by rw [List.length_map]; omega)
    have hmin : (if e < e then e else e) = e := by split <;> omega
    have t1 : decide (V.int e = V.int e) = true := decide_eq_true rfl
    have t2 : decide (V.int e = V.int e) = true := decide_eq_true rfl
    have hsz : (done.map trD).length < sizeLine := by rw [List.length_map, sizeLine_eq]; simp only [List.length_cons] at hlen; omega
    repeat' (first
      | (refine ⟨_, rfl, ?_⟩; rw [c0]; refine ⟨fun hc => ?_, fun hc => (nomatch hc)⟩)
      | (refine ⟨_, rfl, ?_⟩; rw [t1]; refine ⟨fun hc => ?_, fun hc => (nomatch hc)⟩)
      | (refine ar_ixT x1 ?_)
      | (refine ar_ixT y1 ?_)
      | (refine ac_min2 ?_; rw [hmin])
      | refine as_append ?_ ⟨_, rfl⟩
      | (refine ⟨_, rfl, hsz, ?_⟩)
      | (refine as_aug ?_ ⟨_, rfl⟩)
      | (refine ⟨_, _, rfl, rfl, ?_⟩)
      | (refine ⟨(P.length - (i + 1)) + (Q.length - (j + 1)), by omega, i + 1, j + 1, done ++ [(e, v, w)], Rn, e0, e1, .da (.int e), rfl, by omega, ?_, by rw [List.append_assoc]; exact hR, ?_⟩)
      | with_reducible apply as_seq
      | with_reducible apply as_if
      | with_reducible apply as_set
      | ((with_reducible apply ae_var); · rfl)
      | with_reducible apply ae_int
      | with_reducible apply ae_op
      | with_reducible apply aa_nil
      | with_reducible apply aa_cons
      | with_reducible apply ae_cb
      | with_reducible apply ae_tup
      | with_reducible apply at_test
      | with_reducible apply ar_I0b
      | ((with_reducible apply ar_ixTs); · rfl)
      | with_reducible apply ac_lenT
      | ((with_reducible apply ar_eq3); · exact ⟨rfl, rfl, rfl⟩)
      | refine ⟨sz60 (Nat.le_of_ble_eq_true rfl), ?_⟩
      | fail)
    all_goals first | (rw [x3, y3]; exact hh) | (rw [List.map_append]; rfl) | skip
  | lt hlt hh =>
    rename_i e f v w Pn Qn Rn
    obtain ⟨x1, x2, x3⟩ := pc_at hp
    obtain ⟨y1, y2, y3⟩ := pc_at hq
    have c0 : decide (((i : Nat) : Int) < (((P.map fun p => Dt.tup [.int p.1, vT p.2]).length : Nat) : Int)) = true := decide_eq_true (by rw [List.length_map]; omega)
    have hmin : (if f < e then f else e) = e := by split <;> omega
    have t1 : decide (V.int e = V.int e) = true := decide_eq_true rfl
    have t2 : decide (V.int f = V.int e) = false := decide_eq_false (fun z => by have := V.int.inj z; omega)
    have hsz : (done.map trD).length < sizeLine := by rw [List.length_map, sizeLine_eq]; simp only [List.length_cons] at hlen; omega
    repeat' (first
      | (refine ⟨_, rfl, ?_⟩; rw [c0]; refine ⟨fun hc => ?_, fun hc => (nomatch hc)⟩)
      | (refine ⟨_, rfl, ?_⟩; rw [t1]; refine ⟨fun hc => ?_, fun hc => (nomatch hc)⟩)
      | (refine ⟨_, rfl, ?_⟩; rw [t2]; refine ⟨fun hc => (nomatch hc), fun hc => ?_⟩)
      | (refine ar_ixT x1 ?_)
      | (refine ar_ixT y1 ?_)
      | (refine ac_min2 ?_; rw [hmin])
      | refine as_append ?_ ⟨_, rfl⟩
      | (refine ⟨_, rfl, hsz, ?_⟩)
      | (refine as_aug ?_ ⟨_, rfl⟩)
      | (refine ⟨_, _, rfl, rfl, ?_⟩)
      | (refine ⟨(P.length - (i + 1)) + (Q.length - (j)), by omega, i + 1, j, done ++ [(e, v, w)], Rn, e0, e1, .da (.int e), rfl, by omega, ?_, by rw [List.append_assoc]; exact hR, ?_⟩)
      | with_reducible apply as_seq
      | with_reducible apply as_next
      | with_reducible apply as_if
      | with_reducible apply as_set
      | ((with_reducible apply ae_var); · rfl)
      | with_reducible apply ae_int
      | with_reducible apply ae_op
      | with_reducible apply aa_nil
      | with_reducible apply aa_cons
      | with_reducible apply ae_cb
      | with_reducible apply ae_tup
      | with_reducible apply at_test
      | with_reducible apply ar_I0b
      | ((with_reducible apply ar_ixTs); · rfl)
      | with_reducible apply ac_lenT
      | ((with_reducible apply ar_eq3); · exact ⟨rfl, rfl, rfl⟩)
      | refine ⟨sz60 (Nat.le_of_ble_eq_true rfl), ?_⟩
      | fail)
    all_goals first | (rw [x3, hq]; exact hh) | (rw [List.map_append]; rfl) | skip
  | gt hlt hh =>
    rename_i e f v w Pn Qn Rn
    obtain ⟨x1, x2, x3⟩ := pc_at hp
    obtain ⟨y1, y2, y3⟩ := pc_at hq
    have c0 : decide (((i : Nat) : Int) < (((P.map fun p => Dt.tup [.int p.1, vT p.2]).length : Nat) : Int)) = true := decide_eq_true (by rw [List.length_map]; omega)
    have hmin : (if f < e then f else e) = f := by split <;> omega
    have t1 : decide (V.int e = V.int f) = false := decide_eq_false (fun z => by have := V.int.inj z; omega)
    have t2 : decide (V.int f = V.int f) = true := decide_eq_true rfl
    have hsz : (done.map trD).length < sizeLine := by rw [List.length_map, sizeLine_eq]; simp only [List.length_cons] at hlen; omega
    repeat' (first
      | (refine ⟨_, rfl, ?_⟩; rw [c0]; refine ⟨fun hc => ?_, fun hc => (nomatch hc)⟩)
      | (refine ⟨_, rfl, ?_⟩; rw [t1]; refine ⟨fun hc => (nomatch hc), fun hc => ?_⟩)
      | (refine ⟨_, rfl, ?_⟩; rw [t2]; refine ⟨fun hc => ?_, fun hc => (nomatch hc)⟩)
      | (refine ar_ixT x1 ?_)
      | (refine ar_ixT y1 ?_)
      | (refine ac_min2 ?_; rw [hmin])
      | refine as_append ?_ ⟨_, rfl⟩
      | (refine ⟨_, rfl, hsz, ?_⟩)
      | (refine as_aug ?_ ⟨_, rfl⟩)
      | (refine ⟨_, _, rfl, rfl, ?_⟩)
      | (refine ⟨(P.length - (i)) + (Q.length - (j + 1)), by omega, i, j + 1, done ++ [(f, v, w)], Rn, e0, e1, .da (.int f), rfl, by omega, ?_, by rw [List.append_assoc]; exact hR, ?_⟩)
      | with_reducible apply as_seq
      | with_reducible apply as_next
      | with_reducible apply as_if
      | with_reducible apply as_set
      | ((with_reducible apply ae_var); · rfl)
      | with_reducible apply ae_int
      | with_reducible apply ae_op
      | with_reducible apply aa_nil
      | with_reducible apply aa_cons
      | with_reducible apply ae_cb
      | with_reducible apply ae_tup
      | with_reducible apply at_test
      | with_reducible apply ar_I0b
      | ((with_reducible apply ar_ixTs); · rfl)
      | with_reducible apply ac_lenT
      | ((with_reducible apply ar_eq3); · exact ⟨rfl, rfl, rfl⟩)
      | refine ⟨sz60 (Nat.le_of_ble_eq_true rfl), ?_⟩
      | fail)
    all_goals first | (rw [hp, y3]; exact hh) | (rw [List.map_append]; rfl) | skip
end
end Sh
set_option Elab.async false
set_option linter.all false
set_option maxRecDepth 100000
set_option maxHeartbeats 4000000
namespace Sh
open PySem PySem.Spec PyProof.Rows L2
abbrev s_merged : Stmt := topS 40
abbrev N_merged : List Str := ["pairs", "found", "end", "value"]
abbrev p_merged : List Str := ["pairs"]
theorem sc_merged : FnScope N_merged p_merged (defScope s_merged) := ⟨rfl, rfl, rfl, by decide +kernel, rfl, by decide +kernel, by decide +kernel⟩
abbrev pT (p : Int × VT) : Dt := .tup [.int p.1, vT p.2]
def eO : Option Int → Option Int → Bool
  | some x, some y => decide (x = y)
  | none, none => true
  | _, _ => false
theorem eqv_v (v w : VT) : PyData.eqv (vT v).pd (vT w).pd = decide (v = w) := by
  obtain ⟨a, b, m, r⟩ := v
  obtain ⟨a', b', m', r'⟩ := w
  have h : PyData.eqv (vT (a, b, m, r)).pd (vT (a', b', m', r')).pd = (eO a a' && (eO b b' && (decide (m = m') && (decide (r = r') && true)))) := by
    cases a <;> cases a' <;> cases b <;> cases b' <;> rfl
  rw [h]
  have o : ∀ x y : Option Int, eO x y = true ↔ x = y := fun x y => by cases x <;> cases y <;> simp [eO]
  rw [Bool.eq_iff_iff]
  simp only [Bool.and_eq_true, o, decide_eq_true_eq, and_true, Prod.mk.injEq]
theorem sh_v (v : VT) : (vT v).pl = true ∧ SeqAt.shaped (vT v).pd = true := by
  obtain ⟨a, b, m, r⟩ := v
  cases a <;> cases b <;> exact ⟨rfl, rfl⟩
theorem ar_eqV {K : PySem.W.Frag} {Φ : Dt → Prop} {v w : VT} (h : Φ (.bl (decide (v = w)))) : AR K (rEqD K) (vT v) (vT w) Φ := ar_eqD (sh_v v).1 (sh_v w).1 (sh_v v).2 (sh_v w).2 (by rw [eqv_v]; exact h)
/-- neighbours of one value as one piece -/
def mgP (acc : Pcs) (p : Int × VT) : Pcs := if acc.getLast?.map (·.2) = some p.2 then acc.dropLast ++ [p] else acc ++ [p]
def mgd (L : Pcs) : Pcs := L.foldl mgP []
theorem mgd_snoc {L : Pcs} {p : Int × VT} : mgd (L ++ [p]) = mgP (mgd L) p := by unfold mgd; rw [List.foldl_append]; rfl
theorem mgP_len {acc : Pcs} {p : Int × VT} : (mgP acc p).length ≤ acc.length + 1 := by
  unfold mgP
  split
  · rw [List.length_append, List.length_dropLast]; show _ + 1 ≤ _; omega
  · rw [List.length_append]; exact Nat.le_refl _
theorem mgd_len : ∀ n (L : Pcs), L.length = n → (mgd L).length ≤ n
  | 0, L, h => by cases L with | nil => exact Nat.le_refl _ | cons a L => cases h
  | n + 1, L, h => by
    have e : L = L.dropLast ++ [L.getLast (fun z => by rw [z] at h; cases h)] := (List.dropLast_concat_getLast _).symm
    rw [e, mgd_snoc]
    have := @mgP_len (mgd L.dropLast) (L.getLast (fun z => by rw [z] at h; cases h))
    have := mgd_len n L.dropLast (by rw [List.length_dropLast]; omega)
    omega
def S_mg (ds : List Dt) (res : Dt) : Prop := ∃ L : Pcs, ds = [.lst (L.map pT)] ∧ L.length ≤ 9000 ∧ res = pcT (mgd L)
theorem at_last {l : List Dt} {d : Dt} : atI (l ++ [d]) (-1) = some d := by
  have e3 : ixN (l ++ [d]).length (-1) = some l.length := by
    rw [List.length_append, List.length_singleton]
    unfold ixN
    rw [if_neg (by omega), if_pos (by omega)]
    congr 1; omega
  unfold atI
  rw [e3]
  show (l ++ [d])[l.length]? = _
  rw [List.getElem?_concat_length]
section
variable {P : Program} {w : World} {K : PySem.W.Frag} {mg : Str → Option Value} {base : Heap}
theorem ok_merged (bl : Blts mg)   {f : Addr} {fd : FuncData} (F : Fun K "merged" "merged" s_merged f fd) : FnOk P w K mg base CX0 1 f fd p_merged (spP K (S_mg)) := by
  refine okP F sc_merged (fun ds r h => ?_) (fun cdv A outer s H E hr ds r h => ?_)
  · obtain ⟨L, rfl, hl, rfl⟩ := h
    rfl
  obtain ⟨L, rfl, hl, rfl⟩ := h
  refine ⟨_, (pss_cons (ps_set (i := 1) sc_merged.nd rfl (by first | exact Or.inl rfl | exact Or.inr rfl) (pe_lst pa_nil))
    (pss_cons (ps_for PassesOwn.never rfl (pi_list (pv 0)) (pg_tup rfl (pgs_cons (pg_name (i := 2) sc_merged.nd rfl (by first | exact Or.inl rfl | exact Or.inr rfl)) (pgs_cons (pg_name (i := 3) sc_merged.nd rfl (by first | exact Or.inl rfl | exact Or.inr rfl)) pgs_nil))) (pss_cons (ps_if (PW.pt (pw_and (pt_truth (pv 1) (fun _ => rfl)) (pw_and1 (pt_cmpR (op_eqD hr.units) (pe_ix ix_seq (pe_ix ix_list (pv 1) (pe_un un_neg pe_int) (fun _ _ => rfl)) pe_int (fun _ _ => rfl)) (pv 3) (nomark _))))) (pss_one (ps_expr (pe_bm0 PySem.F.plainAttrs_list PySem.F.slot_list_pop PySem.F.type_list_pop mt_pop (pv 1)))) pss_nil)
    (pss_one (ps_expr (pe_bm PySem.F.plainAttrs_list PySem.F.slot_list_append PySem.F.type_list_append mt_append (pv 1) (pa_cons (pe_tup (pa_cons (pv 2) (pa_cons (pv 3) pa_nil))) pa_nil))))))
    (pss_one (ps_ret (pe_callTy call_tuple_of rfl bl.tuple (by decide +kernel) (pa_cons (pv 1) pa_nil)))))), ?_⟩
  change AS K _ [En.da _, En.no, En.no, En.no] _ _
  try simp only [cxOf_K]
  repeat' (first
    | with_reducible apply as_own
    | with_reducible apply as_seq
    | with_reducible apply aa_nil
    | refine ⟨sz60 (Nat.le_of_ble_eq_true rfl), ?_⟩
    | fail)
  refine as_for ?_
  refine ai_list ?_
  repeat' (first
    | ((with_reducible apply ae_var); · rfl)
    | refine ⟨_, rfl, ?_⟩
    | fail)
  refine ⟨fun i ρ => ∃ e2 e3 : En, ρ = [.da (.lst (L.map pT)), .own ((mgd (L.take i)).map pT), e2, e3], ⟨_, _, rfl⟩, ?_, ?_⟩
  · rintro i dd ρ hi ⟨e2, e3, rfl⟩
    rw [List.getElem?_map] at hi
    obtain ⟨⟨x, v⟩, hx, rfl⟩ := Option.map_eq_some_iff.mp hi
    have htk : L.take (i + 1) = L.take i ++ [(x, v)] := by rw [List.take_add_one, hx]; rfl
    have hl9 : (mgd (L.take i)).length ≤ 9000 := Nat.le_trans (mgd_len _ _ rfl) (by rw [List.length_take]; omega)
    dsimp only
    rw [htk, mgd_snoc]
    generalize mgd (L.take i) = acc at hl9
    rcases List.eq_nil_or_concat acc with rfl | ⟨acc', q, rfl⟩
    · have ef : mgP [] (x, v) = [(x, v)] := rfl
      rw [ef]
      repeat' (first
        | with_reducible apply ag_name
        | (refine at_truOwn (i := 1) rfl ?_)
        | (refine ⟨_, rfl, (by rw [sizeLine_eq]; decide), ?_⟩)
        | refine as_append ?_ ⟨_, rfl⟩
        | exact ⟨_, _, rfl⟩
        | (refine ⟨fun hc => (nomatch hc), fun hc => ?_⟩)
        | with_reducible apply as_seq
        | with_reducible apply as_next
        | with_reducible apply as_if
        | ((with_reducible apply ae_var); · rfl)
        | with_reducible apply aa_nil
        | with_reducible apply aa_cons
        | with_reducible apply ae_tup
        | with_reducible apply at_and
        | with_reducible apply ags_nil
        | with_reducible apply ags_cons
        | ((with_reducible apply ag_tup); · rfl)
        | refine ⟨sz60 (Nat.le_of_ble_eq_true rfl), ?_⟩
        | fail)
    · obtain ⟨f, w⟩ := q
      rw [List.concat_eq_append] at hl9 ⊢
      have em : (acc' ++ [(f, w)]).map pT = acc'.map pT ++ [pT (f, w)] := by rw [List.map_append]; rfl
      rw [em]
      have hne : (!(acc'.map pT ++ [pT (f, w)]).isEmpty) = true := by cases acc' <;> rfl
      rw [List.length_append, List.length_singleton] at hl9
      have hal := @at_last (acc'.map pT) (pT (f, w))
      have s1 : (acc'.map pT).length < sizeLine := by rw [List.length_map, sizeLine_eq]; omega
      have s2 : (acc'.map pT ++ [pT (f, w)]).length < sizeLine := by rw [List.length_append, List.length_map, List.length_singleton, sizeLine_eq]; omega
      by_cases hw : w = v
      · have hd : decide (w = v) = true := decide_eq_true hw
        have ef : (mgP (acc' ++ [(f, w)]) (x, v)).map pT = acc'.map pT ++ [pT (x, v)] := by
          unfold mgP
          rw [if_pos (by rw [List.getLast?_concat, hw]; rfl), List.dropLast_concat, List.map_append]; rfl
        rw [ef]
        repeat' (first
          | with_reducible apply ag_name
          | (refine ae_ixOwn (i := 1) ⟨_, rfl⟩ ?_)
          | (refine ⟨_, _, _, rfl, rfl, hal, ?_⟩)
          | (refine at_truOwn (i := 1) rfl ?_; rw [hne])
          | (refine ar_eqV ?_)
          | (refine ⟨_, rfl, s1, ?_⟩)
          | (refine ⟨_, rfl, ?_⟩; rw [hd]; refine ⟨fun hc => ?_, fun hc => (nomatch hc)⟩)
          | (refine as_pop (i := 1) rfl ?_)
          | refine as_append ?_ ⟨_, rfl⟩
          | exact ⟨_, _, rfl⟩
          | with_reducible apply as_seq
          | with_reducible apply as_if
          | ((with_reducible apply ae_var); · rfl)
          | with_reducible apply ae_int
          | with_reducible apply ae_op
          | with_reducible apply ae_un
          | with_reducible apply aa_nil
          | with_reducible apply aa_cons
          | with_reducible apply ae_tup
          | with_reducible apply at_test
          | with_reducible apply at_and
          | with_reducible apply au_Ui
          | ((with_reducible apply ar_ixTs); · rfl)
          | with_reducible apply ags_nil
          | with_reducible apply ags_cons
          | ((with_reducible apply ag_tup); · rfl)
          | refine ⟨sz60 (Nat.le_of_ble_eq_true rfl), ?_⟩
          | (refine ⟨fun hc => ?_, fun hc => ?_⟩ <;> (first | (exfalso; exact absurd (show false = true from hc) (by decide)) | (exfalso; exact absurd (show true = false from hc) (by decide)) | (exfalso; simp at hc; done) | skip))
          | fail)
      · have hd : decide (w = v) = false := decide_eq_false hw
        have ef : (mgP (acc' ++ [(f, w)]) (x, v)).map pT = acc'.map pT ++ [pT (f, w)] ++ [pT (x, v)] := by
          unfold mgP
          rw [if_neg (by rw [List.getLast?_concat]; exact fun z => hw (Option.some.inj z)), List.map_append, em]; rfl
        rw [ef]
        repeat' (first
          | with_reducible apply ag_name
          | (refine ae_ixOwn (i := 1) ⟨_, rfl⟩ ?_)
          | (refine ⟨_, _, _, rfl, rfl, hal, ?_⟩)
          | (refine at_truOwn (i := 1) rfl ?_; rw [hne])
          | (refine ar_eqV ?_)
          | (refine ⟨_, rfl, s2, ?_⟩)
          | (refine ⟨_, rfl, ?_⟩; rw [hd]; refine ⟨fun hc => (nomatch hc), fun hc => ?_⟩)
          | refine as_append ?_ ⟨_, rfl⟩
          | exact ⟨_, _, rfl⟩
          | with_reducible apply as_seq
          | with_reducible apply as_next
          | with_reducible apply as_if
          | ((with_reducible apply ae_var); · rfl)
          | with_reducible apply ae_int
          | with_reducible apply ae_op
          | with_reducible apply ae_un
          | with_reducible apply aa_nil
          | with_reducible apply aa_cons
          | with_reducible apply ae_tup
          | with_reducible apply at_test
          | with_reducible apply at_and
          | with_reducible apply au_Ui
          | ((with_reducible apply ar_ixTs); · rfl)
          | with_reducible apply ags_nil
          | with_reducible apply ags_cons
          | ((with_reducible apply ag_tup); · rfl)
          | refine ⟨sz60 (Nat.le_of_ble_eq_true rfl), ?_⟩
          | (refine ⟨fun hc => ?_, fun hc => ?_⟩ <;> (first | (exfalso; exact absurd (show false = true from hc) (by decide)) | (exfalso; exact absurd (show true = false from hc) (by decide)) | (exfalso; simp at hc; done) | skip))
          | fail)
  · rintro ρ ⟨e2, e3, rfl⟩
    rw [List.length_map, List.take_length]
    refine as_frz (i := 1) rfl ?_
    repeat' (first
      | with_reducible apply as_ret
      | ((with_reducible apply ae_var); · rfl)
      | with_reducible apply aa_nil
      | with_reducible apply aa_cons
      | with_reducible apply ae_cb
      | with_reducible apply ac_tupL
      | rfl
      | fail)
end
end Sh
set_option Elab.async false
set_option linter.all false
set_option maxRecDepth 100000
set_option maxHeartbeats 4000000
namespace Sh
open PySem PySem.Spec PyProof.Rows L2
def S2 (g : Option Int → Option Int → Option Int) (ds : List Dt) (r : Dt) : Prop := ∃ a b, ds = [oD a, oD b] ∧ r = oD (g a b)
def S2b (g : Option Int → Option Int → Bool) (ds : List Dt) (r : Dt) : Prop := ∃ a b, ds = [oD a, oD b] ∧ r = .bl (g a b)
def S_lets (ds : List Dt) (r : Dt) : Prop := ∃ a b n, ds = [oD a, oD b, .int n] ∧ r = .bl (letsB a b n)
def S_sj (ds : List Dt) (r : Dt) : Prop := ∃ k k' a b c d, ds = [sq k [oD a, oD b], sq k' [oD c, oD d]] ∧ r = .tup [oD (lowJ a c), oD (highJ b d)]
def S_ro (ds : List Dt) (res : Dt) : Prop := ∃ m n : Int, ds = [.int m, .int n] ∧ res = pD (restOf m n)
def S_rj (ds : List Dt) (res : Dt) : Prop := ∃ k k', ∃ m r n s : Int, ds = [sq k [.int m, .int r], sq k' [.int n, .int s]] ∧ res = pD (restJ m r n s)
def S_has (ds : List Dt) (res : Dt) : Prop := ∃ k, ∃ m r n : Int, ds = [sq k [.int m, .int r], .int n] ∧ res = .bl (hasB m r n)
def S_rw (ds : List Dt) (res : Dt) : Prop := ∃ k k', ∃ m r n s : Int, ds = [sq k [.int m, .int r], sq k' [.int n, .int s]] ∧ res = .bl (rwB m r n s)
def S_sing (ds : List Dt) (res : Dt) : Prop := ∃ n : Int, ds = [.int n] ∧ res = vD (some n) (some n) 0 n
def S_vo (ds : List Dt) (res : Dt) : Prop := ∃ lo hi, ∃ m r : Int, ds = [oD lo, oD hi, .int m, .int r] ∧ res = voD lo hi m r
def S_con (ds : List Dt) (res : Dt) : Prop := ∃ k lo hi, ∃ m r n : Int, ds = [sq k [oD lo, oD hi, .int m, .int r], .int n] ∧ res = .bl (letsB lo hi n && hasB m r n)
def S_vw (ds : List Dt) (res : Dt) : Prop := ∃ k k' a b c d, ∃ m r n s : Int, ds = [sq k [oD a, oD b, .int m, .int r], sq k' [oD c, oD d, .int n, .int s]] ∧ res = .bl (lwB a c && (hwB b d && rwB m r n s))
def S_vf (ds : List Dt) (res : Dt) : Prop := ∃ k k' a b, ∃ m r : Int, ds = [sq k [oD a, oD b], sq k' [.int m, .int r]] ∧ res = voD a b m r
def S_vj (ds : List Dt) (res : Dt) : Prop := ∃ k k' a b c d, ∃ m r n s : Int, ds = [sq k [oD a, oD b, .int m, .int r], sq k' [oD c, oD d, .int n, .int s]] ∧ res = voD (lowJ a c) (highJ b d) (restJ m r n s).1 (restJ m r n s).2
abbrev s_loosest_low : Stmt := topS 4
abbrev N_loosest_low : List Str := ["one", "other"]
abbrev p_loosest_low : List Str := ["one", "other"]
theorem sc_loosest_low : FnScope N_loosest_low p_loosest_low (defScope s_loosest_low) := ⟨rfl, rfl, rfl, by decide +kernel, rfl, by decide +kernel, by decide +kernel⟩
abbrev s_loosest_high : Stmt := topS 6
abbrev N_loosest_high : List Str := ["one", "other"]
abbrev p_loosest_high : List Str := ["one", "other"]
theorem sc_loosest_high : FnScope N_loosest_high p_loosest_high (defScope s_loosest_high) := ⟨rfl, rfl, rfl, by decide +kernel, rfl, by decide +kernel, by decide +kernel⟩
abbrev s_low_within : Stmt := topS 8
abbrev N_low_within : List Str := ["one", "other"]
abbrev p_low_within : List Str := ["one", "other"]
theorem sc_low_within : FnScope N_low_within p_low_within (defScope s_low_within) := ⟨rfl, rfl, rfl, by decide +kernel, rfl, by decide +kernel, by decide +kernel⟩
abbrev s_high_within : Stmt := topS 9
abbrev N_high_within : List Str := ["one", "other"]
abbrev p_high_within : List Str := ["one", "other"]
theorem sc_high_within : FnScope N_high_within p_high_within (defScope s_high_within) := ⟨rfl, rfl, rfl, by decide +kernel, rfl, by decide +kernel, by decide +kernel⟩
abbrev s_lets_in : Stmt := topS 10
abbrev N_lets_in : List Str := ["low", "high", "n"]
abbrev p_lets_in : List Str := ["low", "high", "n"]
theorem sc_lets_in : FnScope N_lets_in p_lets_in (defScope s_lets_in) := ⟨rfl, rfl, rfl, by decide +kernel, rfl, by decide +kernel, by decide +kernel⟩
abbrev s_rest_of : Stmt := topS 14
abbrev N_rest_of : List Str := ["m", "n"]
abbrev p_rest_of : List Str := ["m", "n"]
theorem sc_rest_of : FnScope N_rest_of p_rest_of (defScope s_rest_of) := ⟨rfl, rfl, rfl, by decide +kernel, rfl, by decide +kernel, by decide +kernel⟩
abbrev s_rest_join : Stmt := topS 12
abbrev N_rest_join : List Str := ["one", "other", "m", "r", "n", "s"]
abbrev p_rest_join : List Str := ["one", "other"]
theorem sc_rest_join : FnScope N_rest_join p_rest_join (defScope s_rest_join) := ⟨rfl, rfl, rfl, by decide +kernel, rfl, by decide +kernel, by decide +kernel⟩
abbrev s_rest_has : Stmt := topS 15
abbrev N_rest_has : List Str := ["rest", "n", "m", "r"]
abbrev p_rest_has : List Str := ["rest", "n"]
theorem sc_rest_has : FnScope N_rest_has p_rest_has (defScope s_rest_has) := ⟨rfl, rfl, rfl, by decide +kernel, rfl, by decide +kernel, by decide +kernel⟩
abbrev s_rest_within : Stmt := topS 16
abbrev N_rest_within : List Str := ["one", "other"]
abbrev p_rest_within : List Str := ["one", "other"]
theorem sc_rest_within : FnScope N_rest_within p_rest_within (defScope s_rest_within) := ⟨rfl, rfl, rfl, by decide +kernel, rfl, by decide +kernel, by decide +kernel⟩
abbrev s_span_join : Stmt := topS 19
abbrev N_span_join : List Str := ["one", "other"]
abbrev p_span_join : List Str := ["one", "other"]
theorem sc_span_join : FnScope N_span_join p_span_join (defScope s_span_join) := ⟨rfl, rfl, rfl, by decide +kernel, rfl, by decide +kernel, by decide +kernel⟩
abbrev s_single : Stmt := topS 22
abbrev N_single : List Str := ["n"]
abbrev p_single : List Str := ["n"]
theorem sc_single : FnScope N_single p_single (defScope s_single) := ⟨rfl, rfl, rfl, by decide +kernel, rfl, by decide +kernel, by decide +kernel⟩
abbrev s_value_of : Stmt := topS 23
abbrev N_value_of : List Str := ["low", "high", "m", "r"]
abbrev p_value_of : List Str := ["low", "high", "m", "r"]
theorem sc_value_of : FnScope N_value_of p_value_of (defScope s_value_of) := ⟨rfl, rfl, rfl, by decide +kernel, rfl, by decide +kernel, by decide +kernel⟩
abbrev s_contains : Stmt := topS 24
abbrev N_contains : List Str := ["value", "n"]
abbrev p_contains : List Str := ["value", "n"]
theorem sc_contains : FnScope N_contains p_contains (defScope s_contains) := ⟨rfl, rfl, rfl, by decide +kernel, rfl, by decide +kernel, by decide +kernel⟩
abbrev s_value_within : Stmt := topS 25
abbrev N_value_within : List Str := ["one", "other"]
abbrev p_value_within : List Str := ["one", "other"]
theorem sc_value_within : FnScope N_value_within p_value_within (defScope s_value_within) := ⟨rfl, rfl, rfl, by decide +kernel, rfl, by decide +kernel, by decide +kernel⟩
abbrev s_value_from : Stmt := topS 29
abbrev N_value_from : List Str := ["span", "rest"]
abbrev p_value_from : List Str := ["span", "rest"]
theorem sc_value_from : FnScope N_value_from p_value_from (defScope s_value_from) := ⟨rfl, rfl, rfl, by decide +kernel, rfl, by decide +kernel, by decide +kernel⟩
abbrev s_value_join : Stmt := topS 26
abbrev N_value_join : List Str := ["one", "other"]
abbrev p_value_join : List Str := ["one", "other"]
theorem sc_value_join : FnScope N_value_join p_value_join (defScope s_value_join) := ⟨rfl, rfl, rfl, by decide +kernel, rfl, by decide +kernel, by decide +kernel⟩
section
variable {P : Program} {w : World} {K : PySem.W.Frag} {mg : Str → Option Value} {base : Heap}
theorem ok_loosest_low (bl : Blts mg)   {f : Addr} {fd : FuncData} (F : Fun K "loosest_low" "loosest_low" s_loosest_low f fd) : FnOk P w K mg base CX0 1 f fd p_loosest_low (spP K (S2 lowJ)) := by
  refine okP F sc_loosest_low (fun ds r h => ?_) (fun cdv A outer s H E hr ds r h => ?_)
  · obtain ⟨a, b, rfl, rfl⟩ := h
    rfl
  obtain ⟨a, b, rfl, rfl⟩ := h
  refine ⟨_, (pss_cons (ps_if (PW.pt (pw_or (pt_cmpR op_isN (pv 0) pe_non (nomark _)) (pw_or1 (pt_cmpR op_isN (pv 1) pe_non (nomark _))))) (pss_one (ps_ret pe_non)) pss_nil)
    (pss_one (ps_ret (pe_callB (call_min2 rfl) rfl bl.min (by decide +kernel) (pa_cons (pv 0) (pa_cons (pv 1) pa_nil)))))), ?_⟩
  change AS K _ [En.da _, En.da _] _ _
  try simp only [cxOf_K]
  cases a <;> cases b
  all_goals
    repeat' (first
      | with_reducible apply as_seq
      | with_reducible apply as_ret
      | with_reducible apply as_next
      | with_reducible apply as_if
      | ((with_reducible apply ae_var); · rfl)
      | with_reducible apply ae_non
      | with_reducible apply ae_op
      | with_reducible apply aa_nil
      | with_reducible apply aa_cons
      | with_reducible apply ae_cb
      | with_reducible apply at_test
      | with_reducible apply at_or
      | with_reducible apply ar_isN
      | with_reducible apply ac_min2
      | refine ⟨_, rfl, ?_⟩
      | (refine ⟨fun hc => ?_, fun hc => ?_⟩ <;> (first | (exfalso; exact absurd (show false = true from hc) (by decide)) | (exfalso; exact absurd (show true = false from hc) (by decide)) | (exfalso; simp at hc; done) | skip))
      | rfl
      | simp only [oD_some, oD_none]
      | fail)
theorem ok_loosest_high (bl : Blts mg)   {f : Addr} {fd : FuncData} (F : Fun K "loosest_high" "loosest_high" s_loosest_high f fd) : FnOk P w K mg base CX0 1 f fd p_loosest_high (spP K (S2 highJ)) := by
  refine okP F sc_loosest_high (fun ds r h => ?_) (fun cdv A outer s H E hr ds r h => ?_)
  · obtain ⟨a, b, rfl, rfl⟩ := h
    rfl
  obtain ⟨a, b, rfl, rfl⟩ := h
  refine ⟨_, (pss_cons (ps_if (PW.pt (pw_or (pt_cmpR op_isN (pv 0) pe_non (nomark _)) (pw_or1 (pt_cmpR op_isN (pv 1) pe_non (nomark _))))) (pss_one (ps_ret pe_non)) pss_nil)
    (pss_one (ps_ret (pe_callB (call_max2 rfl) rfl bl.max (by decide +kernel) (pa_cons (pv 0) (pa_cons (pv 1) pa_nil)))))), ?_⟩
  change AS K _ [En.da _, En.da _] _ _
  try simp only [cxOf_K]
  cases a <;> cases b
  all_goals
    repeat' (first
      | with_reducible apply as_seq
      | with_reducible apply as_ret
      | with_reducible apply as_next
      | with_reducible apply as_if
      | ((with_reducible apply ae_var); · rfl)
      | with_reducible apply ae_non
      | with_reducible apply ae_op
      | with_reducible apply aa_nil
      | with_reducible apply aa_cons
      | with_reducible apply ae_cb
      | with_reducible apply at_test
      | with_reducible apply at_or
      | with_reducible apply ar_isN
      | with_reducible apply ac_max2
      | refine ⟨_, rfl, ?_⟩
      | (refine ⟨fun hc => ?_, fun hc => ?_⟩ <;> (first | (exfalso; exact absurd (show false = true from hc) (by decide)) | (exfalso; exact absurd (show true = false from hc) (by decide)) | (exfalso; simp at hc; done) | skip))
      | rfl
      | simp only [oD_some, oD_none]
      | fail)
theorem ok_low_within (bl : Blts mg)   {f : Addr} {fd : FuncData} (F : Fun K "low_within" "low_within" s_low_within f fd) : FnOk P w K mg base CX0 1 f fd p_low_within (spP K (S2b lwB)) := by
  refine okP F sc_low_within (fun ds r h => ?_) (fun cdv A outer s H E hr ds r h => ?_)
  · obtain ⟨a, b, rfl, rfl⟩ := h
    rfl
  obtain ⟨a, b, rfl, rfl⟩ := h
  refine ⟨_, (pss_one (ps_ret (pe_or (pe_cmpR op_isN (pv 1) pe_non (nomark _)) (pe_one (pe_and (pe_cmpR op_notN (pv 0) pe_non (nomark _)) (pe_one (pe_cmpR op_ge (pv 0) (pv 1) (nomark _)))))))), ?_⟩
  change AS K _ [En.da _, En.da _] _ _
  try simp only [cxOf_K]
  cases a <;> cases b
  all_goals
    repeat' (first
      | with_reducible apply as_ret
      | ((with_reducible apply ae_var); · rfl)
      | with_reducible apply ae_non
      | with_reducible apply ae_op
      | with_reducible apply ae_andV
      | with_reducible apply ae_orV
      | with_reducible apply ar_I0b
      | with_reducible apply ar_isN
      | with_reducible apply ar_notN
      | refine ⟨_, rfl, ?_⟩
      | (refine ⟨fun hc => ?_, fun hc => ?_⟩ <;> (first | (exfalso; exact absurd (show false = true from hc) (by decide)) | (exfalso; exact absurd (show true = false from hc) (by decide)) | (exfalso; simp at hc; done) | skip))
      | rfl
      | simp only [oD_some, oD_none]
      | fail)
theorem ok_high_within (bl : Blts mg)   {f : Addr} {fd : FuncData} (F : Fun K "high_within" "high_within" s_high_within f fd) : FnOk P w K mg base CX0 1 f fd p_high_within (spP K (S2b hwB)) := by
  refine okP F sc_high_within (fun ds r h => ?_) (fun cdv A outer s H E hr ds r h => ?_)
  · obtain ⟨a, b, rfl, rfl⟩ := h
    rfl
  obtain ⟨a, b, rfl, rfl⟩ := h
  refine ⟨_, (pss_one (ps_ret (pe_or (pe_cmpR op_isN (pv 1) pe_non (nomark _)) (pe_one (pe_and (pe_cmpR op_notN (pv 0) pe_non (nomark _)) (pe_one (pe_cmpR op_le (pv 0) (pv 1) (nomark _)))))))), ?_⟩
  change AS K _ [En.da _, En.da _] _ _
  try simp only [cxOf_K]
  cases a <;> cases b
  all_goals
    repeat' (first
      | with_reducible apply as_ret
      | ((with_reducible apply ae_var); · rfl)
      | with_reducible apply ae_non
      | with_reducible apply ae_op
      | with_reducible apply ae_andV
      | with_reducible apply ae_orV
      | with_reducible apply ar_I0b
      | with_reducible apply ar_isN
      | with_reducible apply ar_notN
      | refine ⟨_, rfl, ?_⟩
      | (refine ⟨fun hc => ?_, fun hc => ?_⟩ <;> (first | (exfalso; exact absurd (show false = true from hc) (by decide)) | (exfalso; exact absurd (show true = false from hc) (by decide)) | (exfalso; simp at hc; done) | skip))
      | rfl
      | simp only [oD_some, oD_none]
      | fail)
theorem ok_span_join (bl : Blts mg) {g_loosest_low : Addr} {d_loosest_low : FuncData} (c_loosest_low : Cal P w K mg base 1 "loosest_low" p_loosest_low (spP K (S2 lowJ)) g_loosest_low d_loosest_low) {g_loosest_high : Addr} {d_loosest_high : FuncData} (c_loosest_high : Cal P w K mg base 1 "loosest_high" p_loosest_high (spP K (S2 highJ)) g_loosest_high d_loosest_high)  {f : Addr} {fd : FuncData} (F : Fun K "span_join" "span_join" s_span_join f fd) : FnOk P w K mg base CX0 2 f fd p_span_join (spP K (S_sj)) := by
  refine okP F sc_span_join (fun ds r h => ?_) (fun cdv A outer s H E hr ds r h => ?_)
  · obtain ⟨k, k', a, b, c, d, rfl, rfl⟩ := h
    rfl
  obtain ⟨k, k', a, b, c, d, rfl, rfl⟩ := h
  refine ⟨_, (pss_one (ps_ret (pe_tup (pa_cons (pe_call c_loosest_low.ok (hr.mono (by decide)) rfl c_loosest_low.mg c_loosest_low.kp c_loosest_low.bi .nil pass0 (pa_cons (pe_ix ix_seq (pv 0) pe_int (fun _ _ => rfl)) (pa_cons (pe_ix ix_seq (pv 1) pe_int (fun _ _ => rfl)) pa_nil))) (pa_cons (pe_call c_loosest_high.ok (hr.mono (by decide)) rfl c_loosest_high.mg c_loosest_high.kp c_loosest_high.bi .nil pass0 (pa_cons (pe_ix ix_seq (pv 0) pe_int (fun _ _ => rfl)) (pa_cons (pe_ix ix_seq (pv 1) pe_int (fun _ _ => rfl)) pa_nil))) pa_nil))))), ?_⟩
  change AS K _ [En.da _, En.da _] _ _
  try simp only [cxOf_K]
  repeat' (first
    | with_reducible apply ae_call
    | (refine ⟨_, ⟨_, _, rfl, rfl⟩, ?_⟩)
    | with_reducible apply as_ret
    | ((with_reducible apply ae_var); · rfl)
    | with_reducible apply ae_int
    | with_reducible apply ae_op
    | with_reducible apply aa_nil
    | with_reducible apply aa_cons
    | with_reducible apply ae_tup
    | ((with_reducible apply ar_ix); · rfl)
    | refine ⟨sz60 (Nat.le_of_ble_eq_true rfl), ?_⟩
    | rfl
    | fail)
theorem ok_lets_in (bl : Blts mg) {g_low_within : Addr} {d_low_within : FuncData} (c_low_within : Cal P w K mg base 1 "low_within" p_low_within (spP K (S2b lwB)) g_low_within d_low_within) {g_high_within : Addr} {d_high_within : FuncData} (c_high_within : Cal P w K mg base 1 "high_within" p_high_within (spP K (S2b hwB)) g_high_within d_high_within)  {f : Addr} {fd : FuncData} (F : Fun K "lets_in" "lets_in" s_lets_in f fd) : FnOk P w K mg base CX0 2 f fd p_lets_in (spP K (S_lets)) := by
  refine okP F sc_lets_in (fun ds r h => ?_) (fun cdv A outer s H E hr ds r h => ?_)
  · obtain ⟨a, b, n, rfl, rfl⟩ := h
    rfl
  obtain ⟨a, b, n, rfl, rfl⟩ := h
  refine ⟨_, (pss_one (ps_ret (pe_and (pe_call c_low_within.ok (hr.mono (by decide)) rfl c_low_within.mg c_low_within.kp c_low_within.bi .nil pass0 (pa_cons (pv 2) (pa_cons (pv 0) pa_nil))) (pe_one (pe_call c_high_within.ok (hr.mono (by decide)) rfl c_high_within.mg c_high_within.kp c_high_within.bi .nil pass0 (pa_cons (pv 2) (pa_cons (pv 1) pa_nil))))))), ?_⟩
  change AS K _ [En.da _, En.da _, En.da _] _ _
  try simp only [cxOf_K]
  repeat' (first
    | with_reducible apply ae_call
    | (refine ⟨_, ⟨some _, _, rfl, rfl⟩, ?_⟩)
    | with_reducible apply as_ret
    | ((with_reducible apply ae_var); · rfl)
    | with_reducible apply aa_nil
    | with_reducible apply aa_cons
    | with_reducible apply ae_andV
    | refine ⟨_, rfl, ?_⟩
    | (refine ⟨fun hc => ?_, fun hc => ?_⟩ <;> (first | (exfalso; exact absurd (show false = true from hc) (by decide)) | (exfalso; exact absurd (show true = false from hc) (by decide)) | (exfalso; simp at hc; done) | skip))
    | fail)
  all_goals (unfold letsB; first | (rw [show lwB (some n) a = true from hc]; rfl) | (rw [show lwB (some n) a = false from hc]; rfl) | trace_state)
theorem ok_rest_of (bl : Blts mg)   {f : Addr} {fd : FuncData} (F : Fun K "rest_of" "rest_of" s_rest_of f fd) : FnOk P w K mg base CX0 1 f fd p_rest_of (spP K (S_ro)) := by
  refine okP F sc_rest_of (fun ds r h => ?_) (fun cdv A outer s H E hr ds r h => ?_)
  · obtain ⟨m, n, rfl, rfl⟩ := h
    rfl
  obtain ⟨m, n, rfl, rfl⟩ := h
  refine ⟨_, (pss_cons (ps_if (pt_cmpR op_eq (pv 0) pe_int (nomark _)) (pss_one (ps_ret (pe_tup (pa_cons pe_int (pa_cons (pv 1) pa_nil))))) pss_nil)
    (pss_one (ps_ret (pe_tup (pa_cons (pv 0) (pa_cons (pe_op op_modN (pv 1) (pv 0)) pa_nil)))))), ?_⟩
  change AS K _ [En.da _, En.da _] _ _
  try simp only [cxOf_K]
  by_cases h0 : m = 0
  · subst h0
    repeat' (first
      | with_reducible apply as_seq
      | with_reducible apply as_ret
      | with_reducible apply as_if
      | ((with_reducible apply ae_var); · rfl)
      | with_reducible apply ae_int
      | with_reducible apply ae_op
      | with_reducible apply aa_nil
      | with_reducible apply aa_cons
      | with_reducible apply ae_tup
      | with_reducible apply at_test
      | ((with_reducible apply ar_eq3); · exact ⟨rfl, rfl, rfl⟩)
      | refine ⟨sz60 (Nat.le_of_ble_eq_true rfl), ?_⟩
      | refine ⟨_, rfl, ?_⟩
      | (refine ⟨fun hc => ?_, fun hc => ?_⟩ <;> (first | (exfalso; exact absurd (show false = true from hc) (by decide)) | (exfalso; exact absurd (show true = false from hc) (by decide)) | (exfalso; simp at hc; done) | skip))
      | rfl
      | fail)
  · have hd : decide (V.int m = V.int 0) = false := decide_eq_false (fun z => h0 (by cases z; rfl))
    repeat' (first
      | (refine ⟨_, rfl, ?_⟩; rw [hd]; refine ⟨fun hc => (nomatch hc), fun hc => ?_⟩)
      | refine ar_Ii (C := fun _ j => j ≠ 0) (by first | assumption | omega) ?_
      | with_reducible apply as_seq
      | with_reducible apply as_ret
      | with_reducible apply as_next
      | with_reducible apply as_if
      | ((with_reducible apply ae_var); · rfl)
      | with_reducible apply ae_int
      | with_reducible apply ae_op
      | with_reducible apply aa_nil
      | with_reducible apply aa_cons
      | with_reducible apply ae_tup
      | with_reducible apply at_test
      | ((with_reducible apply ar_eq3); · exact ⟨rfl, rfl, rfl⟩)
      | refine ⟨sz60 (Nat.le_of_ble_eq_true rfl), ?_⟩
      | fail)
    all_goals (show _ = pD (restOf m n); unfold restOf; rw [if_neg h0])
theorem ok_rest_join (bl : Blts mg) {g_rest_of : Addr} {d_rest_of : FuncData} (c_rest_of : Cal P w K mg base 1 "rest_of" p_rest_of (spP K S_ro) g_rest_of d_rest_of) (hgcd : mg "gcd" = some (.builtin "math.gcd")) {f : Addr} {fd : FuncData} (F : Fun K "rest_join" "rest_join" s_rest_join f fd) : FnOk P w K mg base CX0 2 f fd p_rest_join (spP K (S_rj)) := by
  refine okP F sc_rest_join (fun ds r h => ?_) (fun cdv A outer s H E hr ds r h => ?_)
  · obtain ⟨k, k', m, r, n, s, rfl, rfl⟩ := h
    rfl
  obtain ⟨k, k', m, r, n, s, rfl, rfl⟩ := h
  refine ⟨_, (pss_cons (ps_asg (pv 0) (pg_or (pg_tup rfl (pgs_cons (pg_name (i := 2) sc_rest_join.nd rfl (by first | exact Or.inl rfl | exact Or.inr rfl)) (pgs_cons (pg_name (i := 3) sc_rest_join.nd rfl (by first | exact Or.inl rfl | exact Or.inr rfl)) pgs_nil))) (pg_unl rfl (pgs_cons (pg_name (i := 2) sc_rest_join.nd rfl (by first | exact Or.inl rfl | exact Or.inr rfl)) (pgs_cons (pg_name (i := 3) sc_rest_join.nd rfl (by first | exact Or.inl rfl | exact Or.inr rfl)) pgs_nil)))))
    (pss_cons (ps_asg (pv 1) (pg_or (pg_tup rfl (pgs_cons (pg_name (i := 4) sc_rest_join.nd rfl (by first | exact Or.inl rfl | exact Or.inr rfl)) (pgs_cons (pg_name (i := 5) sc_rest_join.nd rfl (by first | exact Or.inl rfl | exact Or.inr rfl)) pgs_nil))) (pg_unl rfl (pgs_cons (pg_name (i := 4) sc_rest_join.nd rfl (by first | exact Or.inl rfl | exact Or.inr rfl)) (pgs_cons (pg_name (i := 5) sc_rest_join.nd rfl (by first | exact Or.inl rfl | exact Or.inr rfl)) pgs_nil)))))
    (pss_one (ps_ret (pe_call c_rest_of.ok (hr.mono (by decide)) rfl c_rest_of.mg c_rest_of.kp c_rest_of.bi .nil pass0 (pa_cons (pe_callBfun cr_gcd3 rfl hgcd (pa_cons (pv 2) (pa_cons (pv 4) (pa_cons (pe_op op_sub (pv 3) (pv 5)) pa_nil)))) (pa_cons (pv 3) pa_nil))))))), ?_⟩
  change AS K _ [En.da _, En.da _, En.no, En.no, En.no, En.no] _ _
  try simp only [cxOf_K]
  repeat' (first
    | ((with_reducible apply ag_seq); · rfl)
    | with_reducible apply ae_call
    | (refine ⟨_, ⟨_, _, rfl, rfl⟩, ?_⟩)
    | with_reducible apply ac_gcd3
    | with_reducible apply as_seq
    | with_reducible apply as_ret
    | with_reducible apply as_asg
    | ((with_reducible apply ae_var); · rfl)
    | with_reducible apply ae_op
    | with_reducible apply aa_nil
    | with_reducible apply aa_cons
    | with_reducible apply ae_cb
    | with_reducible apply ar_I0i
    | with_reducible apply ag_name
    | with_reducible apply ags_nil
    | with_reducible apply ags_cons
    | rfl
    | fail)
theorem ok_rest_has (bl : Blts mg)   {f : Addr} {fd : FuncData} (F : Fun K "rest_has" "rest_has" s_rest_has f fd) : FnOk P w K mg base CX0 1 f fd p_rest_has (spP K (S_has)) := by
  refine okP F sc_rest_has (fun ds r h => ?_) (fun cdv A outer s H E hr ds r h => ?_)
  · obtain ⟨k, m, r, n, rfl, rfl⟩ := h
    rfl
  obtain ⟨k, m, r, n, rfl, rfl⟩ := h
  refine ⟨_, (pss_cons (ps_asg (pv 0) (pg_or (pg_tup rfl (pgs_cons (pg_name (i := 2) sc_rest_has.nd rfl (by first | exact Or.inl rfl | exact Or.inr rfl)) (pgs_cons (pg_name (i := 3) sc_rest_has.nd rfl (by first | exact Or.inl rfl | exact Or.inr rfl)) pgs_nil))) (pg_unl rfl (pgs_cons (pg_name (i := 2) sc_rest_has.nd rfl (by first | exact Or.inl rfl | exact Or.inr rfl)) (pgs_cons (pg_name (i := 3) sc_rest_has.nd rfl (by first | exact Or.inl rfl | exact Or.inr rfl)) pgs_nil)))))
    (pss_cons (ps_if (pt_cmpR op_eq (pv 2) pe_int (nomark _)) (pss_one (ps_ret (pe_cmpR op_eq (pv 1) (pv 3) (nomark _)))) pss_nil)
    (pss_one (ps_ret (pe_cmpR op_eq (pe_op op_modN (pv 1) (pv 2)) (pv 3) (nomark _)))))), ?_⟩
  change AS K _ [En.da _, En.da _, En.no, En.no] _ _
  try simp only [cxOf_K]
  by_cases h0 : m = 0
  · subst h0
    repeat' (first
      | ((with_reducible apply ag_seq); · rfl)
      | with_reducible apply as_seq
      | with_reducible apply as_ret
      | with_reducible apply as_if
      | with_reducible apply as_asg
      | ((with_reducible apply ae_var); · rfl)
      | with_reducible apply ae_int
      | with_reducible apply ae_op
      | with_reducible apply at_test
      | ((with_reducible apply ar_eq3); · exact ⟨rfl, rfl, rfl⟩)
      | with_reducible apply ag_name
      | with_reducible apply ags_nil
      | with_reducible apply ags_cons
      | refine ⟨_, rfl, ?_⟩
      | (refine ⟨fun hc => ?_, fun hc => ?_⟩ <;> (first | (exfalso; exact absurd (show false = true from hc) (by decide)) | (exfalso; exact absurd (show true = false from hc) (by decide)) | (exfalso; simp at hc; done) | skip))
      | fail)
    all_goals simp [hasB]
  · have hd : decide (V.int m = V.int 0) = false := decide_eq_false (fun z => h0 (by cases z; rfl))
    repeat' (first
      | ((with_reducible apply ag_seq); · rfl)
      | (refine ⟨_, rfl, ?_⟩; rw [hd]; refine ⟨fun hc => (nomatch hc), fun hc => ?_⟩)
      | refine ar_Ii (C := fun _ j => j ≠ 0) (by first | assumption | omega) ?_
      | with_reducible apply as_seq
      | with_reducible apply as_ret
      | with_reducible apply as_next
      | with_reducible apply as_if
      | with_reducible apply as_asg
      | ((with_reducible apply ae_var); · rfl)
      | with_reducible apply ae_int
      | with_reducible apply ae_op
      | with_reducible apply at_test
      | ((with_reducible apply ar_eq3); · exact ⟨rfl, rfl, rfl⟩)
      | with_reducible apply ag_name
      | with_reducible apply ags_nil
      | with_reducible apply ags_cons
      | fail)
    all_goals simp [hasB, h0]
theorem ok_rest_within (bl : Blts mg) {g_rest_has : Addr} {d_rest_has : FuncData} (c_rest_has : Cal P w K mg base 1 "rest_has" p_rest_has (spP K S_has) g_rest_has d_rest_has)  {f : Addr} {fd : FuncData} (F : Fun K "rest_within" "rest_within" s_rest_within f fd) : FnOk P w K mg base CX0 2 f fd p_rest_within (spP K (S_rw)) := by
  refine okP F sc_rest_within (fun ds r h => ?_) (fun cdv A outer s H E hr ds r h => ?_)
  · obtain ⟨k, k', m, r, n, s, rfl, rfl⟩ := h
    rfl
  obtain ⟨k, k', m, r, n, s, rfl, rfl⟩ := h
  refine ⟨_, (pss_cons (ps_if (pt_cmpR op_eq (pe_ix ix_seq (pv 1) pe_int (fun _ _ => rfl)) pe_int (nomark _)) (pss_one (ps_ret (pe_and (pe_cmpR op_eq (pe_ix ix_seq (pv 0) pe_int (fun _ _ => rfl)) pe_int (nomark _)) (pe_one (pe_cmpR op_eq (pe_ix ix_seq (pv 0) pe_int (fun _ _ => rfl)) (pe_ix ix_seq (pv 1) pe_int (fun _ _ => rfl)) (nomark _)))))) pss_nil)
    (pss_one (ps_ret (pe_and (pe_cmpR op_eq (pe_op op_modN (pe_ix ix_seq (pv 0) pe_int (fun _ _ => rfl)) (pe_ix ix_seq (pv 1) pe_int (fun _ _ => rfl))) pe_int (nomark _)) (pe_one (pe_call c_rest_has.ok (hr.mono (by decide)) rfl c_rest_has.mg c_rest_has.kp c_rest_has.bi .nil pass0 (pa_cons (pv 1) (pa_cons (pe_ix ix_seq (pv 0) pe_int (fun _ _ => rfl)) pa_nil)))))))), ?_⟩
  change AS K _ [En.da _, En.da _] _ _
  try simp only [cxOf_K]
  by_cases h0 : n = 0
  · subst h0
    repeat' (first
      | with_reducible apply as_seq
      | with_reducible apply as_ret
      | with_reducible apply as_if
      | ((with_reducible apply ae_var); · rfl)
      | with_reducible apply ae_int
      | with_reducible apply ae_op
      | with_reducible apply at_test
      | with_reducible apply ae_andV
      | ((with_reducible apply ar_ix); · rfl)
      | ((with_reducible apply ar_eq3); · exact ⟨rfl, rfl, rfl⟩)
      | refine ⟨_, rfl, ?_⟩
      | (refine ⟨fun hc => ?_, fun hc => ?_⟩ <;> (first | (exfalso; exact absurd (show false = true from hc) (by decide)) | (exfalso; exact absurd (show true = false from hc) (by decide)) | (exfalso; simp at hc; done) | skip))
      | fail)
    all_goals simp_all [rwB]
  · have hd : decide (V.int n = V.int 0) = false := decide_eq_false (fun z => h0 (by cases z; rfl))
    repeat' (first
      | (refine ⟨_, rfl, ?_⟩; rw [hd]; refine ⟨fun hc => (nomatch hc), fun hc => ?_⟩)
      | refine ar_Ii (C := fun _ j => j ≠ 0) (by first | assumption | omega) ?_
      | with_reducible apply ae_call
      | (refine ⟨_, ⟨k', _, _, _, rfl, rfl⟩, ?_⟩)
      | with_reducible apply as_seq
      | with_reducible apply as_ret
      | with_reducible apply as_next
      | with_reducible apply as_if
      | ((with_reducible apply ae_var); · rfl)
      | with_reducible apply ae_int
      | with_reducible apply ae_op
      | with_reducible apply aa_nil
      | with_reducible apply aa_cons
      | with_reducible apply at_test
      | with_reducible apply ae_andV
      | ((with_reducible apply ar_ix); · rfl)
      | ((with_reducible apply ar_eq3); · exact ⟨rfl, rfl, rfl⟩)
      | refine ⟨_, rfl, ?_⟩
      | (refine ⟨fun hc => ?_, fun hc => ?_⟩ <;> (first | (exfalso; exact absurd (show false = true from hc) (by decide)) | (exfalso; exact absurd (show true = false from hc) (by decide)) | (exfalso; simp at hc; done) | skip))
      | fail)
    all_goals simp_all [rwB]
theorem ok_single (bl : Blts mg)   {f : Addr} {fd : FuncData} (F : Fun K "single" "single" s_single f fd) : FnOk P w K mg base CX0 1 f fd p_single (spP K (S_sing)) := by
  refine okP F sc_single (fun ds r h => ?_) (fun cdv A outer s H E hr ds r h => ?_)
  · obtain ⟨n, rfl, rfl⟩ := h
    rfl
  obtain ⟨n, rfl, rfl⟩ := h
  refine ⟨_, (pss_one (ps_ret (pe_tup (pa_cons (pv 0) (pa_cons (pv 0) (pa_cons pe_int (pa_cons (pv 0) pa_nil))))))), ?_⟩
  change AS K _ [En.da _] _ _
  try simp only [cxOf_K]
  repeat' (first
    | with_reducible apply as_ret
    | ((with_reducible apply ae_var); · rfl)
    | with_reducible apply ae_int
    | with_reducible apply aa_nil
    | with_reducible apply aa_cons
    | with_reducible apply ae_tup
    | refine ⟨sz60 (Nat.le_of_ble_eq_true rfl), ?_⟩
    | rfl
    | fail)
end
end Sh
set_option Elab.async false
set_option linter.all false
set_option maxRecDepth 100000
set_option maxHeartbeats 4000000
namespace Sh
open PySem PySem.Spec PyProof.Rows L2
section
variable {P : Program} {w : World} {K : PySem.W.Frag} {mg : Str → Option Value} {base : Heap}
theorem ok_value_of (bl : Blts mg) {g_lets_in : Addr} {d_lets_in : FuncData} (c_lets_in : Cal P w K mg base 2 "lets_in" p_lets_in (spP K S_lets) g_lets_in d_lets_in) {g_single : Addr} {d_single : FuncData} (c_single : Cal P w K mg base 1 "single" p_single (spP K S_sing) g_single d_single)  {f : Addr} {fd : FuncData} (F : Fun K "value_of" "value_of" s_value_of f fd) : FnOk P w K mg base CX0 3 f fd p_value_of (spP K (S_vo)) := by
  refine okP F sc_value_of (fun ds r h => ?_) (fun cdv A outer s H E hr ds r h => ?_)
  · obtain ⟨lo, hi, m, r, rfl, rfl⟩ := h
    rfl
  obtain ⟨lo, hi, m, r, rfl, rfl⟩ := h
  refine ⟨_, (pss_cons (ps_if (pt_cmpR op_eq (pv 2) pe_int (nomark _)) (pss_one (ps_ret (pe_ifExp (pt_val (pe_call c_lets_in.ok (hr.mono (by decide)) rfl c_lets_in.mg c_lets_in.kp c_lets_in.bi .nil pass0 (pa_cons (pv 0) (pa_cons (pv 1) (pa_cons (pv 3) pa_nil))))) (pe_call c_single.ok (hr.mono (by decide)) rfl c_single.mg c_single.kp c_single.bi .nil pass0 (pa_cons (pv 3) pa_nil)) pe_non))) pss_nil)
    (pss_cons (ps_if (pt_cmpR op_notN (pv 0) pe_non (nomark _)) (pss_one (ps_set (i := 0) sc_value_of.nd rfl (by first | exact Or.inl rfl | exact Or.inr rfl) (pe_op op_add (pv 0) (pe_op op_modN (pe_op op_sub (pv 3) (pv 0)) (pv 2))))) pss_nil)
    (pss_cons (ps_if (pt_cmpR op_notN (pv 1) pe_non (nomark _)) (pss_one (ps_set (i := 1) sc_value_of.nd rfl (by first | exact Or.inl rfl | exact Or.inr rfl) (pe_op op_sub (pv 1) (pe_op op_modN (pe_op op_sub (pv 1) (pv 3)) (pv 2))))) pss_nil)
    (pss_cons (ps_if (PW.pt (pw_and (pt_cmpR op_notN (pv 0) pe_non (nomark _)) (pw_and (pt_cmpR op_notN (pv 1) pe_non (nomark _)) (pw_and1 (pt_cmpR op_ge (pv 0) (pv 1) (nomark _)))))) (pss_one (ps_ret (pe_ifExp (pt_cmpR op_eq (pv 0) (pv 1) (nomark _)) (pe_call c_single.ok (hr.mono (by decide)) rfl c_single.mg c_single.kp c_single.bi .nil pass0 (pa_cons (pv 0) pa_nil)) pe_non))) pss_nil)
    (pss_one (ps_ret (pe_tup (pa_cons (pv 0) (pa_cons (pv 1) (pa_cons (pv 2) (pa_cons (pv 3) pa_nil))))))))))), ?_⟩
  change AS K _ [En.da _, En.da _, En.da _, En.da _] _ _
  try simp only [cxOf_K]
  by_cases h0 : m = 0
  · subst h0
    cases hl : letsB lo hi r
    all_goals
      repeat' (first
        | with_reducible apply ae_call
        | (refine ⟨.bl true, ⟨lo, hi, r, rfl, (congrArg Dt.bl hl.symm)⟩, ?_⟩)
        | (refine ⟨.bl false, ⟨lo, hi, r, rfl, (congrArg Dt.bl hl.symm)⟩, ?_⟩)
        | (refine ⟨_, ⟨_, rfl, rfl⟩, ?_⟩)
        | with_reducible apply as_seq
        | with_reducible apply as_ret
        | with_reducible apply as_if
        | ((with_reducible apply ae_var); · rfl)
        | with_reducible apply ae_int
        | with_reducible apply ae_non
        | with_reducible apply ae_op
        | with_reducible apply aa_nil
        | with_reducible apply aa_cons
        | with_reducible apply ae_if
        | with_reducible apply at_test
        | with_reducible apply at_b
        | ((with_reducible apply ar_eq3); · exact ⟨rfl, rfl, rfl⟩)
        | refine ⟨_, rfl, ?_⟩
        | (refine ⟨fun hc => ?_, fun hc => ?_⟩ <;> (first | (exfalso; exact absurd (show false = true from hc) (by decide)) | (exfalso; exact absurd (show true = false from hc) (by decide)) | (exfalso; simp at hc; done) | skip))
        | fail)
    all_goals simp [voD, hl]
  · have hd : decide (V.int m = V.int 0) = false := decide_eq_false (fun z => h0 (by cases z; rfl))
    cases lo with
    | none => cases hi with
      | none =>
        repeat' (first
          | (refine ⟨_, rfl, ?_⟩; rw [hd]; refine ⟨fun hc => (nomatch hc), fun hc => ?_⟩)
          | with_reducible apply as_seq
          | with_reducible apply as_ret
          | with_reducible apply as_next
          | with_reducible apply as_if
          | ((with_reducible apply ae_var); · rfl)
          | with_reducible apply ae_int
          | with_reducible apply ae_non
          | with_reducible apply ae_op
          | with_reducible apply aa_nil
          | with_reducible apply aa_cons
          | with_reducible apply ae_tup
          | with_reducible apply at_test
          | with_reducible apply at_and
          | with_reducible apply ar_notN
          | ((with_reducible apply ar_eq3); · exact ⟨rfl, rfl, rfl⟩)
          | refine ⟨sz60 (Nat.le_of_ble_eq_true rfl), ?_⟩
          | refine ⟨_, rfl, ?_⟩
          | (refine ⟨fun hc => ?_, fun hc => ?_⟩ <;> (first | (exfalso; exact absurd (show false = true from hc) (by decide)) | (exfalso; exact absurd (show true = false from hc) (by decide)) | (exfalso; simp at hc; done) | skip))
          | simp only [oD_some, oD_none]
          | fail)
        all_goals (simp [voD, h0, oD]; done)
      | some y =>
        repeat' (first
          | (refine ⟨_, rfl, ?_⟩; rw [hd]; refine ⟨fun hc => (nomatch hc), fun hc => ?_⟩)
          | refine ar_Ii (C := fun _ j => j ≠ 0) (by first | assumption | omega) ?_
          | with_reducible apply as_seq
          | with_reducible apply as_ret
          | with_reducible apply as_next
          | with_reducible apply as_if
          | with_reducible apply as_set
          | ((with_reducible apply ae_var); · rfl)
          | with_reducible apply ae_int
          | with_reducible apply ae_non
          | with_reducible apply ae_op
          | with_reducible apply aa_nil
          | with_reducible apply aa_cons
          | with_reducible apply ae_tup
          | with_reducible apply at_test
          | with_reducible apply at_and
          | with_reducible apply ar_I0i
          | with_reducible apply ar_notN
          | ((with_reducible apply ar_eq3); · exact ⟨rfl, rfl, rfl⟩)
          | refine ⟨sz60 (Nat.le_of_ble_eq_true rfl), ?_⟩
          | refine ⟨_, rfl, ?_⟩
          | (refine ⟨fun hc => ?_, fun hc => ?_⟩ <;> (first | (exfalso; exact absurd (show false = true from hc) (by decide)) | (exfalso; exact absurd (show true = false from hc) (by decide)) | (exfalso; simp at hc; done) | skip))
          | simp only [oD_some, oD_none]
          | fail)
        all_goals (simp [voD, h0, dnR, oD]; done)
    | some x => cases hi with
      | none =>
        repeat' (first
          | (refine ⟨_, rfl, ?_⟩; rw [hd]; refine ⟨fun hc => (nomatch hc), fun hc => ?_⟩)
          | refine ar_Ii (C := fun _ j => j ≠ 0) (by first | assumption | omega) ?_
          | with_reducible apply as_seq
          | with_reducible apply as_ret
          | with_reducible apply as_next
          | with_reducible apply as_if
          | with_reducible apply as_set
          | ((with_reducible apply ae_var); · rfl)
          | with_reducible apply ae_int
          | with_reducible apply ae_non
          | with_reducible apply ae_op
          | with_reducible apply aa_nil
          | with_reducible apply aa_cons
          | with_reducible apply ae_tup
          | with_reducible apply at_test
          | with_reducible apply at_and
          | with_reducible apply ar_I0i
          | with_reducible apply ar_notN
          | ((with_reducible apply ar_eq3); · exact ⟨rfl, rfl, rfl⟩)
          | refine ⟨sz60 (Nat.le_of_ble_eq_true rfl), ?_⟩
          | refine ⟨_, rfl, ?_⟩
          | (refine ⟨fun hc => ?_, fun hc => ?_⟩ <;> (first | (exfalso; exact absurd (show false = true from hc) (by decide)) | (exfalso; exact absurd (show true = false from hc) (by decide)) | (exfalso; simp at hc; done) | skip))
          | simp only [oD_some, oD_none]
          | fail)
        all_goals (simp [voD, h0, upR, oD]; done)
      | some y =>
        repeat' (first
          | (refine ⟨_, rfl, ?_⟩; rw [hd]; refine ⟨fun hc => (nomatch hc), fun hc => ?_⟩)
          | refine ar_Ii (C := fun _ j => j ≠ 0) (by first | assumption | omega) ?_
          | with_reducible apply ae_call
          | (refine ⟨_, ⟨_, rfl, rfl⟩, ?_⟩)
          | with_reducible apply as_seq
          | with_reducible apply as_ret
          | with_reducible apply as_next
          | with_reducible apply as_if
          | with_reducible apply as_set
          | ((with_reducible apply ae_var); · rfl)
          | with_reducible apply ae_int
          | with_reducible apply ae_non
          | with_reducible apply ae_op
          | with_reducible apply aa_nil
          | with_reducible apply aa_cons
          | with_reducible apply ae_tup
          | with_reducible apply ae_if
          | with_reducible apply at_test
          | with_reducible apply at_and
          | with_reducible apply ar_I0i
          | with_reducible apply ar_I0b
          | with_reducible apply ar_notN
          | ((with_reducible apply ar_eq3); · exact ⟨rfl, rfl, rfl⟩)
          | refine ⟨sz60 (Nat.le_of_ble_eq_true rfl), ?_⟩
          | refine ⟨_, rfl, ?_⟩
          | (refine ⟨fun hc => ?_, fun hc => ?_⟩ <;> (first | (exfalso; exact absurd (show false = true from hc) (by decide)) | (exfalso; exact absurd (show true = false from hc) (by decide)) | (exfalso; simp at hc; done) | skip))
          | simp only [oD_some, oD_none]
          | fail)
        all_goals (clear F hr c_lets_in c_single bl; unfold voD; rw [if_neg h0]; simp_all [upR, dnR, oD])
        all_goals (repeat (first | rw [if_neg (by omega)] | rw [if_pos (by omega)])); (try rfl)
theorem ok_contains (bl : Blts mg) {g_lets_in : Addr} {d_lets_in : FuncData} (c_lets_in : Cal P w K mg base 2 "lets_in" p_lets_in (spP K S_lets) g_lets_in d_lets_in) {g_rest_has : Addr} {d_rest_has : FuncData} (c_rest_has : Cal P w K mg base 1 "rest_has" p_rest_has (spP K S_has) g_rest_has d_rest_has)  {f : Addr} {fd : FuncData} (F : Fun K "contains" "contains" s_contains f fd) : FnOk P w K mg base CX0 3 f fd p_contains (spP K (S_con)) := by
  refine okP F sc_contains (fun ds r h => ?_) (fun cdv A outer s H E hr ds r h => ?_)
  · obtain ⟨k, lo, hi, m, r, n, rfl, rfl⟩ := h
    rfl
  obtain ⟨k, lo, hi, m, r, n, rfl, rfl⟩ := h
  refine ⟨_, (pss_one (ps_ret (pe_and (pe_call c_lets_in.ok (hr.mono (by decide)) rfl c_lets_in.mg c_lets_in.kp c_lets_in.bi .nil pass0 (pa_cons (pe_ix ix_seq (pv 0) pe_int (fun _ _ => rfl)) (pa_cons (pe_ix ix_seq (pv 0) pe_int (fun _ _ => rfl)) (pa_cons (pv 1) pa_nil)))) (pe_one (pe_call c_rest_has.ok (hr.mono (by decide)) rfl c_rest_has.mg c_rest_has.kp c_rest_has.bi .nil pass0 (pa_cons (pe_slice sl_seq (pv 0) (po_some pe_int) po_none) (pa_cons (pv 1) pa_nil))))))), ?_⟩
  change AS K _ [En.da _, En.da _] _ _
  try simp only [cxOf_K]
  cases hl : letsB lo hi n
  all_goals
    repeat' (first
      | with_reducible apply ae_call
      | with_reducible apply ae_slFrom
      | (refine ⟨_, _, _, _, _, rfl, ?_⟩)
      | (refine ⟨.bl true, ⟨lo, hi, n, rfl, (congrArg Dt.bl hl.symm)⟩, ?_⟩)
      | (refine ⟨.bl false, ⟨lo, hi, n, rfl, (congrArg Dt.bl hl.symm)⟩, ?_⟩)
      | (refine ⟨_, ⟨k, m, r, n, rfl, rfl⟩, ?_⟩)
      | with_reducible apply as_ret
      | ((with_reducible apply ae_var); · rfl)
      | with_reducible apply ae_int
      | with_reducible apply ae_op
      | with_reducible apply aa_nil
      | with_reducible apply aa_cons
      | with_reducible apply ae_andV
      | ((with_reducible apply ar_ix); · rfl)
      | refine ⟨_, rfl, ?_⟩
      | (refine ⟨fun hc => ?_, fun hc => ?_⟩ <;> (first | (exfalso; exact absurd (show false = true from hc) (by decide)) | (exfalso; exact absurd (show true = false from hc) (by decide)) | (exfalso; simp at hc; done) | skip))
      | rfl
      | fail)
theorem ok_value_within (bl : Blts mg) {g_low_within : Addr} {d_low_within : FuncData} (c_low_within : Cal P w K mg base 1 "low_within" p_low_within (spP K (S2b lwB)) g_low_within d_low_within) {g_high_within : Addr} {d_high_within : FuncData} (c_high_within : Cal P w K mg base 1 "high_within" p_high_within (spP K (S2b hwB)) g_high_within d_high_within) {g_rest_within : Addr} {d_rest_within : FuncData} (c_rest_within : Cal P w K mg base 2 "rest_within" p_rest_within (spP K S_rw) g_rest_within d_rest_within)  {f : Addr} {fd : FuncData} (F : Fun K "value_within" "value_within" s_value_within f fd) : FnOk P w K mg base CX0 3 f fd p_value_within (spP K (S_vw)) := by
  refine okP F sc_value_within (fun ds r h => ?_) (fun cdv A outer s H E hr ds r h => ?_)
  · obtain ⟨k, k', a, b, c, d, m, r, n, s, rfl, rfl⟩ := h
    rfl
  obtain ⟨k, k', a, b, c, d, m, r, n, s, rfl, rfl⟩ := h
  refine ⟨_, (pss_cons (ps_if (PW.pt (pw_or (pt_not (pt_val (pe_call c_low_within.ok (hr.mono (by decide)) rfl c_low_within.mg c_low_within.kp c_low_within.bi .nil pass0 (pa_cons (pe_ix ix_seq (pv 0) pe_int (fun _ _ => rfl)) (pa_cons (pe_ix ix_seq (pv 1) pe_int (fun _ _ => rfl)) pa_nil))))) (pw_or1 (pt_not (pt_val (pe_call c_high_within.ok (hr.mono (by decide)) rfl c_high_within.mg c_high_within.kp c_high_within.bi .nil pass0 (pa_cons (pe_ix ix_seq (pv 0) pe_int (fun _ _ => rfl)) (pa_cons (pe_ix ix_seq (pv 1) pe_int (fun _ _ => rfl)) pa_nil)))))))) (pss_one (ps_ret pe_bl)) pss_nil)
    (pss_one (ps_ret (pe_call c_rest_within.ok (hr.mono (by decide)) rfl c_rest_within.mg c_rest_within.kp c_rest_within.bi .nil pass0 (pa_cons (pe_slice sl_seq (pv 0) (po_some pe_int) po_none) (pa_cons (pe_slice sl_seq (pv 1) (po_some pe_int) po_none) pa_nil)))))), ?_⟩
  change AS K _ [En.da _, En.da _] _ _
  try simp only [cxOf_K]
  cases hl : lwB a c <;> cases hh : hwB b d
  all_goals
    repeat' (first
      | with_reducible apply ae_call
      | with_reducible apply ae_slFrom
      | (refine ⟨_, _, _, _, _, rfl, ?_⟩)
      | (refine ⟨.bl true, ⟨a, c, rfl, (congrArg Dt.bl hl.symm)⟩, ?_⟩)
      | (refine ⟨.bl false, ⟨a, c, rfl, (congrArg Dt.bl hl.symm)⟩, ?_⟩)
      | (refine ⟨.bl true, ⟨b, d, rfl, (congrArg Dt.bl hh.symm)⟩, ?_⟩)
      | (refine ⟨.bl false, ⟨b, d, rfl, (congrArg Dt.bl hh.symm)⟩, ?_⟩)
      | (refine ⟨_, ⟨k, k', m, r, n, s, rfl, rfl⟩, ?_⟩)
      | with_reducible apply as_seq
      | with_reducible apply as_ret
      | with_reducible apply as_next
      | with_reducible apply as_if
      | ((with_reducible apply ae_var); · rfl)
      | with_reducible apply ae_int
      | with_reducible apply ae_bl
      | with_reducible apply ae_op
      | with_reducible apply aa_nil
      | with_reducible apply aa_cons
      | with_reducible apply at_b
      | with_reducible apply at_or
      | with_reducible apply at_not
      | ((with_reducible apply ar_ix); · rfl)
      | refine ⟨_, rfl, ?_⟩
      | (refine ⟨fun hc => ?_, fun hc => ?_⟩ <;> (first | (exfalso; exact absurd (show false = true from hc) (by decide)) | (exfalso; exact absurd (show true = false from hc) (by decide)) | (exfalso; simp at hc; done) | skip))
      | rfl
      | fail)
theorem ok_value_from (bl : Blts mg) {g_value_of : Addr} {d_value_of : FuncData} (c_value_of : Cal P w K mg base 3 "value_of" p_value_of (spP K S_vo) g_value_of d_value_of)  {f : Addr} {fd : FuncData} (F : Fun K "value_from" "value_from" s_value_from f fd) : FnOk P w K mg base CX0 4 f fd p_value_from (spP K (S_vf)) := by
  refine okP F sc_value_from (fun ds r h => ?_) (fun cdv A outer s H E hr ds r h => ?_)
  · obtain ⟨k, k', a, b, m, r, rfl, rfl⟩ := h
    rfl
  obtain ⟨k, k', a, b, m, r, rfl, rfl⟩ := h
  refine ⟨_, (pss_cons (ps_if (PW.pt (pw_or (pt_cmpR op_isN (pv 0) pe_non (nomark _)) (pw_or1 (pt_cmpR op_isN (pv 1) pe_non (nomark _))))) (pss_one (ps_ret pe_non)) pss_nil)
    (pss_one (ps_ret (pe_call c_value_of.ok (hr.mono (by decide)) rfl c_value_of.mg c_value_of.kp c_value_of.bi .nil pass0 (pa_cons (pe_ix ix_seq (pv 0) pe_int (fun _ _ => rfl)) (pa_cons (pe_ix ix_seq (pv 0) pe_int (fun _ _ => rfl)) (pa_cons (pe_ix ix_seq (pv 1) pe_int (fun _ _ => rfl)) (pa_cons (pe_ix ix_seq (pv 1) pe_int (fun _ _ => rfl)) pa_nil)))))))), ?_⟩
  change AS K _ [En.da _, En.da _] _ _
  try simp only [cxOf_K]
  cases k <;> cases k'
  all_goals
    repeat' (first
      | with_reducible apply ae_call
      | (refine ⟨_, ⟨a, b, m, r, rfl, rfl⟩, ?_⟩)
      | with_reducible apply as_seq
      | with_reducible apply as_ret
      | with_reducible apply as_next
      | with_reducible apply as_if
      | ((with_reducible apply ae_var); · rfl)
      | with_reducible apply ae_int
      | with_reducible apply ae_non
      | with_reducible apply ae_op
      | with_reducible apply aa_nil
      | with_reducible apply aa_cons
      | with_reducible apply at_test
      | with_reducible apply at_or
      | with_reducible apply ar_isN
      | ((with_reducible apply ar_ix); · rfl)
      | refine ⟨_, rfl, ?_⟩
      | (refine ⟨fun hc => ?_, fun hc => ?_⟩ <;> (first | (exfalso; exact absurd (show false = true from hc) (by decide)) | (exfalso; exact absurd (show true = false from hc) (by decide)) | (exfalso; simp at hc; done) | skip))
      | rfl
      | fail)
theorem ok_value_join (bl : Blts mg) {g_span_join : Addr} {d_span_join : FuncData} (c_span_join : Cal P w K mg base 2 "span_join" p_span_join (spP K S_sj) g_span_join d_span_join) {g_rest_join : Addr} {d_rest_join : FuncData} (c_rest_join : Cal P w K mg base 2 "rest_join" p_rest_join (spP K S_rj) g_rest_join d_rest_join) {g_value_from : Addr} {d_value_from : FuncData} (c_value_from : Cal P w K mg base 4 "value_from" p_value_from (spP K S_vf) g_value_from d_value_from)  {f : Addr} {fd : FuncData} (F : Fun K "value_join" "value_join" s_value_join f fd) : FnOk P w K mg base CX0 5 f fd p_value_join (spP K (S_vj)) := by
  refine okP F sc_value_join (fun ds r h => ?_) (fun cdv A outer s H E hr ds r h => ?_)
  · obtain ⟨k, k', a, b, c, d, m, r, n, s, rfl, rfl⟩ := h
    rfl
  obtain ⟨k, k', a, b, c, d, m, r, n, s, rfl, rfl⟩ := h
  refine ⟨_, (pss_one (ps_ret (pe_call c_value_from.ok (hr.mono (by decide)) rfl c_value_from.mg c_value_from.kp c_value_from.bi .nil pass0 (pa_cons (pe_call c_span_join.ok (hr.mono (by decide)) rfl c_span_join.mg c_span_join.kp c_span_join.bi .nil pass0 (pa_cons (pe_slice sl_seq (pv 0) po_none (po_some pe_int)) (pa_cons (pe_slice sl_seq (pv 1) po_none (po_some pe_int)) pa_nil))) (pa_cons (pe_call c_rest_join.ok (hr.mono (by decide)) rfl c_rest_join.mg c_rest_join.kp c_rest_join.bi .nil pass0 (pa_cons (pe_slice sl_seq (pv 0) (po_some pe_int) po_none) (pa_cons (pe_slice sl_seq (pv 1) (po_some pe_int) po_none) pa_nil))) pa_nil))))), ?_⟩
  change AS K _ [En.da _, En.da _] _ _
  try simp only [cxOf_K]
  repeat' (first
    | with_reducible apply ae_call
    | with_reducible apply ae_slFrom
    | with_reducible apply ae_slTo
    | (refine ⟨_, _, _, _, _, rfl, ?_⟩)
    | (refine ⟨_, ⟨k, k', a, b, c, d, rfl, rfl⟩, ?_⟩)
    | (refine ⟨_, ⟨k, k', m, r, n, s, rfl, rfl⟩, ?_⟩)
    | (refine ⟨_, ⟨true, true, _, _, _, _, rfl, rfl⟩, ?_⟩)
    | with_reducible apply as_ret
    | ((with_reducible apply ae_var); · rfl)
    | with_reducible apply aa_nil
    | with_reducible apply aa_cons
    | rfl
    | fail)
end
end Sh
set_option Elab.async false
set_option linter.all false
set_option maxRecDepth 100000
set_option maxHeartbeats 4000000
namespace Sh
open PySem PySem.Spec PyProof.Rows L2
/-! a function of what a datum tells -/
open Classical in
noncomputable def liftF {α : Type} (enc : α → Dt) (g : α → Dt) (d : Dt) : Dt := if h : ∃ t, enc t = d then g (Classical.choose h) else .non
theorem lift_is {α : Type} {enc : α → Dt} {g : α → Dt} (inj : ∀ s t, enc s = enc t → s = t) (t : α) : liftF enc g (enc t) = g t := by
  have h : ∃ s, enc s = enc t := ⟨t, rfl⟩
  unfold liftF
  rw [dif_pos h]
  exact congrArg g (inj _ _ (Classical.choose_spec h))
theorem lift_map {α : Type} {enc : α → Dt} {g : α → Dt} (inj : ∀ s t, enc s = enc t → s = t) (l : List α) : (l.map enc).map (liftF enc g) = l.map g := by
  rw [List.map_map]
  exact List.map_congr_left fun t _ => lift_is inj t
theorem vT_inj {v w : VT} (h : vT v = vT w) : v = w := by
  obtain ⟨a, b, m, r⟩ := v
  obtain ⟨a', b', m', r'⟩ := w
  have o : ∀ x y : Option Int, oD x = oD y → x = y := fun x y e => by
    cases x <;> cases y <;> cases e <;> rfl
  have h' := Dt.tup.inj h
  simp only [List.cons.injEq, Dt.int.injEq, and_true] at h'
  rw [o _ _ h'.1, o _ _ h'.2.1, h'.2.2.1, h'.2.2.2]
theorem trD_inj (s t : Int × VT × VT) (h : trD s = trD t) : s = t := by
  obtain ⟨e, v, w⟩ := s
  obtain ⟨e', v', w'⟩ := t
  have h' := Dt.tup.inj h
  have h1 := (List.cons.inj h').1
  have h2 := (List.cons.inj (List.cons.inj h').2).1
  have h3 := (List.cons.inj (List.cons.inj (List.cons.inj h').2).2).1
  cases h1
  have e2 : v = v' := vT_inj h2
  have e3 : w = w' := vT_inj h3
  rw [e2, e3]
theorem pT_inj (s t : Int × VT) (h : pT s = pT t) : s = t := by
  obtain ⟨e, v⟩ := s
  obtain ⟨e', v'⟩ := t
  have h' := Dt.tup.inj h
  have h1 := (List.cons.inj h').1
  have h2 := (List.cons.inj (List.cons.inj h').2).1
  cases h1
  have e2 : v = v' := vT_inj h2
  rw [e2]
/-! values: joins and what is widened -/
def VOk (v : VT) : Prop := Ok v.1 v.2.1 v.2.2.1 v.2.2.2
def jV (v w : VT) : VT := (lowJ v.1 w.1, highJ v.2.1 w.2.1, (restJ v.2.2.1 v.2.2.2 w.2.2.1 w.2.2.2).1, (restJ v.2.2.1 v.2.2.2 w.2.2.1 w.2.2.2).2)
def wiB (v w : VT) : Bool := lwB v.1 w.1 && (hwB v.2.1 w.2.1 && rwB v.2.2.1 v.2.2.2 w.2.2.1 w.2.2.2)
theorem vo_okS {lo hi : Option Int} {m r : Int} (k : Ok lo hi m r) : voD lo hi m r = vD lo hi m r := by
  have := (vo_d k (l := lo) (u := hi) lw_self hw_self).1
  rw [(dlo_self k).1, (dlo_self k).2] at this
  exact this
theorem jV_ok {v w : VT} (h : VOk v) (k : VOk w) : VOk (jV v w) ∧ voD (lowJ v.1 w.1) (highJ v.2.1 w.2.1) (restJ v.2.2.1 v.2.2.2 w.2.2.1 w.2.2.2).1 (restJ v.2.2.1 v.2.2.2 w.2.2.1 w.2.2.2).2 = vT (jV v w) := by
  obtain ⟨m', r', e, o, _⟩ := join_ok h k
  have o' : VOk (jV v w) := by
    unfold VOk jV
    rw [e]; exact o
  exact ⟨o', vo_okS o'⟩
/-! arrays as given: lists or tuples -/
def pcD (k k' : Bool) (P : Pcs) : Dt := sq k (P.map fun p => sq k' [.int p.1, vT p.2])
theorem as_oD {o : Option Int} : AsN 1 (oD o) ∧ (oD o).tu = oD o := by cases o <;> exact ⟨trivial, rfl⟩
theorem as_vT (v : VT) : AsN 2 (vT v) ∧ (vT v).tu = vT v := by
  obtain ⟨a, b, m, r⟩ := v
  refine ⟨fun d hd => ?_, ?_⟩
  · simp only [List.mem_cons, List.not_mem_nil, or_false] at hd
    rcases hd with rfl | rfl | rfl | rfl
    · exact as_oD.1
    · exact as_oD.1
    · exact trivial
    · exact trivial
  · show Dt.tup [(oD a).tu, (oD b).tu, .int m, .int r] = _
    rw [as_oD.2, as_oD.2]
theorem as_pc {k k' : Bool} {P : Pcs} : AsN 4 (pcD k k' P) ∧ (pcD k k' P).tu = pcT P := by
  have pr : ∀ p : Int × VT, AsN 3 (sq k' [.int p.1, vT p.2]) ∧ (sq k' [.int p.1, vT p.2]).tu = pT p := fun p => by
    have hm : ∀ d, d ∈ [Dt.int p.1, vT p.2] → AsN 2 d := fun d hd => by
      simp only [List.mem_cons, List.not_mem_nil, or_false] at hd
      rcases hd with rfl | rfl
      · exact trivial
      · exact (as_vT p.2).1
    have ht : tus [Dt.int p.1, vT p.2] = [Dt.int p.1, vT p.2] := by
      show [Dt.int p.1, (vT p.2).tu] = _
      rw [(as_vT p.2).2]
    cases k'
    · exact ⟨hm, by show Dt.tup (tus _) = _; rw [ht]⟩
    · exact ⟨hm, by show Dt.tup (tus _) = _; rw [ht]⟩
  have hm : ∀ d, d ∈ (P.map fun p => sq k' [Dt.int p.1, vT p.2]) → AsN 3 d := fun d hd => by
    obtain ⟨p, _, rfl⟩ := List.mem_map.mp hd
    exact (pr p).1
  have ht : tus (P.map fun p => sq k' [Dt.int p.1, vT p.2]) = P.map pT := by
    rw [tus_map, List.map_map]
    exact List.map_congr_left fun p _ => (pr p).2
  cases k
  · exact ⟨hm, by show Dt.tup (tus _) = _; rw [ht]⟩
  · exact ⟨hm, by show Dt.tup (tus _) = _; rw [ht]⟩
theorem Al.all {Ph : VT → Prop} {P Q : Pcs} {R : List (Int × VT × VT)} (h : Al P Q R) (hp : ∀ p, p ∈ P → Ph p.2) (hq : ∀ p, p ∈ Q → Ph p.2) : ∀ t, t ∈ R → Ph t.2.1 ∧ Ph t.2.2 := by
  induction h with
  | nil => intro t ht; cases ht
  | eq _ ih =>
    intro t ht
    rcases List.mem_cons.mp ht with rfl | ht
    · exact ⟨hp _ List.mem_cons_self, hq _ List.mem_cons_self⟩
    · exact ih (fun p h => hp p (List.mem_cons_of_mem _ h)) (fun p h => hq p (List.mem_cons_of_mem _ h)) t ht
  | lt _ _ ih =>
    intro t ht
    rcases List.mem_cons.mp ht with rfl | ht
    · exact ⟨hp _ List.mem_cons_self, hq _ List.mem_cons_self⟩
    · exact ih (fun p h => hp p (List.mem_cons_of_mem _ h)) hq t ht
  | gt _ _ ih =>
    intro t ht
    rcases List.mem_cons.mp ht with rfl | ht
    · exact ⟨hp _ List.mem_cons_self, hq _ List.mem_cons_self⟩
    · exact ih hp (fun p h => hq p (List.mem_cons_of_mem _ h)) t ht
end Sh
set_option Elab.async false
set_option linter.all false
set_option maxRecDepth 100000
set_option maxHeartbeats 4000000
namespace Sh
open PySem PySem.Spec PyProof.Rows L2
abbrev s_joined : Stmt := topS 30
abbrev N_joined : List Str := ["one", "other"]
abbrev p_joined : List Str := ["one", "other"]
theorem sc_joined : FnScope N_joined p_joined (defScope s_joined) := ⟨rfl, rfl, rfl, by decide +kernel, rfl, by decide +kernel, by decide +kernel⟩
abbrev s_pieces_within : Stmt := topS 35
abbrev N_pieces_within : List Str := ["one", "other", "_", "a", "b"]
abbrev p_pieces_within : List Str := ["one", "other"]
theorem sc_pieces_within : FnScope N_pieces_within p_pieces_within (defScope s_pieces_within) := ⟨rfl, rfl, rfl, by decide +kernel, rfl, by decide +kernel, by decide +kernel⟩
abbrev s_pieces_join : Stmt := topS 36
abbrev N_pieces_join : List Str := ["one", "other", "end", "a", "b"]
abbrev p_pieces_join : List Str := ["one", "other"]
theorem sc_pieces_join : FnScope N_pieces_join p_pieces_join (defScope s_pieces_join) := ⟨rfl, rfl, rfl, by decide +kernel, rfl, by decide +kernel, by decide +kernel⟩
def S_jo (ds : List Dt) (res : Dt) : Prop := ∃ x w, ds = [x, vT w] ∧ VOk w ∧ ((x = .non ∧ res = vT w) ∨ ∃ v, x = vT v ∧ VOk v ∧ res = vT (jV v w))
def S_pw (ds : List Dt) (res : Dt) : Prop := ∃ k k' q q' P Q R, ds = [pcD k k' P, pcD q q' Q] ∧ Al P Q R ∧ P.length + Q.length ≤ 9000 ∧ res = .bl (R.all fun t => wiB t.2.1 t.2.2)
def S_pj (ds : List Dt) (res : Dt) : Prop := ∃ k k' q q' P Q R, ds = [pcD k k' P, pcD q q' Q] ∧ Al P Q R ∧ (∀ p, p ∈ P → VOk p.2) ∧ (∀ p, p ∈ Q → VOk p.2) ∧ P.length + Q.length ≤ 9000 ∧ res = pcT (mgd (R.map fun t => (t.1, jV t.2.1 t.2.2)))
section
variable {P : Program} {w : World} {K : PySem.W.Frag} {mg : Str → Option Value} {base : Heap}
theorem ok_joined (bl : Blts mg) {g_value_join : Addr} {d_value_join : FuncData} (c_value_join : Cal P w K mg base 5 "value_join" p_value_join (spP K S_vj) g_value_join d_value_join)  {f : Addr} {fd : FuncData} (F : Fun K "joined" "joined" s_joined f fd) : FnOk P w K mg base CX0 6 f fd p_joined (spP K (S_jo)) := by
  refine okP F sc_joined (fun ds r h => ?_) (fun cdv A outer s H E hr ds r h => ?_)
  · obtain ⟨x, w, rfl, hw, hx⟩ := h
    rfl
  obtain ⟨x, w, rfl, hw, hx⟩ := h
  refine ⟨_, (pss_cons (ps_if (pt_cmpR op_isN (pv 0) pe_non (nomark _)) (pss_one (ps_ret (pv 1))) pss_nil)
    (pss_one (ps_ret (pe_call c_value_join.ok (hr.mono (by decide)) rfl c_value_join.mg c_value_join.kp c_value_join.bi .nil pass0 (pa_cons (pv 0) (pa_cons (pv 1) pa_nil)))))), ?_⟩
  change AS K _ [En.da _, En.da _] _ _
  try simp only [cxOf_K]
  rcases hx with ⟨rfl, rfl⟩ | ⟨v, rfl, hv, rfl⟩
  all_goals
    repeat' (first
      | with_reducible apply ae_call
      | (refine ⟨_, ⟨true, true, _, _, _, _, _, _, _, _, rfl, (jV_ok hv hw).2.symm⟩, ?_⟩)
      | with_reducible apply as_seq
      | with_reducible apply as_ret
      | with_reducible apply as_next
      | with_reducible apply as_if
      | ((with_reducible apply ae_var); · rfl)
      | with_reducible apply ae_non
      | with_reducible apply ae_op
      | with_reducible apply aa_nil
      | with_reducible apply aa_cons
      | with_reducible apply at_test
      | with_reducible apply ar_isN
      | refine ⟨_, rfl, ?_⟩
      | (refine ⟨fun hc => ?_, fun hc => ?_⟩ <;> (first | (exfalso; exact absurd (show false = true from hc) (by decide)) | (exfalso; exact absurd (show true = false from hc) (by decide)) | (exfalso; simp at hc; done) | skip))
      | rfl
      | fail)
theorem ok_pieces_within (bl : Blts mg) {g_value_within : Addr} {d_value_within : FuncData} (c_value_within : Cal P w K mg base 3 "value_within" p_value_within (spP K S_vw) g_value_within d_value_within) {g_aligned : Addr} {d_aligned : FuncData} (c_aligned : Cal P w K mg base 21 "aligned" p_aligned (spP K S_al) g_aligned d_aligned)  {f : Addr} {fd : FuncData} (F : Fun K "pieces_within" "pieces_within" s_pieces_within f fd) : FnOk P w K mg base CX0 22 f fd p_pieces_within (spP K (S_pw)) := by
  refine okP F sc_pieces_within (fun ds r h => ?_) (fun cdv A outer s H E hr ds r h => ?_)
  · obtain ⟨k, k', q, q', P, Q, R, rfl, ha, hn, rfl⟩ := h
    rfl
  obtain ⟨k, k', q, q', P, Q, R, rfl, ha, hn, rfl⟩ := h
  refine ⟨_, (pss_one (ps_ret (pe_callB (cr_all rfl) rfl bl.all (by decide +kernel) (pa_cons (pe_lc (own := [("_", 2), ("a", 3), ("b", 4)]) (g := (gTup K 3 (gCons (gName 2) (gCons (gName 3) (gCons (gName 4) gNil))))) (tt := tYes) rfl sc_pieces_within.nd (pi_list (pe_call c_aligned.ok (hr.mono (by decide)) rfl c_aligned.mg c_aligned.kp c_aligned.bi .nil pass0 (pa_cons (pv 0) (pa_cons (pv 1) pa_nil)))) (blkOk_by (N := N_pieces_within) (sc := defScope s_pieces_within) (by decide +kernel)) (fun _ _ _ _ _ => (pg_tup rfl (pgs_cons (pg_name (i := 2) sc_pieces_within.nd rfl (by first | exact Or.inl rfl | exact Or.inr rfl)) (pgs_cons (pg_name (i := 3) sc_pieces_within.nd rfl (by first | exact Or.inl rfl | exact Or.inr rfl)) (pgs_cons (pg_name (i := 4) sc_pieces_within.nd rfl (by first | exact Or.inl rfl | exact Or.inr rfl)) pgs_nil))))) (fun _ _ _ _ _ => pts_nil) (fun _ _ _ _ _ => (pe_call c_value_within.ok (hr.mono (by decide)) rfl c_value_within.mg c_value_within.kp c_value_within.bi .nil pass0 (pa_cons (pv 3) (pa_cons (pv 4) pa_nil))))) pa_nil)))), ?_⟩
  change AS K _ [En.da _, En.da _, En.no, En.no, En.no] _ _
  try simp only [cxOf_K]
  have hl := ha.len
  repeat' (first
    | with_reducible apply ae_call
    | (refine ⟨.lst (R.map trD), ⟨_, _, P, Q, R, rfl, as_pc, as_pc, ha, hn, rfl⟩, ?_⟩)
    | (with_reducible refine ae_lcMap (liftF trD (fun t => .bl (wiB t.2.1 t.2.2))) ?_)
    | with_reducible apply ai_list
    | (refine ⟨_, rfl, (by rw [List.length_map, sizeLine_eq]; omega), fun d hd => ?_, ?_⟩)
    | (obtain ⟨t, ht, rfl⟩ := List.mem_map.mp hd)
    | (refine agv_tup rfl (agvs_cons (agv_name (by decide) (agvs_cons (agv_name (by decide) (agvs_cons (agv_name (by decide) (agvs_nil ?_))))))))
    | ((refine ⟨?_, rfl⟩); exact (lift_is (g := fun t => .bl (wiB t.2.1 t.2.2)) trD_inj t).symm)
    | (refine ⟨_, ⟨true, true, _, _, _, _, _, _, _, _, rfl, rfl⟩, ?_⟩)
    | (rw [lift_map trD_inj, show R.map (fun t => Dt.bl (wiB t.2.1 t.2.2)) = (R.map fun t => wiB t.2.1 t.2.2).map Dt.bl from by rw [List.map_map]; rfl]; refine ac_all ?_)
    | with_reducible apply as_ret
    | ((with_reducible apply ae_var); · rfl)
    | with_reducible apply aa_nil
    | with_reducible apply aa_cons
    | with_reducible apply ae_cb
    | fail)
  all_goals (rw [List.all_map]; rfl)
theorem ok_pieces_join (bl : Blts mg) {g_value_join : Addr} {d_value_join : FuncData} (c_value_join : Cal P w K mg base 5 "value_join" p_value_join (spP K S_vj) g_value_join d_value_join) {g_aligned : Addr} {d_aligned : FuncData} (c_aligned : Cal P w K mg base 21 "aligned" p_aligned (spP K S_al) g_aligned d_aligned) {g_merged : Addr} {d_merged : FuncData} (c_merged : Cal P w K mg base 1 "merged" p_merged (spP K S_mg) g_merged d_merged)  {f : Addr} {fd : FuncData} (F : Fun K "pieces_join" "pieces_join" s_pieces_join f fd) : FnOk P w K mg base CX0 22 f fd p_pieces_join (spP K (S_pj)) := by
  refine okP F sc_pieces_join (fun ds r h => ?_) (fun cdv A outer s H E hr ds r h => ?_)
  · obtain ⟨k, k', q, q', P, Q, R, rfl, ha, hp, hq, hn, rfl⟩ := h
    rfl
  obtain ⟨k, k', q, q', P, Q, R, rfl, ha, hp, hq, hn, rfl⟩ := h
  refine ⟨_, (pss_one (ps_ret (pe_call c_merged.ok (hr.mono (by decide)) rfl c_merged.mg c_merged.kp c_merged.bi .nil pass0 (pa_cons (pe_lc (own := [("end", 2), ("a", 3), ("b", 4)]) (g := (gTup K 3 (gCons (gName 2) (gCons (gName 3) (gCons (gName 4) gNil))))) (tt := tYes) rfl sc_pieces_join.nd (pi_list (pe_call c_aligned.ok (hr.mono (by decide)) rfl c_aligned.mg c_aligned.kp c_aligned.bi .nil pass0 (pa_cons (pv 0) (pa_cons (pv 1) pa_nil)))) (blkOk_by (N := N_pieces_join) (sc := defScope s_pieces_join) (by decide +kernel)) (fun _ _ _ _ _ => (pg_tup rfl (pgs_cons (pg_name (i := 2) sc_pieces_join.nd rfl (by first | exact Or.inl rfl | exact Or.inr rfl)) (pgs_cons (pg_name (i := 3) sc_pieces_join.nd rfl (by first | exact Or.inl rfl | exact Or.inr rfl)) (pgs_cons (pg_name (i := 4) sc_pieces_join.nd rfl (by first | exact Or.inl rfl | exact Or.inr rfl)) pgs_nil))))) (fun _ _ _ _ _ => pts_nil) (fun _ _ _ _ _ => (pe_tup (pa_cons (pv 2) (pa_cons (pe_call c_value_join.ok (hr.mono (by decide)) rfl c_value_join.mg c_value_join.kp c_value_join.bi .nil pass0 (pa_cons (pv 3) (pa_cons (pv 4) pa_nil))) pa_nil))))) pa_nil)))), ?_⟩
  change AS K _ [En.da _, En.da _, En.no, En.no, En.no] _ _
  try simp only [cxOf_K]
  have hl := ha.len
  have hok := ha.all hp hq
  repeat' (first
    | with_reducible apply ae_call
    | (refine ⟨.lst (R.map trD), ⟨_, _, P, Q, R, rfl, as_pc, as_pc, ha, hn, rfl⟩, ?_⟩)
    | (with_reducible refine ae_lcMap (liftF trD (fun t => pT (t.1, jV t.2.1 t.2.2))) ?_)
    | with_reducible apply ai_list
    | (refine ⟨_, rfl, (by rw [List.length_map, sizeLine_eq]; omega), fun d hd => ?_, ?_⟩)
    | (obtain ⟨t, ht, rfl⟩ := List.mem_map.mp hd)
    | (refine agv_tup rfl (agvs_cons (agv_name (by decide) (agvs_cons (agv_name (by decide) (agvs_cons (agv_name (by decide) (agvs_nil ?_))))))))
    | ((refine ⟨?_, rfl⟩); exact (lift_is (g := fun t => pT (t.1, jV t.2.1 t.2.2)) trD_inj t).symm)
    | (refine ⟨_, ⟨true, true, _, _, _, _, _, _, _, _, rfl, (jV_ok (hok t ht).1 (hok t ht).2).2.symm⟩, ?_⟩)
    | (rw [lift_map trD_inj])
    | (refine ⟨_, ⟨R.map fun t => (t.1, jV t.2.1 t.2.2), by rw [List.map_map]; rfl, by rw [List.length_map]; omega, rfl⟩, ?_⟩)
    | with_reducible apply as_ret
    | ((with_reducible apply ae_var); · rfl)
    | with_reducible apply aa_nil
    | with_reducible apply aa_cons
    | with_reducible apply ae_tup
    | refine ⟨sz60 (Nat.le_of_ble_eq_true rfl), ?_⟩
    | rfl
    | fail)
end
end Sh
set_option Elab.async false
set_option linter.all false
set_option maxRecDepth 100000
set_option maxHeartbeats 4000000
namespace Sh
/-! the greatest common divisor of a list -/
def g2 (a b : Int) : Int := ((Nat.gcd a.natAbs b.natAbs : Nat) : Int)
theorem g2_dvd {a b d : Int} : d ∣ g2 a b ↔ d ∣ a ∧ d ∣ b := by
  unfold g2
  rw [← Int.natAbs_dvd_natAbs, Int.natAbs_natCast, Nat.dvd_gcd_iff, Int.natAbs_dvd_natAbs, Int.natAbs_dvd_natAbs]
theorem eq_of_dvd {a b : Int} (ha : 0 ≤ a) (hb : 0 ≤ b) (h : a ∣ b) (k : b ∣ a) : a = b := by
  have h' := Int.natAbs_dvd_natAbs.mpr h
  have k' := Int.natAbs_dvd_natAbs.mpr k
  have := Nat.dvd_antisymm h' k'
  omega
/-! members -/
def ks : List Int := [0, 1, -1, 2, -2, 3]
/-! quotients of members -/
theorem dvd_q {m d : Int} (hd : d ≠ 0) (h : d ∣ m) : m = d * m.fdiv d := by
  have := Int.fdiv_mul_cancel h
  rw [Int.mul_comm]; exact this.symm
def restO (m n : Int) : IP := if m = 0 then (0, n) else (m, n.fmod m)
/-! Euclid's steps -/
theorem fm_lt {x m : Int} (h : 0 < m) : 0 ≤ x.fmod m ∧ x.fmod m < m := by
  rw [fe (by omega)]; exact ⟨Int.emod_nonneg x (by omega), Int.emod_lt_of_pos x h⟩
theorem g2_step {h l : Int} (h0 : 0 ≤ h) (l0 : 0 < l) : g2 l (h.fmod l) = g2 h l := by
  refine eq_of_dvd (Int.natCast_nonneg _) (Int.natCast_nonneg _) ?_ ?_
  · obtain ⟨a, b⟩ := g2_dvd.mp (Int.dvd_refl (g2 l (h.fmod l)))
    refine g2_dvd.mpr ⟨?_, a⟩
    have := Int.dvd_add b (Int.dvd_trans a (Int.dvd_mul_right l (h.fdiv l)))
    rwa [show h.fmod l + l * h.fdiv l = h by rw [Int.fmod_def]; omega] at this
  · obtain ⟨a, b⟩ := g2_dvd.mp (Int.dvd_refl (g2 h l))
    refine g2_dvd.mpr ⟨b, ?_⟩
    have : g2 h l ∣ h - l * h.fdiv l := Int.dvd_sub a (Int.dvd_trans b (Int.dvd_mul_right l (h.fdiv l)))
    rwa [← Int.fmod_def] at this
theorem g2_zero {h : Int} (h0 : 0 ≤ h) : g2 h 0 = h := by
  unfold g2
  rw [Int.natAbs_zero, Nat.gcd_zero_right]; omega
def ext (h l b w : Int) : Int := if hl : 0 < l then ext l (h.fmod l) w (b - h.fdiv l * w) else b
termination_by l.toNat
decreasing_by have := fm_lt (x := h) hl; omega
theorem ext_0 {h b w : Int} : ext h 0 b w = b := by rw [ext]; simp
theorem ext_s {h l b w : Int} (hl : 0 < l) : ext h l b w = ext l (h.fmod l) w (b - h.fdiv l * w) := by rw [ext, dif_pos hl]
theorem ext_spec {n m : Int} : ∀ (k : Nat) {h l b w : Int}, l.toNat ≤ k → 0 ≤ l → 0 ≤ h → m ∣ n * b - h → m ∣ n * w - l → m ∣ n * ext h l b w - g2 h l
  | k, h, l, b, w, hk, l0, h0, d1, d2 => by
    by_cases hl : l = 0
    · subst hl
      rw [ext_0, g2_zero h0]; exact d1
    · have lp : 0 < l := by omega
      have fl := fm_lt (x := h) lp
      rw [ext_s lp, ← g2_step h0 lp]
      cases k with
      | zero => omega
      | succ k =>
        refine ext_spec k (by omega) fl.1 l0 d2 ?_
        have e : n * (b - h.fdiv l * w) - h.fmod l = (n * b - h) - h.fdiv l * (n * w - l) := by
          rw [Int.fmod_def, Int.mul_sub, Int.mul_sub, Int.mul_left_comm n (h.fdiv l) w, Int.mul_comm (h.fdiv l) l]; omega
        rw [e]
        exact Int.dvd_sub d1 (Int.dvd_trans d2 (Int.dvd_mul_left _ _))
def invF (n m : Int) : Int := (ext m (n.fmod m) 0 1).fmod m
theorem dvd_mod {x m : Int} : m ∣ x - x.fmod m := ⟨x.fdiv m, by rw [Int.fmod_def]; omega⟩
theorem inv_spec {n m : Int} (hm : 0 < m) : m ∣ n * invF n m - g2 m n := by
  have fl := fm_lt (x := n) hm
  have a : m ∣ n * ext m (n.fmod m) 0 1 - g2 m (n.fmod m) := by
    refine ext_spec _ (Nat.le_refl _) fl.1 (by omega) ?_ ?_
    · rw [Int.mul_zero, Int.zero_sub]; exact Int.dvd_neg.mpr (Int.dvd_refl m)
    · rw [Int.mul_one]; exact dvd_mod
  have g : g2 m (n.fmod m) = g2 m n := by
    refine eq_of_dvd (Int.natCast_nonneg _) (Int.natCast_nonneg _) ?_ ?_
    · obtain ⟨x, y⟩ := g2_dvd.mp (Int.dvd_refl (g2 m (n.fmod m)))
      refine g2_dvd.mpr ⟨x, ?_⟩
      have := Int.dvd_add (Int.dvd_trans x (dvd_mod (x := n) (m := m))) y
      rwa [Int.sub_add_cancel] at this
    · obtain ⟨x, y⟩ := g2_dvd.mp (Int.dvd_refl (g2 m n))
      refine g2_dvd.mpr ⟨x, ?_⟩
      have := Int.dvd_sub y (Int.dvd_trans x (dvd_mod (x := n) (m := m)))
      rwa [show n - (n - n.fmod m) = n.fmod m by omega] at this
  rw [g] at a
  have b : m ∣ n * (ext m (n.fmod m) 0 1 - invF n m) := Int.dvd_trans dvd_mod (Int.dvd_mul_left _ _)
  rw [Int.mul_sub] at b
  have := Int.dvd_sub a b
  rwa [show n * ext m (n.fmod m) 0 1 - g2 m n - (n * ext m (n.fmod m) 0 1 - n * invF n m) = n * invF n m - g2 m n by omega] at this
/-! common members -/
/-- what the meet of two rests is, None if the flag is off -/
def meetP (m r n s : Int) : IP := restO (m.fdiv (g2 m n) * n) (r + m * ((s - r).fdiv (g2 m n) * invF (m.fdiv (g2 m n)) (n.fdiv (g2 m n))))
def meetO (m r n s : Int) : Option (IP) := if m = 0 then (if hasB n s r then some (0, r) else none) else if n = 0 then (if hasB m r s then some (0, s) else none)
  else if (s - r).fmod (g2 m n) = 0 then some (meetP m r n s) else none
section
variable {m r n s : Int} (hm : 0 < m) (hn : 0 < n)
include hm hn
theorem g_pos : 0 < g2 m n := by
  have : 0 ≤ g2 m n := Int.natCast_nonneg _
  rcases Int.lt_or_eq_of_le this with h | h
  · exact h
  · obtain ⟨a, _⟩ := g2_dvd.mp (Int.dvd_refl (g2 m n))
    rw [← h] at a
    have := Int.zero_dvd.mp a
    omega
theorem lcm_is : 0 < m.fdiv (g2 m n) * n ∧ m ∣ m.fdiv (g2 m n) * n ∧ n ∣ m.fdiv (g2 m n) * n ∧ (m * n).fdiv (g2 m n) = m.fdiv (g2 m n) * n ∧ ∀ z, m ∣ z → n ∣ z → m.fdiv (g2 m n) * n ∣ z := by
  have gp := g_pos hm hn
  obtain ⟨a, b⟩ := g2_dvd.mp (Int.dvd_refl (g2 m n))
  have ea := dvd_q (by omega) a
  have eb := dvd_q (by omega) b
  have sp := inv_spec (n := m.fdiv (g2 m n)) (m := n.fdiv (g2 m n)) (by
    rcases Int.lt_trichotomy (n.fdiv (g2 m n)) 0 with h | h | h
    · have := Int.mul_neg_of_pos_of_neg gp h; omega
    · rw [h, Int.mul_zero] at eb; omega
    · exact h)
  have mp : 0 < m.fdiv (g2 m n) := by
    rcases Int.lt_trichotomy (m.fdiv (g2 m n)) 0 with h | h | h
    · have := Int.mul_neg_of_pos_of_neg gp h; omega
    · rw [h, Int.mul_zero] at ea; omega
    · exact h
  have cop : g2 (n.fdiv (g2 m n)) (m.fdiv (g2 m n)) = 1 := by
    have h0 : 0 ≤ g2 (n.fdiv (g2 m n)) (m.fdiv (g2 m n)) := Int.natCast_nonneg _
    obtain ⟨x, y⟩ := g2_dvd.mp (Int.dvd_refl (g2 (n.fdiv (g2 m n)) (m.fdiv (g2 m n))))
    have : g2 m n * g2 (n.fdiv (g2 m n)) (m.fdiv (g2 m n)) ∣ g2 m n * 1 := by
      rw [Int.mul_one]
      refine g2_dvd.mpr ⟨?_, ?_⟩
      · conv => rhs; rw [ea]
        exact Int.mul_dvd_mul (Int.dvd_refl _) y
      · conv => rhs; rw [eb]
        exact Int.mul_dvd_mul (Int.dvd_refl _) x
    have := Int.dvd_of_mul_dvd_mul_left (by omega) this
    exact eq_of_dvd h0 (by decide) this (Int.one_dvd _)
  rw [cop] at sp
  generalize hg : g2 m n = g at *
  generalize hM : m.fdiv g = M at *
  generalize hN : n.fdiv g = N at *
  refine ⟨Int.mul_pos mp hn, ?_, Int.dvd_mul_left _ _, ?_, ?_⟩
  · rw [ea, eb]
    exact ⟨N, by rw [Int.mul_assoc, Int.mul_comm M, Int.mul_assoc]; congr 1; rw [Int.mul_comm]⟩
  · rw [ea, Int.mul_assoc]
    have := Int.add_mul_fdiv_left 0 (M * n) (b := g) (by omega)
    rw [Int.zero_add, Int.zero_fdiv, Int.zero_add] at this
    exact this
  · intro z h1 h2
    obtain ⟨u, rfl⟩ := h2
    have hh : M ∣ N * u := by
      rw [ea, eb, Int.mul_assoc] at h1
      exact Int.dvd_of_mul_dvd_mul_left (by omega) h1
    obtain ⟨v, hv⟩ := sp
    have : M ∣ u := by
      have e : u = M * (invF M N * u) - v * (N * u) := by
        have : M * invF M N = N * v + 1 := by omega
        rw [← Int.mul_assoc, this, Int.add_mul, Int.one_mul, Int.mul_comm N v, Int.mul_assoc]; omega
      rw [e]
      exact Int.dvd_sub (Int.dvd_mul_right _ _) (Int.dvd_trans hh (Int.dvd_mul_left _ _))
    rw [Int.mul_comm M n]
    exact Int.mul_dvd_mul (Int.dvd_refl n) this
theorem meet_in (h : (s - r).fmod (g2 m n) = 0) : m ∣ (r + m * ((s - r).fdiv (g2 m n) * invF (m.fdiv (g2 m n)) (n.fdiv (g2 m n)))) - r ∧ n ∣ (r + m * ((s - r).fdiv (g2 m n) * invF (m.fdiv (g2 m n)) (n.fdiv (g2 m n)))) - s := by
  have gp := g_pos hm hn
  obtain ⟨a, b⟩ := g2_dvd.mp (Int.dvd_refl (g2 m n))
  have ea := dvd_q (by omega) a
  have eb := dvd_q (by omega) b
  have es := dvd_q (by omega) (Int.dvd_of_fmod_eq_zero h)
  have np : 0 < n.fdiv (g2 m n) := by
    rcases Int.lt_trichotomy (n.fdiv (g2 m n)) 0 with h | h | h
    · have := Int.mul_neg_of_pos_of_neg gp h; omega
    · rw [h, Int.mul_zero] at eb; omega
    · exact h
  have sp := inv_spec (n := m.fdiv (g2 m n)) (m := n.fdiv (g2 m n)) np
  have cop : g2 (n.fdiv (g2 m n)) (m.fdiv (g2 m n)) = 1 := by
    have h0 : 0 ≤ g2 (n.fdiv (g2 m n)) (m.fdiv (g2 m n)) := Int.natCast_nonneg _
    obtain ⟨x, y⟩ := g2_dvd.mp (Int.dvd_refl (g2 (n.fdiv (g2 m n)) (m.fdiv (g2 m n))))
    have : g2 m n * g2 (n.fdiv (g2 m n)) (m.fdiv (g2 m n)) ∣ g2 m n * 1 := by
      rw [Int.mul_one]
      refine g2_dvd.mpr ⟨?_, ?_⟩
      · conv => rhs; rw [ea]
        exact Int.mul_dvd_mul (Int.dvd_refl _) y
      · conv => rhs; rw [eb]
        exact Int.mul_dvd_mul (Int.dvd_refl _) x
    have := Int.dvd_of_mul_dvd_mul_left (by omega) this
    exact eq_of_dvd h0 (by decide) this (Int.one_dvd _)
  rw [cop] at sp
  generalize hg : g2 m n = g at *
  generalize hM : m.fdiv g = M at *
  generalize hN : n.fdiv g = N at *
  generalize hS : (s - r).fdiv g = S at *
  generalize invF M N = v at *
  constructor
  · rw [show r + m * (S * v) - r = m * (S * v) by omega]; exact Int.dvd_mul_right _ _
  · have e : r + m * (S * v) - s = n * S * 0 + (g * S) * (M * v - 1) := by
      have e1 : m * (S * v) = (g * S) * (M * v) := by
        rw [ea, Int.mul_assoc, Int.mul_assoc]; congr 1; rw [Int.mul_left_comm]
      rw [e1, Int.mul_zero, Int.zero_add, Int.mul_sub, Int.mul_one, ← es]; omega
    rw [e, Int.mul_zero, Int.zero_add]
    obtain ⟨u, hu⟩ := sp
    rw [hu]
    refine ⟨S * u, ?_⟩
    rw [eb, Int.mul_assoc, Int.mul_assoc]; congr 1; rw [Int.mul_left_comm]
theorem meet_is (h : (s - r).fmod (g2 m n) = 0) : ∃ L x, meetP m r n s = (L, x) ∧ L = m.fdiv (g2 m n) * n ∧ 0 ≤ x ∧ x < L ∧ m ∣ x - r ∧ n ∣ x - s := by
  obtain ⟨l0, l1, l2, l3, l4⟩ := lcm_is hm hn
  obtain ⟨h1, h2⟩ := meet_in hm hn h
  unfold meetP restO
  generalize (r + m * ((s - r).fdiv (g2 m n) * invF (m.fdiv (g2 m n)) (n.fdiv (g2 m n)))) = y at *
  generalize m.fdiv (g2 m n) * n = L at *
  have f := fm_lt (x := y) l0
  refine ⟨L, y.fmod L, if_neg (by omega), rfl, f.1, f.2, ?_, ?_⟩
  · have := Int.dvd_sub h1 (Int.dvd_trans l1 (dvd_mod (x := y) (m := L)))
    rwa [show y - r - (y - y.fmod L) = y.fmod L - r by omega] at this
  · have := Int.dvd_sub h2 (Int.dvd_trans l2 (dvd_mod (x := y) (m := L)))
    rwa [show y - s - (y - y.fmod L) = y.fmod L - s by omega] at this
end
end Sh
set_option Elab.async false
set_option linter.all false
set_option maxRecDepth 100000
set_option maxHeartbeats 4000000
namespace Sh
open PySem PySem.Spec PyProof.Rows L2
/-! ascending lists by their ends -/
/-! the value of a window -/
theorem lets_lo {lo hi : Option Int} {x : Int} (h : letsB lo hi x = true) : (∀ y, lo = some y → y ≤ x) ∧ ∀ y, hi = some y → x ≤ y := by
  unfold letsB at h
  rw [Bool.and_eq_true] at h
  exact ⟨fun y e => by subst e; exact lw_le h.1, fun y e => by subst e; exact hw_le h.2⟩
theorem lets_of {lo hi : Option Int} {x : Int} (h1 : ∀ y, lo = some y → y ≤ x) (h2 : ∀ y, hi = some y → x ≤ y) : letsB lo hi x = true := by
  unfold letsB
  rw [Bool.and_eq_true]
  constructor
  · cases lo with
    | none => rfl
    | some y => exact decide_eq_true (h1 y rfl)
  · cases hi with
    | none => rfl
    | some y => exact decide_eq_true (h2 y rfl)
end Sh
set_option Elab.async false
set_option linter.all false
set_option maxRecDepth 100000
set_option maxHeartbeats 4000000
set_option Elab.async false
set_option linter.all false
set_option maxRecDepth 100000
set_option maxHeartbeats 4000000
namespace Sh
open PySem PySem.Spec PyProof.Rows L2
theorem dvd_of_mod {x m r : Int} (hm : 1 ≤ m) (h : x.fmod m = r) : m ∣ x - r := Int.dvd_of_fmod_eq_zero (fm_same hm h).2
end Sh
set_option Elab.async false
set_option linter.all false
set_option maxRecDepth 100000
set_option maxHeartbeats 4000000
namespace Sh
open PySem PySem.Spec PyProof.Rows L2
def tightL : Option Int → Option Int → Option Int
  | none, c => c
  | some a, none => some a
  | some a, some c => some (if c > a then c else a)
def tightH : Option Int → Option Int → Option Int
  | none, c => c
  | some a, none => some a
  | some a, some c => some (if c < a then c else a)
def spanM (a b c d : Option Int) : Option (Option Int × Option Int) :=
  match tightL a c, tightH b d with
  | some x, some y => if y < x then none else some (some x, some y)
  | lo, hi => some (lo, hi)
def vmD (a b c d : Option Int) (m r n s : Int) : Dt :=
  match spanM a b c d, meetO m r n s with
  | some (lo, hi), some (L, x) => voD lo hi L x
  | _, _ => .non
theorem span_no {a b c d : Option Int} {p : Option Int × Option Int} (h : spanM a b c d = some p) : p = (tightL a c, tightH b d) := by
  unfold spanM at h
  cases hl : tightL a c with
  | none => rw [hl] at h; cases hh : tightH b d <;> (rw [hh] at h; cases h; rfl)
  | some y => cases hh : tightH b d with
    | none => rw [hl, hh] at h; cases h; rfl
    | some z =>
      rw [hl, hh] at h
      have h' : (if z < y then none else some (some y, some z)) = some p := h
      split at h'
      · cases h'
      · cases h'; rfl
end Sh
set_option Elab.async false
set_option linter.all false
set_option maxRecDepth 100000
set_option maxHeartbeats 4000000
namespace Sh
open PySem PySem.Spec PyProof.Rows L2
def big (x : Int) : Prop := -(10 ^ 16) ≤ x ∧ x ≤ 10 ^ 16
def Vd (m r : Int) : Prop := (m = 0 ∧ big r) ∨ (1 ≤ m ∧ m ≤ 10 ^ 16 ∧ 0 ≤ r ∧ r < m)
theorem Vd.b {m r : Int} (h : Vd m r) : 0 ≤ m ∧ m ≤ 10 ^ 16 ∧ -(10 ^ 16) ≤ r ∧ r ≤ 10 ^ 16 := by
  unfold Vd big at h
  rcases h with ⟨h1, h2, h3⟩ | ⟨h1, h2, h3, h4⟩ <;> omega
def pO : Option IP → Dt
  | none => .non
  | some p => pD p
def S2r (f : Int → Int → Int → Int → Option IP) (ds : List Dt) (res : Dt) : Prop := ∃ k k', ∃ m r n s : Int, ds = [sq k [.int m, .int r], sq k' [.int n, .int s]] ∧ Vd m r ∧ Vd n s ∧ res = pO (f m r n s)
def S_inv (ds : List Dt) (res : Dt) : Prop := ∃ n m : Int, ds = [.int n, .int m] ∧ (1 ≤ m ∧ m ≤ 10 ^ 16) ∧ res = .int (invF n m)
theorem vne {x y : Int} (h : x ≠ y) : decide (V.int x = V.int y) = false := decide_eq_false (fun z => h (V.int.inj z))
theorem vnn {x y : Int} (h : x ≠ y) : (!decide (V.int x = V.int y)) = true := by rw [vne h]; rfl
theorem vee {x y : Int} (h : x = y) : (!decide (V.int x = V.int y)) = false := by rw [h]; simp
theorem fd_b {h l : Int} (h0 : 0 ≤ h) (l0 : 0 < l) : 0 ≤ h.fdiv l ∧ h.fdiv l ≤ h := by
  rw [Int.fdiv_eq_ediv_of_nonneg _ (by omega)]
  exact ⟨Int.ediv_nonneg h0 (by omega), Int.ediv_le_self l h0⟩
theorem invF_b {n m : Int} (hm : 0 < m) : 0 ≤ invF n m ∧ invF n m < m := fm_lt hm
theorem g2_le {m n : Int} (hm : 0 < m) : g2 m n ≤ m ∧ 0 ≤ g2 m n := by
  obtain ⟨a, _⟩ := g2_dvd.mp (Int.dvd_refl (g2 m n))
  exact ⟨Int.le_of_dvd hm a, Int.natCast_nonneg _⟩
theorem q_b {m n : Int} (hm : 0 < m) (hn : 0 < n) : 1 ≤ m.fdiv (g2 m n) ∧ m.fdiv (g2 m n) ≤ m ∧ 1 ≤ n.fdiv (g2 m n) ∧ n.fdiv (g2 m n) ≤ n := by
  have gp := g_pos hm hn
  obtain ⟨a, b⟩ := g2_dvd.mp (Int.dvd_refl (g2 m n))
  have ea := dvd_q (by omega) a
  have eb := dvd_q (by omega) b
  have fa := fd_b (h := m) (by omega) gp
  have fb := fd_b (h := n) (by omega) gp
  refine ⟨?_, fa.2, ?_, fb.2⟩
  · rcases Int.lt_or_eq_of_le fa.1 with h | h
    · omega
    · rw [← h, Int.mul_zero] at ea; omega
  · rcases Int.lt_or_eq_of_le fb.1 with h | h
    · omega
    · rw [← h, Int.mul_zero] at eb; omega
theorem ac_g2 {K : PySem.W.Frag} {Φ : Dt → Prop} {a b : Int} (h : Φ (.int (g2 a b))) : AC K rGcd [.int a, .int b] Φ := ac_gcd2 h
def fMeet (m r n s : Int) : Option IP := meetO m r n s
abbrev s_tightest_low : Stmt := topS 5
abbrev N_tightest_low : List Str := ["one", "other"]
abbrev p_tightest_low : List Str := ["one", "other"]
theorem sc_tightest_low : FnScope N_tightest_low p_tightest_low (defScope s_tightest_low) := ⟨rfl, rfl, rfl, by decide +kernel, rfl, by decide +kernel, by decide +kernel⟩
abbrev s_tightest_high : Stmt := topS 7
abbrev N_tightest_high : List Str := ["one", "other"]
abbrev p_tightest_high : List Str := ["one", "other"]
theorem sc_tightest_high : FnScope N_tightest_high p_tightest_high (defScope s_tightest_high) := ⟨rfl, rfl, rfl, by decide +kernel, rfl, by decide +kernel, by decide +kernel⟩
abbrev s_span_meet : Stmt := topS 20
abbrev N_span_meet : List Str := ["one", "other", "low", "high"]
abbrev p_span_meet : List Str := ["one", "other"]
theorem sc_span_meet : FnScope N_span_meet p_span_meet (defScope s_span_meet) := ⟨rfl, rfl, rfl, by decide +kernel, rfl, by decide +kernel, by decide +kernel⟩
abbrev s_inverse : Stmt := topS 17
abbrev N_inverse : List Str := ["n", "m", "high", "low", "before", "now", "times"]
abbrev p_inverse : List Str := ["n", "m"]
theorem sc_inverse : FnScope N_inverse p_inverse (defScope s_inverse) := ⟨rfl, rfl, rfl, by decide +kernel, rfl, by decide +kernel, by decide +kernel⟩
abbrev s_rest_meet : Stmt := topS 13
abbrev N_rest_meet : List Str := ["one", "other", "g", "times", "m", "r", "n", "s"]
abbrev p_rest_meet : List Str := ["one", "other"]
theorem sc_rest_meet : FnScope N_rest_meet p_rest_meet (defScope s_rest_meet) := ⟨rfl, rfl, rfl, by decide +kernel, rfl, by decide +kernel, by decide +kernel⟩
abbrev s_value_meet : Stmt := topS 27
abbrev N_value_meet : List Str := ["one", "other"]
abbrev p_value_meet : List Str := ["one", "other"]
theorem sc_value_meet : FnScope N_value_meet p_value_meet (defScope s_value_meet) := ⟨rfl, rfl, rfl, by decide +kernel, rfl, by decide +kernel, by decide +kernel⟩
def soD : Option (Option Int × Option Int) → Dt
  | none => .non
  | some (a, b) => .tup [oD a, oD b]
def vfD : Option (Option Int × Option Int) → Option IP → Dt
  | some (a, b), some (m, r) => voD a b m r
  | _, _ => .non
theorem vm_is {a b c d : Option Int} {m r n s : Int} : vfD (spanM a b c d) (meetO m r n s) = vmD a b c d m r n s := by
  unfold vmD vfD; cases spanM a b c d <;> cases meetO m r n s <;> rfl
def S_sm (ds : List Dt) (res : Dt) : Prop := ∃ k k' a b c d, ds = [sq k [oD a, oD b], sq k' [oD c, oD d]] ∧ res = soD (spanM a b c d)
def S_vf2 (ds : List Dt) (res : Dt) : Prop := ∃ p q, ds = [soD p, pO q] ∧ res = vfD p q
def S_vm (ds : List Dt) (res : Dt) : Prop := ∃ k k' a b c d, ∃ m r n s : Int, ds = [sq k [oD a, oD b, .int m, .int r], sq k' [oD c, oD d, .int n, .int s]] ∧ Vd m r ∧ Vd n s ∧ res = vmD a b c d m r n s
def S_cut (ds : List Dt) (res : Dt) : Prop := ∃ k c d n s lo hi, ds = [sq k [oD c, oD d, .int n, .int s], oD lo, oD hi] ∧ res = voD (tightL c lo) (tightH d hi) n s
abbrev s_value_cut : Stmt := topS 28
abbrev N_value_cut : List Str := ["value", "low", "high"]
abbrev p_value_cut : List Str := ["value", "low", "high"]
theorem sc_value_cut : FnScope N_value_cut p_value_cut (defScope s_value_cut) := ⟨rfl, rfl, rfl, by decide +kernel, rfl, by decide +kernel, by decide +kernel⟩
section
variable {P : Program} {w : World} {K : PySem.W.Frag} {mg : Str → Option Value} {base : Heap}
theorem ok_tightest_low (bl : Blts mg)   {f : Addr} {fd : FuncData} (F : Fun K "tightest_low" "tightest_low" s_tightest_low f fd) : FnOk P w K mg base CX0 1 f fd p_tightest_low (spP K (S2 tightL)) := by
  refine okP F sc_tightest_low (fun ds r h => ?_) (fun cdv A outer s H E hr ds r h => ?_)
  · obtain ⟨a, b, rfl, rfl⟩ := h
    rfl
  obtain ⟨a, b, rfl, rfl⟩ := h
  refine ⟨_, (pss_cons (ps_if (pt_cmpR op_isN (pv 0) pe_non (nomark _)) (pss_one (ps_ret (pv 1))) pss_nil)
    (pss_cons (ps_if (pt_cmpR op_isN (pv 1) pe_non (nomark _)) (pss_one (ps_ret (pv 0))) pss_nil)
    (pss_one (ps_ret (pe_callB (call_max2 rfl) rfl bl.max (by decide +kernel) (pa_cons (pv 0) (pa_cons (pv 1) pa_nil))))))), ?_⟩
  change AS K _ [En.da _, En.da _] _ _
  try simp only [cxOf_K]
  cases a <;> cases b
  all_goals
    repeat' (first
      | with_reducible apply as_seq
      | with_reducible apply as_ret
      | with_reducible apply as_next
      | with_reducible apply as_if
      | ((with_reducible apply ae_var); · rfl)
      | with_reducible apply ae_non
      | with_reducible apply ae_op
      | with_reducible apply aa_nil
      | with_reducible apply aa_cons
      | with_reducible apply ae_cb
      | with_reducible apply at_test
      | with_reducible apply ar_isN
      | with_reducible apply ac_max2
      | refine ⟨_, rfl, ?_⟩
      | (refine ⟨fun hc => ?_, fun hc => ?_⟩ <;> (first | (exfalso; exact absurd (show false = true from hc) (by decide)) | (exfalso; exact absurd (show true = false from hc) (by decide)) | (exfalso; simp at hc; done) | skip))
      | rfl
      | simp only [oD_some, oD_none]
      | fail)
theorem ok_tightest_high (bl : Blts mg)   {f : Addr} {fd : FuncData} (F : Fun K "tightest_high" "tightest_high" s_tightest_high f fd) : FnOk P w K mg base CX0 1 f fd p_tightest_high (spP K (S2 tightH)) := by
  refine okP F sc_tightest_high (fun ds r h => ?_) (fun cdv A outer s H E hr ds r h => ?_)
  · obtain ⟨a, b, rfl, rfl⟩ := h
    rfl
  obtain ⟨a, b, rfl, rfl⟩ := h
  refine ⟨_, (pss_cons (ps_if (pt_cmpR op_isN (pv 0) pe_non (nomark _)) (pss_one (ps_ret (pv 1))) pss_nil)
    (pss_cons (ps_if (pt_cmpR op_isN (pv 1) pe_non (nomark _)) (pss_one (ps_ret (pv 0))) pss_nil)
    (pss_one (ps_ret (pe_callB (call_min2 rfl) rfl bl.min (by decide +kernel) (pa_cons (pv 0) (pa_cons (pv 1) pa_nil))))))), ?_⟩
  change AS K _ [En.da _, En.da _] _ _
  try simp only [cxOf_K]
  cases a <;> cases b
  all_goals
    repeat' (first
      | with_reducible apply as_seq
      | with_reducible apply as_ret
      | with_reducible apply as_next
      | with_reducible apply as_if
      | ((with_reducible apply ae_var); · rfl)
      | with_reducible apply ae_non
      | with_reducible apply ae_op
      | with_reducible apply aa_nil
      | with_reducible apply aa_cons
      | with_reducible apply ae_cb
      | with_reducible apply at_test
      | with_reducible apply ar_isN
      | with_reducible apply ac_min2
      | refine ⟨_, rfl, ?_⟩
      | (refine ⟨fun hc => ?_, fun hc => ?_⟩ <;> (first | (exfalso; exact absurd (show false = true from hc) (by decide)) | (exfalso; exact absurd (show true = false from hc) (by decide)) | (exfalso; simp at hc; done) | skip))
      | rfl
      | simp only [oD_some, oD_none]
      | fail)
theorem ok_span_meet (bl : Blts mg) {g_tightest_low : Addr} {d_tightest_low : FuncData} (c_tightest_low : Cal P w K mg base 1 "tightest_low" p_tightest_low (spP K (S2 tightL)) g_tightest_low d_tightest_low) {g_tightest_high : Addr} {d_tightest_high : FuncData} (c_tightest_high : Cal P w K mg base 1 "tightest_high" p_tightest_high (spP K (S2 tightH)) g_tightest_high d_tightest_high)  {f : Addr} {fd : FuncData} (F : Fun K "span_meet" "span_meet" s_span_meet f fd) : FnOk P w K mg base CX0 2 f fd p_span_meet (spP K (S_sm)) := by
  refine okP F sc_span_meet (fun ds r h => ?_) (fun cdv A outer s H E hr ds r h => ?_)
  · obtain ⟨k, k', a, b, c, d, rfl, rfl⟩ := h
    rfl
  obtain ⟨k, k', a, b, c, d, rfl, rfl⟩ := h
  refine ⟨_, (pss_cons (ps_set (i := 2) sc_span_meet.nd rfl (by first | exact Or.inl rfl | exact Or.inr rfl) (pe_call c_tightest_low.ok (hr.mono (by decide)) rfl c_tightest_low.mg c_tightest_low.kp c_tightest_low.bi .nil pass0 (pa_cons (pe_ix ix_seq (pv 0) pe_int (fun _ _ => rfl)) (pa_cons (pe_ix ix_seq (pv 1) pe_int (fun _ _ => rfl)) pa_nil))))
    (pss_cons (ps_set (i := 3) sc_span_meet.nd rfl (by first | exact Or.inl rfl | exact Or.inr rfl) (pe_call c_tightest_high.ok (hr.mono (by decide)) rfl c_tightest_high.mg c_tightest_high.kp c_tightest_high.bi .nil pass0 (pa_cons (pe_ix ix_seq (pv 0) pe_int (fun _ _ => rfl)) (pa_cons (pe_ix ix_seq (pv 1) pe_int (fun _ _ => rfl)) pa_nil))))
    (pss_cons (ps_if (PW.pt (pw_and (pt_cmpR op_notN (pv 2) pe_non (nomark _)) (pw_and (pt_cmpR op_notN (pv 3) pe_non (nomark _)) (pw_and1 (pt_cmpR op_gt (pv 2) (pv 3) (nomark _)))))) (pss_one (ps_ret pe_non)) pss_nil)
    (pss_one (ps_ret (pe_tup (pa_cons (pv 2) (pa_cons (pv 3) pa_nil)))))))), ?_⟩
  change AS K _ [En.da _, En.da _, En.no, En.no] _ _
  try simp only [cxOf_K]
  obtain ⟨lo, el⟩ : ∃ lo, lo = tightL a c := ⟨_, rfl⟩
  obtain ⟨hi, eh⟩ : ∃ hi, hi = tightH b d := ⟨_, rfl⟩
  unfold spanM
  rw [← el, ← eh]
  cases lo with
  | none =>
    cases hi with
    | none =>
      repeat' (first
        | with_reducible apply ae_call
        | (refine ⟨.non, ⟨a, c, rfl, congrArg oD el⟩, ?_⟩)
        | (refine ⟨.non, ⟨b, d, rfl, congrArg oD eh⟩, ?_⟩)
        | with_reducible apply as_seq
        | with_reducible apply as_ret
        | with_reducible apply as_next
        | with_reducible apply as_if
        | with_reducible apply as_set
        | ((with_reducible apply ae_var); · rfl)
        | with_reducible apply ae_int
        | with_reducible apply ae_non
        | with_reducible apply ae_op
        | with_reducible apply aa_nil
        | with_reducible apply aa_cons
        | with_reducible apply ae_tup
        | with_reducible apply at_test
        | with_reducible apply at_and
        | with_reducible apply ar_notN
        | ((with_reducible apply ar_ix); · rfl)
        | refine ⟨sz60 (Nat.le_of_ble_eq_true rfl), ?_⟩
        | refine ⟨_, rfl, ?_⟩
        | (refine ⟨fun hc => ?_, fun hc => ?_⟩ <;> (first | (exfalso; exact absurd (show false = true from hc) (by decide)) | (exfalso; exact absurd (show true = false from hc) (by decide)) | (exfalso; simp at hc; done) | skip))
        | rfl
        | fail)
    | some y =>
      repeat' (first
        | with_reducible apply ae_call
        | (refine ⟨.non, ⟨a, c, rfl, congrArg oD el⟩, ?_⟩)
        | (refine ⟨.int y, ⟨b, d, rfl, congrArg oD eh⟩, ?_⟩)
        | with_reducible apply as_seq
        | with_reducible apply as_ret
        | with_reducible apply as_next
        | with_reducible apply as_if
        | with_reducible apply as_set
        | ((with_reducible apply ae_var); · rfl)
        | with_reducible apply ae_int
        | with_reducible apply ae_non
        | with_reducible apply ae_op
        | with_reducible apply aa_nil
        | with_reducible apply aa_cons
        | with_reducible apply ae_tup
        | with_reducible apply at_test
        | with_reducible apply at_and
        | with_reducible apply ar_notN
        | ((with_reducible apply ar_ix); · rfl)
        | refine ⟨sz60 (Nat.le_of_ble_eq_true rfl), ?_⟩
        | refine ⟨_, rfl, ?_⟩
        | (refine ⟨fun hc => ?_, fun hc => ?_⟩ <;> (first | (exfalso; exact absurd (show false = true from hc) (by decide)) | (exfalso; exact absurd (show true = false from hc) (by decide)) | (exfalso; simp at hc; done) | skip))
        | rfl
        | fail)
  | some x =>
    cases hi with
    | none =>
      repeat' (first
        | with_reducible apply ae_call
        | (refine ⟨.int x, ⟨a, c, rfl, congrArg oD el⟩, ?_⟩)
        | (refine ⟨.non, ⟨b, d, rfl, congrArg oD eh⟩, ?_⟩)
        | with_reducible apply as_seq
        | with_reducible apply as_ret
        | with_reducible apply as_next
        | with_reducible apply as_if
        | with_reducible apply as_set
        | ((with_reducible apply ae_var); · rfl)
        | with_reducible apply ae_int
        | with_reducible apply ae_non
        | with_reducible apply ae_op
        | with_reducible apply aa_nil
        | with_reducible apply aa_cons
        | with_reducible apply ae_tup
        | with_reducible apply at_test
        | with_reducible apply at_and
        | with_reducible apply ar_notN
        | ((with_reducible apply ar_ix); · rfl)
        | refine ⟨sz60 (Nat.le_of_ble_eq_true rfl), ?_⟩
        | refine ⟨_, rfl, ?_⟩
        | (refine ⟨fun hc => ?_, fun hc => ?_⟩ <;> (first | (exfalso; exact absurd (show false = true from hc) (by decide)) | (exfalso; exact absurd (show true = false from hc) (by decide)) | (exfalso; simp at hc; done) | skip))
        | rfl
        | fail)
    | some y =>
      by_cases hlt : y < x
      · have hd : decide (y < x) = true := decide_eq_true hlt
        repeat' (first
          | (refine ⟨_, rfl, ?_⟩; rw [hd]; refine ⟨fun hc => ?_, fun hc => (nomatch hc)⟩)
          | with_reducible apply ae_call
          | (refine ⟨.int x, ⟨a, c, rfl, congrArg oD el⟩, ?_⟩)
          | (refine ⟨.int y, ⟨b, d, rfl, congrArg oD eh⟩, ?_⟩)
          | with_reducible apply as_seq
          | with_reducible apply as_ret
          | with_reducible apply as_if
          | with_reducible apply as_set
          | ((with_reducible apply ae_var); · rfl)
          | with_reducible apply ae_int
          | with_reducible apply ae_non
          | with_reducible apply ae_op
          | with_reducible apply aa_nil
          | with_reducible apply aa_cons
          | with_reducible apply at_test
          | with_reducible apply at_and
          | with_reducible apply ar_I0b
          | with_reducible apply ar_notN
          | ((with_reducible apply ar_ix); · rfl)
          | refine ⟨_, rfl, ?_⟩
          | (refine ⟨fun hc => ?_, fun hc => ?_⟩ <;> (first | (exfalso; exact absurd (show false = true from hc) (by decide)) | (exfalso; exact absurd (show true = false from hc) (by decide)) | (exfalso; simp at hc; done) | skip))
          | simp only [oD_some, oD_none]
          | fail)
        all_goals (show _ = soD (if y < x then none else _); rw [if_pos hlt]; rfl)
      · have hd : decide (y < x) = false := decide_eq_false hlt
        repeat' (first
          | (refine ⟨_, rfl, ?_⟩; rw [hd]; refine ⟨fun hc => (nomatch hc), fun hc => ?_⟩)
          | with_reducible apply ae_call
          | (refine ⟨.int x, ⟨a, c, rfl, congrArg oD el⟩, ?_⟩)
          | (refine ⟨.int y, ⟨b, d, rfl, congrArg oD eh⟩, ?_⟩)
          | with_reducible apply as_seq
          | with_reducible apply as_ret
          | with_reducible apply as_next
          | with_reducible apply as_if
          | with_reducible apply as_set
          | ((with_reducible apply ae_var); · rfl)
          | with_reducible apply ae_int
          | with_reducible apply ae_non
          | with_reducible apply ae_op
          | with_reducible apply aa_nil
          | with_reducible apply aa_cons
          | with_reducible apply ae_tup
          | with_reducible apply at_test
          | with_reducible apply at_and
          | with_reducible apply ar_I0b
          | with_reducible apply ar_notN
          | ((with_reducible apply ar_ix); · rfl)
          | refine ⟨sz60 (Nat.le_of_ble_eq_true rfl), ?_⟩
          | refine ⟨_, rfl, ?_⟩
          | (refine ⟨fun hc => ?_, fun hc => ?_⟩ <;> (first | (exfalso; exact absurd (show false = true from hc) (by decide)) | (exfalso; exact absurd (show true = false from hc) (by decide)) | (exfalso; simp at hc; done) | skip))
          | simp only [oD_some, oD_none]
          | fail)
        all_goals (show _ = soD (if y < x then none else _); rw [if_neg hlt]; rfl)
theorem ok_inverse (bl : Blts mg)   {f : Addr} {fd : FuncData} (F : Fun K "inverse" "inverse" s_inverse f fd) : FnOk P w K mg base CX0 1 f fd p_inverse (spP K (S_inv)) := by
  refine okP F sc_inverse (fun ds r h => ?_) (fun cdv A outer s H E hr ds r h => ?_)
  · obtain ⟨n, m, rfl, hm, rfl⟩ := h
    rfl
  obtain ⟨n, m, rfl, hm, rfl⟩ := h
  refine ⟨_, (pss_cons (ps_par (i := 2) (j := 3) (by rfl) sc_inverse.nd rfl rfl (by decide) rfl rfl (pa_cons (pv 1) (pa_cons (pe_op op_modN (pv 0) (pv 1)) pa_nil)) (by rfl))
    (pss_cons (ps_asg (pe_tup (pa_cons pe_int (pa_cons pe_int pa_nil))) (pg_tup rfl (pgs_cons (pg_name (i := 4) sc_inverse.nd rfl (by first | exact Or.inl rfl | exact Or.inr rfl)) (pgs_cons (pg_name (i := 5) sc_inverse.nd rfl (by first | exact Or.inl rfl | exact Or.inr rfl)) pgs_nil))))
    (pss_cons (ps_while PassesOwn.never (pt_cmpR op_ne (pv 3) pe_int (nomark _)) (pss_cons (ps_set (i := 6) sc_inverse.nd rfl (by first | exact Or.inl rfl | exact Or.inr rfl) (pe_op op_fdivB (pv 2) (pv 3)))
    (pss_cons (ps_par (i := 2) (j := 3) (by rfl) sc_inverse.nd rfl rfl (by decide) rfl rfl (pa_cons (pv 3) (pa_cons (pe_op op_sub (pv 2) (pe_op op_mul (pv 6) (pv 3))) pa_nil)) (by rfl))
    (pss_one (ps_par (i := 4) (j := 5) (by rfl) sc_inverse.nd rfl rfl (by decide) rfl rfl (pa_cons (pv 5) (pa_cons (pe_op op_sub (pv 4) (pe_op op_mul (pv 6) (pv 5))) pa_nil)) (by rfl))))))
    (pss_one (ps_ret (pe_op op_modN (pv 4) (pv 1))))))), ?_⟩
  change AS K _ [En.da _, En.da _, En.no, En.no, En.no, En.no, En.no] _ _
  try simp only [cxOf_K]
  have f0 := fm_lt (x := n) (m := m) (by omega)
  repeat' (first
    | refine ar_Ii (C := fun _ j => j ≠ 0) (by first | assumption | omega) ?_
    | with_reducible apply as_seq
    | with_reducible apply as_par
    | with_reducible apply as_asg
    | ((with_reducible apply ae_var); · rfl)
    | with_reducible apply ae_int
    | with_reducible apply ae_op
    | with_reducible apply aa_nil
    | with_reducible apply aa_cons
    | with_reducible apply ae_tup
    | with_reducible apply ag_name
    | with_reducible apply ags_nil
    | with_reducible apply ags_cons
    | ((with_reducible apply ag_tup); · rfl)
    | refine ⟨sz60 (Nat.le_of_ble_eq_true rfl), ?_⟩
    | refine ⟨_, _, rfl, ?_⟩
    | fail)
  refine as_while ⟨fun k ρ => ∃ (h l b w : Int) (e6 : En), k = l.toNat ∧ (0 ≤ h ∧ h ≤ 10 ^ 16) ∧ (0 ≤ l ∧ l ≤ 10 ^ 16) ∧ ext h l b w = ext m (n.fmod m) 0 1 ∧ ρ = [.da (.int n), .da (.int m), .da (.int h), .da (.int l), .da (.int b), .da (.int w), e6], ⟨_, m, n.fmod m, 0, 1, _, rfl, ⟨by omega, by omega⟩, ⟨by omega, by omega⟩, rfl, rfl⟩, ?_⟩
  rintro k ρ ⟨h, l, b, w', e6, rfl, hb, lb, he, rfl⟩
  by_cases hl : l = 0
  · subst hl
    rw [ext_0] at he
    subst he
    repeat' (first
      | refine ar_Ii (C := fun _ j => j ≠ 0) (by first | assumption | omega) ?_
      | with_reducible apply as_ret
      | ((with_reducible apply ae_var); · rfl)
      | with_reducible apply ae_int
      | with_reducible apply ae_op
      | with_reducible apply at_test
      | ((with_reducible apply ar_ne3); · exact ⟨rfl, rfl, rfl⟩)
      | refine ⟨_, rfl, ?_⟩
      | (refine ⟨fun hc => ?_, fun hc => ?_⟩ <;> (first | (exfalso; exact absurd (show false = true from hc) (by decide)) | (exfalso; exact absurd (show true = false from hc) (by decide)) | (exfalso; simp at hc; done) | skip))
      | rfl
      | fail)
    all_goals rfl
  · have yl : (!decide (V.int l = V.int 0)) = true := vnn hl
    have fq := fd_b (h := h) (l := l) hb.1 (by omega)
    have fl := fm_lt (x := h) (m := l) (by omega)
    have em : h - h.fdiv l * l = h.fmod l := by rw [Int.fmod_def, Int.mul_comm]
    rw [ext_s (by omega)] at he
    repeat' (first
      | (refine ⟨_, rfl, ?_⟩; rw [yl]; refine ⟨fun hc => ?_, fun hc => (nomatch hc)⟩)
      | refine ar_Ii (C := CDivB) (divB (by first | assumption | omega) (by omega) (by omega)) ?_
      | refine ar_Ii (C := CMul) (.inr ⟨by omega, by omega⟩) ?_
      | refine ar_Ii (C := CMul) (.inl ⟨by omega, by omega⟩) ?_
      | exact ⟨(h.fmod l).toNat, by omega, l, h.fmod l, w', b - h.fdiv l * w', .da (.int (h.fdiv l)), rfl, ⟨by omega, by omega⟩, ⟨by omega, by omega⟩, he, by rw [em]; rfl⟩
      | with_reducible apply as_seq
      | with_reducible apply as_set
      | with_reducible apply as_par
      | ((with_reducible apply ae_var); · rfl)
      | with_reducible apply ae_int
      | with_reducible apply ae_op
      | with_reducible apply aa_nil
      | with_reducible apply aa_cons
      | with_reducible apply at_test
      | with_reducible apply ar_I0i
      | ((with_reducible apply ar_ne3); · exact ⟨rfl, rfl, rfl⟩)
      | refine ⟨_, _, rfl, ?_⟩
      | fail)
theorem ok_rest_meet (bl : Blts mg) {g_rest_has : Addr} {d_rest_has : FuncData} (c_rest_has : Cal P w K mg base 1 "rest_has" p_rest_has (spP K S_has) g_rest_has d_rest_has) {g_rest_of : Addr} {d_rest_of : FuncData} (c_rest_of : Cal P w K mg base 1 "rest_of" p_rest_of (spP K S_ro) g_rest_of d_rest_of) {g_inverse : Addr} {d_inverse : FuncData} (c_inverse : Cal P w K mg base 1 "inverse" p_inverse (spP K S_inv) g_inverse d_inverse) (hgcd : mg "gcd" = some (.builtin "math.gcd")) {f : Addr} {fd : FuncData} (F : Fun K "rest_meet" "rest_meet" s_rest_meet f fd) : FnOk P w K mg base CX0 2 f fd p_rest_meet (spP K (S2r fMeet)) := by
  refine okP F sc_rest_meet (fun ds r h => ?_) (fun cdv A outer s H E hr ds r h => ?_)
  · obtain ⟨k, k', m, r, n, s, rfl, v1, v2, rfl⟩ := h
    rfl
  obtain ⟨k, k', m, r, n, s, rfl, v1, v2, rfl⟩ := h
  refine ⟨_, (pss_cons (ps_asg (pv 0) (pg_or (pg_tup rfl (pgs_cons (pg_name (i := 4) sc_rest_meet.nd rfl (by first | exact Or.inl rfl | exact Or.inr rfl)) (pgs_cons (pg_name (i := 5) sc_rest_meet.nd rfl (by first | exact Or.inl rfl | exact Or.inr rfl)) pgs_nil))) (pg_unl rfl (pgs_cons (pg_name (i := 4) sc_rest_meet.nd rfl (by first | exact Or.inl rfl | exact Or.inr rfl)) (pgs_cons (pg_name (i := 5) sc_rest_meet.nd rfl (by first | exact Or.inl rfl | exact Or.inr rfl)) pgs_nil)))))
    (pss_cons (ps_asg (pv 1) (pg_or (pg_tup rfl (pgs_cons (pg_name (i := 6) sc_rest_meet.nd rfl (by first | exact Or.inl rfl | exact Or.inr rfl)) (pgs_cons (pg_name (i := 7) sc_rest_meet.nd rfl (by first | exact Or.inl rfl | exact Or.inr rfl)) pgs_nil))) (pg_unl rfl (pgs_cons (pg_name (i := 6) sc_rest_meet.nd rfl (by first | exact Or.inl rfl | exact Or.inr rfl)) (pgs_cons (pg_name (i := 7) sc_rest_meet.nd rfl (by first | exact Or.inl rfl | exact Or.inr rfl)) pgs_nil)))))
    (pss_cons (ps_if (pt_cmpR op_eq (pv 4) pe_int (nomark _)) (pss_one (ps_ret (pe_ifExp (pt_val (pe_call c_rest_has.ok (hr.mono (by decide)) rfl c_rest_has.mg c_rest_has.kp c_rest_has.bi .nil pass0 (pa_cons (pv 1) (pa_cons (pv 5) pa_nil)))) (pe_tup (pa_cons pe_int (pa_cons (pv 5) pa_nil))) pe_non))) pss_nil)
    (pss_cons (ps_if (pt_cmpR op_eq (pv 6) pe_int (nomark _)) (pss_one (ps_ret (pe_ifExp (pt_val (pe_call c_rest_has.ok (hr.mono (by decide)) rfl c_rest_has.mg c_rest_has.kp c_rest_has.bi .nil pass0 (pa_cons (pv 0) (pa_cons (pv 7) pa_nil)))) (pe_tup (pa_cons pe_int (pa_cons (pv 7) pa_nil))) pe_non))) pss_nil)
    (pss_cons (ps_set (i := 2) sc_rest_meet.nd rfl (by first | exact Or.inl rfl | exact Or.inr rfl) (pe_callBfun cr_gcd rfl hgcd (pa_cons (pv 4) (pa_cons (pv 6) pa_nil))))
    (pss_cons (ps_if (pt_cmpR op_ne (pe_op op_modN (pe_op op_sub (pv 7) (pv 5)) (pv 2)) pe_int (nomark _)) (pss_one (ps_ret pe_non)) pss_nil)
    (pss_cons (ps_set (i := 3) sc_rest_meet.nd rfl (by first | exact Or.inl rfl | exact Or.inr rfl) (pe_op op_mul (pe_op op_fdivB (pe_op op_sub (pv 7) (pv 5)) (pv 2)) (pe_call c_inverse.ok (hr.mono (by decide)) rfl c_inverse.mg c_inverse.kp c_inverse.bi .nil pass0 (pa_cons (pe_op op_fdivB (pv 4) (pv 2)) (pa_cons (pe_op op_fdivB (pv 6) (pv 2)) pa_nil)))))
    (pss_one (ps_ret (pe_call c_rest_of.ok (hr.mono (by decide)) rfl c_rest_of.mg c_rest_of.kp c_rest_of.bi .nil pass0 (pa_cons (pe_op op_mul (pe_op op_fdivB (pv 4) (pv 2)) (pv 6)) (pa_cons (pe_op op_add (pv 5) (pe_op op_mul (pv 4) (pv 3))) pa_nil)))))))))))), ?_⟩
  change AS K _ [En.da _, En.da _, En.no, En.no, En.no, En.no, En.no, En.no] _ _
  try simp only [cxOf_K]
  have b1 := v1.b
  have b2 := v2.b
  by_cases hm : m = 0
  · subst hm
    cases hb : hasB n s r
    all_goals
      repeat' (first
        | ((with_reducible apply ag_seq); · rfl)
        | with_reducible apply ae_call
        | (refine ⟨.bl true, ⟨k', n, s, r, rfl, (congrArg Dt.bl hb.symm)⟩, ?_⟩)
        | (refine ⟨.bl false, ⟨k', n, s, r, rfl, (congrArg Dt.bl hb.symm)⟩, ?_⟩)
        | with_reducible apply as_seq
        | with_reducible apply as_ret
        | with_reducible apply as_if
        | with_reducible apply as_asg
        | ((with_reducible apply ae_var); · rfl)
        | with_reducible apply ae_int
        | with_reducible apply ae_non
        | with_reducible apply ae_op
        | with_reducible apply aa_nil
        | with_reducible apply aa_cons
        | with_reducible apply ae_tup
        | with_reducible apply ae_if
        | with_reducible apply at_test
        | with_reducible apply at_b
        | ((with_reducible apply ar_eq3); · exact ⟨rfl, rfl, rfl⟩)
        | with_reducible apply ag_name
        | with_reducible apply ags_nil
        | with_reducible apply ags_cons
        | refine ⟨sz60 (Nat.le_of_ble_eq_true rfl), ?_⟩
        | refine ⟨_, rfl, ?_⟩
        | (refine ⟨fun hc => ?_, fun hc => ?_⟩ <;> (first | (exfalso; exact absurd (show false = true from hc) (by decide)) | (exfalso; exact absurd (show true = false from hc) (by decide)) | (exfalso; simp at hc; done) | skip))
        | fail)
    all_goals (show _ = pO (meetO 0 r n s); unfold meetO; rw [if_pos rfl, hb]; rfl)
  · have zm : decide (V.int m = V.int 0) = false := vne hm
    have ym : (!decide (V.int m = V.int 0)) = true := vnn hm
    by_cases hn : n = 0
    · subst hn
      cases hb : hasB m r s
      all_goals
        repeat' (first
          | ((with_reducible apply ag_seq); · rfl)
          | (refine ⟨_, rfl, ?_⟩; rw [zm]; refine ⟨fun hc => (nomatch hc), fun hc => ?_⟩)
          | with_reducible apply ae_call
          | (refine ⟨.bl true, ⟨k, m, r, s, rfl, (congrArg Dt.bl hb.symm)⟩, ?_⟩)
          | (refine ⟨.bl false, ⟨k, m, r, s, rfl, (congrArg Dt.bl hb.symm)⟩, ?_⟩)
          | with_reducible apply as_seq
          | with_reducible apply as_ret
          | with_reducible apply as_next
          | with_reducible apply as_if
          | with_reducible apply as_asg
          | ((with_reducible apply ae_var); · rfl)
          | with_reducible apply ae_int
          | with_reducible apply ae_non
          | with_reducible apply ae_op
          | with_reducible apply aa_nil
          | with_reducible apply aa_cons
          | with_reducible apply ae_tup
          | with_reducible apply ae_if
          | with_reducible apply at_test
          | with_reducible apply at_b
          | ((with_reducible apply ar_eq3); · exact ⟨rfl, rfl, rfl⟩)
          | with_reducible apply ag_name
          | with_reducible apply ags_nil
          | with_reducible apply ags_cons
          | refine ⟨sz60 (Nat.le_of_ble_eq_true rfl), ?_⟩
          | refine ⟨_, rfl, ?_⟩
          | (refine ⟨fun hc => ?_, fun hc => ?_⟩ <;> (first | (exfalso; exact absurd (show false = true from hc) (by decide)) | (exfalso; exact absurd (show true = false from hc) (by decide)) | (exfalso; simp at hc; done) | skip))
          | fail)
      all_goals (show _ = pO (meetO m r 0 s); unfold meetO; rw [if_neg hm, if_pos rfl, hb]; rfl)
    · have zn : decide (V.int n = V.int 0) = false := vne hn
      have yn : (!decide (V.int n = V.int 0)) = true := vnn hn
      have gp := g_pos (m := m) (n := n) (by omega) (by omega)
      have gl := g2_le (m := m) (n := n) (by omega)
      have qb := q_b (m := m) (n := n) (by omega) (by omega)
      have ib := invF_b (n := m.fdiv (g2 m n)) (m := n.fdiv (g2 m n)) (by omega)
      have gne : g2 m n ≠ 0 := by omega
      by_cases hg : (s - r).fmod (g2 m n) = 0
      · have yg : (!decide (V.int ((s - r).fmod (g2 m n)) = V.int 0)) = false := vee hg
        repeat' (first
          | ((with_reducible apply ag_seq); · rfl)
          | (refine ac_g2 ?_)
          | (refine ⟨_, rfl, ?_⟩; rw [yg]; refine ⟨fun hc => (nomatch hc), fun hc => ?_⟩)
          | (refine ⟨_, rfl, ?_⟩; rw [zm]; refine ⟨fun hc => (nomatch hc), fun hc => ?_⟩)
          | (refine ⟨_, rfl, ?_⟩; rw [zn]; refine ⟨fun hc => (nomatch hc), fun hc => ?_⟩)
          | with_reducible apply ae_call
          | (refine ⟨_, ⟨_, _, rfl, rfl⟩, ?_⟩)
          | refine ar_Ii (C := fun _ j => j ≠ 0) gne ?_
          | refine ar_Ii (C := CDivB) (divB gne (by omega) (by omega)) ?_
          | (refine ⟨_, ⟨_, _, rfl, ⟨by omega, by omega⟩, rfl⟩, ?_⟩)
          | refine ar_Ii (C := CMul) (.inr ⟨by omega, by omega⟩) ?_
          | refine ar_Ii (C := CMul) (.inl ⟨by omega, by omega⟩) ?_
          | with_reducible apply as_seq
          | with_reducible apply as_ret
          | with_reducible apply as_next
          | with_reducible apply as_if
          | with_reducible apply as_set
          | with_reducible apply as_asg
          | ((with_reducible apply ae_var); · rfl)
          | with_reducible apply ae_int
          | with_reducible apply ae_op
          | with_reducible apply aa_nil
          | with_reducible apply aa_cons
          | with_reducible apply ae_cb
          | with_reducible apply at_test
          | with_reducible apply ar_I0i
          | ((with_reducible apply ar_eq3); · exact ⟨rfl, rfl, rfl⟩)
          | ((with_reducible apply ar_ne3); · exact ⟨rfl, rfl, rfl⟩)
          | with_reducible apply ag_name
          | with_reducible apply ags_nil
          | with_reducible apply ags_cons
          | fail)
        all_goals (show _ = pO (meetO m r n s); unfold meetO; rw [if_neg hm, if_neg hn, if_pos hg]; rfl)
      · have yg : (!decide (V.int ((s - r).fmod (g2 m n)) = V.int 0)) = true := vnn hg
        repeat' (first
          | ((with_reducible apply ag_seq); · rfl)
          | (refine ac_g2 ?_)
          | (refine ⟨_, rfl, ?_⟩; rw [yg]; refine ⟨fun hc => ?_, fun hc => (nomatch hc)⟩)
          | (refine ⟨_, rfl, ?_⟩; rw [zm]; refine ⟨fun hc => (nomatch hc), fun hc => ?_⟩)
          | (refine ⟨_, rfl, ?_⟩; rw [zn]; refine ⟨fun hc => (nomatch hc), fun hc => ?_⟩)
          | refine ar_Ii (C := fun _ j => j ≠ 0) gne ?_
          | with_reducible apply as_seq
          | with_reducible apply as_ret
          | with_reducible apply as_next
          | with_reducible apply as_if
          | with_reducible apply as_set
          | with_reducible apply as_asg
          | ((with_reducible apply ae_var); · rfl)
          | with_reducible apply ae_int
          | with_reducible apply ae_non
          | with_reducible apply ae_op
          | with_reducible apply aa_nil
          | with_reducible apply aa_cons
          | with_reducible apply ae_cb
          | with_reducible apply at_test
          | with_reducible apply ar_I0i
          | ((with_reducible apply ar_eq3); · exact ⟨rfl, rfl, rfl⟩)
          | ((with_reducible apply ar_ne3); · exact ⟨rfl, rfl, rfl⟩)
          | with_reducible apply ag_name
          | with_reducible apply ags_nil
          | with_reducible apply ags_cons
          | fail)
        all_goals (show _ = pO (meetO m r n s); unfold meetO; rw [if_neg hm, if_neg hn, if_neg hg]; rfl)
theorem ok_value_from2 (bl : Blts mg) {g_value_of : Addr} {d_value_of : FuncData} (c_value_of : Cal P w K mg base 3 "value_of" p_value_of (spP K S_vo) g_value_of d_value_of)  {f : Addr} {fd : FuncData} (F : Fun K "value_from" "value_from" s_value_from f fd) : FnOk P w K mg base CX0 4 f fd p_value_from (spP K (S_vf2)) := by
  refine okP F sc_value_from (fun ds r h => ?_) (fun cdv A outer s H E hr ds r h => ?_)
  · obtain ⟨p, q, rfl, rfl⟩ := h
    rfl
  obtain ⟨p, q, rfl, rfl⟩ := h
  refine ⟨_, (pss_cons (ps_if (PW.pt (pw_or (pt_cmpR op_isN (pv 0) pe_non (nomark _)) (pw_or1 (pt_cmpR op_isN (pv 1) pe_non (nomark _))))) (pss_one (ps_ret pe_non)) pss_nil)
    (pss_one (ps_ret (pe_call c_value_of.ok (hr.mono (by decide)) rfl c_value_of.mg c_value_of.kp c_value_of.bi .nil pass0 (pa_cons (pe_ix ix_seq (pv 0) pe_int (fun _ _ => rfl)) (pa_cons (pe_ix ix_seq (pv 0) pe_int (fun _ _ => rfl)) (pa_cons (pe_ix ix_seq (pv 1) pe_int (fun _ _ => rfl)) (pa_cons (pe_ix ix_seq (pv 1) pe_int (fun _ _ => rfl)) pa_nil)))))))), ?_⟩
  change AS K _ [En.da _, En.da _] _ _
  try simp only [cxOf_K]
  cases p with
  | none => cases q
            all_goals
              repeat' (first
                | with_reducible apply as_seq
                | with_reducible apply as_ret
                | with_reducible apply as_if
                | ((with_reducible apply ae_var); · rfl)
                | with_reducible apply ae_non
                | with_reducible apply ae_op
                | with_reducible apply at_test
                | with_reducible apply at_or
                | with_reducible apply ar_isN
                | refine ⟨_, rfl, ?_⟩
                | (refine ⟨fun hc => ?_, fun hc => ?_⟩ <;> (first | (exfalso; exact absurd (show false = true from hc) (by decide)) | (exfalso; exact absurd (show true = false from hc) (by decide)) | (exfalso; simp at hc; done) | skip))
                | rfl
                | fail)
  | some p => cases q with
    | none =>
      repeat' (first
        | with_reducible apply as_seq
        | with_reducible apply as_ret
        | with_reducible apply as_if
        | ((with_reducible apply ae_var); · rfl)
        | with_reducible apply ae_non
        | with_reducible apply ae_op
        | with_reducible apply at_test
        | with_reducible apply at_or
        | with_reducible apply ar_isN
        | refine ⟨_, rfl, ?_⟩
        | (refine ⟨fun hc => ?_, fun hc => ?_⟩ <;> (first | (exfalso; exact absurd (show false = true from hc) (by decide)) | (exfalso; exact absurd (show true = false from hc) (by decide)) | (exfalso; simp at hc; done) | skip))
        | rfl
        | fail)
    | some q =>
      obtain ⟨a, b⟩ := p
      obtain ⟨m, r⟩ := q
      change AS K _ [En.da (sq true [oD a, oD b]), En.da (sq true [.int m, .int r])] _ _
      repeat' (first
        | with_reducible apply ae_call
        | (refine ⟨_, ⟨a, b, m, r, rfl, rfl⟩, ?_⟩)
        | with_reducible apply as_seq
        | with_reducible apply as_ret
        | with_reducible apply as_next
        | with_reducible apply as_if
        | ((with_reducible apply ae_var); · rfl)
        | with_reducible apply ae_int
        | with_reducible apply ae_non
        | with_reducible apply ae_op
        | with_reducible apply aa_nil
        | with_reducible apply aa_cons
        | with_reducible apply at_test
        | with_reducible apply at_or
        | with_reducible apply ar_isN
        | ((with_reducible apply ar_ix); · rfl)
        | refine ⟨_, rfl, ?_⟩
        | (refine ⟨fun hc => ?_, fun hc => ?_⟩ <;> (first | (exfalso; exact absurd (show false = true from hc) (by decide)) | (exfalso; exact absurd (show true = false from hc) (by decide)) | (exfalso; simp at hc; done) | skip))
        | rfl
        | fail)
theorem ok_value_meet (bl : Blts mg) {g_span_meet : Addr} {d_span_meet : FuncData} (c_span_meet : Cal P w K mg base 2 "span_meet" p_span_meet (spP K S_sm) g_span_meet d_span_meet) {g_rest_meet : Addr} {d_rest_meet : FuncData} (c_rest_meet : Cal P w K mg base 2 "rest_meet" p_rest_meet (spP K (S2r fMeet)) g_rest_meet d_rest_meet) {g_value_from : Addr} {d_value_from : FuncData} (c_value_from : Cal P w K mg base 4 "value_from" p_value_from (spP K S_vf2) g_value_from d_value_from)  {f : Addr} {fd : FuncData} (F : Fun K "value_meet" "value_meet" s_value_meet f fd) : FnOk P w K mg base CX0 5 f fd p_value_meet (spP K (S_vm)) := by
  refine okP F sc_value_meet (fun ds r h => ?_) (fun cdv A outer s H E hr ds r h => ?_)
  · obtain ⟨k, k', a, b, c, d, m, r, n, s, rfl, v1, v2, rfl⟩ := h
    rfl
  obtain ⟨k, k', a, b, c, d, m, r, n, s, rfl, v1, v2, rfl⟩ := h
  refine ⟨_, (pss_one (ps_ret (pe_call c_value_from.ok (hr.mono (by decide)) rfl c_value_from.mg c_value_from.kp c_value_from.bi .nil pass0 (pa_cons (pe_call c_span_meet.ok (hr.mono (by decide)) rfl c_span_meet.mg c_span_meet.kp c_span_meet.bi .nil pass0 (pa_cons (pe_slice sl_seq (pv 0) po_none (po_some pe_int)) (pa_cons (pe_slice sl_seq (pv 1) po_none (po_some pe_int)) pa_nil))) (pa_cons (pe_call c_rest_meet.ok (hr.mono (by decide)) rfl c_rest_meet.mg c_rest_meet.kp c_rest_meet.bi .nil pass0 (pa_cons (pe_slice sl_seq (pv 0) (po_some pe_int) po_none) (pa_cons (pe_slice sl_seq (pv 1) (po_some pe_int) po_none) pa_nil))) pa_nil))))), ?_⟩
  change AS K _ [En.da _, En.da _] _ _
  try simp only [cxOf_K]
  repeat' (first
    | with_reducible apply ae_call
    | with_reducible apply ae_slFrom
    | with_reducible apply ae_slTo
    | (refine ⟨_, _, _, _, _, rfl, ?_⟩)
    | (refine ⟨_, ⟨k, k', a, b, c, d, rfl, rfl⟩, ?_⟩)
    | (refine ⟨_, ⟨k, k', m, r, n, s, rfl, v1, v2, rfl⟩, ?_⟩)
    | (refine ⟨_, ⟨spanM a b c d, meetO m r n s, rfl, rfl⟩, ?_⟩)
    | exact vm_is
    | with_reducible apply as_ret
    | ((with_reducible apply ae_var); · rfl)
    | with_reducible apply aa_nil
    | with_reducible apply aa_cons
    | fail)
theorem ok_value_cut (bl : Blts mg) {g_tightest_low : Addr} {d_tightest_low : FuncData} (c_tightest_low : Cal P w K mg base 1 "tightest_low" p_tightest_low (spP K (S2 tightL)) g_tightest_low d_tightest_low) {g_tightest_high : Addr} {d_tightest_high : FuncData} (c_tightest_high : Cal P w K mg base 1 "tightest_high" p_tightest_high (spP K (S2 tightH)) g_tightest_high d_tightest_high) {g_value_of : Addr} {d_value_of : FuncData} (c_value_of : Cal P w K mg base 3 "value_of" p_value_of (spP K S_vo) g_value_of d_value_of)  {f : Addr} {fd : FuncData} (F : Fun K "value_cut" "value_cut" s_value_cut f fd) : FnOk P w K mg base CX0 4 f fd p_value_cut (spP K (S_cut)) := by
  refine okP F sc_value_cut (fun ds r h => ?_) (fun cdv A outer s H E hr ds r h => ?_)
  · obtain ⟨k, c, d, n, s, lo, hi, rfl, rfl⟩ := h
    rfl
  obtain ⟨k, c, d, n, s, lo, hi, rfl, rfl⟩ := h
  refine ⟨_, (pss_one (ps_ret (pe_call c_value_of.ok (hr.mono (by decide)) rfl c_value_of.mg c_value_of.kp c_value_of.bi .nil pass0 (pa_cons (pe_call c_tightest_low.ok (hr.mono (by decide)) rfl c_tightest_low.mg c_tightest_low.kp c_tightest_low.bi .nil pass0 (pa_cons (pe_ix ix_seq (pv 0) pe_int (fun _ _ => rfl)) (pa_cons (pv 1) pa_nil))) (pa_cons (pe_call c_tightest_high.ok (hr.mono (by decide)) rfl c_tightest_high.mg c_tightest_high.kp c_tightest_high.bi .nil pass0 (pa_cons (pe_ix ix_seq (pv 0) pe_int (fun _ _ => rfl)) (pa_cons (pv 2) pa_nil))) (pa_cons (pe_ix ix_seq (pv 0) pe_int (fun _ _ => rfl)) (pa_cons (pe_ix ix_seq (pv 0) pe_int (fun _ _ => rfl)) pa_nil))))))), ?_⟩
  change AS K _ [En.da _, En.da _, En.da _] _ _
  try simp only [cxOf_K]
  repeat' (first
    | with_reducible apply ae_call
    | (refine ⟨oD (tightL c lo), ⟨c, lo, rfl, rfl⟩, ?_⟩)
    | (refine ⟨oD (tightH d hi), ⟨d, hi, rfl, rfl⟩, ?_⟩)
    | (refine ⟨_, ⟨_, _, _, _, rfl, rfl⟩, ?_⟩)
    | with_reducible apply as_ret
    | ((with_reducible apply ae_var); · rfl)
    | with_reducible apply ae_int
    | with_reducible apply ae_op
    | with_reducible apply aa_nil
    | with_reducible apply aa_cons
    | ((with_reducible apply ar_ix); · rfl)
    | rfl
    | fail)
end
end Sh
set_option Elab.async false
set_option linter.all false
set_option maxRecDepth 100000
set_option maxHeartbeats 4000000
namespace Sh
open PySem PySem.Spec PyProof.Rows L2
/-! arrays: pieces and items -/
/-- ends that ascend, above n -/
def asc : Pcs → Int → Prop
  | [], _ => True
  | (e, _) :: P, n => n < e ∧ asc P e
/-- item by item, from n on -/
def sp : Pcs → Int → List VT
  | [], _ => []
  | (e, v) :: P, n => List.replicate (e - n).toNat v ++ sp P e
def endO : Pcs → Int → Int
  | [], n => n
  | (e, _) :: P, _ => endO P e
/-- neighbours differ -/
def unl : Pcs → Prop
  | [] => True
  | [_] => True
  | p :: q :: P => p.2 ≠ q.2 ∧ unl (q :: P)
theorem rep_split {α : Type} {a b c : Int} {v : α} (h1 : a ≤ b) (h2 : b ≤ c) : List.replicate (c - a).toNat v = List.replicate (b - a).toNat v ++ List.replicate (c - b).toNat v := by
  rw [List.replicate_append_replicate]
  congr 1; omega
theorem asc_end : ∀ {P : Pcs} {n : Int}, asc P n → n ≤ endO P n
  | [], n, _ => Int.le_refl n
  | (e, v) :: P, n, h => by
    have := asc_end h.2
    have := h.1
    show n ≤ endO P e
    omega
theorem sp_len : ∀ {P : Pcs} {n : Int}, asc P n → ((sp P n).length : Int) = endO P n - n
  | [], n, _ => by show (0 : Int) = n - n; omega
  | (e, v) :: P, n, h => by
    have i := sp_len h.2
    have := h.1
    show ((List.replicate (e - n).toNat v ++ sp P e).length : Int) = endO P e - n
    rw [List.length_append, List.length_replicate]
    omega
/-- both arrays in common pieces: there are such -/
theorem al_ex : ∀ (k : Nat) (P Q : Pcs) (n : Int), P.length + Q.length ≤ k → asc P n → asc Q n → endO P n = endO Q n → ∃ R, Al P Q R
  | k, [], [], n, _, _, _, _ => ⟨[], .nil⟩
  | k, [], (f, w) :: Q, n, _, _, hq, he => by
    have := asc_end hq.2
    have h1 := hq.1
    have he' : n = endO Q f := he
    omega
  | k, (e, v) :: P, [], n, _, hp, _, he => by
    have := asc_end hp.2
    have h1 := hp.1
    have he' : endO P e = n := he
    omega
  | 0, (e, v) :: P, (f, w) :: Q, n, hk, _, _, _ => by simp only [List.length_cons] at hk; omega
  | k + 1, (e, v) :: P, (f, w) :: Q, n, hk, hp, hq, he => by
    simp only [List.length_cons] at hk
    rcases Int.lt_trichotomy e f with l | rfl | l
    · obtain ⟨R, h⟩ := al_ex k P ((f, w) :: Q) e (by simp only [List.length_cons]; omega) hp.2 ⟨l, hq.2⟩ he
      exact ⟨_, .lt l h⟩
    · obtain ⟨R, h⟩ := al_ex k P Q e (by omega) hp.2 hq.2 he
      exact ⟨_, .eq h⟩
    · obtain ⟨R, h⟩ := al_ex k ((e, v) :: P) Q f (by simp only [List.length_cons]; omega) ⟨l, hp.2⟩ hq.2 he
      exact ⟨_, .gt l h⟩
theorem zip_rep {f : VT → VT → VT} {v w : VT} {A B : List VT} : ∀ n : Nat, List.zipWith f (List.replicate n v ++ A) (List.replicate n w ++ B) = List.replicate n (f v w) ++ List.zipWith f A B
  | 0 => rfl
  | n + 1 => by
    rw [List.replicate_succ, List.replicate_succ, List.replicate_succ]
    rw [List.cons_append, List.cons_append, List.cons_append, List.zipWith_cons_cons, zip_rep n]
/-- what is told piece by piece is what is told item by item -/
theorem al_zip {f : VT → VT → VT} {P Q : Pcs} {R : List (Int × VT × VT)} (h : Al P Q R) : ∀ n : Int, asc P n → asc Q n → sp (R.map fun t => (t.1, f t.2.1 t.2.2)) n = List.zipWith f (sp P n) (sp Q n) ∧ asc (R.map fun t => (t.1, f t.2.1 t.2.2)) n ∧ endO (R.map fun t => (t.1, f t.2.1 t.2.2)) n = endO P n := by
  induction h with
  | nil => exact fun n _ _ => ⟨rfl, trivial, rfl⟩
  | @eq e v w P Q R _ ih =>
    intro n hp hq
    obtain ⟨i1, i2, i3⟩ := ih e hp.2 hq.2
    refine ⟨?_, ⟨hp.1, i2⟩, i3⟩
    show List.replicate (e - n).toNat (f v w) ++ sp (R.map fun t => (t.1, f t.2.1 t.2.2)) e = List.zipWith f (List.replicate (e - n).toNat v ++ sp P e) (List.replicate (e - n).toNat w ++ sp Q e)
    rw [i1, zip_rep]
  | @lt e g v w P Q R l _ ih =>
    intro n hp hq
    obtain ⟨i1, i2, i3⟩ := ih e hp.2 ⟨l, hq.2⟩
    have h1 := hp.1
    refine ⟨?_, ⟨hp.1, i2⟩, i3⟩
    show List.replicate (e - n).toNat (f v w) ++ sp (R.map fun t => (t.1, f t.2.1 t.2.2)) e = List.zipWith f (List.replicate (e - n).toNat v ++ sp P e) (List.replicate (g - n).toNat w ++ sp Q g)
    rw [i1, rep_split (a := n) (b := e) (c := g) (by omega) (by omega), List.append_assoc, zip_rep]; rfl
  | @gt e g v w P Q R l _ ih =>
    intro n hp hq
    obtain ⟨i1, i2, i3⟩ := ih g ⟨l, hp.2⟩ hq.2
    have h1 := hq.1
    refine ⟨?_, ⟨hq.1, i2⟩, i3⟩
    show List.replicate (g - n).toNat (f v w) ++ sp (R.map fun t => (t.1, f t.2.1 t.2.2)) g = List.zipWith f (List.replicate (e - n).toNat v ++ sp P e) (List.replicate (g - n).toNat w ++ sp Q g)
    rw [i1, rep_split (a := n) (b := g) (c := e) (by omega) (by omega), List.append_assoc, zip_rep]; rfl
end Sh
set_option Elab.async false
set_option linter.all false
set_option maxRecDepth 100000
set_option maxHeartbeats 4000000
namespace Sh
open PySem PySem.Spec PyProof.Rows L2
/-! one form for each array -/
theorem sp_head {e n : Int} {v : VT} {P : Pcs} (h : n < e) : ∃ r, sp ((e, v) :: P) n = v :: r := by
  show ∃ r, List.replicate (e - n).toNat v ++ sp P e = v :: r
  obtain ⟨k, hk⟩ : ∃ k, (e - n).toNat = k + 1 := ⟨(e - n).toNat - 1, by omega⟩
  rw [hk]
  exact ⟨_, rfl⟩
theorem unl_tail {p : Int × VT} {P : Pcs} (h : unl (p :: P)) : unl P := by
  cases P with
  | nil => trivial
  | cons q P => exact h.2
theorem form_uniq : ∀ {P Q : Pcs} {n : Int}, asc P n → asc Q n → unl P → unl Q → sp P n = sp Q n → P = Q
  | [], [], n, _, _, _, _, _ => rfl
  | [], (f, w) :: Q, n, _, hq, _, _, h => by
    obtain ⟨r, e⟩ := sp_head (v := w) (P := Q) hq.1
    rw [e] at h; cases h
  | (e, v) :: P, [], n, hp, _, _, _, h => by
    obtain ⟨r, e⟩ := sp_head (v := v) (P := P) hp.1
    rw [e] at h; cases h
  | (e, v) :: P, (f, w) :: Q, n, hp, hq, up, uq, h => by
    have hv : v = w := by
      obtain ⟨r, e1⟩ := sp_head (v := v) (P := P) hp.1
      obtain ⟨s, e2⟩ := sp_head (v := w) (P := Q) hq.1
      rw [e1, e2] at h
      exact (List.cons.inj h).1
    subst hv
    have h1 := hp.1
    have h2 := hq.1
    have h' : List.replicate (e - n).toNat v ++ sp P e = List.replicate (f - n).toNat v ++ sp Q f := h
    rcases Int.lt_trichotomy e f with l | rfl | l
    · exfalso
      rw [rep_split (a := n) (b := e) (c := f) (by omega) (by omega), List.append_assoc] at h'
      have h3 := List.append_cancel_left h'
      obtain ⟨k, hk⟩ : ∃ k, (f - e).toNat = k + 1 := ⟨(f - e).toNat - 1, by omega⟩
      rw [hk] at h3
      cases P with
      | nil => cases h3
      | cons p P =>
        obtain ⟨g, u⟩ := p
        obtain ⟨r, e1⟩ := sp_head (v := u) (P := P) hp.2.1
        rw [e1] at h3
        exact up.1 (List.cons.inj h3).1.symm
    · have h3 := List.append_cancel_left h'
      rw [form_uniq hp.2 hq.2 (unl_tail up) (unl_tail uq) h3]
    · exfalso
      rw [rep_split (a := n) (b := f) (c := e) (by omega) (by omega), List.append_assoc] at h'
      have h3 := (List.append_cancel_left h').symm
      obtain ⟨k, hk⟩ : ∃ k, (e - f).toNat = k + 1 := ⟨(e - f).toNat - 1, by omega⟩
      rw [hk] at h3
      cases Q with
      | nil => cases h3
      | cons p Q =>
        obtain ⟨g, u⟩ := p
        obtain ⟨r, e1⟩ := sp_head (v := u) (P := Q) hq.2.1
        rw [e1] at h3
        exact uq.1 (List.cons.inj h3).1.symm
/-! an array's last piece -/
theorem asc_snoc : ∀ {P : Pcs} {p : Int × VT} {n : Int}, asc (P ++ [p]) n ↔ asc P n ∧ endO P n < p.1
  | [], p, n => ⟨fun h => ⟨trivial, h.1⟩, fun h => ⟨h.2, trivial⟩⟩
  | (e, v) :: P, p, n => by
    have := @asc_snoc P p e
    show (n < e ∧ asc (P ++ [p]) e) ↔ (n < e ∧ asc P e) ∧ endO P e < p.1
    rw [this, and_assoc]
theorem end_snoc : ∀ {P : Pcs} {p : Int × VT} {n : Int}, endO (P ++ [p]) n = p.1
  | [], p, n => rfl
  | (e, v) :: P, p, n => @end_snoc P p e
theorem sp_snoc : ∀ {P : Pcs} {p : Int × VT} {n : Int}, sp (P ++ [p]) n = sp P n ++ List.replicate (p.1 - endO P n).toNat p.2
  | [], p, n => by show List.replicate _ _ ++ [] = _; rw [List.append_nil]; rfl
  | (e, v) :: P, p, n => by
    have := @sp_snoc P p e
    show List.replicate (e - n).toNat v ++ sp (P ++ [p]) e = (List.replicate (e - n).toNat v ++ sp P e) ++ _
    rw [this, List.append_assoc]; rfl
theorem unl_snoc : ∀ {P : Pcs} {p q : Int × VT}, unl (P ++ [p]) → p.2 ≠ q.2 → unl (P ++ [p] ++ [q])
  | [], p, q, _, h => ⟨h, trivial⟩
  | [a], p, q, u, h => ⟨u.1, h, trivial⟩
  | a :: b :: P, p, q, u, h => ⟨u.1, unl_snoc (P := b :: P) u.2 h⟩
theorem unl_last : ∀ {P : Pcs} {p q : Int × VT}, unl (P ++ [p]) → p.2 = q.2 → unl (P ++ [q])
  | [], p, q, _, _ => trivial
  | [a], p, q, u, h => ⟨by rw [← h]; exact u.1, trivial⟩
  | a :: b :: P, p, q, u, h => ⟨u.1, unl_last (P := b :: P) u.2 h⟩
/-- merged: of one form, with the same items -/
theorem mgd_form : ∀ (k : Nat) (L : Pcs) (n : Int), L.length = k → asc L n → asc (mgd L) n ∧ unl (mgd L) ∧ sp (mgd L) n = sp L n ∧ endO (mgd L) n = endO L n
  | 0, L, n, hk, _ => by
    cases L with
    | nil => exact ⟨trivial, trivial, rfl, rfl⟩
    | cons _ _ => cases hk
  | k + 1, L, n, hk, hL => by
    obtain ⟨L', p, rfl⟩ : ∃ L' p, L = L' ++ [p] := by
      rcases List.eq_nil_or_concat L with rfl | ⟨l, a, rfl⟩
      · cases hk
      · exact ⟨l, a, List.concat_eq_append⟩
    rw [List.length_append, List.length_singleton] at hk
    obtain ⟨a1, a2⟩ := asc_snoc.mp hL
    obtain ⟨i1, i2, i3, i4⟩ := mgd_form k L' n (by omega) a1
    rw [mgd_snoc, sp_snoc, end_snoc]
    rw [← i4] at a2
    rw [← i3, ← i4]
    generalize mgd L' = acc at *
    rcases List.eq_nil_or_concat acc with rfl | ⟨acc', q, rfl⟩
    · have e : mgP [] p = [p] := rfl
      rw [e]
      refine ⟨⟨a2, trivial⟩, trivial, ?_, rfl⟩
      obtain ⟨pe, pv⟩ := p
      show List.replicate _ _ ++ [] = [] ++ List.replicate _ _
      rw [List.append_nil, List.nil_append]; rfl
    · rw [List.concat_eq_append] at *
      have ql := end_snoc (P := acc') (p := q) (n := n)
      obtain ⟨b1, b2⟩ := asc_snoc.mp i1
      rw [ql] at a2
      unfold mgP
      rw [List.getLast?_concat, Option.map_some]
      by_cases h : q.2 = p.2
      · rw [if_pos (congrArg some h), List.dropLast_concat]
        refine ⟨asc_snoc.mpr ⟨b1, by omega⟩, unl_last i2 h, ?_, end_snoc⟩
        rw [sp_snoc, sp_snoc, ql, ← h, List.append_assoc, ← rep_split (by omega) (by omega)]
      · rw [if_neg (fun z => h (Option.some.inj z))]
        exact ⟨asc_snoc.mpr ⟨i1, by rw [ql]; exact a2⟩, unl_snoc i2 h, by rw [sp_snoc], end_snoc⟩
/-- cut into pieces: from k on -/
def cutF : Int → List VT → Pcs
  | _, [] => []
  | k, [v] => [(k + 1, v)]
  | k, v :: w :: Z => if w = v then cutF (k + 1) (w :: Z) else (k + 1, v) :: cutF (k + 1) (w :: Z)
theorem cutF_head : ∀ (Z : List VT) (k : Int) (v : VT), ∃ e P, cutF k (v :: Z) = (e, v) :: P
  | [], k, v => ⟨_, _, rfl⟩
  | w :: Z, k, v => by
    unfold cutF
    by_cases h : w = v
    · rw [if_pos h]
      subst h
      exact cutF_head Z (k + 1) w
    · rw [if_neg h]; exact ⟨_, _, rfl⟩
theorem one_more {e k : Int} {v : VT} {P : Pcs} (h : k + 1 < e) : sp ((e, v) :: P) k = v :: sp ((e, v) :: P) (k + 1) := by
  show List.replicate (e - k).toNat v ++ sp P e = v :: (List.replicate (e - (k + 1)).toNat v ++ sp P e)
  rw [show (e - k).toNat = (e - (k + 1)).toNat + 1 by omega, List.replicate_succ]; rfl
theorem cut_form : ∀ (Z : List VT) (k : Int), asc (cutF k Z) k ∧ unl (cutF k Z) ∧ sp (cutF k Z) k = Z ∧ endO (cutF k Z) k = k + Z.length
  | [], k => ⟨trivial, trivial, rfl, by show k = k + ((0 : Nat) : Int); omega⟩
  | [v], k => by
    refine ⟨⟨by omega, trivial⟩, trivial, ?_, rfl⟩
    show List.replicate (k + 1 - k).toNat v ++ [] = [v]
    rw [show (k + 1 - k).toNat = 1 by omega]; rfl
  | v :: w :: Z, k => by
    obtain ⟨i1, i2, i3, i4⟩ := cut_form (w :: Z) (k + 1)
    obtain ⟨e, P, hc⟩ := cutF_head Z (k + 1) w
    unfold cutF
    by_cases h : w = v
    · rw [if_pos h]
      subst h
      rw [hc] at i1 i2 i3 i4 ⊢
      refine ⟨⟨by have := i1.1; omega, i1.2⟩, i2, ?_, ?_⟩
      · rw [one_more i1.1, i3]
      · show endO P e = _
        have i4' : endO P e = k + 1 + ((w :: Z).length : Int) := i4
        rw [i4']; simp only [List.length_cons]; omega
    · rw [if_neg h]
      refine ⟨⟨by omega, i1⟩, ?_, ?_, ?_⟩
      · rw [hc] at i2 ⊢
        exact ⟨fun z => h z.symm, i2⟩
      · show List.replicate (k + 1 - k).toNat v ++ sp (cutF (k + 1) (w :: Z)) (k + 1) = _
        rw [i3, show (k + 1 - k).toNat = 1 by omega]; rfl
      · show endO (cutF (k + 1) (w :: Z)) (k + 1) = _
        rw [i4]; simp only [List.length_cons]; omega
/-- merging is cutting what is spread -/
theorem mgd_cut {L : Pcs} (h : asc L 0) : mgd L = cutF 0 (sp L 0) := by
  obtain ⟨a1, a2, a3, _⟩ := mgd_form _ L 0 rfl h
  obtain ⟨b1, b2, b3, _⟩ := cut_form (sp L 0) 0
  exact form_uniq a1 b1 a2 b2 (a3.trans b3.symm)
end Sh
set_option Elab.async false
set_option linter.all false
set_option maxRecDepth 100000
set_option maxHeartbeats 4000000
namespace Sh
open PySem PySem.Spec PyProof.Rows L2
/-! joins of one value again and again -/
theorem lowJ_again {a c : Option Int} : lowJ (lowJ a c) c = lowJ a c := by
  cases a <;> cases c <;> simp only [lowJ]
  split <;> (try split) <;> first | rfl | (congr 1; omega)
theorem highJ_again {a c : Option Int} : highJ (highJ a c) c = highJ a c := by
  cases a <;> cases c <;> simp only [highJ]
  split <;> (try split) <;> first | rfl | (congr 1; omega)
theorem low_self {a : Option Int} : lowJ a a = a := by cases a <;> simp [lowJ]
theorem high_self {a : Option Int} : highJ a a = a := by cases a <;> simp [highJ]
/-- a rest that holds another one already -/
theorem rest_again {M R n s : Int} (hM : (M = 0 ∧ n = 0 ∧ s = R) ∨ (1 ≤ M ∧ 0 ≤ R ∧ R < M ∧ M ∣ n ∧ M ∣ R - s)) : restJ M R n s = (M, R) := by
  unfold restJ restOf
  rcases hM with ⟨rfl, rfl, rfl⟩ | ⟨m1, r0, r1, d1, d2⟩
  · have e : g3 0 0 (s - s) = 0 := by rw [Int.sub_self]; rfl
    rw [e, if_pos rfl]
  · have e : g3 M n (R - s) = M := by
      obtain ⟨a, b, c⟩ := g3_dvd M n (R - s)
      have nn := g3_nn M n (R - s)
      have h : M ∣ g3 M n (R - s) := by
        unfold g3
        refine Int.natAbs_dvd_natAbs.mp ?_
        rw [Int.natAbs_natCast]
        exact Nat.dvd_gcd (Nat.dvd_gcd (Nat.dvd_refl _) (Int.natAbs_dvd_natAbs.mpr d1)) (Int.natAbs_dvd_natAbs.mpr d2)
      exact Int.dvd_antisymm nn (by omega) a h
    rw [e, if_neg (by omega), fe m1, Int.emod_eq_of_lt r0 r1]
theorem jV_again {v w : VT} (hv : VOk v) (hw : VOk w) : jV (jV v w) w = jV v w := by
  obtain ⟨a, b, m, r⟩ := v
  obtain ⟨c, d, n, s⟩ := w
  have o := (jV_ok hv hw).1
  have e : restJ (restJ m r n s).1 (restJ m r n s).2 n s = ((restJ m r n s).1, (restJ m r n s).2) := by
    refine rest_again ?_
    unfold restJ restOf
    by_cases h0 : g3 m n (r - s) = 0
    · obtain ⟨z1, z2, z3⟩ := g3_zero h0
      rw [if_pos h0]
      exact .inl ⟨rfl, z2, by show s = r; omega⟩
    · rw [if_neg h0]
      have nn := g3_nn m n (r - s)
      obtain ⟨d1, d2, d3⟩ := g3_dvd m n (r - s)
      have f := fm_r (x := r) (m := g3 m n (r - s)) (by omega)
      refine .inr ⟨by show 1 ≤ g3 m n (r - s); omega, f.1, f.2, d2, ?_⟩
      show g3 m n (r - s) ∣ r.fmod (g3 m n (r - s)) - s
      have q : g3 m n (r - s) ∣ r.fmod (g3 m n (r - s)) - r := by
        rw [Int.fmod_def, show r - g3 m n (r - s) * r.fdiv (g3 m n (r - s)) - r = g3 m n (r - s) * -(r.fdiv (g3 m n (r - s))) by rw [Int.mul_neg]; omega]
        exact Int.dvd_mul_right _ _
      have := Int.dvd_add q d3
      rwa [show r.fmod (g3 m n (r - s)) - r + (r - s) = r.fmod (g3 m n (r - s)) - s by omega] at this
  show (lowJ (lowJ a c) c, highJ (highJ b d) d, (restJ (restJ m r n s).1 (restJ m r n s).2 n s).1, (restJ (restJ m r n s).1 (restJ m r n s).2 n s).2) = (lowJ a c, highJ b d, (restJ m r n s).1, (restJ m r n s).2)
  rw [lowJ_again, highJ_again, e]
theorem jV_self {v : VT} (hv : VOk v) : jV v v = v := by
  obtain ⟨a, b, m, r⟩ := v
  have e : restJ m r m r = (m, r) := by
    refine rest_again ?_
    rcases hv.h with ⟨h, _⟩ | ⟨h1, h2, h3, _⟩
    · exact .inl ⟨h, h, rfl⟩
    · exact .inr ⟨h1, h2, h3, Int.dvd_refl _, by rw [Int.sub_self]; exact Int.dvd_zero _⟩
  show (lowJ a a, highJ b b, (restJ m r m r).1, (restJ m r m r).2) = (a, b, m, r)
  rw [low_self, high_self, e]
end Sh
set_option Elab.async false
set_option linter.all false
set_option maxRecDepth 100000
set_option maxHeartbeats 4000000
namespace Sh
open PySem PySem.Spec PyProof.Rows L2
/-! a value within another one -/
theorem lw_trans {a b c : Option Int} (h : lwB a b = true) (k : lwB b c = true) : lwB a c = true := by
  cases c with
  | none => rfl
  | some z => cases b with
    | none => cases k
    | some y => cases a with
      | none => cases h
      | some x =>
        have := lw_le h
        have := lw_le k
        exact decide_eq_true (by omega)
theorem hw_trans {a b c : Option Int} (h : hwB a b = true) (k : hwB b c = true) : hwB a c = true := by
  cases c with
  | none => rfl
  | some z => cases b with
    | none => cases k
    | some y => cases a with
      | none => cases h
      | some x =>
        have := hw_le h
        have := hw_le k
        exact decide_eq_true (by omega)
theorem vok_m {v : VT} (h : VOk v) : v.2.2.1 = 0 ∨ 1 ≤ v.2.2.1 := by
  rcases h.h with ⟨z, _⟩ | ⟨z, _⟩
  · exact .inl z
  · exact .inr z
theorem lw_jn {a c : Option Int} : lwB a (lowJ a c) = true ∧ lwB c (lowJ a c) = true := by
  cases a with
  | none => exact ⟨rfl, rfl⟩
  | some x => cases c with
    | none => exact ⟨rfl, rfl⟩
    | some y => exact ⟨decide_eq_true (by show (if y < x then y else x) ≤ x; split <;> omega), decide_eq_true (by show (if y < x then y else x) ≤ y; split <;> omega)⟩
theorem hw_jn {a c : Option Int} : hwB a (highJ a c) = true ∧ hwB c (highJ a c) = true := by
  cases a with
  | none => exact ⟨rfl, rfl⟩
  | some x => cases c with
    | none => exact ⟨rfl, rfl⟩
    | some y => exact ⟨decide_eq_true (by show x ≤ (if y > x then y else x); split <;> omega), decide_eq_true (by show y ≤ (if y > x then y else x); split <;> omega)⟩
theorem rw_jn {m r n s : Int} : rwB m r (restJ m r n s).1 (restJ m r n s).2 = true ∧ rwB n s (restJ m r n s).1 (restJ m r n s).2 = true := by
  unfold restJ restOf
  by_cases h0 : g3 m n (r - s) = 0
  · obtain ⟨z1, z2, z3⟩ := g3_zero h0
    rw [if_pos h0]
    constructor
    · simp [rwB, z1]
    · simp [rwB, z2]; omega
  · rw [if_neg h0]
    have nn := g3_nn m n (r - s)
    obtain ⟨d1, d2, d3⟩ := g3_dvd m n (r - s)
    generalize g3 m n (r - s) = g at *
    have g1 : 1 ≤ g := by omega
    constructor
    · simp only [rwB, hasB]
      rw [if_neg h0, if_neg h0, fe g1, Int.emod_eq_zero_of_dvd d1]; simp
    · simp only [rwB, hasB]
      rw [if_neg h0, if_neg h0, fe g1, fe g1, fe g1, Int.emod_eq_zero_of_dvd d2]
      have e : s % g = r % g := by
        have := Int.emod_eq_emod_iff_emod_sub_eq_zero.mpr (Int.emod_eq_zero_of_dvd d3)
        exact this.symm
      rw [e]; simp
theorem wi_join (v w : VT) : wiB v (jV v w) = true ∧ wiB w (jV v w) = true := by
  unfold wiB jV
  constructor
  · show (lwB v.1 (lowJ v.1 w.1) && (hwB v.2.1 (highJ v.2.1 w.2.1) && rwB v.2.2.1 v.2.2.2 (restJ v.2.2.1 v.2.2.2 w.2.2.1 w.2.2.2).1 (restJ v.2.2.1 v.2.2.2 w.2.2.1 w.2.2.2).2)) = true
    rw [lw_jn.1, hw_jn.1, rw_jn.1]; rfl
  · show (lwB w.1 (lowJ v.1 w.1) && (hwB w.2.1 (highJ v.2.1 w.2.1) && rwB w.2.2.1 w.2.2.2 (restJ v.2.2.1 v.2.2.2 w.2.2.1 w.2.2.2).1 (restJ v.2.2.1 v.2.2.2 w.2.2.1 w.2.2.2).2)) = true
    rw [lw_jn.2, hw_jn.2, rw_jn.2]; rfl
abbrev EV : VT := (none, none, 1, 0)
/-! arrays of the law: n values item by item -/
theorem mem_sp : ∀ {P : Pcs} {n : Int}, asc P n → ∀ p, p ∈ P → p.2 ∈ sp P n
  | (e, v) :: P, n, h, p, hp => by
    have h1 := h.1
    show p.2 ∈ List.replicate (e - n).toNat v ++ sp P e
    rcases List.mem_cons.mp hp with rfl | hp
    · exact List.mem_append_left _ (List.mem_replicate.mpr ⟨by omega, rfl⟩)
    · exact List.mem_append_right _ (mem_sp h.2 p hp)
theorem cut_vok {Z : List VT} (h : ∀ x, x ∈ Z → VOk x) : ∀ p, p ∈ cutF 0 Z → VOk p.2 := fun p hp => by
  obtain ⟨a, _, s, _⟩ := cut_form Z 0
  have := mem_sp a p hp
  rw [s] at this
  exact h _ this
theorem zipW_map {α β γ : Type} {f : α → β → γ} : ∀ {A : List α} {B : List β}, List.zipWith f A B = (A.zip B).map fun p => f p.1 p.2
  | [], B => by rw [List.zipWith_nil_left]; rfl
  | a :: A, [] => rfl
  | a :: A, b :: B => by
    rw [List.zipWith_cons_cons, List.zip_cons_cons, List.map_cons, zipW_map]
/-- piece by piece, if it holds item by item -/
theorem al_wi {P Q : Pcs} {R : List (Int × VT × VT)} (h : Al P Q R) (ap : asc P 0) (aq : asc Q 0) (hz : ∀ p, p ∈ (sp P 0).zip (sp Q 0) → wiB p.1 p.2 = true) : (R.all fun t => wiB t.2.1 t.2.2) = true := by
  let f : VT → VT → VT := fun v w => if wiB v w then EV else (none, none, 0, 0)
  obtain ⟨e, a, _⟩ := al_zip (f := f) h 0 ap aq
  rw [List.all_eq_true]
  intro t ht
  have hm : f t.2.1 t.2.2 ∈ sp (R.map fun t => (t.1, f t.2.1 t.2.2)) 0 := mem_sp a (t.1, f t.2.1 t.2.2) (List.mem_map.mpr ⟨t, ht, rfl⟩)
  rw [e, zipW_map] at hm
  obtain ⟨p, hp, he⟩ := List.mem_map.mp hm
  have hw := hz p hp
  by_cases ht' : wiB t.2.1 t.2.2 = true
  · exact ht'
  · exfalso
    have e1 : f p.1 p.2 = EV := if_pos hw
    have e2 : f t.2.1 t.2.2 = (none, none, 0, 0) := if_neg ht'
    rw [e1, e2] at he
    cases he
/-! what is cut out of a value -/
def conB (x : VT) (k : Int) : Bool := letsB x.1 x.2.1 k && hasB x.2.2.1 x.2.2.2 k
theorem con_iff {x : VT} {k : Int} : conB x k = true ↔ (∀ y, x.1 = some y → y ≤ k) ∧ (∀ y, x.2.1 = some y → k ≤ y) ∧ hasB x.2.2.1 x.2.2.2 k = true := by
  unfold conB
  rw [Bool.and_eq_true]
  constructor
  · rintro ⟨h1, h2⟩
    obtain ⟨p, q⟩ := lets_lo h1
    exact ⟨p, q, h2⟩
  · rintro ⟨p, q, h2⟩
    exact ⟨lets_of p q, h2⟩
theorem tl_is {a : Option Int} {lo : Int} : ∃ L, tightL a (some lo) = some L ∧ lo ≤ L ∧ (∀ y, a = some y → y ≤ L) ∧ ∀ k, lo ≤ k → (∀ y, a = some y → y ≤ k) → L ≤ k := by
  cases a with
  | none => exact ⟨lo, rfl, Int.le_refl _, (fun y e => by cases e), (fun k h _ => h)⟩
  | some x =>
    refine ⟨_, rfl, ?_, ?_, ?_⟩
    · split <;> omega
    · intro y e; cases e; split <;> omega
    · intro k h1 h2; have := h2 x rfl; split <;> omega
theorem th_is {a : Option Int} {hi : Int} : ∃ H, tightH a (some hi) = some H ∧ H ≤ hi ∧ (∀ y, a = some y → H ≤ y) ∧ ∀ k, k ≤ hi → (∀ y, a = some y → k ≤ y) → k ≤ H := by
  cases a with
  | none => exact ⟨hi, rfl, Int.le_refl _, (fun y e => by cases e), (fun k h _ => h)⟩
  | some x =>
    refine ⟨_, rfl, ?_, ?_, ?_⟩
    · split <;> omega
    · intro y e; cases e; split <;> omega
    · intro k h1 h2; have := h2 x rfl; split <;> omega
/-- nothing, or a value of just the integers within, with its ends -/
theorem cut_sem {x : VT} (hx : VOk x) (lo hi : Int) :
    (voD (tightL x.1 (some lo)) (tightH x.2.1 (some hi)) x.2.2.1 x.2.2.2 = .non ∧ ∀ k, lo ≤ k → k ≤ hi → conB x k = false) ∨
    ∃ p q m' r', voD (tightL x.1 (some lo)) (tightH x.2.1 (some hi)) x.2.2.1 x.2.2.2 = vT (some p, some q, m', r') ∧ (lo ≤ p ∧ p ≤ hi ∧ conB x p = true) ∧ (lo ≤ q ∧ q ≤ hi ∧ conB x q = true) ∧
      (∀ k, lo ≤ k → k ≤ hi → conB x k = true → p ≤ k ∧ k ≤ q) ∧ ∀ k, lo ≤ k → k ≤ hi → conB (some p, some q, m', r') k = conB x k := by
  obtain ⟨a, b, m, r⟩ := x
  obtain ⟨L, eL, L1, L2, L3⟩ := @tl_is a lo
  obtain ⟨H, eH, H1, H2, H3⟩ := @th_is b hi
  show (voD (tightL a (some lo)) (tightH b (some hi)) m r = .non ∧ _) ∨ ∃ p q m' r', voD (tightL a (some lo)) (tightH b (some hi)) m r = _ ∧ _
  rw [eL, eH]
  have hin : ∀ k, lo ≤ k → k ≤ hi → conB (a, b, m, r) k = true → L ≤ k ∧ k ≤ H ∧ hasB m r k = true := fun k k1 k2 h => by
    obtain ⟨h1, h2, h3⟩ := con_iff.mp h
    exact ⟨L3 k k1 h1, H3 k k2 h2, h3⟩
  have hout : ∀ k, L ≤ k → k ≤ H → hasB m r k = true → lo ≤ k ∧ k ≤ hi ∧ conB (a, b, m, r) k = true := fun k k1 k2 h =>
    ⟨by omega, by omega, con_iff.mpr ⟨fun y e => by have := L2 y e; omega, fun y e => by have := H2 y e; omega, h⟩⟩
  have hno : ∀ k, (conB (a, b, m, r) k = true → False) → conB (a, b, m, r) k = false := fun k h => by
    cases e : conB (a, b, m, r) k with
    | false => rfl
    | true => exact (h e).elim
  unfold voD
  by_cases m0 : m = 0
  · rw [if_pos m0]
    have hr : ∀ k, hasB m r k = true ↔ k = r := fun k => by unfold hasB; rw [if_pos m0]; exact decide_eq_true_iff
    by_cases hl : letsB (some L) (some H) r = true
    · rw [if_pos hl]
      obtain ⟨p1, p2⟩ := lets_lo hl
      have q1 := p1 L rfl
      have q2 := p2 H rfl
      obtain ⟨c1, c2, c3⟩ := hout r q1 q2 ((hr r).mpr rfl)
      refine .inr ⟨r, r, 0, r, rfl, ⟨c1, c2, c3⟩, ⟨c1, c2, c3⟩, fun k k1 k2 h => ?_, fun k k1 k2 => ?_⟩
      · have := (hr k).mp (hin k k1 k2 h).2.2
        omega
      · rw [Bool.eq_iff_iff]
        constructor
        · intro h
          have := (con_iff.mp h).2.2
          have e : k = r := by unfold hasB at this; simpa using this
          rw [e]; exact c3
        · intro h
          have := (hr k).mp (hin k k1 k2 h).2.2
          subst this
          exact con_iff.mpr ⟨fun y e => by cases e; exact Int.le_refl _, fun y e => by cases e; exact Int.le_refl _, by unfold hasB; simp⟩
    · rw [if_neg hl]
      refine .inl ⟨rfl, fun k k1 k2 => hno k fun h => hl ?_⟩
      obtain ⟨h1, h2, h3⟩ := hin k k1 k2 h
      have := (hr k).mp h3
      subst this
      exact lets_of (fun y e => by cases e; exact h1) (fun y e => by cases e; exact h2)
  · rw [if_neg m0]
    have hm : 1 ≤ m ∧ 0 ≤ r ∧ r < m := by
      rcases hx.h with ⟨z, _⟩ | ⟨z1, z2, z3, _⟩
      · exact absurd z m0
      · exact ⟨z1, z2, z3⟩
    obtain ⟨m1, r0, r1⟩ := hm
    have hr : ∀ k, hasB m r k = true ↔ k.fmod m = r := fun k => by unfold hasB; rw [if_neg m0]; exact decide_eq_true_iff
    have u1 := up_b (x := L) (r := r) m1
    have u2 := up_mod (x := L) m1 r0 r1
    have d1 := dn_b (x := H) (r := r) m1
    have d2 := dn_mod (x := H) m1 r0 r1
    show ((if dnR r m H ≤ upR r m L then (if upR r m L = dnR r m H then vD (some (upR r m L)) (some (upR r m L)) 0 (upR r m L) else .non) else vD (some (upR r m L)) (some (dnR r m H)) m r) = .non ∧ _) ∨
      ∃ p q m' r', (if dnR r m H ≤ upR r m L then (if upR r m L = dnR r m H then vD (some (upR r m L)) (some (upR r m L)) 0 (upR r m L) else .non) else vD (some (upR r m L)) (some (dnR r m H)) m r) = _ ∧ _
    have hk : ∀ k, lo ≤ k → k ≤ hi → conB (a, b, m, r) k = true → upR r m L ≤ k ∧ k ≤ dnR r m H ∧ k.fmod m = r := fun k k1 k2 h => by
      obtain ⟨h1, h2, h3⟩ := hin k k1 k2 h
      have h4 := (hr k).mp h3
      exact ⟨up_le m1 r0 r1 h1 h4, dn_ge m1 r0 r1 h2 h4, h4⟩
    generalize upR r m L = p at *
    generalize dnR r m H = q at *
    by_cases z : q ≤ p
    · rw [if_pos z]
      by_cases z2 : p = q
      · rw [if_pos z2]
        obtain ⟨c1, c2, c3⟩ := hout p (by omega) (by omega) ((hr p).mpr u2)
        refine .inr ⟨p, p, 0, p, rfl, ⟨c1, c2, c3⟩, ⟨c1, c2, c3⟩, fun k k1 k2 h => ?_, fun k k1 k2 => ?_⟩
        · have := hk k k1 k2 h
          omega
        · rw [Bool.eq_iff_iff]
          constructor
          · intro h
            have := (con_iff.mp h).2.2
            have e : k = p := by unfold hasB at this; simpa using this
            rw [e]; exact c3
          · intro h
            have := hk k k1 k2 h
            have : k = p := by omega
            subst this
            exact con_iff.mpr ⟨fun y e => by cases e; exact Int.le_refl _, fun y e => by cases e; exact Int.le_refl _, by unfold hasB; simp⟩
      · rw [if_neg z2]
        refine .inl ⟨rfl, fun k k1 k2 => hno k fun h => ?_⟩
        have := hk k k1 k2 h
        omega
    · rw [if_neg z]
      refine .inr ⟨p, q, m, r, rfl, hout p (by omega) (by omega) ((hr p).mpr u2), hout q (by omega) (by omega) ((hr q).mpr d2), fun k k1 k2 h => ?_, fun k k1 k2 => ?_⟩
      · have := hk k k1 k2 h
        omega
      · rw [Bool.eq_iff_iff]
        constructor
        · intro h
          obtain ⟨h1, h2, h3⟩ := con_iff.mp h
          have := h1 p rfl
          have := h2 q rfl
          exact (hout k (by omega) (by omega) h3).2.2
        · intro h
          have := hk k k1 k2 h
          exact con_iff.mpr ⟨fun y e => by cases e; exact this.1, fun y e => by cases e; exact this.2.1, (hr k).mpr this.2.2⟩
/-! items read -/
def jo (o : Option VT) (v : VT) : VT := match o with | none => v | some l => jV l v
def oV : Option VT → Dt
  | none => .non
  | some v => vT v
def seL (x : VT) : Int → List VT → Option VT → Option VT
  | _, [], o => o
  | k, z :: Z, o => seL x (k + 1) Z (if conB x k = true then some (jo o z) else o)
def hitB (x : VT) (n e : Int) : Bool := (voD (tightL x.1 (some n)) (tightH x.2.1 (some (e - 1))) x.2.2.1 x.2.2.2).isNon
def rdP (x : VT) : Int → Pcs → Option VT → Option VT
  | _, [], o => o
  | n, (e, v) :: P, o => rdP x e P (if hitB x n e = true then o else some (jo o v))
theorem jo_again {o : Option VT} {v : VT} (ho : ∀ w, o = some w → VOk w) (hv : VOk v) : jo (some (jo o v)) v = jo o v := by
  cases o with
  | none => exact jV_self hv
  | some w => exact jV_again (ho w rfl) hv
theorem jo_vok {o : Option VT} {v : VT} (ho : ∀ w, o = some w → VOk w) (hv : VOk v) : VOk (jo o v) := by
  cases o with
  | none => exact hv
  | some w => exact (jV_ok (ho w rfl) hv).1
theorem seL_same {x v : VT} {Y : List VT} : ∀ (j : Nat) (k : Int) (o : Option VT), (∀ i : Nat, i < j → conB x (k + i) = false) → seL x k (List.replicate j v ++ Y) o = seL x (k + j) Y o
  | 0, k, o, _ => by rw [List.replicate_zero, List.nil_append]; congr 1; omega
  | j + 1, k, o, h => by
    have h0 := h 0 (by omega)
    rw [show k + ((0 : Nat) : Int) = k by omega] at h0
    rw [List.replicate_succ, List.cons_append, seL, if_neg (by rw [h0]; decide)]
    rw [seL_same j (k + 1) o fun i hi => by rw [show k + 1 + (i : Int) = k + ((i + 1 : Nat) : Int) by omega]; exact h (i + 1) (by omega)]
    congr 1; omega
theorem seL_hit {x v : VT} {Y : List VT} (hv : VOk v) : ∀ (j : Nat) (k : Int) (o : Option VT), (∀ w, o = some w → VOk w) → jo o v = v ∨ (∃ i : Nat, i < j ∧ conB x (k + i) = true) ∨ True → ∀ u, u = jo o v →
    seL x k (List.replicate j v ++ Y) (some u) = seL x (k + j) Y (some u)
  | 0, k, o, ho, _, u, hu => by rw [List.replicate_zero, List.nil_append]; congr 1; omega
  | j + 1, k, o, ho, _, u, hu => by
    have e : (if conB x k = true then some (jo (some u) v) else some u) = some u := by
      split
      · rw [hu, jo_again ho hv]
      · rfl
    rw [List.replicate_succ, List.cons_append, seL, e, seL_hit hv j (k + 1) o ho (.inr (.inr trivial)) u hu]
    congr 1; omega
theorem seL_some {x v : VT} {Y : List VT} (hv : VOk v) : ∀ (j : Nat) (k : Int) (o : Option VT), (∀ w, o = some w → VOk w) → (∃ i : Nat, i < j ∧ conB x (k + i) = true) → seL x k (List.replicate j v ++ Y) o = seL x (k + j) Y (some (jo o v))
  | 0, k, o, _, ⟨i, hi, _⟩ => by omega
  | j + 1, k, o, ho, ⟨i, hi, hc⟩ => by
    rw [List.replicate_succ, List.cons_append, seL]
    by_cases h0 : conB x k = true
    · rw [if_pos h0, seL_hit hv j (k + 1) o ho (.inr (.inr trivial)) _ rfl]
      congr 1; omega
    · rw [if_neg h0]
      have hi0 : i ≠ 0 := fun z => h0 (by rw [z] at hc; rw [show k + ((0 : Nat) : Int) = k by omega] at hc; exact hc)
      rw [seL_some hv j (k + 1) o ho ⟨i - 1, by omega, by rw [show k + 1 + ((i - 1 : Nat) : Int) = k + (i : Int) by omega]; exact hc⟩]
      congr 1; omega
theorem rd_se {x : VT} (hx : VOk x) : ∀ (P : Pcs) (n : Int) (o : Option VT), asc P n → (∀ p, p ∈ P → VOk p.2) → (∀ w, o = some w → VOk w) → rdP x n P o = seL x n (sp P n) o
  | [], n, o, _, _, _ => rfl
  | (e, v) :: P, n, o, h, hp, ho => by
    have hv := hp _ List.mem_cons_self
    have h1 := h.1
    have hs : sp ((e, v) :: P) n = List.replicate (e - n).toNat v ++ sp P e := rfl
    have he : n + (((e - n).toNat : Nat) : Int) = e := by omega
    rw [rdP, hs]
    rcases cut_sem hx n (e - 1) with ⟨c1, c2⟩ | ⟨p, q, m', r', c1, c2, _⟩
    · have hb : hitB x n e = true := by unfold hitB; rw [c1]; rfl
      rw [if_pos hb, seL_same _ n o fun i hi => c2 _ (by omega) (by omega), he]
      exact rd_se hx P e o h.2 (fun p h => hp p (List.mem_cons_of_mem _ h)) ho
    · have hb : ¬ hitB x n e = true := by unfold hitB; rw [c1]; exact fun z => nomatch z
      rw [if_neg hb, seL_some hv _ n o ho ⟨(p - n).toNat, by omega, by rw [show n + (((p - n).toNat : Nat) : Int) = p by omega]; exact c2.2.2⟩, he]
      exact rd_se hx P e _ h.2 (fun p h => hp p (List.mem_cons_of_mem _ h)) (fun w hw => by cases hw; exact jo_vok ho hv)
end Sh
set_option Elab.async false
set_option linter.all false
set_option maxRecDepth 100000
set_option maxHeartbeats 4000000
namespace Sh
open PySem PySem.Spec PyProof.Rows L2
/-! items with their places -/
def idx : Int → List VT → List (Int × VT)
  | _, [] => []
  | k, z :: Z => (k, z) :: idx (k + 1) Z
theorem idx_len : ∀ {Z : List VT} {k : Int}, (idx k Z).length = Z.length
  | [], _ => rfl
  | z :: Z, k => by rw [idx, List.length_cons, List.length_cons, idx_len]
theorem idx_get : ∀ {Z : List VT} {k : Int} {i : Nat}, (idx k Z)[i]? = (Z[i]?).map fun z => (k + (i : Int), z)
  | [], k, i => by simp [idx]
  | z :: Z, k, 0 => by simp [idx]
  | z :: Z, k, i + 1 => by
    rw [idx, List.getElem?_cons_succ, List.getElem?_cons_succ, idx_get]
    congr 1; funext z; congr 1; omega
theorem idx_enD {Z : List VT} : enD (Z.map vT) = (idx 0 Z).map pT := by
  apply List.ext_getElem?
  intro i
  rw [List.getElem?_map, idx_get]
  cases h : Z[i]? with
  | none =>
    rw [List.getElem?_eq_none (by rw [enD_len, List.length_map]; exact List.getElem?_eq_none_iff.mp h)]; rfl
  | some z =>
    rw [enD_get (d := vT z) (by rw [List.getElem?_map, h]; rfl)]
    show _ = some (pT (0 + (i : Int), z))
    rw [Int.zero_add]
theorem idx_mem : ∀ {Z : List VT} {k : Int} {t : Int × VT}, t ∈ idx k Z → k ≤ t.1 ∧ t.1 < k + Z.length ∧ t.2 ∈ Z
  | z :: Z, k, t, h => by
    rcases List.mem_cons.mp (show t ∈ (k, z) :: idx (k + 1) Z from h) with rfl | h
    · exact ⟨Int.le_refl _, by rw [List.length_cons]; show k < k + _; omega, List.mem_cons_self⟩
    · obtain ⟨h1, h2, h3⟩ := idx_mem h
      exact ⟨by omega, by rw [List.length_cons]; omega, List.mem_cons_of_mem _ h3⟩
/-- pieces of one item each -/
theorem sp_idx {f : Int × VT → VT} : ∀ {Z : List VT} {k : Int}, sp ((idx k Z).map fun t => (t.1 + 1, f t)) k = (idx k Z).map f ∧ asc ((idx k Z).map fun t => (t.1 + 1, f t)) k
  | [], k => ⟨rfl, trivial⟩
  | z :: Z, k => by
    obtain ⟨h1, h2⟩ := @sp_idx f Z (k + 1)
    refine ⟨?_, ⟨by show k < k + 1; omega, h2⟩⟩
    show List.replicate (k + 1 - k).toNat (f (k, z)) ++ sp ((idx (k + 1) Z).map fun t => (t.1 + 1, f t)) (k + 1) = f (k, z) :: (idx (k + 1) Z).map f
    rw [h1, show (k + 1 - k).toNat = 1 by omega]; rfl
theorem map_none {x v : VT} : ∀ {Z : List VT} {k : Int}, (∀ i, k ≤ i → i < k + Z.length → conB x i = false) → ((idx k Z).map fun t => if conB x t.1 = true then v else t.2) = Z
  | [], k, _ => rfl
  | z :: Z, k, h => by
    have h0 := h k (Int.le_refl _) (by rw [List.length_cons]; omega)
    rw [idx, List.map_cons, map_none (Z := Z) (k := k + 1) (fun i h1 h2 => h i (by omega) (by rw [List.length_cons]; omega)), if_neg (by rw [h0]; decide)]
theorem map_one {x v : VT} {s : Int} : ∀ {Z : List VT} {k : Int}, k ≤ s → s < k + Z.length → (∀ i, k ≤ i → i < k + Z.length → (conB x i = true ↔ i = s)) → ((idx k Z).map fun t => if conB x t.1 = true then v else t.2) = Z.take (s - k).toNat ++ v :: Z.drop ((s - k).toNat + 1)
  | [], k, h1, h2, _ => by rw [List.length_nil] at h2; omega
  | z :: Z, k, h1, h2, h => by
    rw [List.length_cons] at h2
    have h0 := h k (Int.le_refl _) (by rw [List.length_cons]; omega)
    rw [idx, List.map_cons]
    by_cases e : k = s
    · rw [if_pos (h0.mpr e), map_none (fun i i1 i2 => by
        cases c : conB x i with
        | false => rfl
        | true =>
          have := (h i (by omega) (by rw [List.length_cons]; omega)).mp c
          omega)]
      subst e
      rw [show (k - k).toNat = 0 by omega]; rfl
    · rw [if_neg (fun z => e (h0.mp z)), map_one (Z := Z) (k := k + 1) (by omega) (by omega) (fun i i1 i2 => h i (by omega) (by rw [List.length_cons]; omega))]
      rw [show (s - k).toNat = (s - (k + 1)).toNat + 1 by omega]; rfl
/-! the items that an index reaches -/
def spL (x : VT) (n : Nat) : List Int := ((List.range n).map fun (i : Nat) => (i : Int)).filter fun k => conB x k
theorem spL_mem {x : VT} {n : Nat} {k : Int} : k ∈ spL x n ↔ (0 ≤ k ∧ k < n) ∧ conB x k = true := by
  unfold spL
  rw [List.mem_filter, List.mem_map]
  constructor
  · rintro ⟨⟨i, hi, rfl⟩, h⟩
    exact ⟨⟨by omega, by have := List.mem_range.mp hi; omega⟩, h⟩
  · rintro ⟨⟨h1, h2⟩, h⟩
    exact ⟨⟨k.toNat, List.mem_range.mpr (by omega), by omega⟩, h⟩
theorem spL_pw {x : VT} {n : Nat} : (spL x n).Pairwise (· < ·) := by
  unfold spL
  refine List.Pairwise.filter _ ?_
  rw [List.pairwise_map]
  exact List.pairwise_lt_range.imp fun h => by omega
theorem spL_len {x : VT} {n : Nat} : (spL x n).length ≤ n := by
  unfold spL
  refine Nat.le_trans (List.length_filter_le _ _) ?_
  rw [List.length_map, List.length_range]; exact Nat.le_refl _
theorem reach_sem {x : VT} (hx : VOk x) (n : Nat) :
    (voD (tightL x.1 (some 0)) (tightH x.2.1 (some ((n : Int) - 1))) x.2.2.1 x.2.2.2 = .non ∧ spL x n = []) ∨
    ∃ p q m' r', voD (tightL x.1 (some 0)) (tightH x.2.1 (some ((n : Int) - 1))) x.2.2.1 x.2.2.2 = vT (some p, some q, m', r') ∧ spL x n ≠ [] ∧ ((spL x n).length < 2 ↔ p = q) ∧ ∀ k : Int, 0 ≤ k → k < n → conB (some p, some q, m', r') k = conB x k := by
  rcases cut_sem hx 0 ((n : Int) - 1) with ⟨h1, h2⟩ | ⟨p, q, m', r', h1, hp, hq, hb, hc⟩
  · refine .inl ⟨h1, List.eq_nil_iff_forall_not_mem.mpr fun k hk => ?_⟩
    obtain ⟨⟨k0, k1⟩, k2⟩ := spL_mem.mp hk
    rw [h2 k k0 (by omega)] at k2
    cases k2
  · have mp : p ∈ spL x n := spL_mem.mpr ⟨⟨hp.1, by omega⟩, hp.2.2⟩
    have mq : q ∈ spL x n := spL_mem.mpr ⟨⟨hq.1, by omega⟩, hq.2.2⟩
    refine .inr ⟨p, q, m', r', h1, (fun e => by rw [e] at mp; cases mp), ⟨fun hl => ?_, fun e => ?_⟩, fun k k0 k1 => hc k k0 (by omega)⟩
    · cases hL : spL x n with
      | nil => rw [hL] at mp; cases mp
      | cons a l => cases l with
        | nil =>
          rw [hL, List.mem_singleton] at mp mq
          rw [mp, mq]
        | cons b l => rw [hL, List.length_cons, List.length_cons] at hl; omega
    · cases hL : spL x n with
      | nil => exact Nat.zero_lt_succ _
      | cons a l => cases l with
        | nil => exact Nat.lt_succ_self _
        | cons b l =>
          exfalso
          have pw := @spL_pw x n
          have ma : a ∈ spL x n := by rw [hL]; exact List.mem_cons_self
          have mb : b ∈ spL x n := by rw [hL]; exact List.mem_cons_of_mem _ List.mem_cons_self
          rw [hL] at pw
          have lt := (List.pairwise_cons.mp pw).1 b List.mem_cons_self
          obtain ⟨⟨a0, a1⟩, a2⟩ := spL_mem.mp ma
          obtain ⟨⟨b0, b1⟩, b2⟩ := spL_mem.mp mb
          have := hb a a0 (by omega) a2
          have := hb b b0 (by omega) b2
          omega
/-- what a write makes of the items -/
def wrL (x v : VT) (Z : List VT) : Option (List VT) :=
  if spL x Z.length = [] then none else if (spL x Z.length).length < 2 then some ((idx 0 Z).map fun t => if conB x t.1 = true then v else t.2) else some ((idx 0 Z).map fun t => if conB x t.1 = true then jV t.2 v else t.2)
theorem wr_one {x v : VT} {Z : List VT} {s : Int} {l : List Int} (h : spL x Z.length = s :: l) (hl : (spL x Z.length).length < 2) : 0 ≤ s ∧ s < Z.length ∧ ((idx 0 Z).map fun t => if conB x t.1 = true then v else t.2) = Z.take s.toNat ++ v :: Z.drop (s.toNat + 1) := by
  have hl' : l = [] := by
    rw [h, List.length_cons] at hl
    exact List.eq_nil_of_length_eq_zero (by omega)
  subst hl'
  have ms : s ∈ spL x Z.length := by rw [h]; exact List.mem_cons_self
  obtain ⟨⟨s0, s1⟩, s2⟩ := spL_mem.mp ms
  refine ⟨s0, s1, ?_⟩
  have := map_one (x := x) (v := v) (s := s) (Z := Z) (k := 0) s0 (by omega) (fun i i1 i2 => ⟨fun c => ?_, fun e => by rw [e]; exact s2⟩)
  · rw [show s - 0 = s by omega] at this; exact this
  · have : i ∈ spL x Z.length := spL_mem.mpr ⟨⟨i1, by omega⟩, c⟩
    rw [h] at this
    exact List.mem_singleton.mp this
theorem wr_ok {Ph : VT → Prop} {x v : VT} {Z Y : List VT} (hj : ∀ a, Ph a → Ph (jV a v)) (hv : Ph v) (hz : ∀ z, z ∈ Z → Ph z) (h : wrL x v Z = some Y) : Y.length = Z.length ∧ ∀ y, y ∈ Y → Ph y := by
  unfold wrL at h
  split at h
  · cases h
  · split at h <;> cases h
    · refine ⟨by rw [List.length_map, idx_len], fun y hy => ?_⟩
      obtain ⟨t, ht, rfl⟩ := List.mem_map.mp hy
      split
      · exact hv
      · exact hz _ (idx_mem ht).2.2
    · refine ⟨by rw [List.length_map, idx_len], fun y hy => ?_⟩
      obtain ⟨t, ht, rfl⟩ := List.mem_map.mp hy
      split
      · exact hj _ (hz _ (idx_mem ht).2.2)
      · exact hz _ (idx_mem ht).2.2
/-- as the program does it -/
theorem wr_prog {x v : VT} {Z : List VT} {p q m' r' : Int} (h1 : spL x Z.length ≠ []) (h2 : (spL x Z.length).length < 2 ↔ p = q) (h3 : ∀ k : Int, 0 ≤ k → k < Z.length → conB (some p, some q, m', r') k = conB x k) :
    ∃ Y, wrL x v Z = some Y ∧ mgd ((idx 0 Z).map fun t => (t.1 + 1, if conB (some p, some q, m', r') t.1 = true then (if decide (p = q) = true then v else jV t.2 v) else t.2)) = cutF 0 Y := by
  obtain ⟨e, a⟩ := @sp_idx (fun t => if conB (some p, some q, m', r') t.1 = true then (if decide (p = q) = true then v else jV t.2 v) else t.2) Z 0
  refine ⟨(idx 0 Z).map (fun t => if conB (some p, some q, m', r') t.1 = true then (if decide (p = q) = true then v else jV t.2 v) else t.2), ?_, ?_⟩
  · unfold wrL
    rw [if_neg h1]
    by_cases z : p = q
    · rw [if_pos (h2.mpr z)]
      congr 1
      refine List.map_congr_left fun t ht => ?_
      obtain ⟨t1, t2, _⟩ := idx_mem ht
      rw [h3 t.1 t1 (by omega), decide_eq_true z, if_pos rfl]
    · rw [if_neg (fun w => z (h2.mp w))]
      congr 1
      refine List.map_congr_left fun t ht => ?_
      obtain ⟨t1, t2, _⟩ := idx_mem ht
      rw [h3 t.1 t1 (by omega), decide_eq_false z]
      simp
  · rw [mgd_cut a, e]
/-! the items that an index sees -/
def hitL (x : VT) (Z : List VT) : List VT := ((idx 0 Z).filter fun t => conB x t.1).map (·.2)
theorem se_fold {x : VT} : ∀ {Z : List VT} {k : Int} {o : Option VT}, seL x k Z o = (((idx k Z).filter fun t => conB x t.1).map (·.2)).foldl (fun o z => some (jo o z)) o
  | [], k, o => rfl
  | z :: Z, k, o => by
    rw [seL, idx, List.filter_cons, se_fold (Z := Z)]
    by_cases h : conB x k = true
    · rw [if_pos h, if_pos h]; rfl
    · rw [if_neg h, if_neg h]
/-! values whose moduli stay small -/
structure VS (v : VT) : Prop where
  ok : VOk v
  one : v.2.2.1 = 0 → -100 ≤ v.2.2.2 ∧ v.2.2.2 ≤ 100
  le : v.2.2.1 ≤ 200
theorem VS.vd {v : VT} (h : VS v) : Vd v.2.2.1 v.2.2.2 := by
  have := h.le
  rcases h.ok.h with ⟨z, _⟩ | ⟨h1, h2, h3, _⟩
  · have := h.one z
    exact .inl ⟨z, by unfold big; omega⟩
  · exact .inr ⟨h1, by omega, h2, h3⟩
theorem VS.join {v w : VT} (h : VS v) (k : VS w) : VS (jV v w) := by
  have o := (jV_ok h.ok k.ok).1
  obtain ⟨a, b, m, r⟩ := v
  obtain ⟨c, d, n, s⟩ := w
  have h1 := h.one; have h2 := h.le; have k1 := k.one; have k2 := k.le
  have hm := vok_m h.ok; have km := vok_m k.ok
  dsimp only at h1 h2 k1 k2 hm km
  have nn := g3_nn m n (r - s)
  obtain ⟨d1, d2, d3⟩ := g3_dvd m n (r - s)
  by_cases h0 : g3 m n (r - s) = 0
  · obtain ⟨z1, z2, z3⟩ := g3_zero h0
    have e : restJ m r n s = (0, r) := by unfold restJ restOf; rw [if_pos h0]
    refine ⟨o, fun _ => ?_, ?_⟩
    · show -100 ≤ (restJ m r n s).2 ∧ (restJ m r n s).2 ≤ 100
      rw [e]; exact h1 z1
    · show (restJ m r n s).1 ≤ 200
      rw [e]; show (0 : Int) ≤ 200; omega
  · have e : (restJ m r n s).1 = g3 m n (r - s) := by unfold restJ restOf; rw [if_neg h0]
    refine ⟨o, fun z => absurd (e.symm.trans z) h0, ?_⟩
    show (restJ m r n s).1 ≤ 200
    rw [e]
    rcases hm with m0 | m1
    · rcases km with n0 | n1
      · have := h1 m0; have := k1 n0
        have z : r - s ≠ 0 := fun z => h0 (by rw [m0, n0, z]; rfl)
        have := Int.le_of_dvd (b := ((r - s).natAbs : Int)) (by omega) (Int.dvd_natAbs.mpr d3)
        omega
      · have := Int.le_of_dvd (by omega) d2
        omega
    · have := Int.le_of_dvd (by omega) d1
      omega
end Sh
set_option Elab.async false
set_option linter.all false
set_option maxRecDepth 100000
set_option maxHeartbeats 4000000
namespace Sh
open PySem PySem.Spec PyProof.Rows L2
/-! meets -/
theorem tl_lw {a c : Option Int} : lwB (tightL a c) c = true := by
  cases a with
  | none => exact lw_self
  | some x => cases c with
    | none => rfl
    | some y => exact decide_eq_true (by show y ≤ (if y > x then y else x); split <;> omega)
theorem th_hw {b d : Option Int} : hwB (tightH b d) d = true := by
  cases b with
  | none => exact hw_self
  | some x => cases d with
    | none => rfl
    | some y => exact decide_eq_true (by show (if y < x then y else x) ≤ y; split <;> omega)
theorem meetF {m r n s L x : Int} (hm : m = 0 ∨ (1 ≤ m ∧ 0 ≤ r ∧ r < m)) (hn : n = 0 ∨ (1 ≤ n ∧ 0 ≤ s ∧ s < n)) (h : meetO m r n s = some (L, x)) :
    (L = 0 ∧ hasB n s x = true) ∨ (1 ≤ L ∧ 0 ≤ x ∧ x < L ∧ 1 ≤ n ∧ n ∣ L ∧ n ∣ x - s) := by
  unfold meetO at h
  by_cases m0 : m = 0
  · rw [if_pos m0] at h
    split at h
    · cases h; left; exact ⟨rfl, by assumption⟩
    · cases h
  · rw [if_neg m0] at h
    by_cases n0 : n = 0
    · rw [if_pos n0] at h
      split at h
      · cases h; left; exact ⟨rfl, by unfold hasB; rw [if_pos n0]; simp⟩
      · cases h
    · rw [if_neg n0] at h
      split at h
      · rename_i hz
        have hm1 : 0 < m := by omega
        have hn1 : 0 < n := by omega
        obtain ⟨L', x', e, eL, x0, x1, d1, d2⟩ := meet_is hm1 hn1 hz
        rw [e] at h
        cases h
        obtain ⟨l0, l1, l2, _⟩ := lcm_is hm1 hn1
        rw [← eL] at l0 l2
        exact .inr ⟨by omega, x0, x1, by omega, l2, d2⟩
      · cases h
theorem vok_r {v : VT} (h : VOk v) : v.2.2.1 = 0 ∨ (1 ≤ v.2.2.1 ∧ 0 ≤ v.2.2.2 ∧ v.2.2.2 < v.2.2.1) := by
  rcases h.h with ⟨z, _⟩ | ⟨z, y, x, _⟩
  · exact .inl z
  · exact .inr ⟨z, y, x⟩
theorem fm_of {n s x : Int} (n1 : 1 ≤ n) (s0 : 0 ≤ s) (s1 : s < n) (d : n ∣ x - s) : x.fmod n = s := by
  rw [fe n1]
  have h := Int.emod_emod_of_dvd s (Int.dvd_refl n)
  have e : x % n = s % n := Int.emod_eq_emod_iff_emod_sub_eq_zero.mpr (Int.emod_eq_zero_of_dvd d)
  rw [e, Int.emod_eq_of_lt s0 s1]
theorem vm_in {v w : VT} (hv : VOk v) (hw : VOk w) : vmD v.1 v.2.1 w.1 w.2.1 v.2.2.1 v.2.2.2 w.2.2.1 w.2.2.2 = .non ∨ ∃ u, vmD v.1 v.2.1 w.1 w.2.1 v.2.2.1 v.2.2.2 w.2.2.1 w.2.2.2 = vT u ∧ wiB u w = true := by
  have rv := vok_r hv
  have rw_ := vok_r hw
  obtain ⟨a, b, m, r⟩ := v
  obtain ⟨c, d, n, s⟩ := w
  dsimp only at rv rw_
  show vmD a b c d m r n s = .non ∨ ∃ u, vmD a b c d m r n s = vT u ∧ wiB u (c, d, n, s) = true
  unfold vmD
  cases hS : spanM a b c d with
  | none => exact .inl rfl
  | some lh =>
    obtain ⟨lo, hi⟩ := lh
    cases hM : meetO m r n s with
    | none => exact .inl rfl
    | some Lx =>
      obtain ⟨L, x⟩ := Lx
      have e := span_no hS
      have e1 : lo = tightL a c := congrArg Prod.fst e
      have e2 : hi = tightH b d := congrArg Prod.snd e
      have l1 : lwB lo c = true := by rw [e1]; exact tl_lw
      have l2 : hwB hi d = true := by rw [e2]; exact th_hw
      dsimp only
      have one : ∀ y : Int, lwB (some y) lo = true → hwB (some y) hi = true → hasB n s y = true → wiB (some y, some y, 0, y) (c, d, n, s) = true := fun y h1 h2 h3 => by
        unfold wiB
        show (lwB (some y) c && (hwB (some y) d && rwB 0 y n s)) = true
        rw [lw_trans h1 l1, hw_trans h2 l2]
        unfold rwB
        by_cases n0 : n = 0
        · rw [if_pos n0]
          unfold hasB at h3
          rw [if_pos n0] at h3
          rw [h3]; rfl
        · rw [if_neg n0, h3, Int.zero_fmod]; rfl
      rcases meetF rv rw_ hM with ⟨L0, hb⟩ | ⟨L1, x0, x1, n1, d1, d2⟩
      · unfold voD
        rw [if_pos L0]
        by_cases hl : letsB lo hi x = true
        · rw [if_pos hl]
          unfold letsB at hl
          rw [Bool.and_eq_true] at hl
          exact .inr ⟨(some x, some x, 0, x), rfl, one x hl.1 hl.2 hb⟩
        · rw [if_neg hl]; exact .inl rfl
      · have hs : 0 ≤ s ∧ s < n := by
          rcases rw_ with z | ⟨_, z1, z2⟩
          · omega
          · exact ⟨z1, z2⟩
        have two : ∀ (p q : Option Int), lwB p lo = true → hwB q hi = true → wiB (p, q, L, x) (c, d, n, s) = true := fun p q h1 h2 => by
          unfold wiB
          show (lwB p c && (hwB q d && rwB L x n s)) = true
          rw [lw_trans h1 l1, hw_trans h2 l2]
          unfold rwB hasB
          rw [if_neg (by omega), if_neg (by omega), fm_of n1 hs.1 hs.2 d2, fe n1, Int.emod_eq_zero_of_dvd d1]; simp
        have hmem : ∀ y : Int, y.fmod L = x → hasB n s y = true := fun y hy => by
          unfold hasB
          rw [if_neg (by omega)]
          refine decide_eq_true (fm_of n1 hs.1 hs.2 ?_)
          have q1 : L ∣ y - x := dvd_of_mod L1 hy
          have := Int.dvd_add (Int.dvd_trans d1 q1) d2
          rwa [show y - x + (x - s) = y - s by omega] at this
        unfold voD
        rw [if_neg (by omega)]
        cases lo with
        | none => cases hi with
          | none => exact .inr ⟨(none, none, L, x), rfl, two _ _ rfl rfl⟩
          | some h =>
            have b1 := dn_b (x := h) (r := x) L1
            exact .inr ⟨(none, some (dnR x L h), L, x), rfl, two _ _ rfl (decide_eq_true b1.1)⟩
        | some l => cases hi with
          | none =>
            have b1 := up_b (x := l) (r := x) L1
            exact .inr ⟨(some (upR x L l), none, L, x), rfl, two _ _ (decide_eq_true b1.1) rfl⟩
          | some h =>
            have b1 := dn_b (x := h) (r := x) L1
            have b2 := up_b (x := l) (r := x) L1
            have u2 := up_mod (x := l) L1 x0 x1
            show (if dnR x L h ≤ upR x L l then (if upR x L l = dnR x L h then vD (some (upR x L l)) (some (upR x L l)) 0 (upR x L l) else .non) else vD (some (upR x L l)) (some (dnR x L h)) L x) = .non ∨
              ∃ u, (if dnR x L h ≤ upR x L l then (if upR x L l = dnR x L h then vD (some (upR x L l)) (some (upR x L l)) 0 (upR x L l) else .non) else vD (some (upR x L l)) (some (dnR x L h)) L x) = vT u ∧ _
            generalize upR x L l = p at *
            generalize dnR x L h = q at *
            by_cases z : q ≤ p
            · rw [if_pos z]
              by_cases z2 : p = q
              · rw [if_pos z2]
                exact .inr ⟨(some p, some p, 0, p), rfl, one p (decide_eq_true b2.1) (decide_eq_true (by omega)) (hmem p u2)⟩
              · rw [if_neg z2]; exact .inl rfl
            · rw [if_neg z]
              exact .inr ⟨(some p, some q, L, x), rfl, two _ _ (decide_eq_true b2.1) (decide_eq_true b1.1)⟩
abbrev vmV (v w : VT) : Dt := vmD v.1 v.2.1 w.1 w.2.1 v.2.2.1 v.2.2.2 w.2.2.1 w.2.2.2
open Classical in
noncomputable def mO (v w : VT) : Option VT := if h : ∃ u, vmV v w = vT u then some (Classical.choose h) else none
theorem mO_is {v w : VT} (hv : VOk v) (hw : VOk w) : vmV v w = oV (mO v w) ∧ ∀ u, mO v w = some u → wiB u w = true := by
  rcases vm_in hv hw with h | ⟨u, h, k⟩
  · have no : ¬ ∃ u, vmV v w = vT u := fun ⟨u, e⟩ => by
      have := h.symm.trans e
      cases this
    have e : mO v w = none := by unfold mO; rw [dif_neg no]
    rw [e]
    exact ⟨h, fun u z => by cases z⟩
  · have yes : ∃ u, vmV v w = vT u := ⟨u, h⟩
    have e : mO v w = some (Classical.choose yes) := by unfold mO; rw [dif_pos yes]
    have c := Classical.choose_spec yes
    rw [e]
    refine ⟨c, fun y z => ?_⟩
    cases z
    have : u = Classical.choose yes := vT_inj (h.symm.trans c)
    rw [← this]; exact k
/-- met item by item and piece by piece -/
theorem al_any {P Q : Pcs} {R : List (Int × VT × VT)} (h : Al P Q R) (ap : asc P 0) (aq : asc Q 0) (g : VT → VT → Bool) : (R.any fun t => g t.2.1 t.2.2) = ((sp P 0).zip (sp Q 0)).any fun p => g p.1 p.2 := by
  let f : VT → VT → VT := fun v w => if g v w = true then EV else (none, none, 0, 0)
  obtain ⟨e, a, _⟩ := al_zip (f := f) h 0 ap aq
  have hf : ∀ v w, f v w = EV ↔ g v w = true := fun v w => by
    show (if g v w = true then EV else (none, none, 0, 0)) = EV ↔ _
    by_cases z : g v w = true
    · rw [if_pos z]; exact ⟨fun _ => z, fun _ => rfl⟩
    · rw [if_neg z]; exact ⟨fun y => (by cases y), fun y => absurd y z⟩
  have sp_mem : ∀ {L : Pcs} {n : Int} {v : VT}, v ∈ sp L n → ∃ p, p ∈ L ∧ p.2 = v := fun {L} => by
    induction L with
    | nil => intro n v h; cases h
    | cons p L ih =>
      intro n v h
      obtain ⟨e', u⟩ := p
      rcases List.mem_append.mp (show v ∈ List.replicate (e' - n).toNat u ++ sp L e' from h) with h | h
      · exact ⟨(e', u), List.mem_cons_self, (List.eq_of_mem_replicate h).symm⟩
      · obtain ⟨p, h1, h2⟩ := ih h
        exact ⟨p, List.mem_cons_of_mem _ h1, h2⟩
  rw [Bool.eq_iff_iff, List.any_eq_true, List.any_eq_true]
  constructor
  · rintro ⟨t, ht, hg⟩
    have hm : f t.2.1 t.2.2 ∈ sp (R.map fun t => (t.1, f t.2.1 t.2.2)) 0 := mem_sp a (t.1, f t.2.1 t.2.2) (List.mem_map.mpr ⟨t, ht, rfl⟩)
    rw [e, zipW_map] at hm
    obtain ⟨p, hp, he⟩ := List.mem_map.mp hm
    exact ⟨p, hp, (hf _ _).mp (he.trans ((hf _ _).mpr hg))⟩
  · rintro ⟨p, hp, hg⟩
    have hm : f p.1 p.2 ∈ List.zipWith f (sp P 0) (sp Q 0) := by
      rw [zipW_map]; exact List.mem_map.mpr ⟨p, hp, rfl⟩
    rw [← e] at hm
    obtain ⟨q, hq, he⟩ := sp_mem hm
    obtain ⟨t, ht, rfl⟩ := List.mem_map.mp hq
    exact ⟨t, ht, (hf _ _).mp (Eq.trans he ((hf _ _).mpr hg))⟩
theorem al_all {P Q : Pcs} {R : List (Int × VT × VT)} (h : Al P Q R) (ap : asc P 0) (aq : asc Q 0) (g : VT → VT → Bool) : (R.all fun t => g t.2.1 t.2.2) = ((sp P 0).zip (sp Q 0)).all fun p => g p.1 p.2 := by
  have := al_any h ap aq fun v w => !g v w
  rw [List.all_eq_not_any_not, List.all_eq_not_any_not, this]
end Sh
set_option Elab.async false
set_option linter.all false
set_option maxRecDepth 100000
set_option maxHeartbeats 4000000
namespace Sh
open PySem PySem.Spec PyProof.Rows L2
abbrev s_same_pieces : Stmt := topS 32
abbrev N_same_pieces : List Str := ["n", "value"]
abbrev p_same_pieces : List Str := ["n", "value"]
theorem sc_same_pieces : FnScope N_same_pieces p_same_pieces (defScope s_same_pieces) := ⟨rfl, rfl, rfl, by decide +kernel, rfl, by decide +kernel, by decide +kernel⟩
abbrev s_items_of : Stmt := topS 39
abbrev N_items_of : List Str := ["pieces", "found", "end", "value"]
abbrev p_items_of : List Str := ["pieces"]
theorem sc_items_of : FnScope N_items_of p_items_of (defScope s_items_of) := ⟨rfl, rfl, rfl, by decide +kernel, rfl, by decide +kernel, by decide +kernel⟩
abbrev s_written : Stmt := topS 38
abbrev N_written : List Str := ["old", "new", "alone"]
abbrev p_written : List Str := ["old", "new", "alone"]
theorem sc_written : FnScope N_written p_written (defScope s_written) := ⟨rfl, rfl, rfl, by decide +kernel, rfl, by decide +kernel, by decide +kernel⟩
abbrev s_pieces_write : Stmt := topS 34
abbrev N_pieces_write : List Str := ["pieces", "index", "value", "items", "reached", "new", "alone", "k", "old"]
abbrev p_pieces_write : List Str := ["pieces", "index", "value"]
theorem sc_pieces_write : FnScope N_pieces_write p_pieces_write (defScope s_pieces_write) := ⟨rfl, rfl, rfl, by decide +kernel, rfl, by decide +kernel, by decide +kernel⟩
abbrev s_pieces_read : Stmt := topS 33
abbrev N_pieces_read : List Str := ["pieces", "index", "found", "start", "end", "value"]
abbrev p_pieces_read : List Str := ["pieces", "index"]
theorem sc_pieces_read : FnScope N_pieces_read p_pieces_read (defScope s_pieces_read) := ⟨rfl, rfl, rfl, by decide +kernel, rfl, by decide +kernel, by decide +kernel⟩
abbrev s_pieces_meet : Stmt := topS 37
abbrev N_pieces_meet : List Str := ["one", "other", "found", "end", "a", "b", "_", "value"]
abbrev p_pieces_meet : List Str := ["one", "other"]
theorem sc_pieces_meet : FnScope N_pieces_meet p_pieces_meet (defScope s_pieces_meet) := ⟨rfl, rfl, rfl, by decide +kernel, rfl, by decide +kernel, by decide +kernel⟩
abbrev vK (k : Bool) (v : VT) : Dt := sq k [oD v.1, oD v.2.1, .int v.2.2.1, .int v.2.2.2]
theorem as_oD2 {o : Option Int} {n : Nat} : AsN (n + 1) (oD o) ∧ (oD o).tu = oD o := by cases o <;> exact ⟨trivial, rfl⟩
theorem as_vK {k : Bool} {v : VT} : AsN 4 (vK k v) ∧ (vK k v).tu = vT v := by
  obtain ⟨a, b, m, r⟩ := v
  have hm : ∀ d, d ∈ [oD a, oD b, .int m, .int r] → AsN 3 d := fun d hd => by
    simp only [List.mem_cons, List.not_mem_nil, or_false] at hd
    rcases hd with rfl | rfl | rfl | rfl
    · exact as_oD2.1
    · exact as_oD2.1
    · exact trivial
    · exact trivial
  have ht : tus [oD a, oD b, .int m, .int r] = [oD a, oD b, .int m, .int r] := by
    show [(oD a).tu, (oD b).tu, .int m, .int r] = _
    rw [(as_oD2 (n := 0)).2, (as_oD2 (n := 0)).2]
  cases k
  · exact ⟨hm, by show Dt.tup (tus _) = _; rw [ht]⟩
  · exact ⟨hm, by show Dt.tup (tus _) = _; rw [ht]⟩
theorem cut_len : ∀ (Z : List VT) (k : Int), (cutF k Z).length ≤ Z.length
  | [], _ => Nat.le_refl _
  | [_], _ => Nat.le_refl _
  | v :: w :: Z, k => by
    have := cut_len (w :: Z) (k + 1)
    unfold cutF
    split
    · simp only [List.length_cons] at *; omega
    · simp only [List.length_cons] at *; omega
theorem ae_lenOwn {K : PySem.W.Frag} {ρ : List En} {Ψ : Dt → List En → Prop} {i : Nat} {l : List Dt} (e : ρ[i]? = some (.own l)) (h : Ψ (.int (l.length : Nat)) ρ) : AE K (tCB (fun xs H Q => ∃ p ys, xs = [.ref p] ∧ (SqL K H p ys ∨ SqT K H p ys) ∧ Q (.int ys.length) H) (tCons (tVar i) tNil)) ρ Ψ := fun B σ G H m Q q => by
  obtain ⟨p, xs, a1, a2, a3, a4, a5⟩ := m.own i _ e
  refine ⟨_, a1, p, xs, rfl, .inl (SqL.of a2), ?_⟩
  rw [a3.length]
  exact q (.int (l.length : Nat)) (.int (l.length : Nat)) ρ G H m (Same.refl _) Tr.refl rfl h
theorem call_x {S : List Dt → Dt → Prop} {Ψ : Dt → Prop} {ds : List Dt} {r : Dt} (j : S ds r) (h : Ψ r) : ∃ r, S ds r ∧ Ψ r := ⟨r, j, h⟩
theorem asc_take : ∀ {P : Pcs} {n : Int} (i : Nat), asc P n → asc (P.take i) n
  | P, n, 0, _ => by rw [List.take_zero]; trivial
  | [], n, i + 1, _ => trivial
  | (e, v) :: P, n, i + 1, h => ⟨h.1, asc_take i h.2⟩
theorem end_take : ∀ {P : Pcs} {n : Int} (i : Nat), asc P n → endO (P.take i) n ≤ endO P n
  | P, n, 0, h => by rw [List.take_zero]; exact asc_end h
  | [], n, i + 1, _ => Int.le_refl _
  | (e, v) :: P, n, i + 1, h => end_take i h.2
def S_sp (ds : List Dt) (res : Dt) : Prop := ∃ (n : Int) (k : Bool) (v : VT), ds = [.int n, vK k v] ∧ res = pcT [(n, v)]
def S_it (ds : List Dt) (res : Dt) : Prop := ∃ P : Pcs, ds = [pcT P] ∧ asc P 0 ∧ endO P 0 ≤ 100 ∧ res = .lst ((sp P 0).map vT)
def S_wr (ds : List Dt) (res : Dt) : Prop := ∃ (a b : VT) (c : Bool), ds = [vT a, vT b, .bl c] ∧ VOk a ∧ VOk b ∧ res = vT (if c = true then b else jV a b)
def wrD (o : Option (List VT)) : Dt := match o with | none => .non | some Y => pcT (cutF 0 Y)
def S_pwr (ds : List Dt) (res : Dt) : Prop := ∃ (k k' k1 k2 : Bool) (Z : List VT) (x v : VT), ds = [pcD k k' (cutF 0 Z), vK k1 x, vK k2 v] ∧ (1 ≤ Z.length ∧ Z.length ≤ 100) ∧ (∀ z, z ∈ Z → VOk z) ∧ VOk x ∧ VOk v ∧ res = wrD (wrL x v Z)
def S_prd (ds : List Dt) (res : Dt) : Prop := ∃ (k k' k1 : Bool) (P : Pcs) (x : VT), ds = [pcD k k' P, vK k1 x] ∧ P.length ≤ 100 ∧ (∀ p, p ∈ P → VOk p.2) ∧ res = oV (rdP x 0 P none)
def S_pm (ds : List Dt) (res : Dt) : Prop := ∃ (k k' q q' : Bool) (P Q : Pcs) (R : List (Int × VT × VT)), ds = [pcD k k' P, pcD q q' Q] ∧ Al P Q R ∧ P.length + Q.length ≤ 9000 ∧ (∀ p, p ∈ P → VS p.2) ∧ (∀ p, p ∈ Q → VS p.2) ∧
  res = if (R.any fun t => (mO t.2.1 t.2.2).isNone) = true then .non else pcT (mgd (R.map fun t => (t.1, (mO t.2.1 t.2.2).getD EV)))
theorem rd_snoc {x : VT} : ∀ {P : Pcs} {n e : Int} {v : VT} {o : Option VT}, rdP x n (P ++ [(e, v)]) o = if hitB x (endO P n) e = true then rdP x n P o else some (jo (rdP x n P o) v)
  | [], n, e, v, o => rfl
  | (f, w) :: P, n, e, v, o => by
    show rdP x f (P ++ [(e, v)]) _ = _
    rw [rd_snoc]; rfl
theorem rd_ok {x : VT} : ∀ {P : Pcs} {n : Int} {o : Option VT}, (∀ p, p ∈ P → VOk p.2) → (∀ w, o = some w → VOk w) → ∀ w, rdP x n P o = some w → VOk w
  | [], n, o, _, ho, w, h => ho w h
  | (e, v) :: P, n, o, hp, ho, w, h => by
    refine rd_ok (fun p hp' => hp p (List.mem_cons_of_mem _ hp')) (fun u hu => ?_) w h
    split at hu
    · exact ho u hu
    · cases hu; exact jo_vok ho (hp _ List.mem_cons_self)
noncomputable def meD (t : Int × VT × VT) : Dt := .tup [.int t.1, oV (mO t.2.1 t.2.2)]
theorem me_none {R : List (Int × VT × VT)} : (R.any fun t => (mO t.2.1 t.2.2).isNone) = false → R.map meD = (R.map fun t => (t.1, (mO t.2.1 t.2.2).getD EV)).map pT := by
  intro h
  rw [List.map_map]
  refine List.map_congr_left fun t ht => ?_
  have := List.any_eq_false.mp h t ht
  unfold meD
  cases e : mO t.2.1 t.2.2 with
  | none => rw [e] at this; exact absurd rfl this
  | some u => show _ = pT (t.1, (mO t.2.1 t.2.2).getD EV); rw [e]; rfl
theorem oV_isNon {o : Option VT} : (oV o).isNon = o.isNone := by cases o <;> rfl
open Classical in
noncomputable def isNonF (d : Dt) : Dt := if ∃ n : Int, d = .tup [.int n, .non] then .bl true else .bl false
theorem isNonF_is {n : Int} {o : Option VT} : isNonF (.tup [.int n, oV o]) = .bl (oV o).isNon := by
  unfold isNonF
  cases o with
  | none => rw [if_pos ⟨n, rfl⟩]; rfl
  | some v => rw [if_neg (fun ⟨m, e⟩ => by cases e)]; rfl
section
variable {P : Program} {w : World} {K : PySem.W.Frag} {mg : Str → Option Value} {base : Heap}
theorem ok_same_pieces (bl : Blts mg) {g_as_tuples : Addr} {d_as_tuples : FuncData} (c_as_tuples : Cal P w K mg base 20 "as_tuples" p_as_tuples (spP K (S_as 4)) g_as_tuples d_as_tuples)  {f : Addr} {fd : FuncData} (F : Fun K "same_pieces" "same_pieces" s_same_pieces f fd) : FnOk P w K mg base CX0 21 f fd p_same_pieces (spP K (S_sp)) := by
  refine okP F sc_same_pieces (fun ds r h => ?_) (fun cdv A outer s H E hr ds r h => ?_)
  · obtain ⟨n, k, v, rfl, rfl⟩ := h
    rfl
  obtain ⟨n, k, v, rfl, rfl⟩ := h
  refine ⟨_, (pss_one (ps_ret (pe_tup (pa_cons (pe_tup (pa_cons (pv 0) (pa_cons (pe_call c_as_tuples.ok (hr.mono (by decide)) rfl c_as_tuples.mg c_as_tuples.kp c_as_tuples.bi .nil pass0 (pa_cons (pv 1) pa_nil)) pa_nil))) pa_nil)))), ?_⟩
  change AS K _ [En.da _, En.da _] _ _
  try simp only [cxOf_K]
  repeat' (first
    | with_reducible apply ae_call
    | (refine ⟨_, ⟨_, rfl, as_vK.1, as_vK.2.symm⟩, ?_⟩)
    | with_reducible apply as_ret
    | ((with_reducible apply ae_var); · rfl)
    | with_reducible apply aa_nil
    | with_reducible apply aa_cons
    | with_reducible apply ae_tup
    | refine ⟨sz60 (Nat.le_of_ble_eq_true rfl), ?_⟩
    | rfl
    | fail)
theorem ok_items_of (bl : Blts mg)   {f : Addr} {fd : FuncData} (F : Fun K "items_of" "items_of" s_items_of f fd) : FnOk P w K mg base CX0 1 f fd p_items_of (spP K (S_it)) := by
  refine okP F sc_items_of (fun ds r h => ?_) (fun cdv A outer s H E hr ds r h => ?_)
  · obtain ⟨P, rfl, ha, he, rfl⟩ := h
    rfl
  obtain ⟨P, rfl, ha, he, rfl⟩ := h
  refine ⟨_, (pss_cons (ps_set (i := 1) sc_items_of.nd rfl (by first | exact Or.inl rfl | exact Or.inr rfl) (pe_lst pa_nil))
    (pss_cons (ps_for PassesOwn.never rfl (pi_tup (pv 0)) (pg_tup rfl (pgs_cons (pg_name (i := 2) sc_items_of.nd rfl (by first | exact Or.inl rfl | exact Or.inr rfl)) (pgs_cons (pg_name (i := 3) sc_items_of.nd rfl (by first | exact Or.inl rfl | exact Or.inr rfl)) pgs_nil))) (pss_one (ps_expr (pe_bm PySem.F.plainAttrs_list PySem.F.slot_list_extend PySem.F.type_list_extend mt_extend (pv 1) (pa_cons (pe_op op_rep (pe_lst (pa_cons (pv 3) pa_nil)) (pe_op op_sub (pv 2) (pe_callB call_len_seq rfl bl.len (by decide +kernel) (pa_cons (pv 1) pa_nil)))) pa_nil)))))
    (pss_one (ps_ret (pv 1))))), ?_⟩
  change AS K _ [En.da _, En.no, En.no, En.no] _ _
  try simp only [cxOf_K]
  repeat' (first
    | with_reducible apply as_own
    | with_reducible apply as_seq
    | with_reducible apply aa_nil
    | refine ⟨sz60 (Nat.le_of_ble_eq_true rfl), ?_⟩
    | fail)
  refine as_for ?_
  refine ai_tup ?_
  repeat' (first
    | ((with_reducible apply ae_var); · rfl)
    | refine ⟨_, rfl, ?_⟩
    | fail)
  refine ⟨fun i ρ => ∃ (own : List Dt) (e2 e3 : En), own = (sp (P.take i) 0).map vT ∧ ρ = [.da (pcT P), .own own, e2, e3], ⟨_, _, _, rfl, rfl⟩, ?_, ?_⟩
  rotate_left
  · rintro ρ ⟨own, e2, e3, rfl, rfl⟩
    rw [List.length_map, List.take_length]
    refine as_frz (i := 1) rfl ?_
    repeat' (first
      | with_reducible apply as_ret
      | ((with_reducible apply ae_var); · rfl)
      | rfl
      | fail)
  rintro i dd ρ hi ⟨own, e2, e3, rfl, rfl⟩
  rw [List.getElem?_map] at hi
  obtain ⟨⟨x, v⟩, hx, rfl⟩ := Option.map_eq_some_iff.mp hi
  have htk : P.take (i + 1) = P.take i ++ [(x, v)] := by rw [List.take_add_one, hx]; rfl
  have a1 := asc_take (i + 1) ha
  have e1 := end_take (i + 1) ha
  rw [htk] at a1 e1
  rw [end_snoc] at e1
  obtain ⟨a2, a3⟩ := asc_snoc.mp a1
  have sl := sp_len a2
  have ae := asc_end a2
  have x100 : x ≤ 100 := Int.le_trans e1 he
  have x0 : endO (P.take i) 0 < x := a3
  have hs : sp (P.take (i + 1)) 0 = sp (P.take i) 0 ++ List.replicate (x - endO (P.take i) 0).toNat v := by rw [htk]; exact sp_snoc
  have hlen : (((sp (P.take i) 0).map vT).length : Int) = endO (P.take i) 0 := by rw [List.length_map]; omega
  have hk : ((sp (P.take i) 0).map vT) ++ List.replicate (x - (((sp (P.take i) 0).map vT).length : Int)).toNat (vT v) = (sp (P.take (i + 1)) 0).map vT := by
    rw [hs, List.map_append, List.map_replicate, hlen]
  repeat' (first
    | (refine ag_tup (ds := [.int x, vT v]) rfl ?_)
    | (refine as_extend ?_ ⟨_, rfl⟩)
    | (refine ae_lenOwn (i := 1) rfl ?_)
    | (refine ar_repN (by omega) (by rw [sizeLine_eq]; omega) ?_)
    | (refine ⟨_, _, rfl, rfl, (by rw [List.length_replicate, sizeLine_eq]; omega), ?_⟩)
    | (exact ⟨_, .da (.int x), .da (vT v), hk, rfl⟩)
    | ((with_reducible apply ae_var); · rfl)
    | with_reducible apply ae_op
    | with_reducible apply aa_nil
    | with_reducible apply aa_cons
    | with_reducible apply ae_lst
    | with_reducible apply ar_I0i
    | with_reducible apply ag_name
    | with_reducible apply ags_nil
    | with_reducible apply ags_cons
    | refine ⟨sz60 (Nat.le_of_ble_eq_true rfl), ?_⟩
    | fail)
theorem ok_written (bl : Blts mg) {g_value_join : Addr} {d_value_join : FuncData} (c_value_join : Cal P w K mg base 5 "value_join" p_value_join (spP K S_vj) g_value_join d_value_join)  {f : Addr} {fd : FuncData} (F : Fun K "written" "written" s_written f fd) : FnOk P w K mg base CX0 6 f fd p_written (spP K (S_wr)) := by
  refine okP F sc_written (fun ds r h => ?_) (fun cdv A outer s H E hr ds r h => ?_)
  · obtain ⟨a, b, c, rfl, ha, hb, rfl⟩ := h
    rfl
  obtain ⟨a, b, c, rfl, ha, hb, rfl⟩ := h
  refine ⟨_, (pss_cons (ps_if (pt_val (pv 2)) (pss_one (ps_ret (pv 1))) pss_nil)
    (pss_one (ps_ret (pe_call c_value_join.ok (hr.mono (by decide)) rfl c_value_join.mg c_value_join.kp c_value_join.bi .nil pass0 (pa_cons (pv 0) (pa_cons (pv 1) pa_nil)))))), ?_⟩
  change AS K _ [En.da _, En.da _, En.da _] _ _
  try simp only [cxOf_K]
  cases c
  all_goals
    repeat' (first
      | with_reducible apply ae_call
      | (refine ⟨_, ⟨true, true, _, _, _, _, _, _, _, _, rfl, (jV_ok ha hb).2.symm⟩, ?_⟩)
      | with_reducible apply as_seq
      | with_reducible apply as_ret
      | with_reducible apply as_next
      | with_reducible apply as_if
      | ((with_reducible apply ae_var); · rfl)
      | with_reducible apply aa_nil
      | with_reducible apply aa_cons
      | with_reducible apply at_b
      | refine ⟨_, rfl, ?_⟩
      | (refine ⟨fun hc => ?_, fun hc => ?_⟩ <;> (first | (exfalso; exact absurd (show false = true from hc) (by decide)) | (exfalso; exact absurd (show true = false from hc) (by decide)) | (exfalso; simp at hc; done) | skip))
      | rfl
      | fail)
theorem ok_pieces_write (bl : Blts mg) {g_as_tuples : Addr} {d_as_tuples : FuncData} (c_as_tuples : Cal P w K mg base 20 "as_tuples" p_as_tuples (spP K (S_as 4)) g_as_tuples d_as_tuples) {g_items_of : Addr} {d_items_of : FuncData} (c_items_of : Cal P w K mg base 1 "items_of" p_items_of (spP K S_it) g_items_of d_items_of) {g_value_cut : Addr} {d_value_cut : FuncData} (c_value_cut : Cal P w K mg base 4 "value_cut" p_value_cut (spP K S_cut) g_value_cut d_value_cut) {g_contains : Addr} {d_contains : FuncData} (c_contains : Cal P w K mg base 3 "contains" p_contains (spP K S_con) g_contains d_contains) {g_written : Addr} {d_written : FuncData} (c_written : Cal P w K mg base 6 "written" p_written (spP K S_wr) g_written d_written) {g_merged : Addr} {d_merged : FuncData} (c_merged : Cal P w K mg base 1 "merged" p_merged (spP K S_mg) g_merged d_merged)  {f : Addr} {fd : FuncData} (F : Fun K "pieces_write" "pieces_write" s_pieces_write f fd) : FnOk P w K mg base CX0 22 f fd p_pieces_write (spP K (S_pwr)) := by
  refine okP F sc_pieces_write (fun ds r h => ?_) (fun cdv A outer s H E hr ds r h => ?_)
  · obtain ⟨k, k', k1, k2, Z, x, v, rfl, hZ, hz', hx, hv, rfl⟩ := h
    rfl
  obtain ⟨k, k', k1, k2, Z, x, v, rfl, hZ, hz', hx, hv, rfl⟩ := h
  refine ⟨_, (pss_cons (ps_set (i := 3) sc_pieces_write.nd rfl (by first | exact Or.inl rfl | exact Or.inr rfl) (pe_call c_items_of.ok (hr.mono (by decide)) rfl c_items_of.mg c_items_of.kp c_items_of.bi .nil pass0 (pa_cons (pe_call c_as_tuples.ok (hr.mono (by decide)) rfl c_as_tuples.mg c_as_tuples.kp c_as_tuples.bi .nil pass0 (pa_cons (pv 0) pa_nil)) pa_nil)))
    (pss_cons (ps_set (i := 4) sc_pieces_write.nd rfl (by first | exact Or.inl rfl | exact Or.inr rfl) (pe_call c_value_cut.ok (hr.mono (by decide)) rfl c_value_cut.mg c_value_cut.kp c_value_cut.bi .nil pass0 (pa_cons (pv 1) (pa_cons pe_int (pa_cons (pe_op op_sub (pe_callB call_len_seq rfl bl.len (by decide +kernel) (pa_cons (pv 3) pa_nil)) pe_int) pa_nil)))))
    (pss_cons (ps_if (pt_cmpR op_isN (pv 4) pe_non (nomark _)) (pss_one (ps_ret pe_non)) pss_nil)
    (pss_cons (ps_set (i := 5) sc_pieces_write.nd rfl (by first | exact Or.inl rfl | exact Or.inr rfl) (pe_call c_as_tuples.ok (hr.mono (by decide)) rfl c_as_tuples.mg c_as_tuples.kp c_as_tuples.bi .nil pass0 (pa_cons (pv 2) pa_nil)))
    (pss_cons (ps_set (i := 6) sc_pieces_write.nd rfl (by first | exact Or.inl rfl | exact Or.inr rfl) (pe_cmpR op_eq (pe_ix ix_seq (pv 4) pe_int (fun _ _ => rfl)) (pe_ix ix_seq (pv 4) pe_int (fun _ _ => rfl)) (nomark _)))
    (pss_one (ps_ret (pe_call c_merged.ok (hr.mono (by decide)) rfl c_merged.mg c_merged.kp c_merged.bi .nil pass0 (pa_cons (pe_lc (own := [("k", 7), ("old", 8)]) (g := (gTup K 2 (gCons (gName 7) (gCons (gName 8) gNil)))) (te := (tTup (tCons (tOp (rI0 fun i j => .int (i + j)) (tVar 7) (tC (.int 1))) (tCons (tIf (tB (tCall (spP K S_con) [] E0 (tCons (tVar 4) (tCons (tVar 7) tNil)))) (tCall (spP K S_wr) [] E0 (tCons (tVar 8) (tCons (tVar 5) (tCons (tVar 6) tNil)))) (tVar 8)) tNil)))) (tt := tYes) rfl sc_pieces_write.nd (pi_enum rfl bl.enumerate (pa_cons (pv 3) pa_nil)) (blkOk_by (N := N_pieces_write) (sc := defScope s_pieces_write) (by decide +kernel)) (fun _ _ _ _ _ => (pg_tup rfl (pgs_cons (pg_name (i := 7) sc_pieces_write.nd rfl (by first | exact Or.inl rfl | exact Or.inr rfl)) (pgs_cons (pg_name (i := 8) sc_pieces_write.nd rfl (by first | exact Or.inl rfl | exact Or.inr rfl)) pgs_nil)))) (fun _ _ _ _ _ => pts_nil) (fun _ _ _ _ _ => (pe_tup (pa_cons (pe_op op_add (pv 7) pe_int) (pa_cons (pe_ifExp (pt_val (pe_call c_contains.ok (hr.mono (by decide)) rfl c_contains.mg c_contains.kp c_contains.bi .nil pass0 (pa_cons (pv 4) (pa_cons (pv 7) pa_nil)))) (pe_call c_written.ok (hr.mono (by decide)) rfl c_written.mg c_written.kp c_written.bi .nil pass0 (pa_cons (pv 8) (pa_cons (pv 5) (pa_cons (pv 6) pa_nil)))) (pv 8)) pa_nil))))) pa_nil))))))))), ?_⟩
  change AS K _ [En.da _, En.da _, En.da _, En.no, En.no, En.no, En.no, En.no, En.no] _ _
  try simp only [cxOf_K]
  obtain ⟨az, _, sz, ez⟩ := cut_form Z 0
  have hcl := cut_len Z 0
  have lenZ : ((Z.map vT).length : Int) = (Z.length : Int) := by rw [List.length_map]
  rcases reach_sem hx Z.length with ⟨h1, h2⟩ | ⟨p, q, m', r', h1, h2, h3, h4⟩
  · have hw : wrL x v Z = none := by unfold wrL; rw [if_pos h2]
    rw [hw]
    repeat' (first
      | with_reducible apply ae_call
      | (refine ⟨pcT (cutF 0 Z), ⟨_, rfl, as_pc.1, as_pc.2.symm⟩, ?_⟩)
      | (refine ⟨_, ⟨cutF 0 Z, rfl, az, (by rw [ez]; omega), rfl⟩, ?_⟩; rw [sz])
      | (rw [lenZ]; refine ⟨.non, ⟨k1, x.1, x.2.1, x.2.2.1, x.2.2.2, some 0, some ((Z.length : Int) - 1), rfl, h1.symm⟩, ?_⟩)
      | with_reducible apply as_seq
      | with_reducible apply as_ret
      | with_reducible apply as_if
      | with_reducible apply as_set
      | ((with_reducible apply ae_var); · rfl)
      | with_reducible apply ae_int
      | with_reducible apply ae_non
      | with_reducible apply ae_op
      | with_reducible apply aa_nil
      | with_reducible apply aa_cons
      | with_reducible apply ae_cb
      | with_reducible apply at_test
      | with_reducible apply ar_I0i
      | with_reducible apply ar_isN
      | with_reducible apply ac_lenL
      | refine ⟨_, rfl, ?_⟩
      | (refine ⟨fun hc => ?_, fun hc => ?_⟩ <;> (first | (exfalso; exact absurd (show false = true from hc) (by decide)) | (exfalso; exact absurd (show true = false from hc) (by decide)) | (exfalso; simp at hc; done) | skip))
      | rfl
      | fail)
  · obtain ⟨Y, hw, hm⟩ := wr_prog (v := v) h2 h3 h4
    rw [hw]
    have hlen : ((idx 0 Z).map pT).length < sizeLine := by rw [List.length_map, idx_len, sizeLine_eq]; omega
    have d0 : decide (V.int p = V.int q) = decide (p = q) := by
      by_cases z : p = q
      · rw [z]; simp
      · rw [decide_eq_false z, decide_eq_false (fun w => z (V.int.inj w))]
    have hend : pcT (mgd ((idx 0 Z).map fun t => (t.1 + 1, if conB (some p, some q, m', r') t.1 = true then (if decide (p = q) = true then v else jV t.2 v) else t.2))) = wrD (some Y) := by rw [hm]; rfl
    have hl9 : ((idx 0 Z).map fun t => (t.1 + 1, if conB (some p, some q, m', r') t.1 = true then (if decide (p = q) = true then v else jV t.2 v) else t.2)).length ≤ 9000 := by rw [List.length_map, idx_len]; omega
    repeat' (first
      | with_reducible apply ae_call
      | (refine ⟨pcT (cutF 0 Z), ⟨_, rfl, as_pc.1, as_pc.2.symm⟩, ?_⟩)
      | (refine ⟨_, ⟨cutF 0 Z, rfl, az, (by rw [ez]; omega), rfl⟩, ?_⟩; rw [sz])
      | (rw [lenZ]; refine ⟨vT (some p, some q, m', r'), ⟨k1, x.1, x.2.1, x.2.2.1, x.2.2.2, some 0, some ((Z.length : Int) - 1), rfl, h1.symm⟩, ?_⟩)
      | (refine ⟨_, ⟨_, rfl, as_vK.1, as_vK.2.symm⟩, ?_⟩)
      | (rw [d0])
      | (refine ae_lcMap (wi := iEnum K (tCons (tVar 3) tNil)) (liftF pT (fun t : Int × VT => pT (t.1 + 1, if conB (some p, some q, m', r') t.1 = true then (if decide (p = q) = true then v else jV t.2 v) else t.2))) ?_)
      | (refine ai_enum (aa_cons (ae_var rfl (aa_nil ⟨_, rfl, ?_⟩))); rw [idx_enD])
      | (refine ⟨hlen, fun d hd => ?_, ?_⟩)
      | (obtain ⟨t, ht, rfl⟩ := List.mem_map.mp hd; clear hd; obtain ⟨_, _, t3⟩ := idx_mem ht)
      | (refine agv_tup rfl (agvs_cons (agv_name (by decide) (agvs_cons (agv_name (by decide) (agvs_nil ?_))))))
      | (refine ⟨.bl (conB (some p, some q, m', r') t.1), ⟨true, some p, some q, m', r', t.1, rfl, rfl⟩, ?_⟩)
      | (refine ⟨_, ⟨t.2, v, decide (p = q), rfl, hz' _ t3, hv, rfl⟩, ?_⟩)
      | ((refine ⟨?_, rfl⟩); (rw [lift_is (g := fun t : Int × VT => pT (t.1 + 1, if conB (some p, some q, m', r') t.1 = true then (if decide (p = q) = true then v else jV t.2 v) else t.2)) pT_inj t]; show Dt.tup [_, _] = Dt.tup [_, _]; first | rw [if_pos (show conB (some p, some q, m', r') t.1 = true from hc)] | rw [if_neg (fun z => by rw [show conB (some p, some q, m', r') t.1 = false from hc] at z; cases z)]))
      | (rw [lift_map pT_inj]; refine ⟨_, ⟨_, (by rw [List.map_map]; rfl), hl9, rfl⟩, ?_⟩)
      | exact hend
      | with_reducible apply as_seq
      | with_reducible apply as_ret
      | with_reducible apply as_next
      | with_reducible apply as_if
      | with_reducible apply as_set
      | ((with_reducible apply ae_var); · rfl)
      | with_reducible apply ae_int
      | with_reducible apply ae_non
      | with_reducible apply ae_op
      | with_reducible apply aa_nil
      | with_reducible apply aa_cons
      | with_reducible apply ae_cb
      | with_reducible apply ae_tup
      | with_reducible apply ae_if
      | with_reducible apply at_test
      | with_reducible apply at_b
      | with_reducible apply ar_I0i
      | with_reducible apply ar_isN
      | ((with_reducible apply ar_ixTs); · rfl)
      | with_reducible apply ac_lenL
      | ((with_reducible apply ar_eq3); · exact ⟨rfl, rfl, rfl⟩)
      | refine ⟨sz60 (Nat.le_of_ble_eq_true rfl), ?_⟩
      | refine ⟨_, rfl, ?_⟩
      | (refine ⟨fun hc => ?_, fun hc => ?_⟩ <;> (first | (exfalso; exact absurd (show false = true from hc) (by decide)) | (exfalso; exact absurd (show true = false from hc) (by decide)) | (exfalso; simp at hc; done) | skip))
      | fail)
theorem ok_pieces_read (bl : Blts mg) {g_as_tuples : Addr} {d_as_tuples : FuncData} (c_as_tuples : Cal P w K mg base 20 "as_tuples" p_as_tuples (spP K (S_as 4)) g_as_tuples d_as_tuples) {g_value_cut : Addr} {d_value_cut : FuncData} (c_value_cut : Cal P w K mg base 4 "value_cut" p_value_cut (spP K S_cut) g_value_cut d_value_cut) {g_joined : Addr} {d_joined : FuncData} (c_joined : Cal P w K mg base 6 "joined" p_joined (spP K S_jo) g_joined d_joined)  {f : Addr} {fd : FuncData} (F : Fun K "pieces_read" "pieces_read" s_pieces_read f fd) : FnOk P w K mg base CX0 22 f fd p_pieces_read (spP K (S_prd)) := by
  refine okP F sc_pieces_read (fun ds r h => ?_) (fun cdv A outer s H E hr ds r h => ?_)
  · obtain ⟨k, k', k1, P, x, rfl, hn, hp, rfl⟩ := h
    rfl
  obtain ⟨k, k', k1, P, x, rfl, hn, hp, rfl⟩ := h
  refine ⟨_, (pss_cons (ps_set (i := 2) sc_pieces_read.nd rfl (by first | exact Or.inl rfl | exact Or.inr rfl) pe_non)
    (pss_cons (ps_set (i := 3) sc_pieces_read.nd rfl (by first | exact Or.inl rfl | exact Or.inr rfl) pe_int)
    (pss_cons (ps_for PassesOwn.never rfl (pi_tup (pe_call c_as_tuples.ok (hr.mono (by decide)) rfl c_as_tuples.mg c_as_tuples.kp c_as_tuples.bi .nil pass0 (pa_cons (pv 0) pa_nil))) (pg_tup rfl (pgs_cons (pg_name (i := 4) sc_pieces_read.nd rfl (by first | exact Or.inl rfl | exact Or.inr rfl)) (pgs_cons (pg_name (i := 5) sc_pieces_read.nd rfl (by first | exact Or.inl rfl | exact Or.inr rfl)) pgs_nil))) (pss_cons (ps_if (pt_cmpR op_notN (pe_call c_value_cut.ok (hr.mono (by decide)) rfl c_value_cut.mg c_value_cut.kp c_value_cut.bi .nil pass0 (pa_cons (pv 1) (pa_cons (pv 3) (pa_cons (pe_op op_sub (pv 4) pe_int) pa_nil)))) pe_non (nomark _)) (pss_one (ps_set (i := 2) sc_pieces_read.nd rfl (by first | exact Or.inl rfl | exact Or.inr rfl) (pe_call c_joined.ok (hr.mono (by decide)) rfl c_joined.mg c_joined.kp c_joined.bi .nil pass0 (pa_cons (pv 2) (pa_cons (pv 5) pa_nil))))) pss_nil)
    (pss_one (ps_set (i := 3) sc_pieces_read.nd rfl (by first | exact Or.inl rfl | exact Or.inr rfl) (pv 4)))))
    (pss_one (ps_ret (pv 2)))))), ?_⟩
  change AS K _ [En.da _, En.da _, En.no, En.no, En.no, En.no] _ _
  try simp only [cxOf_K]
  repeat' (first
    | with_reducible apply as_seq
    | with_reducible apply as_set
    | with_reducible apply ae_int
    | with_reducible apply ae_non
    | fail)
  refine as_for ?_
  refine ai_tup ?_
  repeat' (first
    | with_reducible apply ae_call
    | (refine ⟨pcT P, ⟨_, rfl, as_pc.1, as_pc.2.symm⟩, ?_⟩)
    | ((with_reducible apply ae_var); · rfl)
    | with_reducible apply aa_nil
    | with_reducible apply aa_cons
    | refine ⟨_, rfl, ?_⟩
    | fail)
  refine ⟨fun i ρ => ∃ (o : Option VT) (s : Int) (e4 e5 : En), o = rdP x 0 (P.take i) none ∧ s = endO (P.take i) 0 ∧ ρ = [.da (pcD k k' P), .da (vK k1 x), .da (oV o), .da (.int s), e4, e5], ⟨none, 0, _, _, rfl, rfl, rfl⟩, ?_, ?_⟩
  rotate_left
  · rintro ρ ⟨o, s, e4, e5, rfl, rfl, rfl⟩
    rw [List.length_map, List.take_length]
    repeat' (first
      | with_reducible apply as_ret
      | ((with_reducible apply ae_var); · rfl)
      | rfl
      | fail)
  rintro i dd ρ hi ⟨o, s, e4, e5, ho, hs, rfl⟩
  rw [List.getElem?_map] at hi
  obtain ⟨⟨y, v⟩, hy, rfl⟩ := Option.map_eq_some_iff.mp hi
  have hv : VOk v := hp _ (List.mem_of_getElem? hy)
  have htk : P.take (i + 1) = P.take i ++ [(y, v)] := by rw [List.take_add_one, hy]; rfl
  have e2 : y = endO (P.take (i + 1)) 0 := by rw [htk, end_snoc]
  have e1 : rdP x 0 (P.take (i + 1)) none = if hitB x s y = true then o else some (jo o v) := by rw [htk, rd_snoc, ← hs, ← ho]
  have hok : ∀ w, o = some w → VOk w := fun w hw => rd_ok (x := x) (P := P.take i) (n := 0) (o := none) (fun p h => hp p (List.mem_of_mem_take h)) (fun w h => by cases h) w (by rw [← ho]; exact hw)
  clear ho hs hi hy
  cases hb : hitB x s y
  · have hd : (!(voD (tightL x.1 (some s)) (tightH x.2.1 (some (y - 1))) x.2.2.1 x.2.2.2).isNon) = true := by
      have : (voD (tightL x.1 (some s)) (tightH x.2.1 (some (y - 1))) x.2.2.1 x.2.2.2).isNon = false := hb
      rw [this]; rfl
    rw [hb, if_neg (fun z => by cases z)] at e1
    cases o with
    | none =>
      repeat' (first
        | (refine ag_tup (ds := [.int y, vT v]) rfl ?_)
        | with_reducible apply ae_call
        | (refine ⟨_, ⟨k1, x.1, x.2.1, x.2.2.1, x.2.2.2, some s, some (y - 1), rfl, rfl⟩, ?_⟩)
        | (refine ⟨_, rfl, ?_⟩; rw [hd]; refine ⟨fun hc => ?_, fun hc => (nomatch hc)⟩)
        | (refine ⟨vT v, ⟨_, v, rfl, hv, .inl ⟨rfl, rfl⟩⟩, ?_⟩)
        | (exact ⟨some v, y, .da (.int y), .da (vT v), e1.symm, e2, rfl⟩)
        | with_reducible apply as_seq
        | with_reducible apply as_if
        | with_reducible apply as_set
        | ((with_reducible apply ae_var); · rfl)
        | with_reducible apply ae_int
        | with_reducible apply ae_non
        | with_reducible apply ae_op
        | with_reducible apply aa_nil
        | with_reducible apply aa_cons
        | with_reducible apply at_test
        | with_reducible apply ar_I0i
        | with_reducible apply ar_notN
        | with_reducible apply ag_name
        | with_reducible apply ags_nil
        | with_reducible apply ags_cons
        | fail)
    | some w =>
      have hw := hok w rfl
      repeat' (first
        | (refine ag_tup (ds := [.int y, vT v]) rfl ?_)
        | with_reducible apply ae_call
        | (refine ⟨_, ⟨k1, x.1, x.2.1, x.2.2.1, x.2.2.2, some s, some (y - 1), rfl, rfl⟩, ?_⟩)
        | (refine ⟨_, rfl, ?_⟩; rw [hd]; refine ⟨fun hc => ?_, fun hc => (nomatch hc)⟩)
        | (refine ⟨vT (jV w v), ⟨_, v, rfl, hv, .inr ⟨w, rfl, hw, rfl⟩⟩, ?_⟩)
        | (exact ⟨some (jV w v), y, .da (.int y), .da (vT v), e1.symm, e2, rfl⟩)
        | with_reducible apply as_seq
        | with_reducible apply as_if
        | with_reducible apply as_set
        | ((with_reducible apply ae_var); · rfl)
        | with_reducible apply ae_int
        | with_reducible apply ae_non
        | with_reducible apply ae_op
        | with_reducible apply aa_nil
        | with_reducible apply aa_cons
        | with_reducible apply at_test
        | with_reducible apply ar_I0i
        | with_reducible apply ar_notN
        | with_reducible apply ag_name
        | with_reducible apply ags_nil
        | with_reducible apply ags_cons
        | fail)
  · have hd : (!(voD (tightL x.1 (some s)) (tightH x.2.1 (some (y - 1))) x.2.2.1 x.2.2.2).isNon) = false := by
      have : (voD (tightL x.1 (some s)) (tightH x.2.1 (some (y - 1))) x.2.2.1 x.2.2.2).isNon = true := hb
      rw [this]; rfl
    rw [hb, if_pos rfl] at e1
    repeat' (first
      | (refine ag_tup (ds := [.int y, vT v]) rfl ?_)
      | with_reducible apply ae_call
      | (refine ⟨_, ⟨k1, x.1, x.2.1, x.2.2.1, x.2.2.2, some s, some (y - 1), rfl, rfl⟩, ?_⟩)
      | (refine ⟨_, rfl, ?_⟩; rw [hd]; refine ⟨fun hc => (nomatch hc), fun hc => ?_⟩)
      | (exact ⟨o, y, .da (.int y), .da (vT v), e1.symm, e2, rfl⟩)
      | with_reducible apply as_seq
      | with_reducible apply as_next
      | with_reducible apply as_if
      | with_reducible apply as_set
      | ((with_reducible apply ae_var); · rfl)
      | with_reducible apply ae_int
      | with_reducible apply ae_non
      | with_reducible apply ae_op
      | with_reducible apply aa_nil
      | with_reducible apply aa_cons
      | with_reducible apply at_test
      | with_reducible apply ar_I0i
      | with_reducible apply ar_notN
      | with_reducible apply ag_name
      | with_reducible apply ags_nil
      | with_reducible apply ags_cons
      | fail)
theorem ok_pieces_meet (bl : Blts mg) {g_aligned : Addr} {d_aligned : FuncData} (c_aligned : Cal P w K mg base 21 "aligned" p_aligned (spP K S_al) g_aligned d_aligned) {g_value_meet : Addr} {d_value_meet : FuncData} (c_value_meet : Cal P w K mg base 5 "value_meet" p_value_meet (spP K S_vm) g_value_meet d_value_meet) {g_merged : Addr} {d_merged : FuncData} (c_merged : Cal P w K mg base 1 "merged" p_merged (spP K S_mg) g_merged d_merged)  {f : Addr} {fd : FuncData} (F : Fun K "pieces_meet" "pieces_meet" s_pieces_meet f fd) : FnOk P w K mg base CX0 22 f fd p_pieces_meet (spP K (S_pm)) := by
  refine okP F sc_pieces_meet (fun ds r h => ?_) (fun cdv A outer s H E hr ds r h => ?_)
  · obtain ⟨k, k', q, q', P, Q, R, rfl, ha, hn, hp, hq, rfl⟩ := h
    rfl
  obtain ⟨k, k', q, q', P, Q, R, rfl, ha, hn, hp, hq, rfl⟩ := h
  refine ⟨_, (pss_cons (ps_setLc (i := 2) (own := [("end", 3), ("a", 4), ("b", 5)]) (g := (gTup K 3 (gCons (gName 3) (gCons (gName 4) (gCons (gName 5) gNil))))) (te := (tTup (tCons (tVar 3) (tCons (tCall (spP K S_vm) [] E0 (tCons (tVar 4) (tCons (tVar 5) tNil))) tNil)))) (tt := tYes) rfl sc_pieces_meet.nd rfl rfl (sw_true rfl rfl rfl (by decide +kernel)) (pi_list (pe_call c_aligned.ok (hr.mono (by decide)) rfl c_aligned.mg c_aligned.kp c_aligned.bi .nil pass0 (pa_cons (pv 0) (pa_cons (pv 1) pa_nil)))) (blkOk_by (N := N_pieces_meet) (sc := defScope s_pieces_meet) (by decide +kernel)) (fun _ _ _ _ _ => (pg_tup rfl (pgs_cons (pg_name (i := 3) sc_pieces_meet.nd rfl (by first | exact Or.inl rfl | exact Or.inr rfl)) (pgs_cons (pg_name (i := 4) sc_pieces_meet.nd rfl (by first | exact Or.inl rfl | exact Or.inr rfl)) (pgs_cons (pg_name (i := 5) sc_pieces_meet.nd rfl (by first | exact Or.inl rfl | exact Or.inr rfl)) pgs_nil))))) (fun _ _ _ _ _ => pts_nil) (fun _ _ _ _ _ => (pe_tup (pa_cons (pv 3) (pa_cons (pe_call c_value_meet.ok (hr.mono (by decide)) rfl c_value_meet.mg c_value_meet.kp c_value_meet.bi .nil pass0 (pa_cons (pv 4) (pa_cons (pv 5) pa_nil))) pa_nil)))))
    (pss_cons (ps_if (pt_val (pe_callB (cr_any rfl) rfl bl.any (by decide +kernel) (pa_cons (pe_lc (own := [("_", 6), ("value", 7)]) (g := (gTup K 2 (gCons (gName 6) (gCons (gName 7) gNil)))) (te := (tOp (fun x y H Q => y = .non ∧ Q (.bl (decide (x = .non))) H) (tVar 7) (tC .non))) (tt := tYes) rfl sc_pieces_meet.nd (pi_list (pv 2)) (blkOk_by (N := N_pieces_meet) (sc := defScope s_pieces_meet) (by decide +kernel)) (fun _ _ _ _ _ => (pg_tup rfl (pgs_cons (pg_name (i := 6) sc_pieces_meet.nd rfl (by first | exact Or.inl rfl | exact Or.inr rfl)) (pgs_cons (pg_name (i := 7) sc_pieces_meet.nd rfl (by first | exact Or.inl rfl | exact Or.inr rfl)) pgs_nil)))) (fun _ _ _ _ _ => pts_nil) (fun _ _ _ _ _ => (pe_cmpR op_isN (pv 7) pe_non (nomark _)))) pa_nil))) (pss_one (ps_ret pe_non)) pss_nil)
    (pss_one (ps_ret (pe_call c_merged.ok (hr.mono (by decide)) rfl c_merged.mg c_merged.kp c_merged.bi .nil pass0 (pa_cons (pv 2) pa_nil)))))), ?_⟩
  change AS K _ [En.da _, En.da _, En.no, En.no, En.no, En.no, En.no, En.no] _ _
  try simp only [cxOf_K]
  have hl := ha.len
  have hok := ha.all hp hq
  have hsz : (R.map trD).length < sizeLine := by rw [List.length_map, sizeLine_eq]; omega
  have hsz2 : (R.map meD).length < sizeLine := by rw [List.length_map, sizeLine_eq]; omega
  have hany : ((R.map fun t => (mO t.2.1 t.2.2).isNone).any id) = (R.any fun t => (mO t.2.1 t.2.2).isNone) := by rw [List.any_map]; rfl
  have hmap : (R.map meD).map isNonF = (R.map fun t => (mO t.2.1 t.2.2).isNone).map Dt.bl := by
    rw [List.map_map, List.map_map]
    refine List.map_congr_left fun t ht => ?_
    show isNonF (.tup [_, oV _]) = _
    rw [isNonF_is, oV_isNon]; rfl
  cases hb : R.any fun t => (mO t.2.1 t.2.2).isNone
  ·
    repeat' (first
      | with_reducible apply ae_call
      | (refine ⟨.lst (R.map trD), ⟨_, _, P, Q, R, rfl, as_pc, as_pc, ha, hn, rfl⟩, ?_⟩)
      | (with_reducible refine ae_lcMap (g := gTup K 3 (gCons (gName 3) (gCons (gName 4) (gCons (gName 5) gNil)))) (liftF trD meD) ?_)
      | with_reducible apply ai_list
      | (refine ⟨_, rfl, hsz, fun d hd => ?_, ?_⟩)
      | (obtain ⟨t, ht, rfl⟩ := List.mem_map.mp hd; clear hd; have kt := hok t ht)
      | (refine agv_tup rfl (agvs_cons (agv_name (by decide) (agvs_cons (agv_name (by decide) (agvs_cons (agv_name (by decide) (agvs_nil ?_))))))))
      | (refine ⟨_, ⟨true, true, _, _, _, _, _, _, _, _, rfl, kt.1.vd, kt.2.vd, rfl⟩, ?_⟩)
      | ((refine ⟨?_, rfl⟩); (rw [lift_is (g := meD) trD_inj t]; show Dt.tup [_, vmV t.2.1 t.2.2] = _; rw [(mO_is kt.1.ok kt.2.ok).1]; rfl))
      | (rw [lift_map trD_inj])
      | (with_reducible refine ae_lcMap (te := tOp (fun x y H Q => y = .non ∧ Q (.bl (decide (x = .non))) H) (tVar 7) (tC .non)) isNonF ?_)
      | (refine ⟨_, rfl, hsz2, fun d hd => ?_, ?_⟩)
      | (refine agv_tup rfl (agvs_cons (agv_name (by decide) (agvs_cons (agv_name (by decide) (agvs_nil ?_))))))
      | ((refine ⟨?_, rfl⟩); exact isNonF_is.symm)
      | (rw [hmap]; refine ac_any ?_; rw [hany, hb])
      | (rw [me_none hb]; refine ⟨_, ⟨_, rfl, (by rw [List.length_map]; omega), rfl⟩, ?_⟩)
      | with_reducible apply as_seq
      | with_reducible apply as_ret
      | with_reducible apply as_next
      | with_reducible apply as_if
      | with_reducible apply as_set
      | ((with_reducible apply ae_var); · rfl)
      | with_reducible apply ae_non
      | with_reducible apply ae_op
      | with_reducible apply aa_nil
      | with_reducible apply aa_cons
      | with_reducible apply ae_cb
      | with_reducible apply ae_tup
      | with_reducible apply at_b
      | with_reducible apply ar_isN
      | refine ⟨sz60 (Nat.le_of_ble_eq_true rfl), ?_⟩
      | refine ⟨_, rfl, ?_⟩
      | (refine ⟨fun hc => ?_, fun hc => ?_⟩ <;> (first | (exfalso; exact absurd (show false = true from hc) (by decide)) | (exfalso; exact absurd (show true = false from hc) (by decide)) | (exfalso; simp at hc; done) | skip))
      | rfl
      | fail)
  ·
    repeat' (first
      | with_reducible apply ae_call
      | (refine ⟨.lst (R.map trD), ⟨_, _, P, Q, R, rfl, as_pc, as_pc, ha, hn, rfl⟩, ?_⟩)
      | (with_reducible refine ae_lcMap (g := gTup K 3 (gCons (gName 3) (gCons (gName 4) (gCons (gName 5) gNil)))) (liftF trD meD) ?_)
      | with_reducible apply ai_list
      | (refine ⟨_, rfl, hsz, fun d hd => ?_, ?_⟩)
      | (obtain ⟨t, ht, rfl⟩ := List.mem_map.mp hd; clear hd; have kt := hok t ht)
      | (refine agv_tup rfl (agvs_cons (agv_name (by decide) (agvs_cons (agv_name (by decide) (agvs_cons (agv_name (by decide) (agvs_nil ?_))))))))
      | (refine ⟨_, ⟨true, true, _, _, _, _, _, _, _, _, rfl, kt.1.vd, kt.2.vd, rfl⟩, ?_⟩)
      | ((refine ⟨?_, rfl⟩); (rw [lift_is (g := meD) trD_inj t]; show Dt.tup [_, vmV t.2.1 t.2.2] = _; rw [(mO_is kt.1.ok kt.2.ok).1]; rfl))
      | (rw [lift_map trD_inj])
      | (with_reducible refine ae_lcMap (te := tOp (fun x y H Q => y = .non ∧ Q (.bl (decide (x = .non))) H) (tVar 7) (tC .non)) isNonF ?_)
      | (refine ⟨_, rfl, hsz2, fun d hd => ?_, ?_⟩)
      | (refine agv_tup rfl (agvs_cons (agv_name (by decide) (agvs_cons (agv_name (by decide) (agvs_nil ?_))))))
      | ((refine ⟨?_, rfl⟩); exact isNonF_is.symm)
      | (rw [hmap]; refine ac_any ?_; rw [hany, hb])
      | with_reducible apply as_seq
      | with_reducible apply as_ret
      | with_reducible apply as_if
      | with_reducible apply as_set
      | ((with_reducible apply ae_var); · rfl)
      | with_reducible apply ae_non
      | with_reducible apply ae_op
      | with_reducible apply aa_nil
      | with_reducible apply aa_cons
      | with_reducible apply ae_cb
      | with_reducible apply ae_tup
      | with_reducible apply at_b
      | with_reducible apply ar_isN
      | refine ⟨sz60 (Nat.le_of_ble_eq_true rfl), ?_⟩
      | refine ⟨_, rfl, ?_⟩
      | (refine ⟨fun hc => ?_, fun hc => ?_⟩ <;> (first | (exfalso; exact absurd (show false = true from hc) (by decide)) | (exfalso; exact absurd (show true = false from hc) (by decide)) | (exfalso; simp at hc; done) | skip))
      | rfl
      | fail)
end
end Sh
set_option Elab.async false
set_option linter.all false
set_option maxRecDepth 100000
set_option maxHeartbeats 4000000
namespace Sh
open PySem PySem.Spec PyProof.Rows L2
section
variable {P : Program} {w : World} {K : PySem.W.Frag} {mg : Str → Option Value} {base : Heap}
mutual
def Dt.dep : Dt → Nat
  | .tup l => deps l + 1 | .lst l => deps l + 1 | _ => 1
def deps : List Dt → Nat
  | [] => 0
  | d :: l => max d.dep (deps l)
end
mutual
/-- no classes, short -/
def Dt.fit : Dt → Bool
  | .ty _ => false
  | .tup l => decide (l.length ≤ 9000) && fits l
  | .lst l => decide (l.length ≤ 9000) && fits l
  | _ => true
def fits : List Dt → Bool
  | [] => true
  | d :: l => d.fit && fits l
end
theorem deps_mem : ∀ {l : List Dt} {d : Dt}, d ∈ l → d.dep ≤ deps l
  | e :: l, d, h => by
    unfold deps
    rcases List.mem_cons.mp h with rfl | h
    · omega
    · have := deps_mem h; omega
theorem fits_mem : ∀ {l : List Dt} {d : Dt}, fits l = true → d ∈ l → d.fit = true
  | e :: l, d, f, h => by
    unfold fits at f
    rw [Bool.and_eq_true] at f
    rcases List.mem_cons.mp h with rfl | h
    · exact f.1
    · exact fits_mem f.2 h
def S_same (n : Nat) (ds : List Dt) (r : Dt) : Prop := ∃ d, ds = [d, d] ∧ d.dep ≤ n ∧ d.fit = true ∧ r = .bl true
theorem zp_self : ∀ {l : List Dt} {d : Dt}, d ∈ zpD l l → ∃ e, e ∈ l ∧ d = .tup [e, e]
  | [], d, h => by simp [zpD] at h
  | a :: l, d, h => by
    rcases List.mem_cons.mp (show d ∈ Dt.tup [a, a] :: zpD l l from h) with rfl | h
    · exact ⟨a, List.mem_cons_self, rfl⟩
    · obtain ⟨e, h1, h2⟩ := zp_self h
      exact ⟨e, List.mem_cons_of_mem _ h1, h2⟩
theorem none0 {ps : List Str} {f : Addr} {fd : FuncData} {sp : Sp} (no : ∀ vs H Q E, ¬ sp vs H Q E) : FnOk P w K mg base CX0 0 f fd ps sp :=
  ⟨fun vs H Q E h => absurd h (no vs H Q E), fun A outer s H args us vs Q E _ _ _ _ h => absurd h (no vs H Q E)⟩
theorem dep_pos (d : Dt) : 1 ≤ d.dep := by cases d <;> simp [Dt.dep]
theorem map_true {l : List Dt} : (l.map fun _ => Dt.bl true) = (List.replicate l.length true).map Dt.bl := by rw [List.map_const', List.map_replicate]
theorem all_true (n : Nat) : (List.replicate n true).all id = true := by simp
abbrev s_l_same : Stmt := topS 47
abbrev N_l_same : List Str := ["_law_found", "_law_due", "_law_mine", "_law_its"]
abbrev p_l_same : List Str := ["_law_found", "_law_due"]
theorem sc_l_same : FnScope N_l_same p_l_same (defScope s_l_same) := ⟨rfl, rfl, rfl, by decide +kernel, rfl, by decide +kernel, by decide +kernel⟩
theorem ok_l_same (bl : Blts mg) {n : Nat} {g_l_same : Addr} {d_l_same : FuncData} (c_l_same : Cal P w K mg base n "_law_same" p_l_same (spP K (S_same n)) g_l_same d_l_same) {f : Addr} {fd : FuncData} (F : Fun K "_law_same" "_law_same" s_l_same f fd) : FnOk P w K mg base CX0 (n + 1) f fd p_l_same (spP K (S_same (n + 1))) := by
  refine okP F sc_l_same (fun ds r h => ?_) (fun cdv A outer s H E hr ds r h => ?_)
  · obtain ⟨d, rfl, n1, f1, rfl⟩ := h
    rfl
  obtain ⟨d, rfl, n1, f1, rfl⟩ := h
  refine ⟨_, (pss_cons (ps_if (pt_val (pe_callB call_isiT rfl bl.isinstance (by decide +kernel) (pa_cons (pv 1) (pa_cons (pe_tup (pa_cons (pe_bltn (v := .ty "list") rfl bl.list (by decide +kernel) rfl) (pa_cons (pe_bltn (v := .ty "tuple") rfl bl.tuple (by decide +kernel) rfl) pa_nil))) pa_nil)))) (pss_cons (ps_if (PW.pt (pw_or (pt_cmpR op_ne (pe_callB call_isi rfl bl.isinstance (by decide +kernel) (pa_cons (pv 0) (pa_cons (pe_bltn (v := .ty "list") rfl bl.list (by decide +kernel) rfl) pa_nil))) (pe_callB call_isi rfl bl.isinstance (by decide +kernel) (pa_cons (pv 1) (pa_cons (pe_bltn (v := .ty "list") rfl bl.list (by decide +kernel) rfl) pa_nil))) (nomark _)) (pw_or1 (pt_cmpR op_ne (pe_callB call_isi rfl bl.isinstance (by decide +kernel) (pa_cons (pv 0) (pa_cons (pe_bltn (v := .ty "tuple") rfl bl.tuple (by decide +kernel) rfl) pa_nil))) (pe_callB call_isi rfl bl.isinstance (by decide +kernel) (pa_cons (pv 1) (pa_cons (pe_bltn (v := .ty "tuple") rfl bl.tuple (by decide +kernel) rfl) pa_nil))) (nomark _))))) (pss_one (ps_ret pe_bl)) pss_nil)
    (pss_one (ps_ret (pe_and (pe_cmpR op_eq (pe_callB call_len_seq rfl bl.len (by decide +kernel) (pa_cons (pv 0) pa_nil)) (pe_callB call_len_seq rfl bl.len (by decide +kernel) (pa_cons (pv 1) pa_nil)) (nomark _)) (pe_one (pe_callB (cr_all rfl) rfl bl.all (by decide +kernel) (pa_cons (pe_lc (own := [("_law_mine", 2), ("_law_its", 3)]) (g := (gTup K 2 (gCons (gName 2) (gCons (gName 3) gNil)))) (tt := tYes) rfl sc_l_same.nd (RZ.pi_zipA rfl bl.zip (pa_cons (pv 0) (pa_cons (pv 1) pa_nil))) (blkOk_by (N := N_l_same) (sc := defScope s_l_same) (by decide +kernel)) (fun _ _ _ _ _ => (pg_tup rfl (pgs_cons (pg_name (i := 2) sc_l_same.nd rfl (by first | exact Or.inl rfl | exact Or.inr rfl)) (pgs_cons (pg_name (i := 3) sc_l_same.nd rfl (by first | exact Or.inl rfl | exact Or.inr rfl)) pgs_nil)))) (fun _ _ _ _ _ => pts_nil) (fun _ _ _ _ _ => (pe_call c_l_same.ok hr rfl c_l_same.mg c_l_same.kp c_l_same.bi .nil pass0 (pa_cons (pv 2) (pa_cons (pv 3) pa_nil))))) pa_nil))))))) pss_nil)
    (pss_cons (ps_if (PW.pt (pw_or (pt_cmpR op_isN (pv 1) pe_non (nomark _)) (pw_or1 (pt_val (pe_callB call_isiT rfl bl.isinstance (by decide +kernel) (pa_cons (pv 1) (pa_cons (pe_tup (pa_cons (pe_bltn (v := .ty "bool") rfl bl.bool (by decide +kernel) rfl) (pa_cons (pe_bltn (v := .ty "str") rfl bl.str (by decide +kernel) rfl) pa_nil))) pa_nil))))))) (pss_one (ps_ret (pe_and (pe_cmpR op_eq (pv 0) (pv 1) (nomark _)) (pe_and (pe_cmpR op_eq (pe_callB call_isi rfl bl.isinstance (by decide +kernel) (pa_cons (pv 0) (pa_cons (pe_bltn (v := .ty "bool") rfl bl.bool (by decide +kernel) rfl) pa_nil))) (pe_callB call_isi rfl bl.isinstance (by decide +kernel) (pa_cons (pv 1) (pa_cons (pe_bltn (v := .ty "bool") rfl bl.bool (by decide +kernel) rfl) pa_nil))) (nomark _)) (pe_one (pe_cmpR op_eq (pe_cmpR op_isN (pv 0) pe_non (nomark _)) (pe_cmpR op_isN (pv 1) pe_non (nomark _)) (nomark _))))))) pss_nil)
    (pss_one (ps_ret (pe_and (pe_callB call_isi rfl bl.isinstance (by decide +kernel) (pa_cons (pv 0) (pa_cons (pe_bltn (v := .ty "int") rfl bl.int (by decide +kernel) rfl) pa_nil))) (pe_and (pe_not (pe_callB call_isi rfl bl.isinstance (by decide +kernel) (pa_cons (pv 0) (pa_cons (pe_bltn (v := .ty "bool") rfl bl.bool (by decide +kernel) rfl) pa_nil)))) (pe_one (pe_cmpR op_eq (pv 0) (pv 1) (nomark _))))))))), ?_⟩
  change AS K _ [En.da _, En.da _, En.no, En.no] _ _
  try simp only [cxOf_K]
  cases d with
  | non =>
    repeat' (first
      | ((with_reducible apply ac_isi1); · first | exact ⟨rfl, kb_NoneType_list⟩ | exact ⟨rfl, kb_NoneType_tuple⟩ | exact ⟨rfl, kb_NoneType_bool⟩ | exact ⟨rfl, kb_NoneType_int⟩ | exact ⟨rfl, kb_NoneType_str⟩)
      | (first | refine ⟨rfl, false, .inr ⟨kb_NoneType_list, kb_NoneType_tuple⟩, ?_⟩ | refine ⟨rfl, false, .inr ⟨kb_NoneType_bool, kb_NoneType_str⟩, ?_⟩)
      | with_reducible apply as_seq
      | with_reducible apply as_ret
      | with_reducible apply as_next
      | with_reducible apply as_if
      | ((with_reducible apply ae_var); · rfl)
      | with_reducible apply ae_non
      | with_reducible apply ae_ty
      | with_reducible apply ae_isi2
      | with_reducible apply ae_op
      | with_reducible apply aa_nil
      | with_reducible apply aa_cons
      | with_reducible apply ae_cb
      | with_reducible apply at_test
      | with_reducible apply at_b
      | with_reducible apply at_or
      | with_reducible apply ae_andV
      | with_reducible apply ar_isN
      | ((with_reducible apply ar_eq3); · exact ⟨rfl, rfl, rfl⟩)
      | refine ⟨_, rfl, ?_⟩
      | (refine ⟨fun hc => ?_, fun hc => ?_⟩ <;> (first | (exfalso; exact absurd (show false = true from hc) (by decide)) | (exfalso; exact absurd (show true = false from hc) (by decide)) | (exfalso; simp at hc; done) | skip))
      | rfl
      | fail)
  | bl b =>
    repeat' (first
      | ((with_reducible apply ac_isi1); · first | exact ⟨rfl, kb_bool_list⟩ | exact ⟨rfl, kb_bool_tuple⟩ | exact ⟨rfl, kb_bool_bool⟩ | exact ⟨rfl, kb_bool_int⟩ | exact ⟨rfl, kb_bool_str⟩)
      | (first | refine ⟨rfl, false, .inr ⟨kb_bool_list, kb_bool_tuple⟩, ?_⟩ | refine ⟨rfl, true, .inl ⟨kb_bool_bool, rfl⟩, ?_⟩)
      | with_reducible apply as_seq
      | with_reducible apply as_ret
      | with_reducible apply as_next
      | with_reducible apply as_if
      | ((with_reducible apply ae_var); · rfl)
      | with_reducible apply ae_non
      | with_reducible apply ae_ty
      | with_reducible apply ae_isi2
      | with_reducible apply ae_op
      | with_reducible apply aa_nil
      | with_reducible apply aa_cons
      | with_reducible apply ae_cb
      | with_reducible apply at_test
      | with_reducible apply at_b
      | with_reducible apply at_or
      | with_reducible apply ae_andV
      | with_reducible apply ar_isN
      | ((with_reducible apply ar_eq3); · exact ⟨rfl, rfl, rfl⟩)
      | refine ⟨_, rfl, ?_⟩
      | (refine ⟨fun hc => ?_, fun hc => ?_⟩ <;> (first | (exfalso; exact absurd (show false = true from hc) (by decide)) | (exfalso; exact absurd (show true = false from hc) (by decide)) | (exfalso; simp at hc; done) | skip))
      | rfl
      | fail)
  | int i =>
    repeat' (first
      | ((with_reducible apply ac_isi1); · first | exact ⟨rfl, kb_int_list⟩ | exact ⟨rfl, kb_int_tuple⟩ | exact ⟨rfl, kb_int_bool⟩ | exact ⟨rfl, kb_int_int⟩ | exact ⟨rfl, kb_int_str⟩)
      | (first | refine ⟨rfl, false, .inr ⟨kb_int_list, kb_int_tuple⟩, ?_⟩ | refine ⟨rfl, false, .inr ⟨kb_int_bool, kb_int_str⟩, ?_⟩)
      | with_reducible apply as_seq
      | with_reducible apply as_ret
      | with_reducible apply as_next
      | with_reducible apply as_if
      | ((with_reducible apply ae_var); · rfl)
      | with_reducible apply ae_non
      | with_reducible apply ae_ty
      | with_reducible apply ae_isi2
      | with_reducible apply ae_op
      | with_reducible apply aa_nil
      | with_reducible apply aa_cons
      | with_reducible apply ae_cb
      | with_reducible apply at_test
      | with_reducible apply at_b
      | with_reducible apply at_or
      | with_reducible apply ae_andV
      | with_reducible apply ae_notV
      | with_reducible apply ar_isN
      | ((with_reducible apply ar_eq3); · exact ⟨rfl, rfl, rfl⟩)
      | refine ⟨_, rfl, ?_⟩
      | (refine ⟨fun hc => ?_, fun hc => ?_⟩ <;> (first | (exfalso; exact absurd (show false = true from hc) (by decide)) | (exfalso; exact absurd (show true = false from hc) (by decide)) | (exfalso; simp at hc; done) | skip))
      | rfl
      | simp only [oD_some, oD_none]
      | fail)
  | str z =>
    repeat' (first
      | ((with_reducible apply ac_isi1); · first | exact ⟨rfl, kb_str_list⟩ | exact ⟨rfl, kb_str_tuple⟩ | exact ⟨rfl, kb_str_bool⟩ | exact ⟨rfl, kb_str_int⟩ | exact ⟨rfl, kb_str_str⟩)
      | (first | refine ⟨rfl, false, .inr ⟨kb_str_list, kb_str_tuple⟩, ?_⟩ | refine ⟨rfl, true, .inr ⟨kb_str_bool, kb_str_str⟩, ?_⟩)
      | with_reducible apply as_seq
      | with_reducible apply as_ret
      | with_reducible apply as_next
      | with_reducible apply as_if
      | ((with_reducible apply ae_var); · rfl)
      | with_reducible apply ae_non
      | with_reducible apply ae_ty
      | with_reducible apply ae_isi2
      | with_reducible apply ae_op
      | with_reducible apply aa_nil
      | with_reducible apply aa_cons
      | with_reducible apply ae_cb
      | with_reducible apply at_test
      | with_reducible apply at_b
      | with_reducible apply at_or
      | with_reducible apply ae_andV
      | with_reducible apply ar_isN
      | ((with_reducible apply ar_eq3); · exact ⟨rfl, rfl, rfl⟩)
      | refine ⟨_, rfl, ?_⟩
      | (refine ⟨fun hc => ?_, fun hc => ?_⟩ <;> (first | (exfalso; exact absurd (show false = true from hc) (by decide)) | (exfalso; exact absurd (show true = false from hc) (by decide)) | (exfalso; simp at hc; done) | skip))
      | rfl
      | fail)
  | ty T => exact absurd f1 (fun z => nomatch z)
  | tup l =>
    have hl : l.length ≤ 9000 := by
      have f2 : (decide (l.length ≤ 9000) && fits l) = true := f1
      rw [Bool.and_eq_true] at f2; exact of_decide_eq_true f2.1
    have hf : fits l = true := by
      have f2 : (decide (l.length ≤ 9000) && fits l) = true := f1
      rw [Bool.and_eq_true] at f2; exact f2.2
    have hd : deps l ≤ n := Nat.le_of_succ_le_succ (show deps l + 1 ≤ n + 1 from n1)
    repeat' (first
      | ((with_reducible apply ac_isi1); · first | exact ⟨rfl, kb_tuple_list⟩ | exact ⟨rfl, kb_tuple_tuple⟩ | exact ⟨rfl, kb_tuple_bool⟩ | exact ⟨rfl, kb_tuple_int⟩ | exact ⟨rfl, kb_tuple_str⟩)
      | (first | refine ⟨rfl, true, .inr ⟨kb_tuple_list, kb_tuple_tuple⟩, ?_⟩ | refine ⟨rfl, false, .inr ⟨kb_tuple_bool, kb_tuple_str⟩, ?_⟩)
      | with_reducible apply as_seq
      | with_reducible apply as_ret
      | with_reducible apply as_next
      | with_reducible apply as_if
      | ((with_reducible apply ae_var); · rfl)
      | with_reducible apply ae_ty
      | with_reducible apply ae_isi2
      | with_reducible apply ae_op
      | with_reducible apply aa_nil
      | with_reducible apply aa_cons
      | with_reducible apply ae_cb
      | with_reducible apply at_test
      | with_reducible apply at_b
      | with_reducible apply at_or
      | with_reducible apply ae_andV
      | with_reducible apply ac_lenT
      | ((with_reducible apply ar_eq3); · exact ⟨rfl, rfl, rfl⟩)
      | ((with_reducible apply ar_ne3); · exact ⟨rfl, rfl, rfl⟩)
      | refine ⟨_, rfl, ?_⟩
      | (refine ⟨fun hc => ?_, fun hc => ?_⟩ <;> (first | (exfalso; exact absurd (show false = true from hc) (by decide)) | (exfalso; exact absurd (show true = false from hc) (by decide)) | (exfalso; simp at hc; done) | skip))
      | fail)
    refine ae_lcMap (fun _ => .bl true) ?_
    refine ai_zipT ?_
    repeat' (first | (with_reducible apply aa_cons) | ((with_reducible apply ae_var); · rfl) | (with_reducible apply aa_nil))
    refine ⟨l, l, rfl, ?_, fun d hm => ?_, ?_⟩
    · rw [zpD_len, Nat.min_self]; exact Nat.lt_of_le_of_lt hl (by decide)
    · obtain ⟨e, he, rfl⟩ := zp_self hm
      refine agv_tup rfl (agvs_cons (agv_name (by decide) (agvs_cons (agv_name (by decide) (agvs_nil ?_)))))
      refine ae_call ?_
      repeat' (first | (with_reducible apply aa_cons) | ((with_reducible apply ae_var); · rfl) | (with_reducible apply aa_nil))
      exact ⟨.bl true, ⟨e, rfl, Nat.le_trans (deps_mem he) hd, fits_mem hf he, rfl⟩, rfl, rfl⟩
    · refine aa_nil ?_
      rw [map_true]
      refine ac_all ?_
      rw [all_true]
  | lst l =>
    have hl : l.length ≤ 9000 := by
      have f2 : (decide (l.length ≤ 9000) && fits l) = true := f1
      rw [Bool.and_eq_true] at f2; exact of_decide_eq_true f2.1
    have hf : fits l = true := by
      have f2 : (decide (l.length ≤ 9000) && fits l) = true := f1
      rw [Bool.and_eq_true] at f2; exact f2.2
    have hd : deps l ≤ n := Nat.le_of_succ_le_succ (show deps l + 1 ≤ n + 1 from n1)
    repeat' (first
      | ((with_reducible apply ac_isi1); · first | exact ⟨rfl, kb_list_list⟩ | exact ⟨rfl, kb_list_tuple⟩ | exact ⟨rfl, kb_list_bool⟩ | exact ⟨rfl, kb_list_int⟩ | exact ⟨rfl, kb_list_str⟩)
      | (first | refine ⟨rfl, true, .inl ⟨kb_list_list, rfl⟩, ?_⟩ | refine ⟨rfl, false, .inr ⟨kb_list_bool, kb_list_str⟩, ?_⟩)
      | with_reducible apply as_seq
      | with_reducible apply as_ret
      | with_reducible apply as_next
      | with_reducible apply as_if
      | ((with_reducible apply ae_var); · rfl)
      | with_reducible apply ae_ty
      | with_reducible apply ae_isi2
      | with_reducible apply ae_op
      | with_reducible apply aa_nil
      | with_reducible apply aa_cons
      | with_reducible apply ae_cb
      | with_reducible apply at_test
      | with_reducible apply at_b
      | with_reducible apply at_or
      | with_reducible apply ae_andV
      | with_reducible apply ac_lenL
      | ((with_reducible apply ar_eq3); · exact ⟨rfl, rfl, rfl⟩)
      | ((with_reducible apply ar_ne3); · exact ⟨rfl, rfl, rfl⟩)
      | refine ⟨_, rfl, ?_⟩
      | (refine ⟨fun hc => ?_, fun hc => ?_⟩ <;> (first | (exfalso; exact absurd (show false = true from hc) (by decide)) | (exfalso; exact absurd (show true = false from hc) (by decide)) | (exfalso; simp at hc; done) | skip))
      | fail)
    refine ae_lcMap (fun _ => .bl true) ?_
    refine ai_zipL ?_
    repeat' (first | (with_reducible apply aa_cons) | ((with_reducible apply ae_var); · rfl) | (with_reducible apply aa_nil))
    refine ⟨l, l, rfl, ?_, fun d hm => ?_, ?_⟩
    · rw [zpD_len, Nat.min_self]; exact Nat.lt_of_le_of_lt hl (by decide)
    · obtain ⟨e, he, rfl⟩ := zp_self hm
      refine agv_tup rfl (agvs_cons (agv_name (by decide) (agvs_cons (agv_name (by decide) (agvs_nil ?_)))))
      refine ae_call ?_
      repeat' (first | (with_reducible apply aa_cons) | ((with_reducible apply ae_var); · rfl) | (with_reducible apply aa_nil))
      exact ⟨.bl true, ⟨e, rfl, Nat.le_trans (deps_mem he) hd, fits_mem hf he, rfl⟩, rfl, rfl⟩
    · refine aa_nil ?_
      rw [map_true]
      refine ac_all ?_
      rw [all_true]
theorem all_same (bl : Blts mg) {f : Addr} {fd : FuncData} (F : Fun K "_law_same" "_law_same" s_l_same f fd) (bG : Binds K fd p_l_same []) (mG : mg "_law_same" = some (.ref f)) : ∀ n : Nat, FnOk P w K mg base CX0 n f fd p_l_same (spP K (S_same n))
  | 0 => none0 fun vs H Q E h => by
    obtain ⟨G, ds, r, _, _, ⟨d, _, h1, _⟩, _⟩ := h
    have := dep_pos d
    omega
  | n + 1 => ok_l_same bl ⟨all_same bl F bG mG n, bG, F.kp, mG⟩ F
end
end Sh
set_option Elab.async false
set_option linter.all false
set_option maxRecDepth 100000
set_option maxHeartbeats 4000000
namespace Sh
open PySem PySem.Spec PyProof.Rows L2
theorem vs_intsP : ∀ {ns : List Int}, vs? (ns.map Dt.int) = some (ns.map V.int)
  | [] => rfl
  | n :: ns => by
    show (match (Dt.int n).v?, vs? (ns.map Dt.int) with | some a, some b => some (a :: b) | _, _ => none) = _
    rw [vs_intsP]; rfl
theorem inV_intsP {x : Int} : ∀ {ns : List Int}, inV (.int x) (ns.map V.int) = decide (x ∈ ns)
  | [] => by simp [inV]
  | n :: ns => by
    have := @inV_intsP x ns
    unfold inV at this ⊢
    rw [List.map_cons, List.any_cons, this]
    show (n == x || decide (x ∈ ns)) = decide (x ∈ n :: ns)
    by_cases h : x = n
    · subst h; simp
    · have : (n == x) = false := by simp [Ne.symm h]
      rw [this]; simp [h]
theorem flat_intsP {ns : List Int} : (ns.map V.int).all flatV = true := by
  rw [List.all_map]; simp [flatV]
theorem ar_inIP {K : PySem.W.Frag} {Φ : Dt → Prop} {x : Int} {ns : List Int} (h : Φ (.bl (decide (x ∈ ns)))) : AR K (rIn K false) (.int x) (.lst (ns.map Dt.int)) Φ := by
  refine ar_inL (d := .int x) (x := .int x) rfl vs_intsP rfl flat_intsP ?_
  rw [inV_intsP]; exact h
end Sh
set_option Elab.async false
set_option linter.all false
set_option maxRecDepth 100000
set_option maxHeartbeats 4000000
namespace Sh
open PySem PySem.Spec PyProof.Rows L2
abbrev s_l_value : Stmt := topS 48
abbrev N_l_value : List Str := ["_law_box_here", "_law_upper", "_law_base", "_law_size"]
abbrev p_l_value : List Str := ["_law_box_here"]
theorem sc_l_value : FnScope N_l_value p_l_value (defScope s_l_value) := ⟨rfl, rfl, rfl, by decide +kernel, rfl, by decide +kernel, by decide +kernel⟩
abbrev s_l_index : Stmt := topS 49
abbrev N_l_index : List Str := ["_law_box_here", "_law_count", "_law_far", "_law_sides", "_law_base", "_law_size"]
abbrev p_l_index : List Str := ["_law_box_here", "_law_count"]
theorem sc_l_index : FnScope N_l_index p_l_index (defScope s_l_index) := ⟨rfl, rfl, rfl, by decide +kernel, rfl, by decide +kernel, by decide +kernel⟩
abbrev s_l_cut : Stmt := topS 50
abbrev N_l_cut : List Str := ["_law_items", "_law_found", "_law_spot", "_law_value_so"]
abbrev p_l_cut : List Str := ["_law_items"]
theorem sc_l_cut : FnScope N_l_cut p_l_cut (defScope s_l_cut) := ⟨rfl, rfl, rfl, by decide +kernel, rfl, by decide +kernel, by decide +kernel⟩
abbrev s_l_written : Stmt := topS 51
abbrev N_l_written : List Str := ["_law_items", "_law_index_so", "_law_value_so", "_law_spots", "_law_spot", "_law_own"]
abbrev p_l_written : List Str := ["_law_items", "_law_index_so", "_law_value_so"]
theorem sc_l_written : FnScope N_l_written p_l_written (defScope s_l_written) := ⟨rfl, rfl, rfl, by decide +kernel, rfl, by decide +kernel, by decide +kernel⟩
abbrev s_l_seen : Stmt := topS 52
abbrev N_l_seen : List Str := ["_law_items", "_law_index_so", "_law_found", "_law_own", "_law_spot"]
abbrev p_l_seen : List Str := ["_law_items", "_law_index_so"]
theorem sc_l_seen : FnScope N_l_seen p_l_seen (defScope s_l_seen) := ⟨rfl, rfl, rfl, by decide +kernel, rfl, by decide +kernel, by decide +kernel⟩
def domV (ds : List Dt) : Prop := ds = []
def postV (ds : List Dt) (d : Dt) : Prop := ∃ v, d = vT v ∧ VS v
def domX (ds : List Dt) : Prop := ∃ n : Nat, ds = [.int (n : Int)] ∧ 1 ≤ n ∧ n ≤ 12
def postX (ds : List Dt) (d : Dt) : Prop := ∃ v, d = vT v ∧ VOk v
theorem vs_ex {Ψ : Dt → Prop} {x m : Int} {lo hi : Option Int} (m1 : 1 ≤ m) (m4 : m ≤ 4) (x0 : -20 ≤ x) (x1 : x ≤ 20) (hl : lo = none ∨ lo = some x) (hh : hi = none ∨ ∃ k, 0 ≤ k ∧ k ≤ 4 ∧ hi = some (x + m * k)) (h : ∀ v, VS v → Ψ (vT v)) :
    ∃ r, S_vo [oD lo, oD hi, .int m, .int (x.fmod m)] r ∧ Ψ r := by
  have b := fm_r (x := x) (m := m) (by omega)
  have h0 : ¬ m = 0 := by omega
  refine ⟨_, ⟨lo, hi, m, x.fmod m, rfl, rfl⟩, ?_⟩
  have hv : ∃ v, VS v ∧ voD lo hi m (x.fmod m) = vT v := by
    unfold voD
    rw [if_neg h0]
    rcases hl with rfl | rfl
    · rcases hh with rfl | ⟨k, k0, k4, rfl⟩
      · exact ⟨(none, none, m, x.fmod m), ⟨⟨.inr ⟨m1, b.1, b.2, (fun y e => by cases e), (fun y e => by cases e), (fun y w e => by cases e)⟩⟩, (fun z => absurd z h0), (by show m ≤ 200; omega)⟩, rfl⟩
      · have e2 : (x + m * k).fmod m = x.fmod m := by rw [fe m1, fe m1, Int.add_mul_emod_self_left]
        refine ⟨(none, some (x + m * k), m, x.fmod m), ⟨⟨.inr ⟨m1, b.1, b.2, (fun y e => by cases e), (fun y e => by cases e; exact e2), (fun y w e => by cases e)⟩⟩, (fun z => absurd z h0), (by show m ≤ 200; omega)⟩, ?_⟩
        show vD none (some (dnR _ m (x + m * k))) m _ = _
        rw [dn_same m1 e2]
    · rcases hh with rfl | ⟨k, k0, k4, rfl⟩
      · refine ⟨(some x, none, m, x.fmod m), ⟨⟨.inr ⟨m1, b.1, b.2, (fun y e => by cases e; rfl), (fun y e => by cases e), (fun y w e f => by cases f)⟩⟩, (fun z => absurd z h0), (by show m ≤ 200; omega)⟩, ?_⟩
        show vD (some (upR _ m x)) none m _ = _
        rw [up_same m1 rfl]
      · have e2 : (x + m * k).fmod m = x.fmod m := by rw [fe m1, fe m1, Int.add_mul_emod_self_left]
        show ∃ v, VS v ∧ (if dnR _ m (x + m * k) ≤ upR _ m x then (if upR _ m x = dnR _ m (x + m * k) then vD (some _) (some _) 0 _ else .non) else vD (some _) (some _) m _) = vT v
        rw [up_same m1 rfl, dn_same m1 e2]
        have hmk : 0 ≤ m * k := Int.mul_nonneg (by omega) k0
        by_cases z : x + m * k ≤ x
        · rw [if_pos z, if_pos (by omega)]
          exact ⟨(some x, some x, 0, x), ⟨⟨.inl ⟨rfl, rfl, rfl⟩⟩, (fun _ => ⟨by show -100 ≤ x; omega, by show x ≤ 100; omega⟩), (by show (0 : Int) ≤ 200; omega)⟩, rfl⟩
        · rw [if_neg z]
          exact ⟨(some x, some (x + m * k), m, x.fmod m), ⟨⟨.inr ⟨m1, b.1, b.2, (fun y e => by cases e; rfl), (fun y e => by cases e; exact e2), (fun y w e f => by cases e; cases f; omega)⟩⟩, (fun z => absurd z h0), (by show m ≤ 200; omega)⟩, rfl⟩
  obtain ⟨v, hv, e⟩ := hv
  rw [e]; exact h v hv
theorem of_m {d : Dt} (h : d ∈ [Dt.int 1, .int 1, .int 2, .int 3]) : ∃ m : Int, d = .int m ∧ 1 ≤ m ∧ m ≤ 4 := by
  simp only [List.mem_cons, List.not_mem_nil, or_false] at h
  rcases h with rfl | rfl | rfl | rfl <;> exact ⟨_, rfl, by decide, by decide⟩
theorem of_u {d : Dt} {x m t : Int} (t0 : 0 ≤ t) (t1 : t < 4) (h : d ∈ [Dt.int x, .int x, .int (x + m * t), .non]) : ∃ hi : Option Int, d = oD hi ∧ (hi = none ∨ ∃ k, 0 ≤ k ∧ k ≤ 4 ∧ hi = some (x + m * k)) := by
  simp only [List.mem_cons, List.not_mem_nil, or_false] at h
  rcases h with rfl | rfl | rfl | rfl
  · exact ⟨some x, rfl, .inr ⟨0, by omega, by omega, by rw [Int.mul_zero, Int.add_zero]⟩⟩
  · exact ⟨some x, rfl, .inr ⟨0, by omega, by omega, by rw [Int.mul_zero, Int.add_zero]⟩⟩
  · exact ⟨some (x + m * t), rfl, .inr ⟨t, t0, by omega, rfl⟩⟩
  · exact ⟨none, rfl, .inl rfl⟩
theorem of_l {d : Dt} {x : Int} (h : d ∈ [Dt.int x, .int x, .int x, .non]) : ∃ lo : Option Int, d = oD lo ∧ (lo = none ∨ lo = some x) := by
  simp only [List.mem_cons, List.not_mem_nil, or_false] at h
  rcases h with rfl | rfl | rfl | rfl
  · exact ⟨some x, rfl, .inr rfl⟩
  · exact ⟨some x, rfl, .inr rfl⟩
  · exact ⟨some x, rfl, .inr rfl⟩
  · exact ⟨none, rfl, .inl rfl⟩
theorem of_s {d : Dt} {x m t : Int} (t0 : 0 ≤ t) (t1 : t < 4) (h : d ∈ [Dt.tup [.int x, .int x], .tup [.int x, .int x], .tup [.int x, .int (x + m * t)], .tup [.non, .int x], .tup [.int x, .non]]) :
    ∃ lo hi : Option Int, d = .tup [oD lo, oD hi] ∧ (lo = none ∨ lo = some x) ∧ (hi = none ∨ ∃ k, 0 ≤ k ∧ k ≤ 4 ∧ hi = some (x + m * k)) := by
  have z : (none : Option Int) = none ∨ ∃ k, 0 ≤ k ∧ k ≤ 4 ∧ (none : Option Int) = some (x + m * k) := .inl rfl
  have y : some x = none ∨ ∃ k, 0 ≤ k ∧ k ≤ 4 ∧ some x = some (x + m * k) := .inr ⟨0, by omega, by omega, by rw [Int.mul_zero, Int.add_zero]⟩
  simp only [List.mem_cons, List.not_mem_nil, or_false] at h
  rcases h with rfl | rfl | rfl | rfl | rfl
  · exact ⟨some x, some x, rfl, .inr rfl, y⟩
  · exact ⟨some x, some x, rfl, .inr rfl, y⟩
  · exact ⟨some x, some (x + m * t), rfl, .inr rfl, .inr ⟨t, t0, by omega, rfl⟩⟩
  · exact ⟨none, some x, rfl, .inl rfl, y⟩
  · exact ⟨some x, none, rfl, .inr rfl, z⟩
theorem ar_neV {K : PySem.W.Frag} {Φ : Dt → Prop} {v w : VT} (h : Φ (.bl (!decide (v = w)))) : AR K (rNeD K) (vT v) (vT w) Φ := ar_neD (sh_v v).1 (sh_v w).1 (sh_v v).2 (sh_v w).2 (by rw [eqv_v]; exact h)
def S_lcut (ds : List Dt) (res : Dt) : Prop := ∃ Z : List VT, ds = [.lst (Z.map vT)] ∧ Z.length ≤ 100 ∧ res = pcT (cutF 0 Z)
def wrI (o : Option (List VT)) : Dt := match o with | none => .non | some Y => .lst (Y.map vT)
def S_lwr (ds : List Dt) (res : Dt) : Prop := ∃ (Z : List VT) (x v : VT), ds = [.lst (Z.map vT), vT x, vT v] ∧ (1 ≤ Z.length ∧ Z.length ≤ 100) ∧ (∀ z, z ∈ Z → VOk z) ∧ VOk x ∧ VOk v ∧ res = wrI (wrL x v Z)
def S_lse (ds : List Dt) (res : Dt) : Prop := ∃ (Z : List VT) (x : VT), ds = [.lst (Z.map vT), vT x] ∧ Z.length ≤ 100 ∧ (∀ z, z ∈ Z → VOk z) ∧ res = oV (seL x 0 Z none)
theorem rg_is {n : Nat} : rgD 0 ((n : Nat) : Int).toNat = ((List.range n).map fun (i : Nat) => (i : Int)).map Dt.int := by
  unfold rgD
  rw [List.map_map, Int.toNat_natCast]
  refine List.map_congr_left fun i _ => ?_
  show Dt.int (0 + (i : Int)) = Dt.int (i : Int)
  rw [Int.zero_add]
theorem fI_yes {x : VT} {k : Int} (h : conB x k = true) : fI (fun k => conB x k) (Dt.int k) = some (.int k) := by
  show (if conB x k = true then _ else _) = _
  rw [if_pos h]
theorem fI_no {x : VT} {k : Int} (h : conB x k = false) : fI (fun k => conB x k) (Dt.int k) = none := by
  show (if conB x k = true then _ else _) = _
  rw [if_neg (fun z => by rw [h] at z; cases z)]
theorem sp_is {x : VT} {n : Nat} : (((List.range n).map fun (i : Nat) => (i : Int)).map Dt.int).filterMap (fI fun k => conB x k) = (spL x n).map Dt.int := fI_map _ _
theorem cut_toL {Z : List VT} {s : Int} (s0 : 0 ≤ s) (s1 : s < Z.length) : cutD (Z.map vT) none (some s) = (Z.take s.toNat).map vT := by
  unfold cutD HT.sIx
  dsimp only
  rw [if_neg (by omega), List.length_map, List.map_take, List.drop_zero, Nat.sub_zero, Nat.min_eq_left (by omega)]
theorem cut_fromL {Z : List VT} {s : Int} (s0 : 0 ≤ s) (s1 : s < Z.length) : cutD (Z.map vT) (some (s + 1)) none = (Z.drop (s.toNat + 1)).map vT := by
  unfold cutD HT.sIx
  dsimp only
  rw [if_neg (by omega), List.length_map, Nat.min_eq_left (by omega), show (s + 1).toNat = s.toNat + 1 by omega, List.map_drop]
  exact List.take_of_length_le (by rw [List.length_drop, List.length_map]; exact Nat.le_refl _)
theorem lt2 {x : VT} {n : Nat} : decide ((((spL x n).map Dt.int).length : Int) < 2) = decide ((spL x n).length < 2) := by
  rw [List.length_map]
  by_cases h : (spL x n).length < 2
  · rw [decide_eq_true h, decide_eq_true (by omega)]
  · rw [decide_eq_false h, decide_eq_false (by omega)]
theorem in_sp {x : VT} {Z : List VT} {t : Int × VT} (h : t ∈ idx 0 Z) : decide (t.1 ∈ spL x Z.length) = conB x t.1 := by
  obtain ⟨h1, h2, _⟩ := idx_mem h
  rw [Bool.eq_iff_iff, decide_eq_true_iff, spL_mem]
  exact ⟨fun z => z.2, fun z => ⟨⟨h1, by omega⟩, z⟩⟩
open Classical in
noncomputable def liftO {α : Type} (enc : α → Dt) (g : α → Option Dt) (d : Dt) : Option Dt := if h : ∃ t, enc t = d then g (Classical.choose h) else none
theorem liftO_is {α : Type} {enc : α → Dt} {g : α → Option Dt} (inj : ∀ s t, enc s = enc t → s = t) (t : α) : liftO enc g (enc t) = g t := by
  have h : ∃ s, enc s = enc t := ⟨t, rfl⟩
  unfold liftO
  rw [dif_pos h]
  exact congrArg g (inj _ _ (Classical.choose_spec h))
theorem liftO_map {α : Type} {enc : α → Dt} {g : α → Option Dt} (inj : ∀ s t, enc s = enc t → s = t) (l : List α) : (l.map enc).filterMap (liftO enc g) = l.filterMap g := by
  induction l with
  | nil => rfl
  | cons t l ih => rw [List.map_cons, List.filterMap_cons, List.filterMap_cons, liftO_is inj t, ih]
def gS (x : VT) (t : Int × VT) : Option Dt := if conB x t.1 = true then some (vT t.2) else none
theorem gS_yes {x : VT} {t : Int × VT} (h : conB x t.1 = true) : liftO pT (gS x) (pT t) = some (vT t.2) := by
  rw [liftO_is pT_inj]; exact if_pos h
theorem gS_no {x : VT} {t : Int × VT} (h : conB x t.1 = false) : liftO pT (gS x) (pT t) = none := by
  rw [liftO_is pT_inj]; exact if_neg (fun z => by rw [h] at z; cases z)
theorem hit_is {x : VT} {Z : List VT} : ((idx 0 Z).map pT).filterMap (liftO pT (gS x)) = (hitL x Z).map vT := by
  rw [liftO_map pT_inj]
  unfold hitL gS
  induction idx 0 Z with
  | nil => rfl
  | cons t l ih =>
    rw [List.filterMap_cons, List.filter_cons, ih]
    by_cases h : conB x t.1 = true
    · rw [if_pos h, if_pos h]; rfl
    · rw [if_neg h, if_neg h]
theorem hit_mem {x : VT} {Z : List VT} {z : VT} (h : z ∈ hitL x Z) : z ∈ Z := by
  obtain ⟨t, ht, rfl⟩ := List.mem_map.mp h
  exact (idx_mem (List.mem_filter.mp ht).1).2.2
theorem hit_len {x : VT} {Z : List VT} : (hitL x Z).length ≤ Z.length := by
  unfold hitL
  rw [List.length_map]
  exact Nat.le_trans (List.length_filter_le _ _) (by rw [idx_len]; exact Nat.le_refl _)
theorem fo_ok : ∀ {Y : List VT} {o : Option VT}, (∀ y, y ∈ Y → VOk y) → (∀ w, o = some w → VOk w) → ∀ w, Y.foldl (fun o z => some (jo o z)) o = some w → VOk w
  | [], o, _, ho, w, h => ho w h
  | y :: Y, o, hy, ho, w, h => fo_ok (fun z hz => hy z (List.mem_cons_of_mem _ hz)) (fun u hu => by cases hu; exact jo_vok ho (hy y List.mem_cons_self)) w h
section
variable {P : Program} {w : World} {K : PySem.W.Frag} {mg : Str → Option Value} {base : Heap}
theorem ok_l_value (bl : Blts mg) {g_l_take : Addr} {d_l_take : FuncData} (c_l_take : Cal P w K mg base 2 "_law_take" p_l_take (spB K 1 domT postT) g_l_take d_l_take) {g_l_of : Addr} {d_l_of : FuncData} (c_l_of : Cal P w K mg base 3 "_law_of" p_l_of (spB K 1 domO postO) g_l_of d_l_of) {g_value_of : Addr} {d_value_of : FuncData} (c_value_of : Cal P w K mg base 3 "value_of" p_value_of (spP K S_vo) g_value_of d_value_of)  {f : Addr} {fd : FuncData} (F : Fun K "_law_value" "_law_value" s_l_value f fd) : FnOk P w K mg base CX0 4 f fd p_l_value (spB K 5 (domV) (postV)) := by
  refine okB F sc_l_value (fun ds h => ?_) (fun cdv A outer s H E hr ds h => ?_)
  · obtain ⟨rfl⟩ := h
    rfl
  obtain ⟨rfl⟩ := h
  refine ⟨_, (pss_cons (ps_par (i := 2) (j := 3) (by rfl) sc_l_value.nd rfl rfl (by decide) rfl rfl (pa_cons (pe_op op_sub (pe_call c_l_take.ok (hr.mono (by decide)) rfl c_l_take.mg c_l_take.kp c_l_take.bi .nil pass0 (pa_cons (pv 0) (pa_cons pe_int pa_nil))) pe_int) (pa_cons (pe_call c_l_of.ok (hr.mono (by decide)) rfl c_l_of.mg c_l_of.kp c_l_of.bi .nil pass0 (pa_cons (pv 0) (pa_cons (pe_lst (pa_cons pe_int (pa_cons pe_int (pa_cons pe_int (pa_cons pe_int pa_nil))))) pa_nil))) pa_nil)) (by rfl))
    (pss_cons (ps_set (i := 1) sc_l_value.nd rfl (by first | exact Or.inl rfl | exact Or.inr rfl) (pe_call c_l_of.ok (hr.mono (by decide)) rfl c_l_of.mg c_l_of.kp c_l_of.bi .nil pass0 (pa_cons (pv 0) (pa_cons (pe_lst (pa_cons (pv 2) (pa_cons (pv 2) (pa_cons (pe_op op_add (pv 2) (pe_op op_mul (pv 3) (pe_call c_l_take.ok (hr.mono (by decide)) rfl c_l_take.mg c_l_take.kp c_l_take.bi .nil pass0 (pa_cons (pv 0) (pa_cons pe_int pa_nil))))) (pa_cons pe_non pa_nil))))) pa_nil))))
    (pss_one (ps_ret (pe_call c_value_of.ok (hr.mono (by decide)) rfl c_value_of.mg c_value_of.kp c_value_of.bi .nil pass0 (pa_cons (pe_call c_l_of.ok (hr.mono (by decide)) rfl c_l_of.mg c_l_of.kp c_l_of.bi .nil pass0 (pa_cons (pv 0) (pa_cons (pe_lst (pa_cons (pv 2) (pa_cons (pv 2) (pa_cons (pv 2) (pa_cons pe_non pa_nil))))) pa_nil))) (pa_cons (pv 1) (pa_cons (pv 3) (pa_cons (pe_op op_modN (pv 2) (pv 3)) pa_nil))))))))), fun b F => ?_⟩
  change AS K _ [En.bx _ _, En.no, En.no, En.no] _ _
  try simp only [cxOf_K, cxOf_w]
  repeat' (first
    | ((with_reducible apply ae_ofL); · rfl)
    | (refine ⟨_, rfl, Nat.le_of_ble_eq_true rfl, Nat.le_of_ble_eq_true rfl, _, rfl, fun d hd => ?_⟩; obtain ⟨m, rfl, m1, m4⟩ := of_m hd)
    | (refine ⟨_, rfl, Nat.le_of_ble_eq_true rfl, Nat.le_of_ble_eq_true rfl, _, rfl, fun d hd => ?_⟩; obtain ⟨hi, rfl, hh⟩ := of_u (by assumption) (by assumption) hd)
    | (refine ⟨_, rfl, Nat.le_of_ble_eq_true rfl, Nat.le_of_ble_eq_true rfl, _, rfl, fun d hd => ?_⟩; obtain ⟨lo, rfl, hl⟩ := of_l hd)
    | ((with_reducible apply ae_take); · rfl)
    | (refine ⟨_, rfl, by omega, by omega, _, rfl, fun t t0 t1 => ?_⟩)
    | refine ar_Ii (C := CMul) (.inl ⟨by omega, by omega⟩) ?_
    | refine ar_Ii (C := fun _ j => j ≠ 0) (by omega) ?_
    | with_reducible apply ae_call
    | (refine vs_ex m1 m4 (by omega) (by omega) hl hh fun v hv => ?_)
    | (exact ⟨⟨v, rfl, hv⟩, _, rfl, Nat.le_refl _⟩)
    | with_reducible apply as_seq
    | with_reducible apply as_ret
    | with_reducible apply as_set
    | with_reducible apply as_par
    | ((with_reducible apply ae_var); · rfl)
    | with_reducible apply ae_int
    | with_reducible apply ae_non
    | with_reducible apply ae_op
    | with_reducible apply aa_nil
    | with_reducible apply aa_cons
    | with_reducible apply ae_lst
    | with_reducible apply ar_I0i
    | refine ⟨sz60 (Nat.le_of_ble_eq_true rfl), ?_⟩
    | refine ⟨_, _, rfl, ?_⟩
    | fail)
theorem ok_l_index (bl : Blts mg) {g_l_take : Addr} {d_l_take : FuncData} (c_l_take : Cal P w K mg base 2 "_law_take" p_l_take (spB K 1 domT postT) g_l_take d_l_take) {g_l_of : Addr} {d_l_of : FuncData} (c_l_of : Cal P w K mg base 3 "_law_of" p_l_of (spB K 1 domO postO) g_l_of d_l_of) {g_value_of : Addr} {d_value_of : FuncData} (c_value_of : Cal P w K mg base 3 "value_of" p_value_of (spP K S_vo) g_value_of d_value_of)  {f : Addr} {fd : FuncData} (F : Fun K "_law_index" "_law_index" s_l_index f fd) : FnOk P w K mg base CX0 4 f fd p_l_index (spB K 4 (domX) (postX)) := by
  refine okB F sc_l_index (fun ds h => ?_) (fun cdv A outer s H E hr ds h => ?_)
  · obtain ⟨n, rfl, n0, n1⟩ := h
    rfl
  obtain ⟨n, rfl, n0, n1⟩ := h
  refine ⟨_, (pss_cons (ps_par (i := 4) (j := 5) (by rfl) sc_l_index.nd rfl rfl (by decide) rfl rfl (pa_cons (pe_op op_sub (pe_call c_l_take.ok (hr.mono (by decide)) rfl c_l_take.mg c_l_take.kp c_l_take.bi .nil pass0 (pa_cons (pv 0) (pa_cons (pe_op op_add (pv 1) pe_int) pa_nil))) pe_int) (pa_cons (pe_op op_add pe_int (pe_call c_l_take.ok (hr.mono (by decide)) rfl c_l_take.mg c_l_take.kp c_l_take.bi .nil pass0 (pa_cons (pv 0) (pa_cons pe_int pa_nil)))) pa_nil)) (by rfl))
    (pss_cons (ps_set (i := 2) sc_l_index.nd rfl (by first | exact Or.inl rfl | exact Or.inr rfl) (pe_op op_add (pv 4) (pe_op op_mul (pv 5) (pe_call c_l_take.ok (hr.mono (by decide)) rfl c_l_take.mg c_l_take.kp c_l_take.bi .nil pass0 (pa_cons (pv 0) (pa_cons pe_int pa_nil))))))
    (pss_cons (ps_set (i := 3) sc_l_index.nd rfl (by first | exact Or.inl rfl | exact Or.inr rfl) (pe_call c_l_of.ok (hr.mono (by decide)) rfl c_l_of.mg c_l_of.kp c_l_of.bi .nil pass0 (pa_cons (pv 0) (pa_cons (pe_lst (pa_cons (pe_tup (pa_cons (pv 4) (pa_cons (pv 4) pa_nil))) (pa_cons (pe_tup (pa_cons (pv 4) (pa_cons (pv 4) pa_nil))) (pa_cons (pe_tup (pa_cons (pv 4) (pa_cons (pv 2) pa_nil))) (pa_cons (pe_tup (pa_cons pe_non (pa_cons (pv 4) pa_nil))) (pa_cons (pe_tup (pa_cons (pv 4) (pa_cons pe_non pa_nil))) pa_nil)))))) pa_nil))))
    (pss_one (ps_ret (pe_call c_value_of.ok (hr.mono (by decide)) rfl c_value_of.mg c_value_of.kp c_value_of.bi .nil pass0 (pa_cons (pe_ix ix_tup (pv 3) pe_int (fun _ _ => rfl)) (pa_cons (pe_ix ix_tup (pv 3) pe_int (fun _ _ => rfl)) (pa_cons (pv 5) (pa_cons (pe_op op_modN (pv 4) (pv 5)) pa_nil)))))))))), fun b F => ?_⟩
  change AS K _ [En.bx _ _, En.da _, En.no, En.no, En.no, En.no] _ _
  try simp only [cxOf_K, cxOf_w]
  repeat' (first
    | ((with_reducible apply ae_ofL); · rfl)
    | (refine ⟨_, rfl, Nat.le_of_ble_eq_true rfl, Nat.le_of_ble_eq_true rfl, _, rfl, fun d hd => ?_⟩; obtain ⟨lo, hi, rfl, hl, hh⟩ := of_s (by assumption) (by assumption) hd)
    | ((with_reducible apply ae_take); · rfl)
    | (refine ⟨_, rfl, by omega, by omega, _, rfl, fun t t0 t1 => ?_⟩)
    | refine ar_Ii (C := CMul) (.inl ⟨by omega, by omega⟩) ?_
    | refine ar_Ii (C := fun _ j => j ≠ 0) (by omega) ?_
    | with_reducible apply ae_call
    | (refine vs_ex (by omega) (by omega) (by omega) (by omega) hl hh fun v hv => ?_)
    | (exact ⟨⟨v, rfl, hv.ok⟩, _, rfl, Nat.le_refl _⟩)
    | with_reducible apply as_seq
    | with_reducible apply as_ret
    | with_reducible apply as_set
    | with_reducible apply as_par
    | ((with_reducible apply ae_var); · rfl)
    | with_reducible apply ae_int
    | with_reducible apply ae_non
    | with_reducible apply ae_op
    | with_reducible apply aa_nil
    | with_reducible apply aa_cons
    | with_reducible apply ae_tup
    | with_reducible apply ae_lst
    | with_reducible apply ar_I0i
    | ((with_reducible apply ar_ixT); · rfl)
    | refine ⟨sz60 (Nat.le_of_ble_eq_true rfl), ?_⟩
    | refine ⟨_, _, rfl, ?_⟩
    | fail)
theorem ok_l_cut (bl : Blts mg)   {f : Addr} {fd : FuncData} (F : Fun K "_law_cut" "_law_cut" s_l_cut f fd) : FnOk P w K mg base CX0 1 f fd p_l_cut (spP K (S_lcut)) := by
  refine okP F sc_l_cut (fun ds r h => ?_) (fun cdv A outer s H E hr ds r h => ?_)
  · obtain ⟨Z, rfl, hZ, rfl⟩ := h
    rfl
  obtain ⟨Z, rfl, hZ, rfl⟩ := h
  refine ⟨_, (pss_cons (ps_set (i := 1) sc_l_cut.nd rfl (by first | exact Or.inl rfl | exact Or.inr rfl) (pe_lst pa_nil))
    (pss_cons (ps_for PassesOwn.never rfl (pi_enum rfl bl.enumerate (pa_cons (pv 0) pa_nil)) (pg_tup rfl (pgs_cons (pg_name (i := 2) sc_l_cut.nd rfl (by first | exact Or.inl rfl | exact Or.inr rfl)) (pgs_cons (pg_name (i := 3) sc_l_cut.nd rfl (by first | exact Or.inl rfl | exact Or.inr rfl)) pgs_nil))) (pss_one (ps_if (PW.pt (pw_or (pt_cmpR op_eq (pe_op op_add (pv 2) pe_int) (pe_callB call_len_seq rfl bl.len (by decide +kernel) (pa_cons (pv 0) pa_nil)) (nomark _)) (pw_or1 (pt_cmpR (op_neD hr.units) (pe_ix ix_list (pv 0) (pe_op op_add (pv 2) pe_int) (fun _ _ => rfl)) (pv 3) (nomark _))))) (pss_one (ps_expr (pe_bm PySem.F.plainAttrs_list PySem.F.slot_list_append PySem.F.type_list_append mt_append (pv 1) (pa_cons (pe_tup (pa_cons (pe_op op_add (pv 2) pe_int) (pa_cons (pv 3) pa_nil))) pa_nil)))) pss_nil)))
    (pss_one (ps_ret (pe_callTy call_tuple_of rfl bl.tuple (by decide +kernel) (pa_cons (pv 1) pa_nil)))))), ?_⟩
  change AS K _ [En.da _, En.no, En.no, En.no] _ _
  try simp only [cxOf_K]
  repeat' (first
    | with_reducible apply as_own
    | with_reducible apply as_seq
    | with_reducible apply aa_nil
    | refine ⟨sz60 (Nat.le_of_ble_eq_true rfl), ?_⟩
    | fail)
  refine as_for ?_
  refine ai_enum ?_
  repeat' (first
    | ((with_reducible apply ae_var); · rfl)
    | with_reducible apply aa_nil
    | with_reducible apply aa_cons
    | refine ⟨_, rfl, ?_⟩
    | fail)
  refine ⟨fun i ρ => ∃ (done : Pcs) (e2 e3 : En), i ≤ Z.length ∧ done ++ cutF i (Z.drop i) = cutF 0 Z ∧ ρ = [.da (.lst (Z.map vT)), .own (done.map pT), e2, e3], ⟨[], _, _, Nat.zero_le _, rfl, rfl⟩, ?_, ?_⟩
  rotate_left
  · rintro ρ ⟨done, e2, e3, hi, he, rfl⟩
    rw [enD_len, List.length_map, List.drop_length] at he
    have hd : done = cutF 0 Z := by rw [← he]; show done = done ++ []; rw [List.append_nil]
    subst hd
    refine as_frz (i := 1) rfl ?_
    repeat' (first
      | with_reducible apply as_ret
      | ((with_reducible apply ae_var); · rfl)
      | with_reducible apply aa_nil
      | with_reducible apply aa_cons
      | with_reducible apply ae_cb
      | with_reducible apply ac_tupL
      | rfl
      | fail)
  rintro i dd ρ hi ⟨done, e2, e3, hiZ, he, rfl⟩
  have lt0 := (List.getElem?_eq_some_iff.mp hi).1
  rw [enD_len, List.length_map] at lt0
  have hz : Z[i]? = some Z[i] := List.getElem?_eq_getElem lt0
  have hz' : (Z.map vT)[i]? = some (vT Z[i]) := by rw [List.getElem?_map, hz]; rfl
  have hg := (enD_get hz').symm.trans hi
  cases hg
  have hdr : Z.drop i = Z[i] :: Z.drop (i + 1) := List.drop_eq_getElem_cons lt0
  rw [hdr] at he
  generalize Z[i] = v at *
  have hcl := cut_len Z 0
  have hdl : done.length ≤ (cutF 0 Z).length := by rw [← he, List.length_append]; omega
  have hsz : (done.map pT).length < sizeLine := by rw [List.length_map, sizeLine_eq]; omega
  by_cases hl : i + 1 = Z.length
  · have d1 : decide (V.int (((i : Nat) : Int) + 1) = V.int (((Z.map vT).length : Nat) : Int)) = true := decide_eq_true (by rw [List.length_map, ← hl]; rfl)
    have hk : (done ++ [(((i : Nat) : Int) + 1, v)]) ++ cutF ((i + 1 : Nat) : Int) (Z.drop (i + 1)) = cutF 0 Z := by
      rw [← he, List.append_assoc, hl, List.drop_length]; rfl
    repeat' (first
      | (refine ⟨_, rfl, ?_⟩; rw [d1]; refine ⟨fun hc => ?_, fun hc => (nomatch hc)⟩)
      | refine as_append ?_ ⟨_, rfl⟩
      | (refine ⟨_, rfl, hsz, ?_⟩)
      | (refine ag_tup (ds := [.int ((i : Nat) : Int), vT v]) rfl ?_)
      | (refine ⟨done ++ [(((i : Nat) : Int) + 1, v)], .da (.int ((i : Nat) : Int)), .da (vT v), lt0, hk, ?_⟩; rw [List.map_append]; rfl)
      | with_reducible apply as_if
      | ((with_reducible apply ae_var); · rfl)
      | with_reducible apply ae_int
      | with_reducible apply ae_op
      | with_reducible apply aa_nil
      | with_reducible apply aa_cons
      | with_reducible apply ae_cb
      | with_reducible apply ae_tup
      | with_reducible apply at_test
      | with_reducible apply at_or
      | with_reducible apply ar_I0i
      | with_reducible apply ac_lenL
      | ((with_reducible apply ar_eq3); · exact ⟨rfl, rfl, rfl⟩)
      | with_reducible apply ag_name
      | with_reducible apply ags_nil
      | with_reducible apply ags_cons
      | refine ⟨sz60 (Nat.le_of_ble_eq_true rfl), ?_⟩
      | (refine ⟨fun hc => ?_, fun hc => ?_⟩ <;> (first | (exfalso; exact absurd (show false = true from hc) (by decide)) | (exfalso; exact absurd (show true = false from hc) (by decide)) | (exfalso; simp at hc; done) | skip))
      | fail)
  · have d1 : decide (V.int (((i : Nat) : Int) + 1) = V.int (((Z.map vT).length : Nat) : Int)) = false := decide_eq_false (fun z => by have := V.int.inj z; rw [List.length_map] at this; omega)
    have lt1 : i + 1 < Z.length := by omega
    have hz1 : (Z.map vT)[i + 1]? = some (vT Z[i + 1]) := by rw [List.getElem?_map, List.getElem?_eq_getElem lt1]; rfl
    have hat : atI (Z.map vT) (((i : Nat) : Int) + 1) = some (vT Z[i + 1]) := atI_nat (j := i + 1) hz1
    have hdr1 : Z.drop (i + 1) = Z[i + 1] :: Z.drop (i + 1 + 1) := List.drop_eq_getElem_cons lt1
    rw [hdr1] at he
    generalize Z[i + 1] = w at *
    by_cases hw : w = v
    · have d2 : (!decide (w = v)) = false := by rw [decide_eq_true hw]; rfl
      have hk : done ++ cutF ((i + 1 : Nat) : Int) (Z.drop (i + 1)) = cutF 0 Z := by
        rw [← he, hdr1]
        congr 1
        conv => rhs; rw [cutF]
        rw [if_pos hw]; rfl
      repeat' (first
        | (refine ⟨_, rfl, ?_⟩; rw [d1]; refine ⟨fun hc => (nomatch hc), fun hc => ?_⟩)
        | (refine ⟨_, rfl, ?_⟩; rw [d2]; refine ⟨fun hc => (nomatch hc), fun hc => ?_⟩)
        | (refine ar_ixL hat ?_)
        | (refine ar_neV ?_)
        | (refine ag_tup (ds := [.int ((i : Nat) : Int), vT v]) rfl ?_)
        | (exact ⟨done, .da (.int ((i : Nat) : Int)), .da (vT v), lt0, hk, rfl⟩)
        | with_reducible apply as_next
        | with_reducible apply as_if
        | ((with_reducible apply ae_var); · rfl)
        | with_reducible apply ae_int
        | with_reducible apply ae_op
        | with_reducible apply aa_nil
        | with_reducible apply aa_cons
        | with_reducible apply ae_cb
        | with_reducible apply at_test
        | with_reducible apply at_or
        | with_reducible apply ar_I0i
        | with_reducible apply ac_lenL
        | ((with_reducible apply ar_eq3); · exact ⟨rfl, rfl, rfl⟩)
        | with_reducible apply ag_name
        | with_reducible apply ags_nil
        | with_reducible apply ags_cons
        | fail)
    · have d2 : (!decide (w = v)) = true := by rw [decide_eq_false hw]; rfl
      have hk : (done ++ [(((i : Nat) : Int) + 1, v)]) ++ cutF ((i + 1 : Nat) : Int) (Z.drop (i + 1)) = cutF 0 Z := by
        rw [← he, hdr1, List.append_assoc]
        congr 1
        conv => rhs; rw [cutF]
        rw [if_neg hw]; rfl
      repeat' (first
        | (refine ⟨_, rfl, ?_⟩; rw [d1]; refine ⟨fun hc => (nomatch hc), fun hc => ?_⟩)
        | (refine ⟨_, rfl, ?_⟩; rw [d2]; refine ⟨fun hc => ?_, fun hc => (nomatch hc)⟩)
        | (refine ar_ixL hat ?_)
        | (refine ar_neV ?_)
        | refine as_append ?_ ⟨_, rfl⟩
        | (refine ⟨_, rfl, hsz, ?_⟩)
        | (refine ag_tup (ds := [.int ((i : Nat) : Int), vT v]) rfl ?_)
        | (refine ⟨done ++ [(((i : Nat) : Int) + 1, v)], .da (.int ((i : Nat) : Int)), .da (vT v), lt0, hk, ?_⟩; rw [List.map_append]; rfl)
        | with_reducible apply as_if
        | ((with_reducible apply ae_var); · rfl)
        | with_reducible apply ae_int
        | with_reducible apply ae_op
        | with_reducible apply aa_nil
        | with_reducible apply aa_cons
        | with_reducible apply ae_cb
        | with_reducible apply ae_tup
        | with_reducible apply at_test
        | with_reducible apply at_or
        | with_reducible apply ar_I0i
        | with_reducible apply ac_lenL
        | ((with_reducible apply ar_eq3); · exact ⟨rfl, rfl, rfl⟩)
        | with_reducible apply ag_name
        | with_reducible apply ags_nil
        | with_reducible apply ags_cons
        | refine ⟨sz60 (Nat.le_of_ble_eq_true rfl), ?_⟩
        | fail)
theorem ok_l_written (bl : Blts mg) {g_contains : Addr} {d_contains : FuncData} (c_contains : Cal P w K mg base 3 "contains" p_contains (spP K S_con) g_contains d_contains) {g_value_join : Addr} {d_value_join : FuncData} (c_value_join : Cal P w K mg base 5 "value_join" p_value_join (spP K S_vj) g_value_join d_value_join)  {f : Addr} {fd : FuncData} (F : Fun K "_law_written" "_law_written" s_l_written f fd) : FnOk P w K mg base CX0 6 f fd p_l_written (spP K (S_lwr)) := by
  refine okP F sc_l_written (fun ds r h => ?_) (fun cdv A outer s H E hr ds r h => ?_)
  · obtain ⟨Z, x, v, rfl, hZ, hz, hx, hv, rfl⟩ := h
    rfl
  obtain ⟨Z, x, v, rfl, hZ, hz, hx, hv, rfl⟩ := h
  refine ⟨_, (pss_cons (ps_set (i := 3) sc_l_written.nd rfl (by first | exact Or.inl rfl | exact Or.inr rfl) (pe_lc (own := [("_law_spot", 4)]) (g := (gName 4)) (te := (tVar 4)) (tt := (tB (tCall (spP K S_con) [] E0 (tCons (tVar 1) (tCons (tVar 4) tNil))))) rfl sc_l_written.nd (pi_range1 rfl bl.range (pa_cons (pe_callB call_len_seq rfl bl.len (by decide +kernel) (pa_cons (pv 0) pa_nil)) pa_nil)) (blkOk_by (N := N_l_written) (sc := defScope s_l_written) (by decide +kernel)) (fun _ _ _ _ _ => (pg_name (i := 4) sc_l_written.nd rfl (by first | exact Or.inl rfl | exact Or.inr rfl))) (fun _ _ _ _ _ => (pts_one (pt_val (pe_call c_contains.ok (hr.mono (by decide)) rfl c_contains.mg c_contains.kp c_contains.bi .nil pass0 (pa_cons (pv 1) (pa_cons (pv 4) pa_nil)))))) (fun _ _ _ _ _ => (pv 4))))
    (pss_cons (ps_if (pt_cmpR op_lt (pe_callB call_len_seq rfl bl.len (by decide +kernel) (pa_cons (pv 3) pa_nil)) pe_int (nomark _)) (pss_one (ps_ret (pe_ifExp (pt_cmpR (op_neD hr.units) (pv 3) (pe_lst pa_nil) (nomark _)) (pe_op op_cat (pe_op op_cat (pe_slice sl_list (pv 0) po_none (po_some (pe_ix ix_list (pv 3) pe_int (fun _ _ => rfl)))) (pe_lst (pa_cons (pv 2) pa_nil))) (pe_slice sl_list (pv 0) (po_some (pe_op op_add (pe_ix ix_list (pv 3) pe_int (fun _ _ => rfl)) pe_int)) po_none)) pe_non))) pss_nil)
    (pss_one (ps_ret (pe_lc (own := [("_law_spot", 4), ("_law_own", 5)]) (g := (gTup K 2 (gCons (gName 4) (gCons (gName 5) gNil)))) (te := (tIf (tTest (tOp (rIn K false) (tVar 4) (tVar 3))) (tCall (spP K S_vj) [] E0 (tCons (tVar 5) (tCons (tVar 2) tNil))) (tVar 5))) (tt := tYes) rfl sc_l_written.nd (pi_enum rfl bl.enumerate (pa_cons (pv 0) pa_nil)) (blkOk_by (N := N_l_written) (sc := defScope s_l_written) (by decide +kernel)) (fun _ _ _ _ _ => (pg_tup rfl (pgs_cons (pg_name (i := 4) sc_l_written.nd rfl (by first | exact Or.inl rfl | exact Or.inr rfl)) (pgs_cons (pg_name (i := 5) sc_l_written.nd rfl (by first | exact Or.inl rfl | exact Or.inr rfl)) pgs_nil)))) (fun _ _ _ _ _ => pts_nil) (fun _ _ _ _ _ => (pe_ifExp (pt_cmpR op_in_seq (pv 4) (pv 3) rfl) (pe_call c_value_join.ok (hr.mono (by decide)) rfl c_value_join.mg c_value_join.kp c_value_join.bi .nil pass0 (pa_cons (pv 5) (pa_cons (pv 2) pa_nil))) (pv 5)))))))), ?_⟩
  change AS K _ [En.da _, En.da _, En.da _, En.no, En.no, En.no] _ _
  try simp only [cxOf_K]
  have hs9 := @spL_len x Z.length
  by_cases h2 : (spL x Z.length).length < 2
  · have d2 : decide ((((spL x Z.length).map Dt.int).length : Int) < 2) = true := by rw [lt2]; exact decide_eq_true h2
    cases hL : spL x Z.length with
    | nil =>
      have hw : wrL x v Z = none := by unfold wrL; rw [if_pos hL]
      have d3 : (!([] : List Int).isEmpty) = false := rfl
      rw [hw]
      rw [hL] at d2
      repeat' (first
        | with_reducible apply ae_call
        | (refine ae_lcFil (wi := iRng1 (tCons (tCB (fun xs H Q => ∃ p ys, xs = [.ref p] ∧ (SqL K H p ys ∨ SqT K H p ys) ∧ Q (.int ys.length) H) (tCons (tVar 0) tNil)) tNil)) (fI fun k => conB x k) ?_)
        | with_reducible apply ai_rng1
        | (refine ⟨_, rfl, (by rw [List.length_map]; omega), (by rw [List.length_map]; omega), ?_⟩; rw [List.length_map, rg_is])
        | (refine ⟨(by rw [List.length_map, List.length_map, List.length_range, sizeLine_eq]; omega), fun d hd => ?_, ?_⟩)
        | (obtain ⟨(k : Int), hk, rfl⟩ := List.mem_map.mp hd; clear hd)
        | ((with_reducible apply agv_name); · decide)
        | (refine ⟨.bl (conB x k), ⟨true, x.1, x.2.1, x.2.2.1, x.2.2.2, k, rfl, rfl⟩, ?_⟩)
        | (exact ⟨fI_yes hc, rfl⟩)
        | (exact ⟨fI_no hc, rfl⟩)
        | (rw [sp_is, hL])
        | (refine ⟨_, rfl, ?_⟩; rw [d2]; refine ⟨fun hc => ?_, fun hc => (nomatch hc)⟩)
        | (refine ⟨_, rfl, ?_⟩; rw [d3]; refine ⟨fun hc => (nomatch hc), fun hc => ?_⟩)
        | (refine ar_neNil ?_)
        | with_reducible apply as_seq
        | with_reducible apply as_ret
        | with_reducible apply as_if
        | with_reducible apply as_set
        | ((with_reducible apply ae_var); · rfl)
        | with_reducible apply ae_int
        | with_reducible apply ae_non
        | with_reducible apply ae_op
        | with_reducible apply aa_nil
        | with_reducible apply aa_cons
        | with_reducible apply ae_cb
        | with_reducible apply ae_lst
        | with_reducible apply ae_if
        | with_reducible apply at_test
        | with_reducible apply at_b
        | with_reducible apply ar_I0b
        | with_reducible apply ac_lenL
        | refine ⟨sz60 (Nat.le_of_ble_eq_true rfl), ?_⟩
        | refine ⟨_, rfl, ?_⟩
        | (refine ⟨fun hc => ?_, fun hc => ?_⟩ <;> (first | (exfalso; exact absurd (show false = true from hc) (by decide)) | (exfalso; exact absurd (show true = false from hc) (by decide)) | (exfalso; simp at hc; done) | skip))
        | rfl
        | fail)
    | cons s l =>
      obtain ⟨s0, s1, hm⟩ := wr_one (v := v) hL h2
      have hw : wrL x v Z = some (Z.take s.toNat ++ v :: Z.drop (s.toNat + 1)) := by
        unfold wrL
        rw [if_neg (fun z => by rw [hL] at z; cases z), if_pos h2, hm]
      have d3 : (!(s :: l).isEmpty) = true := rfl
      have hend : Dt.lst (((Z.take s.toNat).map vT ++ [vT v]) ++ (Z.drop (s.toNat + 1)).map vT) = wrI (some (Z.take s.toNat ++ v :: Z.drop (s.toNat + 1))) := by
        show _ = Dt.lst ((Z.take s.toNat ++ v :: Z.drop (s.toNat + 1)).map vT)
        rw [List.map_append, List.map_cons, List.append_assoc]; rfl
      rw [hw]
      rw [hL] at d2
      clear hw hm
      repeat' (first
        | with_reducible apply ae_call
        | (refine ae_lcFil (wi := iRng1 (tCons (tCB (fun xs H Q => ∃ p ys, xs = [.ref p] ∧ (SqL K H p ys ∨ SqT K H p ys) ∧ Q (.int ys.length) H) (tCons (tVar 0) tNil)) tNil)) (fI fun k => conB x k) ?_)
        | with_reducible apply ai_rng1
        | (refine ⟨_, rfl, (by rw [List.length_map]; omega), (by rw [List.length_map]; omega), ?_⟩; rw [List.length_map, rg_is])
        | (refine ⟨(by rw [List.length_map, List.length_map, List.length_range, sizeLine_eq]; omega), fun d hd => ?_, ?_⟩)
        | (obtain ⟨(k : Int), hk, rfl⟩ := List.mem_map.mp hd; clear hd)
        | ((with_reducible apply agv_name); · decide)
        | (refine ⟨.bl (conB x k), ⟨true, x.1, x.2.1, x.2.2.1, x.2.2.2, k, rfl, rfl⟩, ?_⟩)
        | (exact ⟨fI_yes hc, rfl⟩)
        | (exact ⟨fI_no hc, rfl⟩)
        | (rw [sp_is, hL])
        | (refine ⟨_, rfl, ?_⟩; rw [d2]; refine ⟨fun hc => ?_, fun hc => (nomatch hc)⟩)
        | (refine ⟨_, rfl, ?_⟩; rw [d3]; refine ⟨fun hc => ?_, fun hc => (nomatch hc)⟩)
        | (refine ar_neNil ?_)
        | ((with_reducible apply ar_ixL); · exact atI_nat (j := 0) rfl)
        | (refine ae_slD ?_)
        | (refine ao_none ?_)
        | (refine ao_some ?_)
        | (rw [cut_toL s0 s1])
        | (rw [cut_fromL s0 s1])
        | (refine ar_catL (by rw [List.length_map, List.length_take, List.length_singleton, sizeLine_eq]; omega) ?_)
        | (refine ar_catL (by rw [List.length_append, List.length_map, List.length_map, List.length_take, List.length_drop, List.length_singleton, sizeLine_eq]; omega) ?_)
        | exact hend
        | with_reducible apply as_seq
        | with_reducible apply as_ret
        | with_reducible apply as_if
        | with_reducible apply as_set
        | ((with_reducible apply ae_var); · rfl)
        | with_reducible apply ae_int
        | with_reducible apply ae_op
        | with_reducible apply aa_nil
        | with_reducible apply aa_cons
        | with_reducible apply ae_cb
        | with_reducible apply ae_lst
        | with_reducible apply ae_if
        | with_reducible apply at_test
        | with_reducible apply at_b
        | with_reducible apply ar_I0i
        | with_reducible apply ar_I0b
        | with_reducible apply ac_lenL
        | refine ⟨sz60 (Nat.le_of_ble_eq_true rfl), ?_⟩
        | refine ⟨_, rfl, ?_⟩
        | (refine ⟨fun hc => ?_, fun hc => ?_⟩ <;> (first | (exfalso; exact absurd (show false = true from hc) (by decide)) | (exfalso; exact absurd (show true = false from hc) (by decide)) | (exfalso; simp at hc; done) | skip))
        | fail)
  · have d2 : decide ((((spL x Z.length).map Dt.int).length : Int) < 2) = false := by rw [lt2]; exact decide_eq_false h2
    have hw : wrL x v Z = some ((idx 0 Z).map fun t => if conB x t.1 = true then jV t.2 v else t.2) := by
      unfold wrL
      rw [if_neg (fun z => h2 (by rw [z]; decide)), if_neg h2]
    have hlen : ((idx 0 Z).map pT).length < sizeLine := by rw [List.length_map, idx_len, sizeLine_eq]; omega
    have hend : Dt.lst ((idx 0 Z).map (fun t : Int × VT => vT (if conB x t.1 = true then jV t.2 v else t.2))) = wrI (some ((idx 0 Z).map fun t => if conB x t.1 = true then jV t.2 v else t.2)) := by
      show _ = Dt.lst (((idx 0 Z).map fun t => if conB x t.1 = true then jV t.2 v else t.2).map vT)
      rw [List.map_map]; rfl
    rw [hw]
    clear hw
    repeat' (first
      | with_reducible apply ae_call
      | (refine ae_lcFil (wi := iRng1 (tCons (tCB (fun xs H Q => ∃ p ys, xs = [.ref p] ∧ (SqL K H p ys ∨ SqT K H p ys) ∧ Q (.int ys.length) H) (tCons (tVar 0) tNil)) tNil)) (fI fun k => conB x k) ?_)
      | with_reducible apply ai_rng1
      | (refine ⟨_, rfl, (by rw [List.length_map]; omega), (by rw [List.length_map]; omega), ?_⟩; rw [List.length_map, rg_is])
      | (refine ⟨(by rw [List.length_map, List.length_map, List.length_range, sizeLine_eq]; omega), fun d hd => ?_, ?_⟩)
      | (obtain ⟨(k : Int), hk, rfl⟩ := List.mem_map.mp hd; clear hd)
      | ((with_reducible apply agv_name); · decide)
      | (refine ⟨.bl (conB x k), ⟨true, x.1, x.2.1, x.2.2.1, x.2.2.2, k, rfl, rfl⟩, ?_⟩)
      | (exact ⟨fI_yes hc, rfl⟩)
      | (exact ⟨fI_no hc, rfl⟩)
      | (rw [sp_is])
      | (refine ⟨_, rfl, ?_⟩; rw [d2]; refine ⟨fun hc => (nomatch hc), fun hc => ?_⟩)
      | (refine ae_lcMap (wi := iEnum K (tCons (tVar 0) tNil)) (liftF pT (fun t : Int × VT => vT (if conB x t.1 = true then jV t.2 v else t.2))) ?_)
      | (refine ai_enum (aa_cons (ae_var rfl (aa_nil ⟨_, rfl, ?_⟩))); rw [idx_enD])
      | (refine ⟨hlen, fun d hd => ?_, ?_⟩)
      | (obtain ⟨t, ht, rfl⟩ := List.mem_map.mp hd; clear hd; have t3 := (idx_mem ht).2.2; have tin := in_sp (x := x) ht)
      | (refine agv_tup rfl (agvs_cons (agv_name (by decide) (agvs_cons (agv_name (by decide) (agvs_nil ?_))))))
      | (refine ar_inIP (ns := spL x Z.length) ?_; rw [tin])
      | (refine ⟨_, ⟨true, true, _, _, _, _, _, _, _, _, rfl, (jV_ok (hz _ t3) hv).2.symm⟩, ?_⟩)
      | ((refine ⟨?_, rfl⟩); (rw [lift_is (g := fun t : Int × VT => vT (if conB x t.1 = true then jV t.2 v else t.2)) pT_inj t]; first | rw [if_pos (show conB x t.1 = true from hc)] | rw [if_neg (fun z => by rw [show conB x t.1 = false from hc] at z; cases z)]))
      | (rw [lift_map pT_inj])
      | exact hend
      | with_reducible apply as_seq
      | with_reducible apply as_ret
      | with_reducible apply as_next
      | with_reducible apply as_if
      | with_reducible apply as_set
      | ((with_reducible apply ae_var); · rfl)
      | with_reducible apply ae_int
      | with_reducible apply ae_op
      | with_reducible apply aa_nil
      | with_reducible apply aa_cons
      | with_reducible apply ae_cb
      | with_reducible apply ae_if
      | with_reducible apply at_test
      | with_reducible apply at_b
      | with_reducible apply ar_I0b
      | with_reducible apply ac_lenL
      | refine ⟨_, rfl, ?_⟩
      | (refine ⟨fun hc => ?_, fun hc => ?_⟩ <;> (first | (exfalso; exact absurd (show false = true from hc) (by decide)) | (exfalso; exact absurd (show true = false from hc) (by decide)) | (exfalso; simp at hc; done) | skip))
      | fail)
theorem ok_l_seen (bl : Blts mg) {g_contains : Addr} {d_contains : FuncData} (c_contains : Cal P w K mg base 3 "contains" p_contains (spP K S_con) g_contains d_contains) {g_value_join : Addr} {d_value_join : FuncData} (c_value_join : Cal P w K mg base 5 "value_join" p_value_join (spP K S_vj) g_value_join d_value_join)  {f : Addr} {fd : FuncData} (F : Fun K "_law_seen" "_law_seen" s_l_seen f fd) : FnOk P w K mg base CX0 6 f fd p_l_seen (spP K (S_lse)) := by
  refine okP F sc_l_seen (fun ds r h => ?_) (fun cdv A outer s H E hr ds r h => ?_)
  · obtain ⟨Z, x, rfl, hZ, hz, rfl⟩ := h
    rfl
  obtain ⟨Z, x, rfl, hZ, hz, rfl⟩ := h
  refine ⟨_, (pss_cons (ps_set (i := 2) sc_l_seen.nd rfl (by first | exact Or.inl rfl | exact Or.inr rfl) pe_non)
    (pss_cons (ps_for PassesOwn.never rfl (pi_list (pe_lc (own := [("_law_spot", 4), ("_law_own", 3)]) (g := (gTup K 2 (gCons (gName 4) (gCons (gName 3) gNil)))) (te := (tVar 3)) (tt := (tB (tCall (spP K S_con) [] E0 (tCons (tVar 1) (tCons (tVar 4) tNil))))) rfl sc_l_seen.nd (pi_enum rfl bl.enumerate (pa_cons (pv 0) pa_nil)) (blkOk_by (N := N_l_seen) (sc := defScope s_l_seen) (by decide +kernel)) (fun _ _ _ _ _ => (pg_tup rfl (pgs_cons (pg_name (i := 4) sc_l_seen.nd rfl (by first | exact Or.inl rfl | exact Or.inr rfl)) (pgs_cons (pg_name (i := 3) sc_l_seen.nd rfl (by first | exact Or.inl rfl | exact Or.inr rfl)) pgs_nil)))) (fun _ _ _ _ _ => (pts_one (pt_val (pe_call c_contains.ok (hr.mono (by decide)) rfl c_contains.mg c_contains.kp c_contains.bi .nil pass0 (pa_cons (pv 1) (pa_cons (pv 4) pa_nil)))))) (fun _ _ _ _ _ => (pv 3)))) (pg_name (i := 3) sc_l_seen.nd rfl (by first | exact Or.inl rfl | exact Or.inr rfl)) (pss_one (ps_set (i := 2) sc_l_seen.nd rfl (by first | exact Or.inl rfl | exact Or.inr rfl) (pe_ifExp (pt_cmpR op_isN (pv 2) pe_non (nomark _)) (pv 3) (pe_call c_value_join.ok (hr.mono (by decide)) rfl c_value_join.mg c_value_join.kp c_value_join.bi .nil pass0 (pa_cons (pv 2) (pa_cons (pv 3) pa_nil)))))))
    (pss_one (ps_ret (pv 2))))), ?_⟩
  change AS K _ [En.da _, En.da _, En.no, En.no, En.no] _ _
  try simp only [cxOf_K]
  have hlen : ((idx 0 Z).map pT).length < sizeLine := by rw [List.length_map, idx_len, sizeLine_eq]; omega
  have hh := @hit_len x Z
  have hok : ∀ y, y ∈ hitL x Z → VOk y := fun y hy => hz y (hit_mem hy)
  have hse : seL x 0 Z none = (hitL x Z).foldl (fun o z => some (jo o z)) none := se_fold
  rw [hse]
  repeat' (first
    | with_reducible apply as_seq
    | with_reducible apply as_set
    | with_reducible apply ae_non
    | fail)
  refine as_for ?_
  refine ai_list ?_
  repeat' (first
    | with_reducible apply ae_call
    | (refine ae_lcFil (wi := iEnum K (tCons (tVar 0) tNil)) (liftO pT (gS x)) ?_)
    | (refine ai_enum (aa_cons (ae_var rfl (aa_nil ⟨_, rfl, ?_⟩))); rw [idx_enD])
    | (refine ⟨hlen, fun d hd => ?_, ?_⟩)
    | (obtain ⟨t, ht, rfl⟩ := List.mem_map.mp hd; clear hd)
    | (refine agv_tup rfl (agvs_cons (agv_name (by decide) (agvs_cons (agv_name (by decide) (agvs_nil ?_))))))
    | (refine ⟨.bl (conB x t.1), ⟨true, x.1, x.2.1, x.2.2.1, x.2.2.2, t.1, rfl, rfl⟩, ?_⟩)
    | (exact ⟨gS_yes hc, rfl⟩)
    | (exact ⟨gS_no hc, rfl⟩)
    | (rw [hit_is])
    | ((with_reducible apply ae_var); · rfl)
    | with_reducible apply aa_nil
    | with_reducible apply aa_cons
    | with_reducible apply at_b
    | refine ⟨_, rfl, ?_⟩
    | (refine ⟨fun hc => ?_, fun hc => ?_⟩ <;> (first | (exfalso; exact absurd (show false = true from hc) (by decide)) | (exfalso; exact absurd (show true = false from hc) (by decide)) | (exfalso; simp at hc; done) | skip))
    | fail)
  refine ⟨fun i ρ => ∃ (o : Option VT) (e3 e4 : En), o = ((hitL x Z).take i).foldl (fun o z => some (jo o z)) none ∧ ρ = [.da (.lst (Z.map vT)), .da (vT x), .da (oV o), e3, e4], ⟨none, _, _, rfl, rfl⟩, ?_, ?_⟩
  rotate_left
  · rintro ρ ⟨o, e3, e4, rfl, rfl⟩
    rw [List.length_map, List.take_length]
    repeat' (first
      | with_reducible apply as_ret
      | ((with_reducible apply ae_var); · rfl)
      | rfl
      | fail)
  rintro i dd ρ hi ⟨o, e3, e4, ho, rfl⟩
  rw [List.getElem?_map] at hi
  obtain ⟨v, hy, rfl⟩ := Option.map_eq_some_iff.mp hi
  have hv : VOk v := hok _ (List.mem_of_getElem? hy)
  have htk : (hitL x Z).take (i + 1) = (hitL x Z).take i ++ [v] := by rw [List.take_add_one, hy]; rfl
  have e1 : some (jo o v) = ((hitL x Z).take (i + 1)).foldl (fun o z => some (jo o z)) none := by rw [htk, List.foldl_append, ← ho]; rfl
  have how : ∀ w, o = some w → VOk w := fun w hw => fo_ok (o := none) (fun y hy => hok y (List.mem_of_mem_take hy)) (fun u hu => nomatch hu) w (by rw [← ho]; exact hw)
  clear ho hi hy
  cases o with
  | none =>
    repeat' (first
      | (exact ⟨some v, .da (vT v), e4, e1, rfl⟩)
      | with_reducible apply as_set
      | ((with_reducible apply ae_var); · rfl)
      | with_reducible apply ae_non
      | with_reducible apply ae_op
      | with_reducible apply ae_if
      | with_reducible apply at_test
      | with_reducible apply ar_isN
      | with_reducible apply ag_name
      | refine ⟨_, rfl, ?_⟩
      | (refine ⟨fun hc => ?_, fun hc => ?_⟩ <;> (first | (exfalso; exact absurd (show false = true from hc) (by decide)) | (exfalso; exact absurd (show true = false from hc) (by decide)) | (exfalso; simp at hc; done) | skip))
      | fail)
  | some w =>
    have hw := how w rfl
    repeat' (first
      | with_reducible apply ae_call
      | (refine ⟨_, ⟨true, true, _, _, _, _, _, _, _, _, rfl, (jV_ok hw hv).2.symm⟩, ?_⟩)
      | (exact ⟨some (jV w v), .da (vT v), e4, e1, rfl⟩)
      | with_reducible apply as_set
      | ((with_reducible apply ae_var); · rfl)
      | with_reducible apply ae_non
      | with_reducible apply ae_op
      | with_reducible apply aa_nil
      | with_reducible apply aa_cons
      | with_reducible apply ae_if
      | with_reducible apply at_test
      | with_reducible apply ar_isN
      | with_reducible apply ag_name
      | refine ⟨_, rfl, ?_⟩
      | (refine ⟨fun hc => ?_, fun hc => ?_⟩ <;> (first | (exfalso; exact absurd (show false = true from hc) (by decide)) | (exfalso; exact absurd (show true = false from hc) (by decide)) | (exfalso; simp at hc; done) | skip))
      | fail)
end
end Sh
set_option Elab.async false
set_option linter.all false
set_option maxRecDepth 100000
set_option maxHeartbeats 4000000
namespace Sh
open PySem PySem.Spec PyProof.Rows L2
abbrev s_l_filled : Stmt := topS 53
abbrev N_l_filled : List Str := ["_law_box_here", "_law_count", "_law_first", "_law_items", "_law_turn", "_law_due", "_law_told", "_law_soft", "_law_named", "_law_index_so", "_law_more", "_law_later", "_law_kept_so", "_law_part"]
abbrev p_l_filled : List Str := ["_law_box_here", "_law_count"]
theorem sc_l_filled : FnScope N_l_filled p_l_filled (defScope s_l_filled) := ⟨rfl, rfl, rfl, by decide +kernel, rfl, by decide +kernel, by decide +kernel⟩
theorem as_appF {K : PySem.W.Frag} {ρ : List En} {N : List En → Prop} {R : Dt → List En → Prop} {te : TE} {i : Nat} {u : TS} (o : ∃ l, ρ[i]? = some (.own l))
    (h : AE K te ρ fun d ρ1 => ∃ l, ρ1[i]? = some (.own l) ∧ l.length < sizeLine ∧ i < ρ1.length ∧ AS K u (ρ1.set i (.da (.lst (l ++ [d])))) N R) : AS K (tSeq (tDrop (tBM K "list" rAppend (tVar i) (tCons te tNil))) u) ρ N R :=
  as_seq (as_append (ae_mono h fun d ρ1 ⟨l, e, hl, lt, k⟩ => ⟨l, e, hl, as_frz (l := l ++ [d]) (set_at lt) (by rw [List.set_set]; exact k)⟩) o)
theorem dep_oD {a : Option Int} : (oD a).dep = 1 := by cases a <;> rfl
theorem fit_oD {a : Option Int} : (oD a).fit = true := by cases a <;> rfl
theorem dep_pc : ∀ {P : Pcs}, deps (P.map pT) ≤ 3
  | [] => by decide
  | p :: P => by
    have := @dep_pc P
    rw [List.map_cons, deps]
    have e : (pT p).dep ≤ 3 := by
      simp only [pT, vT, vD, Dt.dep, deps, dep_oD]; decide
    omega
theorem fit_pc : ∀ {P : Pcs}, fits (P.map pT) = true
  | [] => rfl
  | p :: P => by
    rw [List.map_cons, fits, fit_pc (P := P)]
    simp [pT, vT, vD, Dt.fit, fits, fit_oD]
theorem fit_pcT {P : Pcs} (h : P.length ≤ 9000) : (pcT P).fit = true := by
  show (decide ((P.map pT).length ≤ 9000) && fits (P.map pT)) = true
  rw [fit_pc, List.length_map, decide_eq_true h]; rfl
theorem dep_pcT {P : Pcs} : (pcT P).dep ≤ 4 := by
  show deps (P.map pT) + 1 ≤ 4
  have := @dep_pc P
  omega
theorem dep_two {P Q : Pcs} : (Dt.lst [pcT P, pcT Q]).dep ≤ 8 := by
  have := @dep_pcT P
  have := @dep_pcT Q
  show max (pcT P).dep (max (pcT Q).dep 0) + 1 ≤ 8
  omega
theorem fit_two {P Q : Pcs} (h : P.length ≤ 9000) (k : Q.length ≤ 9000) : (Dt.lst [pcT P, pcT Q]).fit = true := by
  show (decide (2 ≤ 9000) && ((pcT P).fit && ((pcT Q).fit && true))) = true
  rw [fit_pcT h, fit_pcT k]; rfl
theorem as_norm {K : PySem.W.Frag} {ρ ρ' : List En} {N : List En → Prop} {R : Dt → List En → Prop} {ts : TS} (e : ρ = ρ') (h : AS K ts ρ' N R) : AS K ts ρ N R := by rw [e]; exact h
theorem ae_callK3 {K : PySem.W.Frag} {ρ : List En} {Ψ : Dt → List En → Prop} {E : XK} {tk : TA} {S : List Dt → Dt → Prop} {m : Nat} (hm : m = 3) (h : AA K tk ρ fun ds ρ1 => ∃ a b c, ds = [a, b, c] ∧ ∃ r, S [c, b, a] r ∧ Ψ r ρ1) : AE K (tCallK0 m (spP K S) List.reverse E tk) ρ Ψ :=
  ae_callK List.reverse (fun r _ => RDs.rev r) (fun B σ G H m Q q => h B σ G H m Q fun vs ds ρ' G' H' m' s t r ⟨a, b, c, e, k⟩ => q vs ds ρ' G' H' m' s t r ⟨by rw [e, hm]; rfl, by rw [e]; exact k⟩)
abbrev fS (p : Int × VT) : Dt := .lst [.int p.1, vT p.2]
theorem lift_s {t : Int × VT} : Dt.lst [.int t.1, vT t.2] = liftF pT fS (pT t) := (lift_is (g := fS) pT_inj t).symm
theorem ae_callK2 {K : PySem.W.Frag} {ρ : List En} {Ψ : Dt → List En → Prop} {E : XK} {tk : TA} {S : List Dt → Dt → Prop} {m : Nat} (hm : m = 2) (h : AA K tk ρ fun ds ρ1 => ∃ a b, ds = [a, b] ∧ ∃ r, S [b, a] r ∧ Ψ r ρ1) : AE K (tCallK0 m (spP K S) List.reverse E tk) ρ Ψ :=
  ae_callK List.reverse (fun r _ => RDs.rev r) (fun B σ G H m Q q => h B σ G H m Q fun vs ds ρ' G' H' m' s t r ⟨a, b, e, k⟩ => q vs ds ρ' G' H' m' s t r ⟨by rw [e, hm]; rfl, by rw [e]; exact k⟩)
theorem same_y {Ψ : Dt → Prop} {d : Dt} (e : d.dep ≤ 8 ∧ d.fit = true) (h : Ψ (.bl true)) : ∃ r, S_same 8 [d, d] r ∧ Ψ r := ⟨_, ⟨_, rfl, e.1, e.2, rfl⟩, h⟩
structure ArrS (n : Nat) (Z : List VT) : Prop where
  len : Z.length = n
  ok : ∀ x, x ∈ Z → VS x
def postF (ds : List Dt) (d : Dt) : Prop := ∀ n : Nat, ds = [.int (n : Int)] → ∃ Z : List VT, d = .lst (Z.map vT) ∧ ArrS n Z
theorem rep_cut {n : Nat} {v : VT} (n0 : 1 ≤ n) : cutF 0 (List.replicate n v) = [((n : Int), v)] := by
  have a : asc [((n : Int), v)] 0 := ⟨by omega, trivial⟩
  have h := mgd_cut a
  have s : sp [((n : Int), v)] 0 = List.replicate n v := by
    show List.replicate ((n : Int) - 0).toNat v ++ [] = _
    rw [List.append_nil]
    congr 1
  rw [s] at h
  rw [← h]; rfl
theorem sp_call {n : Nat} {k : Bool} {v : VT} (n0 : 1 ≤ n) : S_sp [.int (n : Int), vK k v] (pcT (cutF 0 (List.replicate n v))) := ⟨_, k, v, rfl, by rw [rep_cut n0]⟩
theorem rep_map {n : Nat} {v : VT} : List.replicate ((n : Nat) : Int).toNat (vT v) = (List.replicate n v).map vT := by rw [List.map_replicate, Int.toNat_natCast]
theorem dep_v {v : VT} : (vT v).dep ≤ 2 := by
  obtain ⟨a, b, m, r⟩ := v
  show max (oD a).dep (max (oD b).dep (max 1 (max 1 0))) + 1 ≤ 2
  rw [dep_oD, dep_oD]; decide
theorem fit_v {v : VT} : (vT v).fit = true := by
  obtain ⟨a, b, m, r⟩ := v
  simp [vT, vD, Dt.fit, fits, fit_oD]
theorem df_o {o : Option VT} : (oV o).dep ≤ 4 ∧ (oV o).fit = true := by
  cases o with
  | none => exact ⟨by decide, rfl⟩
  | some v => exact ⟨Nat.le_trans dep_v (by decide), fit_v⟩
theorem df_p {P : Pcs} (h : P.length ≤ 9000) : (pcT P).dep ≤ 4 ∧ (pcT P).fit = true := ⟨dep_pcT, fit_pcT h⟩
theorem df_n : (Dt.non).dep ≤ 4 ∧ (Dt.non).fit = true := ⟨by decide, rfl⟩
theorem df_two {a b : Dt} (h : a.dep ≤ 4 ∧ a.fit = true) (k : b.dep ≤ 4 ∧ b.fit = true) : (Dt.lst [.lst [a, b], .lst [a, b]]).dep ≤ 8 ∧ (Dt.lst [.lst [a, b], .lst [a, b]]).fit = true := by
  constructor
  · show max (max a.dep (max b.dep 0) + 1) (max (max a.dep (max b.dep 0) + 1) 0) + 1 ≤ 8
    omega
  · show (decide (2 ≤ 9000) && ((decide (2 ≤ 9000) && (a.fit && (b.fit && true))) && ((decide (2 ≤ 9000) && (a.fit && (b.fit && true))) && true))) = true
    rw [h.2, k.2]; rfl
theorem rd_all {n : Nat} {Z : List VT} {x : VT} (hz : ArrS n Z) (hx : VOk x) : rdP x 0 (cutF 0 Z) none = seL x 0 Z none := by
  obtain ⟨az, _, sz, _⟩ := cut_form Z 0
  rw [rd_se hx (cutF 0 Z) 0 none az (cut_vok fun z h => (hz.ok z h).ok) (fun w h => nomatch h), sz]
section
variable {P : Program} {w : World} {K : PySem.W.Frag} {mg : Str → Option Value} {base : Heap}
theorem ok_l_filled (bl : Blts mg) {g_l_take : Addr} {d_l_take : FuncData} (c_l_take : Cal P w K mg base 2 "_law_take" p_l_take (spB K 1 domT postT) g_l_take d_l_take) {g_l_value : Addr} {d_l_value : FuncData} (c_l_value : Cal P w K mg base 4 "_law_value" p_l_value (spB K 5 domV postV) g_l_value d_l_value) {g_l_index : Addr} {d_l_index : FuncData} (c_l_index : Cal P w K mg base 4 "_law_index" p_l_index (spB K 4 domX postX) g_l_index d_l_index) {g_l_cut : Addr} {d_l_cut : FuncData} (c_l_cut : Cal P w K mg base 1 "_law_cut" p_l_cut (spP K S_lcut) g_l_cut d_l_cut) {g_l_written : Addr} {d_l_written : FuncData} (c_l_written : Cal P w K mg base 6 "_law_written" p_l_written (spP K S_lwr) g_l_written d_l_written) {g_l_seen : Addr} {d_l_seen : FuncData} (c_l_seen : Cal P w K mg base 6 "_law_seen" p_l_seen (spP K S_lse) g_l_seen d_l_seen) {g_same_pieces : Addr} {d_same_pieces : FuncData} (c_same_pieces : Cal P w K mg base 21 "same_pieces" p_same_pieces (spP K S_sp) g_same_pieces d_same_pieces) {g_pieces_write : Addr} {d_pieces_write : FuncData} (c_pieces_write : Cal P w K mg base 22 "pieces_write" p_pieces_write (spP K S_pwr) g_pieces_write d_pieces_write) {g_pieces_read : Addr} {d_pieces_read : FuncData} (c_pieces_read : Cal P w K mg base 22 "pieces_read" p_pieces_read (spP K S_prd) g_pieces_read d_pieces_read) {g_l_same : Addr} {d_l_same : FuncData} (c_l_same : Cal P w K mg base 8 "_law_same" p_l_same (spP K (S_same 8)) g_l_same d_l_same) (k_same_pieces : KB0 K d_same_pieces p_same_pieces ["value", "n"] List.reverse List.reverse) (k_pieces_write : KB0 K d_pieces_write p_pieces_write ["value", "index", "pieces"] List.reverse List.reverse) (k_pieces_read : KB0 K d_pieces_read p_pieces_read ["index", "pieces"] List.reverse List.reverse)  {f : Addr} {fd : FuncData} (F : Fun K "_law_filled" "_law_filled" s_l_filled f fd) : FnOk P w K mg base CX0 23 f fd p_l_filled (spB K 78 (domX) (postF)) := by
  refine okB F sc_l_filled (fun ds h => ?_) (fun cdv A outer s H E hr ds h => ?_)
  · obtain ⟨n, rfl, n0, n1⟩ := h
    rfl
  obtain ⟨n, rfl, n0, n1⟩ := h
  refine ⟨_, (pss_cons (ps_set (i := 2) sc_l_filled.nd rfl (by first | exact Or.inl rfl | exact Or.inr rfl) (pe_call c_l_value.ok (hr.mono (by decide)) rfl c_l_value.mg c_l_value.kp c_l_value.bi .nil pass0 (pa_cons (pv 0) pa_nil)))
    (pss_cons (ps_set (i := 3) sc_l_filled.nd rfl (by first | exact Or.inl rfl | exact Or.inr rfl) (pe_op op_rep (pe_lst (pa_cons (pv 2) pa_nil)) (pv 1)))
    (pss_cons (ps_if (pt_not (pt_val (pe_call c_l_same.ok (hr.mono (by decide)) rfl c_l_same.mg c_l_same.kp c_l_same.bi .nil pass0 (pa_cons (pe_lst (pa_cons (pe_call c_same_pieces.ok (hr.mono (by decide)) rfl c_same_pieces.mg c_same_pieces.kp c_same_pieces.bi .nil pass0 (pa_cons (pv 1) (pa_cons (pv 2) pa_nil))) (pa_cons (pe_callK0 c_same_pieces.ok (hr.mono (by decide)) rfl c_same_pieces.mg c_same_pieces.kp k_same_pieces pass0 (pk_cons (pe_callTy call_list_of rfl bl.list (by decide +kernel) (pa_cons (pv 2) pa_nil)) (pk_cons (pv 1) pk_nil))) pa_nil))) (pa_cons (pe_op op_rep (pe_lst (pa_cons (pe_call c_l_cut.ok (hr.mono (by decide)) rfl c_l_cut.mg c_l_cut.kp c_l_cut.bi .nil pass0 (pa_cons (pv 3) pa_nil)) pa_nil)) pe_int) pa_nil))))) (pss_one (ps_ret pe_non)) pss_nil)
    (pss_cons (ps_for PassesOwn.never rfl (pi_range1 rfl bl.range (pa_cons (pe_call c_l_take.ok (hr.mono (by decide)) rfl c_l_take.mg c_l_take.kp c_l_take.bi .nil pass0 (pa_cons (pv 0) (pa_cons pe_int pa_nil))) pa_nil)) (pg_name (i := 4) sc_l_filled.nd rfl (by first | exact Or.inl rfl | exact Or.inr rfl)) (pss_cons (ps_par (i := 9) (j := 10) (by rfl) sc_l_filled.nd rfl rfl (by decide) rfl rfl (pa_cons (pe_call c_l_index.ok (hr.mono (by decide)) rfl c_l_index.mg c_l_index.kp c_l_index.bi .nil pass0 (pa_cons (pv 0) (pa_cons (pv 1) pa_nil))) (pa_cons (pe_call c_l_value.ok (hr.mono (by decide)) rfl c_l_value.mg c_l_value.kp c_l_value.bi .nil pass0 (pa_cons (pv 0) pa_nil)) pa_nil)) (by rfl))
    (pss_cons (ps_par (i := 11) (j := 12) (by rfl) sc_l_filled.nd rfl rfl (by decide) rfl rfl (pa_cons (pe_call c_l_written.ok (hr.mono (by decide)) rfl c_l_written.mg c_l_written.kp c_l_written.bi .nil pass0 (pa_cons (pv 3) (pa_cons (pv 9) (pa_cons (pv 10) pa_nil)))) (pa_cons (pe_call c_l_cut.ok (hr.mono (by decide)) rfl c_l_cut.mg c_l_cut.kp c_l_cut.bi .nil pass0 (pa_cons (pv 3) pa_nil)) pa_nil)) (by rfl))
    (pss_cons (ps_set (i := 5) sc_l_filled.nd rfl (by first | exact Or.inl rfl | exact Or.inr rfl) (pe_lst (pa_cons (pe_ifExp (pt_cmpR op_isN (pv 11) pe_non (nomark _)) pe_non (pe_call c_l_cut.ok (hr.mono (by decide)) rfl c_l_cut.mg c_l_cut.kp c_l_cut.bi .nil pass0 (pa_cons (pv 11) pa_nil))) (pa_cons (pe_call c_l_seen.ok (hr.mono (by decide)) rfl c_l_seen.mg c_l_seen.kp c_l_seen.bi .nil pass0 (pa_cons (pv 3) (pa_cons (pv 9) pa_nil))) pa_nil))))
    (pss_cons (ps_set (i := 6) sc_l_filled.nd rfl (by first | exact Or.inl rfl | exact Or.inr rfl) (pe_lst (pa_cons (pe_call c_pieces_write.ok (hr.mono (by decide)) rfl c_pieces_write.mg c_pieces_write.kp c_pieces_write.bi .nil pass0 (pa_cons (pv 12) (pa_cons (pv 9) (pa_cons (pv 10) pa_nil)))) (pa_cons (pe_call c_pieces_read.ok (hr.mono (by decide)) rfl c_pieces_read.mg c_pieces_read.kp c_pieces_read.bi .nil pass0 (pa_cons (pv 12) (pa_cons (pv 9) pa_nil))) pa_nil))))
    (pss_cons (ps_setLc (i := 7) (own := [("_law_part", 13)]) (g := (gName 13)) (te := (tCB (fun xs H Q => ∃ p ys, xs = [.ref p] ∧ (SqL K H p ys ∨ SqT K H p ys) ∧ ∀ l, H l = none → Q (.ref l) (upd H l (.lst ys))) (tCons (tVar 13) tNil))) (tt := tYes) rfl sc_l_filled.nd rfl rfl (sw_true rfl rfl rfl (by decide +kernel)) (pi_tup (pv 12)) (blkOk_by (N := N_l_filled) (sc := defScope s_l_filled) (by decide +kernel)) (fun _ _ _ _ _ => (pg_name (i := 13) sc_l_filled.nd rfl (by first | exact Or.inl rfl | exact Or.inr rfl))) (fun _ _ _ _ _ => pts_nil) (fun _ _ _ _ _ => (pe_callTy call_list_of rfl bl.list (by decide +kernel) (pa_cons (pv 13) pa_nil))))
    (pss_cons (ps_set (i := 8) sc_l_filled.nd rfl (by first | exact Or.inl rfl | exact Or.inr rfl) (pe_lst (pa_cons (pe_callK0 c_pieces_write.ok (hr.mono (by decide)) rfl c_pieces_write.mg c_pieces_write.kp k_pieces_write pass0 (pk_cons (pe_callTy call_list_of rfl bl.list (by decide +kernel) (pa_cons (pv 10) pa_nil)) (pk_cons (pe_callTy call_list_of rfl bl.list (by decide +kernel) (pa_cons (pv 9) pa_nil)) (pk_cons (pv 7) pk_nil)))) pa_nil)))
    (pss_cons (ps_expr (pe_bm PySem.F.plainAttrs_list PySem.F.slot_list_append PySem.F.type_list_append mt_append (pv 8) (pa_cons (pe_callK0 c_pieces_read.ok (hr.mono (by decide)) rfl c_pieces_read.mg c_pieces_read.kp k_pieces_read pass0 (pk_cons (pe_callTy call_list_of rfl bl.list (by decide +kernel) (pa_cons (pv 9) pa_nil)) (pk_cons (pv 7) pk_nil))) pa_nil)))
    (pss_cons (ps_if (pt_not (pt_val (pe_call c_l_same.ok (hr.mono (by decide)) rfl c_l_same.mg c_l_same.kp c_l_same.bi .nil pass0 (pa_cons (pe_lst (pa_cons (pv 6) (pa_cons (pv 8) pa_nil))) (pa_cons (pe_lst (pa_cons (pv 5) (pa_cons (pv 5) pa_nil))) pa_nil))))) (pss_one (ps_ret pe_non)) pss_nil)
    (pss_one (ps_set (i := 3) sc_l_filled.nd rfl (by first | exact Or.inl rfl | exact Or.inr rfl) (pe_ifExp (pt_cmpR op_isN (pv 11) pe_non (nomark _)) (pv 3) (pv 11)))))))))))))
    (pss_one (ps_ret (pv 3))))))), fun b F => ?_⟩
  change AS K _ [En.bx _ _, En.da _, En.no, En.no, En.no, En.no, En.no, En.no, En.no, En.no, En.no, En.no, En.no, En.no] _ _
  try simp only [cxOf_K, cxOf_w]
  refine as_seq ?_
  refine as_set ?_
  refine ae_draw (n := 5) rfl ?_
  refine aa_nil ?_
  refine ⟨rfl, F + 73, rfl, fun d hd => ?_⟩
  obtain ⟨w, rfl, hw⟩ := hd
  have hsame : S_sp [.int (n : Int), .tup [oD w.1, oD w.2.1, .int w.2.2.1, .int w.2.2.2]] (pcT (cutF 0 (List.replicate n w))) := sp_call (k := true) n0
  have hsame2 : S_sp [.int (n : Int), .lst [oD w.1, oD w.2.1, .int w.2.2.1, .int w.2.2.2]] (pcT (cutF 0 (List.replicate n w))) := sp_call (k := false) n0
  have hcut : S_lcut [.lst ((List.replicate n w).map vT)] (pcT (cutF 0 (List.replicate n w))) := ⟨_, rfl, by rw [List.length_replicate]; omega, rfl⟩
  have hZ : ArrS n (List.replicate n w) := ⟨List.length_replicate, fun x hx => by rw [List.eq_of_mem_replicate hx]; exact hw⟩
  have hcl := cut_len (List.replicate n w) 0
  rw [List.length_replicate] at hcl
  have dS : (Dt.lst [pcT (cutF 0 (List.replicate n w)), pcT (cutF 0 (List.replicate n w))]).dep ≤ 8 ∧ (Dt.lst [pcT (cutF 0 (List.replicate n w)), pcT (cutF 0 (List.replicate n w))]).fit = true := ⟨dep_two, fit_two (by omega) (by omega)⟩
  have hrp := @rep_map n w
  generalize cutF 0 (List.replicate n w) = P0 at hsame hsame2 hcut hcl dS
  generalize hZ0 : List.replicate n w = Z at hcut hZ hrp
  clear hZ0
  repeat' (first
    | ((with_reducible apply as_seq); (with_reducible apply as_norm); · (dsimp only [List.set_cons_zero, List.set_cons_succ, wipeE, List.map_cons, List.map_nil]))
    | with_reducible apply ae_call
    | (refine ar_repN (by omega) (by rw [sizeLine_eq]; omega) ?_; rw [hrp])
    | (with_reducible refine call_x hsame ?_)
    | (with_reducible refine call_x hcut ?_)
    | ((with_reducible refine ae_callK2 ?_ ?_); · rfl)
    | (with_reducible refine ⟨_, _, rfl, call_x hsame2 ?_⟩)
    | (refine ar_rep2 ?_)
    | (with_reducible refine same_y dS ?_)
    | with_reducible apply as_for
    | with_reducible apply as_next
    | with_reducible apply as_if
    | with_reducible apply as_set
    | ((with_reducible apply ae_var); · rfl)
    | with_reducible apply ae_int
    | with_reducible apply ae_op
    | with_reducible apply aa_nil
    | with_reducible apply aa_cons
    | with_reducible apply ae_cb
    | with_reducible apply ae_lst
    | with_reducible apply at_b
    | with_reducible apply at_not
    | with_reducible apply ac_listT
    | refine ⟨sz60 (Nat.le_of_ble_eq_true rfl), ?_⟩
    | refine ⟨_, rfl, ?_⟩
    | (refine ⟨fun hc => ?_, fun hc => ?_⟩ <;> (first | (exfalso; exact absurd (show false = true from hc) (by decide)) | (exfalso; exact absurd (show true = false from hc) (by decide)) | (exfalso; simp at hc; done) | skip))
    | fail)
  refine ai_rng1 ?_
  repeat' (first
    | ((with_reducible apply ae_take); · rfl)
    | (refine ⟨_, rfl, by decide, by decide, F + 72, rfl, fun v v0 v1 => ?_⟩)
    | with_reducible apply ae_int
    | with_reducible apply aa_nil
    | with_reducible apply aa_cons
    | refine ⟨_, rfl, ?_⟩
    | fail)
  have rgv : (rgD 0 v.toNat).length = v.toNat := by unfold rgD; rw [List.length_map, List.length_range]
  refine ⟨by omega, by omega, fun i ρ => ∃ (Z : List VT) (m F1 : Nat) (e4 e5 e6 e7 e8 e9 e10 e11 e12 e13 : En), i + m = v.toNat ∧ F + 9 * m ≤ F1 ∧ ArrS n Z ∧ ρ = [.bx b F1, .da (.int (n : Int)), .da (vT w), .da (.lst (Z.map vT)), e4, e5, e6, e7, e8, e9, e10, e11, e12, e13], ⟨Z, v.toNat, F + 72, _, _, _, _, _, _, _, _, _, _, by omega, by omega, hZ, rfl⟩, ?_, ?_⟩
  rotate_left
  · rintro ρ ⟨Z, m, F1, e4, e5, e6, e7, e8, e9, e10, e11, e12, e13, hm, hF, hz, rfl⟩
    repeat' (first
      | with_reducible apply as_ret
      | ((with_reducible apply ae_var); · rfl)
      | fail)
    refine ⟨fun n' e => ?_, _, rfl, by omega⟩
    have e' := Dt.int.inj (List.cons.inj e).1
    obtain rfl : n = n' := by omega
    exact ⟨Z, rfl, hz⟩
  clear hsame hsame2 hcut dS hrp hZ hcl
  rintro i dd ρ hi ⟨Z, m, F1, e4, e5, e6, e7, e8, e9, e10, e11, e12, e13, hm, hF, hz, rfl⟩
  have hlt := (List.getElem?_eq_some_iff.mp hi).1
  rw [rgv] at hlt
  obtain ⟨k, rfl⟩ : ∃ k, m = k + 1 := ⟨m - 1, by omega⟩
  obtain ⟨F2, rfl⟩ : ∃ F2, F1 = F2 + 9 := ⟨F1 - 9, by omega⟩
  refine ag_name ?_
  refine as_seq ?_
  refine as_par ?_
  refine aa_cons ?_
  refine ae_draw (n := 4) rfl ?_
  refine aa_cons (ae_var rfl (aa_nil ⟨⟨n, rfl, n0, n1⟩, F2 + 5, rfl, fun d hd => ?_⟩))
  obtain ⟨x, rfl, hx⟩ := hd
  refine aa_cons ?_
  refine ae_draw (n := 5) rfl ?_
  refine aa_nil ⟨rfl, F2, rfl, fun d hd => ?_⟩
  obtain ⟨v', rfl, hv⟩ := hd
  refine aa_nil ⟨_, _, rfl, ?_⟩
  have hl := hz.len
  have vz : ∀ z, z ∈ Z → VOk z := fun z h => (hz.ok z h).ok
  have hcl := cut_len Z 0
  have jC : S_lcut [.lst (Z.map vT)] (pcT (cutF 0 Z)) := ⟨Z, rfl, by omega, rfl⟩
  have jW : S_lwr [.lst (Z.map vT), vT x, vT v'] (wrI (wrL x v' Z)) := ⟨Z, x, v', rfl, ⟨by omega, by omega⟩, vz, hx, hv.ok, rfl⟩
  have jP : S_pwr [pcT (cutF 0 Z), vT x, vT v'] (wrD (wrL x v' Z)) := ⟨true, true, true, true, Z, x, v', rfl, ⟨by omega, by omega⟩, vz, hx, hv.ok, rfl⟩
  have jQ : S_pwr [.lst ((cutF 0 Z).map fS), .lst [oD x.1, oD x.2.1, .int x.2.2.1, .int x.2.2.2], .lst [oD v'.1, oD v'.2.1, .int v'.2.2.1, .int v'.2.2.2]] (wrD (wrL x v' Z)) := ⟨false, false, false, false, Z, x, v', rfl, ⟨by omega, by omega⟩, vz, hx, hv.ok, rfl⟩
  have jR : S_prd [pcT (cutF 0 Z), vT x] (oV (seL x 0 Z none)) := ⟨true, true, true, cutF 0 Z, x, rfl, by omega, cut_vok vz, by rw [rd_all hz hx]⟩
  have jT : S_prd [.lst ((cutF 0 Z).map fS), .lst [oD x.1, oD x.2.1, .int x.2.2.1, .int x.2.2.2]] (oV (seL x 0 Z none)) := ⟨false, false, false, cutF 0 Z, x, rfl, by omega, cut_vok vz, by rw [rd_all hz hx]⟩
  have jS : S_lse [.lst (Z.map vT), vT x] (oV (seL x 0 Z none)) := ⟨Z, x, rfl, by omega, vz, rfl⟩
  have zP : (cutF 0 Z).length < sizeLine := by rw [sizeLine_eq]; omega
  have dO := @df_o (seL x 0 Z none)
  generalize seL x 0 Z none = O at jR jT jS dO
  generalize cutF 0 Z = PZ at jC jP jQ jR jT zP
  clear hcl
  cases ho : wrL x v' Z with
  | none =>
    rw [ho] at jW jP jQ
    have jW : S_lwr [.lst (Z.map vT), vT x, vT v'] .non := jW
    have jP : S_pwr [pcT PZ, vT x, vT v'] .non := jP
    have jQ : S_pwr [.lst (PZ.map fS), .lst [oD x.1, oD x.2.1, .int x.2.2.1, .int x.2.2.2], .lst [oD v'.1, oD v'.2.1, .int v'.2.2.1, .int v'.2.2.2]] .non := jQ
    have dS := df_two df_n dO
    repeat' (first
      | (with_reducible refine as_own (i := 8) ?_)
      | (with_reducible refine as_appF ⟨_, rfl⟩ ?_)
      | ((with_reducible apply as_seq); (with_reducible apply as_norm); · (dsimp only [List.set_cons_zero, List.set_cons_succ, wipeE, List.map_cons, List.map_nil]))
      | with_reducible apply ae_call
      | (with_reducible refine call_x jW ?_)
      | (with_reducible refine call_x jC ?_)
      | (with_reducible refine call_x jP ?_)
      | (with_reducible refine call_x jR ?_)
      | (with_reducible refine call_x jS ?_)
      | ((with_reducible refine ae_callK3 ?_ ?_); · rfl)
      | (with_reducible refine ⟨_, _, _, rfl, call_x jQ ?_⟩)
      | ((with_reducible refine ae_callK2 ?_ ?_); · rfl)
      | (with_reducible refine ⟨_, _, rfl, call_x jT ?_⟩)
      | (with_reducible refine ⟨_, rfl, Nat.le_of_ble_eq_true rfl, Nat.le_of_ble_eq_true rfl, ?_⟩)
      | (with_reducible refine same_y dS ?_)
      | (with_reducible refine ae_lcMap (g := gName 13) (liftF pT fS) ?_)
      | with_reducible apply ai_tup
      | (refine ⟨_, rfl, (by rw [List.length_map]; assumption), fun d hd => ?_, ?_⟩)
      | (obtain ⟨t, ht, rfl⟩ := List.mem_map.mp hd; clear hd)
      | ((with_reducible apply agv_name); · decide)
      | (exact ⟨lift_s, rfl⟩)
      | (rw [lift_map pT_inj (g := fS)])
      | dsimp only [List.cons_append, List.nil_append]
      | (exact ⟨Z, k, F2, _, _, _, _, _, _, _, _, _, _, by omega, by omega, hz, rfl⟩)
      | with_reducible apply as_next
      | with_reducible apply as_if
      | with_reducible apply as_set
      | with_reducible apply as_par
      | ((with_reducible apply ae_var); · rfl)
      | with_reducible apply ae_non
      | with_reducible apply ae_op
      | with_reducible apply aa_nil
      | with_reducible apply aa_cons
      | with_reducible apply ae_cb
      | with_reducible apply ae_lst
      | with_reducible apply ae_if
      | with_reducible apply at_test
      | with_reducible apply at_b
      | with_reducible apply at_not
      | with_reducible apply ar_isN
      | with_reducible apply ac_listT
      | refine ⟨sz60 (Nat.le_of_ble_eq_true rfl), ?_⟩
      | refine ⟨_, rfl, ?_⟩
      | refine ⟨_, _, rfl, ?_⟩
      | (refine ⟨fun hc => ?_, fun hc => ?_⟩ <;> (first | (exfalso; exact absurd (show false = true from hc) (by decide)) | (exfalso; exact absurd (show true = false from hc) (by decide)) | (exfalso; simp at hc; done) | skip))
      | fail)
  | some Y =>
    rw [ho] at jW jP jQ
    have hY := wr_ok (Ph := VS) (fun a ha => VS.join ha hv) hv hz.ok ho
    have hy : ArrS n Y := ⟨hY.1.trans hl, hY.2⟩
    have hyl := hy.len
    have hcy := cut_len Y 0
    have jW : S_lwr [.lst (Z.map vT), vT x, vT v'] (.lst (Y.map vT)) := jW
    have jP : S_pwr [pcT PZ, vT x, vT v'] (pcT (cutF 0 Y)) := jP
    have jQ : S_pwr [.lst (PZ.map fS), .lst [oD x.1, oD x.2.1, .int x.2.2.1, .int x.2.2.2], .lst [oD v'.1, oD v'.2.1, .int v'.2.2.1, .int v'.2.2.2]] (pcT (cutF 0 Y)) := jQ
    have jD : S_lcut [.lst (Y.map vT)] (pcT (cutF 0 Y)) := ⟨Y, rfl, by omega, rfl⟩
    have dS := df_two (df_p (P := cutF 0 Y) (by omega)) dO
    generalize cutF 0 Y = PY at jP jQ jD dS
    repeat' (first
      | (with_reducible refine as_own (i := 8) ?_)
      | (with_reducible refine as_appF ⟨_, rfl⟩ ?_)
      | ((with_reducible apply as_seq); (with_reducible apply as_norm); · (dsimp only [List.set_cons_zero, List.set_cons_succ, wipeE, List.map_cons, List.map_nil]))
      | with_reducible apply ae_call
      | (with_reducible refine call_x jW ?_)
      | (with_reducible refine call_x jC ?_)
      | (with_reducible refine call_x jP ?_)
      | (with_reducible refine call_x jR ?_)
      | (with_reducible refine call_x jS ?_)
      | ((with_reducible refine ae_callK3 ?_ ?_); · rfl)
      | (with_reducible refine ⟨_, _, _, rfl, call_x jQ ?_⟩)
      | ((with_reducible refine ae_callK2 ?_ ?_); · rfl)
      | (with_reducible refine ⟨_, _, rfl, call_x jT ?_⟩)
      | (with_reducible refine ⟨_, rfl, Nat.le_of_ble_eq_true rfl, Nat.le_of_ble_eq_true rfl, ?_⟩)
      | (with_reducible refine same_y dS ?_)
      | (with_reducible refine ae_lcMap (g := gName 13) (liftF pT fS) ?_)
      | with_reducible apply ai_tup
      | (refine ⟨_, rfl, (by rw [List.length_map]; assumption), fun d hd => ?_, ?_⟩)
      | (obtain ⟨t, ht, rfl⟩ := List.mem_map.mp hd; clear hd)
      | ((with_reducible apply agv_name); · decide)
      | (exact ⟨lift_s, rfl⟩)
      | (rw [lift_map pT_inj (g := fS)])
      | dsimp only [List.cons_append, List.nil_append]
      | (with_reducible refine call_x jD ?_)
      | (exact ⟨Y, k, F2, _, _, _, _, _, _, _, _, _, _, by omega, by omega, hy, rfl⟩)
      | with_reducible apply as_next
      | with_reducible apply as_if
      | with_reducible apply as_set
      | with_reducible apply as_par
      | ((with_reducible apply ae_var); · rfl)
      | with_reducible apply ae_non
      | with_reducible apply ae_op
      | with_reducible apply aa_nil
      | with_reducible apply aa_cons
      | with_reducible apply ae_cb
      | with_reducible apply ae_lst
      | with_reducible apply ae_if
      | with_reducible apply at_test
      | with_reducible apply at_b
      | with_reducible apply at_not
      | with_reducible apply ar_isN
      | with_reducible apply ac_listT
      | refine ⟨sz60 (Nat.le_of_ble_eq_true rfl), ?_⟩
      | refine ⟨_, rfl, ?_⟩
      | refine ⟨_, _, rfl, ?_⟩
      | (refine ⟨fun hc => ?_, fun hc => ?_⟩ <;> (first | (exfalso; exact absurd (show false = true from hc) (by decide)) | (exfalso; exact absurd (show true = false from hc) (by decide)) | (exfalso; simp at hc; done) | skip))
      | fail)
end
end Sh
set_option Elab.async false
set_option linter.all false
set_option maxRecDepth 100000
set_option maxHeartbeats 4000000
/-! list(zip(xs, ys)), of two lists -/
namespace Sh
open PySem PySem.Spec PyProof.Rows L2
theorem zip_no_len : typeLookup (.type "zip") "__len__" = pure none := by rw [typeLookup_type, builtinLookup_eq_fast]; kernel_rfl
theorem zip_no_hint : typeLookup (.type "zip") "__length_hint__" = pure none := by rw [typeLookup_type, builtinLookup_eq_fast]; kernel_rfl
/-- new pairs, laid one after another -/
inductive NP : Hp → List V → List (V × V) → Hp → Prop where
  | nil {H : Hp} : NP H [] [] H
  | snoc {H H' : Hp} {ts : List V} {ps : List (V × V)} {T : Addr} {x y : V} : NP H ts ps H' → H' T = none → NP H (ts ++ [.ref T]) (ps ++ [(x, y)]) (upd H' T (.tup [x, y]))
theorem NP.len {H H' : Hp} {ts : List V} {ps : List (V × V)} (h : NP H ts ps H') : ts.length = ps.length := by
  induction h with
  | nil => rfl
  | snoc _ _ ih => rw [List.length_append, List.length_append, ih]; rfl
theorem NP.same {H H' : Hp} {ts : List V} {ps : List (V × V)} (h : NP H ts ps H') : Same H H' := by
  induction h with
  | nil => exact Same.refl _
  | snoc _ n ih => exact ih.trans (same_up n)
/-- where a zip stands -/
structure ZSt (z TI TO i1 i2 l1 l2 S : Addr) (i : Nat) (h : Heap) : Prop where
  ti : IsPair h TI (.ref i1) (.ref i2)
  a : h.IsListIter i1 l1 i
  b : h.IsListIter i2 l2 i
  s : (IsZip h z TI TO .none ∧ ∃ x y, IsPair h TO x y) ∨ ∃ T f oT, IsZipHeld h z TI TO T f ∧ h.get? T = some oT ∧ T ≠ z ∧ T ≠ i1 ∧ T ≠ i2 ∧ T ≠ S
theorem ZSt.keep {z TI TO i1 i2 l1 l2 S : Addr} {i : Nat} {h h' : Heap} (st : ZSt z TI TO i1 i2 l1 l2 S i h) (n : z ≠ S ∧ TI ≠ S ∧ TO ≠ S ∧ i1 ≠ S ∧ i2 ≠ S) (k : ∀ c o, c ≠ S → h.get? c = some o → h'.get? c = some o) : ZSt z TI TO i1 i2 l1 l2 S i h' where
  ti := k _ _ n.2.1 st.ti
  a := st.a.at fun o e => k _ o n.2.2.2.1 e
  b := st.b.at fun o e => k _ o n.2.2.2.2 e
  s := by
    rcases st.s with ⟨hz, x, y, h2⟩ | ⟨T, f, oT, hz, hT, r1, r2, r3, r4⟩
    · exact .inl ⟨k _ _ n.1 hz, x, y, k _ _ n.2.2.1 h2⟩
    · exact .inr ⟨T, f, oT, k _ _ n.1 hz, k _ _ r4 hT, r1, r2, r3, r4⟩
section
variable {X : Cx} {pins : List (Addr × Obj)} {σ : L2.St} {z TI TO i1 i2 l1 l2 S : Addr} {xs ys : List V} {A : Around}
theorem zl_next {E : Value → Shared → Prop} {Q : Option Value → Shared → Prop} {s : Shared} {H : Hp} {i : Nat} {x y : V} (D : ZipApart z TI TO i1 i2 l1 l2) (I : Inv X pins σ H s) (hx : SqL X.K H l1 xs) (hy : SqL X.K H l2 ys) (st : ZSt z TI TO i1 i2 l1 l2 S i s.heap)
    (hf : ∀ b ∈ [z, TO, i1, i2], FpOk X pins H b) (ex : xs[i]? = some x) (ey : ys[i]? = some y) (hS : S < s.heap.objs.size)
    (hQ : ∀ h', Inv X pins σ (upd H s.heap.objs.size (.tup [x, y])) { s with heap := h' } → ZSt z TI TO i1 i2 l1 l2 S (i + 1) h' → (∀ c o, c ∉ [z, TO, i1, i2] → s.heap.get? c = some o → h'.get? c = some o) → h'.objs.size = s.heap.objs.size + 1 →
      Q (some (.ref s.heap.objs.size)) { s with heap := h' }) : wpAny (model X.prog X.w) A (pyNext (.ref z)) Q E s := by
  obtain ⟨its, rv, p1, _⟩ := I.list hx
  obtain ⟨its2, rv2, p2, _⟩ := I.list hy
  obtain ⟨u, hu, rx⟩ := rv.get ex
  obtain ⟨v, hv, ry⟩ := rv2.get ey
  have lt : ∀ {c : Addr} {o : Obj}, s.heap.get? c = some o → c < s.heap.objs.size := fun e => Heap.lt_size e
  have n1 : i1 < s.heap.objs.size := by obtain ⟨_, e, _⟩ := st.a; exact lt e
  have n2 : i2 < s.heap.objs.size := by obtain ⟨_, e, _⟩ := st.b; exact lt e
  have lay : ∀ h', IsPair h' s.heap.objs.size u v → (∀ c o, c ∉ [z, TO, i1, i2] → s.heap.get? c = some o → h'.get? c = some o) → Inv X pins σ (upd H s.heap.objs.size (.tup [x, y])) { s with heap := h' } := fun h' hp k =>
    I.turnedNew (t' := s.toks) (ch := [z, TO, i1, i2]) k hf (Nat.le_refl _) (show ObjOk X.prog X.w _ _ _ (.tup [x, y]) from ⟨by show 2 ≤ sizeLine; decide, [u, v], .cons rx (.cons ry .nil), ⟨_, hp, rfl, _, rfl⟩⟩)
  have ti := st.ti
  have a := st.a
  have b := st.b
  rcases st.s with ⟨hz, a0, b0, hTO⟩ | ⟨T, f, oT, hz, hT, r1, r2, r3, r4⟩
  · have nz := lt hz
    have nTO := lt hTO
    refine wpAny_pyNext_zip_item D hz ti hTO a b p1.isList p2.isList (x := u) (y := v) (by simpa using hu) (by simpa using hv) fun h' a1 a2 a3 a4 a5 a6 hk => ?_
    have k : ∀ c o, c ∉ [z, TO, i1, i2] → s.heap.get? c = some o → h'.get? c = some o := fun c o hc e => hk c o (fun q => hc (by simp [q])) (fun q => hc (by simp [q])) (fun q => hc (by simp [q])) (fun q => hc (by simp [q])) e
    refine hQ h' (lay h' a5 k) ⟨hk _ _ D.TIz D.TITO D.TIi1 D.TIi2 ti, a3, a4, .inr ⟨s.heap.objs.size, false, _, a1, a5, Nat.ne_of_gt nz, Nat.ne_of_gt n1, Nat.ne_of_gt n2, Nat.ne_of_gt hS⟩⟩ k a6
  · have nz := lt hz
    refine wpAny_pyNext_zip_item_held D hz hT ti a b p1.isList p2.isList (x := u) (y := v) (by simpa using hu) (by simpa using hv) fun h' a1 a3 a4 a5 a6 hk => ?_
    have k : ∀ c o, c ∉ [z, TO, i1, i2] → s.heap.get? c = some o → h'.get? c = some o := fun c o hc e => hk c o (fun q => hc (by simp [q])) (fun q => hc (by simp [q])) (fun q => hc (by simp [q])) e
    refine hQ h' (lay h' a5 k) ⟨hk _ _ D.TIz D.TIi1 D.TIi2 ti, a3, a4, .inr ⟨T, true, oT, a1, hk _ _ r1 r2 r3 hT, r1, r2, r3, r4⟩⟩ k a6
theorem zl_end {E : Value → Shared → Prop} {Q : Option Value → Shared → Prop} {s : Shared} {H : Hp} {i : Nat} (hh : A.handled = none) (D : ZipApart z TI TO i1 i2 l1 l2) (I : Inv X pins σ H s) (hx : SqL X.K H l1 xs) (hy : SqL X.K H l2 ys) (st : ZSt z TI TO i1 i2 l1 l2 S i s.heap)
    (hf : ∀ b ∈ [z, TO, i1, i2], FpOk X pins H b) (he : xs[i]? = none ∨ ys[i]? = none)
    (hQ : ∀ h', Inv X pins σ H { s with heap := h' } → (∀ c o, c ∉ [z, TO, i1, i2] → s.heap.get? c = some o → h'.get? c = some o) → Q none { s with heap := h' }) : wpAny (model X.prog X.w) A (pyNext (.ref z)) Q E s := by
  obtain ⟨its, rv, p1, _⟩ := I.list hx
  obtain ⟨its2, rv2, p2, _⟩ := I.list hy
  have e1 := rv.length
  have e2 := rv2.length
  have hend : its.toArray[i]? = none ∨ its2.toArray[i]? = none := by
    rcases he with q | q
    · exact .inl (by simp; have := List.getElem?_eq_none_iff.mp q; omega)
    · exact .inr (by simp; have := List.getElem?_eq_none_iff.mp q; omega)
  rcases st.s with ⟨hz, a0, b0, hTO⟩ | ⟨T, f, oT, hz, hT, r1, r2, r3, r4⟩
  · refine wpAny_pyNext_zip_end hh D hz st.ti hTO st.a st.b p1.isList p2.isList hend fun h' hk => ?_
    have k : ∀ c o, c ∉ [z, TO, i1, i2] → s.heap.get? c = some o → h'.get? c = some o := fun c o hc e => hk c o (fun q => hc (by simp [q])) (fun q => hc (by simp [q])) (fun q => hc (by simp [q])) (fun q => hc (by simp [q])) e
    exact hQ h' (I.turnedL (t' := s.toks) (ch := [z, TO, i1, i2]) k hf) k
  · refine wpAny_pyNext_zip_end_held hh D hz hT st.ti st.a st.b p1.isList p2.isList hend fun h' hk => ?_
    have k : ∀ c o, c ∉ [z, TO, i1, i2] → s.heap.get? c = some o → h'.get? c = some o := fun c o hc e => hk c o (fun q => hc (by simp [q])) (fun q => hc (by simp [q])) (fun q => hc (by simp [q])) e
    exact hQ h' (I.turnedL (t' := s.toks) (ch := [z, TO, i1, i2]) k hf) k
theorem vals_snoc {xs : List V} {us : List Value} {x : V} {u : Value} (r : Vals xs us) (q : RelV x u) : Vals (xs ++ [x]) (us ++ [u]) := r.append (.cons q .nil)
theorem zl_loop {R : Result → Shared → Prop} {H0 : Hp} {n : Nat} (hh : A.handled = none) (D : ZipApart z TI TO i1 i2 l1 l2) (nS : z ≠ S ∧ TI ≠ S ∧ TO ≠ S ∧ i1 ≠ S ∧ i2 ≠ S) (hn : n = min xs.length ys.length) (hz : n ≤ sizeLine)
    (fz : ∀ b ∈ [z, TO, i1, i2], FpOk X pins H0 b) (fS : FpOk X pins H0 S) (base : Nat) (lz : ∀ b ∈ [z, TO, i1, i2], b < base) (lS : S < base)
    (hR : ∀ ts acc c H' s', NP H0 ts (xs.zip ys) H' → Vals ts acc → Inv X pins σ H' s' → s'.heap.get? S = some { cls := .type "list", dict := none, data := .seq acc.toArray c, slots := #[] } → H' S = none → R (.ok (.ret .none)) s') :
    ∀ (m i : Nat) (ts : List V) (acc : Array Value) (c : Nat) (s : Shared) (H : Hp), i + m = n → NP H0 ts ((xs.zip ys).take i) H → Vals ts acc.toList → Inv X pins σ H s → SqL X.K H l1 xs → SqL X.K H l2 ys → base ≤ s.heap.objs.size →
      ZSt z TI TO i1 i2 l1 l2 S i s.heap → (∀ b ∈ [z, TO, i1, i2], H b = none) → H S = none → s.heap.get? S = some { cls := .type "list", dict := none, data := .seq acc c, slots := #[] } →
      codeAny (model X.prog X.w) A (.builtin "list.extend.loop" ⟨[.ref S, .ref z, .none], []⟩) R s
  | 0, i, ts, acc, c, s, H, hi, np, hv, I, hx, hy, hb, st, uz, uS, hS => by
    have hf : ∀ b ∈ [z, TO, i1, i2], FpOk X pins H b := fun b hb' => ⟨uz b hb', (fz b hb').2⟩
    have hend : xs[i]? = none ∨ ys[i]? = none := by
      rcases Nat.le_total xs.length ys.length with h | h
      · exact .inl (List.getElem?_eq_none (by omega))
      · exact .inr (List.getElem?_eq_none (by omega))
    have htk : (xs.zip ys).take i = xs.zip ys := List.take_of_length_le (by rw [List.length_zip]; omega)
    rw [htk] at np
    refine codeAny_builtin F.entry_extend_loop ?_
    rw [Around.under_plainId F.plain_extend_loop _]
    show wpAny _ A.in1 (pyNext (.ref z) >>= _) _ _ s
    refine wpAny_bind (zl_end (A := A.in1) hh D I hx hy st hf hend fun h' I2 k => ?_)
    have hSn : S ∉ [z, TO, i1, i2] := by simp [nS.1.symm, nS.2.2.1.symm, nS.2.2.2.1.symm, nS.2.2.2.2.symm]
    have hS' := k S _ hSn hS
    exact wpAny_pure (hR ts acc.toList c H _ np hv I2 (by simpa using hS') uS)
  | m + 1, i, ts, acc, c, s, H, hi, np, hv, I, hx, hy, hb, st, uz, uS, hS => by
    have hf : ∀ b ∈ [z, TO, i1, i2], FpOk X pins H b := fun b hb' => ⟨uz b hb', (fz b hb').2⟩
    have lx : i < xs.length := by omega
    have ly : i < ys.length := by omega
    have ex := List.getElem?_eq_getElem lx
    have ey := List.getElem?_eq_getElem ly
    have hSn : S ∉ [z, TO, i1, i2] := by simp [nS.1.symm, nS.2.2.1.symm, nS.2.2.2.1.symm, nS.2.2.2.2.symm]
    have hac : acc.size = i := by
      have e1 := Vals.length hv
      have e2 := np.len
      rw [List.length_take, List.length_zip] at e2
      have e3 : acc.toList.length = acc.size := Array.length_toList
      omega
    have htk : (xs.zip ys).take (i + 1) = (xs.zip ys).take i ++ [(xs[i], ys[i])] := by
      rw [List.take_add_one, zip_get ex ey]; rfl
    refine codeAny_builtin F.entry_extend_loop ?_
    rw [Around.under_plainId F.plain_extend_loop _]
    show wpAny _ A.in1 (pyNext (.ref z) >>= _) _ _ s
    have nN : H s.heap.objs.size = none := I.hok.fresh (Nat.le_refl _)
    refine wpAny_bind (zl_next (A := A.in1) D I hx hy st hf ex ey (Nat.lt_of_lt_of_le lS hb) fun h' I1 st1 k hsz => ?_)
    have hS1 := k S _ hSn hS
    have uS1 : (upd H s.heap.objs.size (.tup [xs[i], ys[i]])) S = none := by rw [upd_ne (Nat.ne_of_lt (Nat.lt_of_lt_of_le lS hb))]; exact uS
    show wpAny _ A.in1 (updateSeq S (·.push (.ref s.heap.objs.size)) >>= _) _ _ _
    refine wpAny_bind ?_
    have upS := Heap.get?_update_self (Obj.mapSeq (·.push (Value.ref s.heap.objs.size))) hS1 rfl
    have sb : Heap.SameBut S h' (h'.update S (Obj.mapSeq (·.push (Value.ref s.heap.objs.size)))) := Heap.SameBut.update ..
    have I2 : Inv X pins σ (upd H s.heap.objs.size (.tup [xs[i], ys[i]])) { s with heap := h'.update S (Obj.mapSeq (·.push (Value.ref s.heap.objs.size))) } :=
      Inv.turnedL (s := { s with heap := h' }) (t' := s.toks) (ch := [S]) I1 (fun b o hb' e => sb.extBut b o (fun q => hb' (by simp [q])) e) (fun b hb' => by rw [List.mem_singleton.mp hb']; exact ⟨uS1, fS.2⟩)
    have np1 : NP H0 (ts ++ [.ref s.heap.objs.size]) ((xs.zip ys).take (i + 1)) (upd H s.heap.objs.size (.tup [xs[i], ys[i]])) := by rw [htk]; exact .snoc np nN
    have sm : Same H (upd H s.heap.objs.size (.tup [xs[i], ys[i]])) := same_up nN
    refine wpAny_updateSeq hS1 rfl (wpAny_pure ⟨plainId_quiet F.plain_extend_loop _, zl_loop hh D nS hn hz fz fS base lz lS hR m (i + 1) (ts ++ [.ref s.heap.objs.size]) (acc.push (.ref s.heap.objs.size)) _ _ _ (by omega) np1 ?_ I2 (same_sqL sm hx) (same_sqL sm hy) ?_ (st1.keep nS fun c o hc e => sb.extBut c o hc e) ?_ uS1 upS⟩)
      (by rw [hac]; omega) (by show (acc.push _).size ≤ sizeLine + 1; rw [Array.size_push, hac]; omega)
    · rw [Array.toList_push]; exact vals_snoc hv rfl
    · show base ≤ (h'.update S _).objs.size
      rw [sb.1, hsz]; omega
    · intro b hb'
      rw [upd_ne (Nat.ne_of_lt (Nat.lt_of_lt_of_le (lz b hb') hb))]
      exact uz b hb'
theorem call_listZip {E : Value → Shared → Prop} {Q : Value → Shared → Prop} {s : Shared} {H : Hp} (hh : A.handled = none) (D : ZipApart z TI TO i1 i2 l1 l2) (I : Inv X pins σ H s) (hx : SqL X.K H l1 xs) (hy : SqL X.K H l2 ys) (hz : min xs.length ys.length ≤ sizeLine)
    (hi : IsZip s.heap z TI TO .none) (ti : IsPair s.heap TI (.ref i1) (.ref i2)) (to : ∃ x y, IsPair s.heap TO x y) (a : s.heap.IsListIter i1 l1 0) (b : s.heap.IsListIter i2 l2 0) (fz : ∀ b ∈ [z, TO, i1, i2], FpOk X pins H b)
    (hQ : ∀ ts acc c H' s' S, NP H ts (xs.zip ys) H' → Vals ts acc → Inv X pins σ H' s' → s'.heap.get? S = some { cls := .type "list", dict := none, data := .seq acc.toArray c, slots := #[] } → ts.length ≤ sizeLine → H' S = none → FpOk X pins H' S → Q (.ref S) s') :
    wpAny (model X.prog X.w) A (call (.type "list") [.ref z]) Q E s := by
  obtain ⟨x0, y0, hTO⟩ := to
  have lt : ∀ {c : Addr} {o : Obj}, s.heap.get? c = some o → c < s.heap.objs.size := fun e => Heap.lt_size e
  have n1 : i1 < s.heap.objs.size := by obtain ⟨_, e, _⟩ := a; exact lt e
  have n2 : i2 < s.heap.objs.size := by obtain ⟨_, e, _⟩ := b; exact lt e
  have nz := lt hi
  have nTI := lt ti
  have nTO := lt hTO
  have nS : z ≠ s.heap.objs.size ∧ TI ≠ s.heap.objs.size ∧ TO ≠ s.heap.objs.size ∧ i1 ≠ s.heap.objs.size ∧ i2 ≠ s.heap.objs.size := ⟨Nat.ne_of_lt nz, Nat.ne_of_lt nTI, Nat.ne_of_lt nTO, Nat.ne_of_lt n1, Nat.ne_of_lt n2⟩
  refine callType_codes (Q₁ := fun obj s₁ => obj = .ref s.heap.objs.size ∧ s₁ = { s with heap := s.heap.push { cls := .type "list", data := .seq #[] } }) F.called_list (F.typeCall_list_1 _) F.entry_list_init
    (code_list_new _ ⟨rfl, rfl⟩) fun obj s₁ h₁ => ?_
  obtain ⟨rfl, rfl⟩ := h₁
  have hS : (s.heap.push { cls := .type "list", data := .seq #[] }).get? s.heap.objs.size = some { cls := .type "list", data := .seq #[] } := Heap.get?_push_size _ rfl
  refine ⟨⟨_, hS, rfl⟩, F.args_list_init_2 _ _, ?_⟩
  show wpAny _ A.in1.in1 (do let old ← Builtin.List.listItems (.ref s.heap.objs.size); Builtin.List.listUpdate (.ref s.heap.objs.size) (fun _ => #[]); letGo old.toList.reverse; Builtin.List.listExtendWith (.ref s.heap.objs.size) (.ref z) .none) _ _ _
  refine wpAny_bind ?_
  unfold Builtin.List.listItems
  refine wpAny_bind (wpAny_seqItems hS rfl (wpAny_pure ?_))
  show wpAny _ A.in1.in1 (updateSeq s.heap.objs.size (fun _ => #[]) >>= fun _ => letGo (#[] : Array Value).toList.reverse >>= fun _ => Builtin.List.listExtendWith (.ref s.heap.objs.size) (.ref z) .none) _ _ _
  refine wpAny_bind (wpAny_updateSeq hS rfl ?_)
  have hS2 := Heap.get?_update_self (Obj.mapSeq (fun _ => (#[] : Array Value))) hS rfl
  refine wpAny_bind (wpAny_letGo ?_)
  have oth1 : ∀ b o, b ≠ s.heap.objs.size → s.heap.get? b = some o → ((s.heap.push { cls := .type "list", data := .seq #[] }).update s.heap.objs.size (Obj.mapSeq (fun _ => (#[] : Array Value)))).get? b = some o :=
    fun b o hb e => (Heap.get?_update_other _ _ (Ne.symm hb)).trans (Heap.get?_push_of_some _ e)
  have hi1 := oth1 _ _ nS.1 hi
  have hTy : ∀ {s' : Shared}, IsZip s'.heap z TI TO .none → s'.TypeIs (.ref z) "zip" := fun h => ⟨_, h, rfl⟩
  unfold Builtin.List.listExtendWith
  refine wpAny_bind (wpAny_typeOf (hTy hi1) ?_)
  have h1 : Builtin.List.listSameRef (.ref s.heap.objs.size) (.ref z) = false := by simp [Builtin.List.listSameRef, Ne.symm nS.1]
  have h2 : (Value.type "zip" == Value.type "list") = false := by decide
  have h3 : (Value.type "zip" == Value.type "tuple") = false := by decide
  simp only [h1, h2, h3, Bool.or_false, Bool.false_eq_true, if_false]
  refine wpAny_bind (wpAny_pyIter_zip hi1 ?_)
  refine wpAny_bind (wpAny_holding ?_)
  unfold Builtin.List.listLengthHint
  refine wpAny_bind (wpAny_specialOf (hTy hi1) zip_no_len ?_)
  show wpAny _ A.in1.in1 (specialOf (Value.ref z) (Str.ofString "__length_hint__") >>= _) _ _ _
  refine wpAny_bind (wpAny_specialOf (hTy hi1) zip_no_hint ?_)
  refine wpAny_pure ?_
  show wpAny _ A.in1.in1 (rule "list.extend.makes-room" >>= fun _ => Builtin.List.listTouch (.ref s.heap.objs.size) >>= fun _ =>
    again (.builtin "list.extend.loop" ⟨[.ref s.heap.objs.size, .ref z, .none], []⟩)) _ _ _
  refine wpAny_bind (wpAny_rule ?_)
  refine wpAny_bind ?_
  show wpAny _ A.in1.in1 (updateSeq s.heap.objs.size (·.push .none) >>= fun _ => updateSeq s.heap.objs.size (·.pop)) _ _ _
  refine wpAny_bind (wpAny_updateSeq hS2 rfl ?_)
  have hS3 := Heap.get?_update_self (Obj.mapSeq (·.push Value.none)) hS2 rfl
  refine wpAny_updateSeq (hz := by seq_fits) hS3 rfl ?_
  have hS4 := Heap.get?_update_self (Obj.mapSeq (·.pop)) hS3 rfl
  have oth : ∀ b o, b ≠ s.heap.objs.size → s.heap.get? b = some o →
      ((((s.heap.push { cls := .type "list", data := .seq #[] }).update s.heap.objs.size (Obj.mapSeq (fun _ => (#[] : Array Value)))).update s.heap.objs.size (Obj.mapSeq (·.push Value.none))).update s.heap.objs.size (Obj.mapSeq (·.pop))).get? b = some o :=
    fun b o hb e => (Heap.get?_update_other _ _ (Ne.symm hb)).trans ((Heap.get?_update_other _ _ (Ne.symm hb)).trans (oth1 b o hb e))
  have I4 := I.kept (t' := s.toks) (h' := (((s.heap.push { cls := .type "list", data := .seq #[] }).update s.heap.objs.size (Obj.mapSeq (fun _ => (#[] : Array Value)))).update s.heap.objs.size (Obj.mapSeq (·.push Value.none))).update s.heap.objs.size (Obj.mapSeq (·.pop)))
    fun b o e => oth b o (Nat.ne_of_lt (Heap.lt_size e)) e
  have uS : H s.heap.objs.size = none := I.hok.fresh (Nat.le_refl _)
  have fS : FpOk X pins H s.heap.objs.size := I.fpOk (Nat.le_refl _) uS
  have lz : ∀ b ∈ [z, TO, i1, i2], b < s.heap.objs.size + 1 := fun c hc => by
    have e' : c = z ∨ c = TO ∨ c = i1 ∨ c = i2 := by simpa using hc
    rcases e' with q | q | q | q <;> (rw [q]; exact Nat.lt_succ_of_lt (by assumption))
  refine wpAny_pure ⟨plainId_quiet F.plain_extend_loop _, zl_loop (S := s.heap.objs.size) (n := min xs.length ys.length) (H0 := H) (A := A.in1) hh D nS rfl hz fz fS (s.heap.objs.size + 1) lz (Nat.lt_succ_self _) ?_ (min xs.length ys.length) 0 [] _ _ _ H (Nat.zero_add _) (by rw [List.take_zero]; exact .nil) .nil I4 hx hy ?_
    ⟨oth _ _ nS.2.1 ti, a.at fun o e => oth _ o nS.2.2.2.1 e, b.at fun o e => oth _ o nS.2.2.2.2 e, .inl ⟨oth _ _ nS.1 hi, x0, y0, oth _ _ nS.2.2.1 hTO⟩⟩ (fun b hb => (fz b hb).1) uS hS4⟩
  · intro ts acc c H' s' np hv I' hS' uS'
    exact ⟨rfl, hQ ts acc c H' s' _ np hv I' hS' (by rw [np.len, List.length_zip]; exact hz) uS' ⟨uS', fS.2⟩⟩
  · show s.heap.objs.size + 1 ≤ (Heap.update _ _ _).objs.size
    simp only [Heap.size_update, Heap.size_push]
    exact Nat.le_refl _
/-- an object of ours that stands already is tracked from here on -/
theorem inv_track {s : Shared} {H : Hp} {ob : HO} (I : Inv X pins σ H s) (f : FpOk X pins H S) (new : ObjOk X.prog X.w (upd H S ob) s.heap S ob) : Inv X pins σ (upd H S ob) s := by
  have hn : H S = none := f.1
  refine I.step (h' := s.heap) (t' := s.toks) (g' := s.gens) (d' := s.drawn) (ch := [S]) (fun b hb => ?_) (fun b o _ _ hc e _ => e) (fun b o _ _ hc e _ => ⟨o.slots, e⟩)
    (fun b o hc e n => ?_) (fun b o hc e => ⟨o, e⟩) (fun b xs e => ?_) (fun b o u e => ?_) (fun b ps e => ⟨#[], ?_⟩) (fun m hm => hm) (fun b u e => ?_) I.bare
  · rw [List.mem_singleton.mp hb]
    exact ⟨f.2.2.2.1, f.2.1, f.2.2.2.2.1, f.2.2.2.2.2⟩
  · rw [upd_ne (fun z => hc (by simp [z]))]; exact n
  · rw [upd_ne (ne_of_none e hn)]; exact e
  · rw [upd_ne (ne_of_none e hn)]; exact e
  · rw [upd_ne (ne_of_none e hn), e]; simp
  · by_cases hb : b = S
    · subst hb
      rw [upd_same] at e
      cases e
      exact new
    · rw [upd_ne hb] at e
      exact (I.hok b u e).stay (fun c v _ q => q) (fun c q => by rw [upd_ne (ne_of_none q hn)]; exact q) fun c xs q => by rw [upd_ne (ne_of_none q hn)]; exact q
end
def tListZip (K : PySem.W.Frag) (ta : TA) : TE := fun σ H Q => ta σ H fun vs H1 => ∃ a b xs ys, vs = [V.ref a, V.ref b] ∧ SqL K H1 a xs ∧ SqL K H1 b ys ∧ ∀ ts H2 l, NP H1 ts (xs.zip ys) H2 → H2 l = none → Q (.ref l) (upd H2 l (.lst ts))
section
variable {X : Cx}
theorem pe_listZip {e e2 : Expr} {ta : TA} {p0 pos p pos2 : Pos} (hc : X.calm = true) (hgs : Gl X "list") (hms : X.mg "list" = none) (hg : Gl X "zip") (hm : X.mg "zip" = none) (ha : PA X [e, e2] ta)
    (hs1 : starEach [.Call (.Name "zip" p) [e, e2] [] pos2] X.env = (false, eval (.Call (.Name "zip" p) [e, e2] [] pos2) X.env) :: starEach [] X.env := by rfl)
    (hp1 : (backTo pos (starEach [] X.env)).any (·.1) = false := by rfl)
    (hs : starEach [e, e2] X.env = (false, eval e X.env) :: starEach [e2] X.env := by rfl) (hpl : (backTo pos2 (starEach [e2] X.env)).any (·.1) = false := by rfl) :
    PE X (.Call (.Name "list" p0) [.Call (.Name "zip" p) [e, e2] [] pos2] [] pos) (tListZip X.K ta) := by
  refine ⟨fun pins s σ H Q I h => ?_⟩
  have hh : X.A.handled = none := I.ok.hd hc
  refine wpAny_Call_Name_kw (ld_blt I hgs hms (u := .type "list") (by decide +kernel) ?_)
  refine PyProof.Rows.callWith_type1 ?_ hs1 hp1
  rw [hs1]
  show wpAny _ _ (spliced ((false, eval (.Call (.Name "zip" p) [e, e2] [] pos2) X.env) :: backTo pos (starEach [] X.env))) _ _ s
  refine Calls.spliced_cons ?_
  refine Call_ (ld_blt I hg hm PyProof.Rows.boot_zip (PyProof.Rows.callWith_type1 (thn (ha.run pos2 pins s σ H _ I h) fun us s1 ⟨vs, H1, I1, r1, q1⟩ => ?_) hs hpl))
  obtain ⟨a, b, xs, ys, ex, hqx, hqy, q⟩ := q1
  subst ex
  cases r1 with
  | cons r rr =>
    cases rr with
    | cons r' rr =>
      cases rr
      cases r
      cases r'
      obtain ⟨its, rv, p1, zx⟩ := I1.list hqx
      obtain ⟨its2, rv2, p2, zy⟩ := I1.list hqy
      have l1 := rv.length
      refine call_zip_2 p1.isList p2.isList fun h' hz hTI hTO h1 h2 hsz hk => ?_
      have I2 : Inv X pins σ H1 { s1 with heap := h' } := I1.kept (t' := s1.toks) hk
      have fz : ∀ c ∈ [s1.heap.objs.size + 4, s1.heap.objs.size + 3, s1.heap.objs.size, s1.heap.objs.size + 1], FpOk X pins H1 c := fun c hcm => by
        have e' : c = s1.heap.objs.size + 4 ∨ c = s1.heap.objs.size + 3 ∨ c = s1.heap.objs.size ∨ c = s1.heap.objs.size + 1 := by simpa using hcm
        have hle : s1.heap.objs.size ≤ c := by
          rcases e' with z | z | z | z
          · rw [z]; exact Nat.le_add_right _ _
          · rw [z]; exact Nat.le_add_right _ _
          · rw [z]; exact Nat.le_refl _
          · rw [z]; exact Nat.le_add_right _ _
        exact I1.fpOk hle (I1.hok.fresh hle)
      refine Calls.spliced_nil ?_
      refine call_listZip (xs := xs) (ys := ys) hh (PySem.W.ktu_apart s1.heap.objs.size a b p1.lt p2.lt) I2 hqx hqy (by omega) hz hTI ⟨_, _, hTO⟩ h1 h2 fz fun ts acc c H' s' S np hv I' hS hlen hn hf => ?_
      have I3 : Inv X pins σ (upd H' S (.lst ts)) s' := inv_track I' hf (show ObjOk X.prog X.w _ _ _ (.lst ts) from ⟨hlen, acc, c, hv, by rw [hS]⟩)
      exact ⟨.ref S, _, I3, rfl, q ts H' S np hn⟩
end
end Sh
set_option Elab.async false
set_option linter.all false
set_option maxRecDepth 100000
set_option maxHeartbeats 4000000
namespace Sh
open PySem PySem.Spec PyProof.Rows L2
section
variable {K : PySem.W.Frag} {ρ : List En} {Ψ : Dt → List En → Prop} {Φ : Dt → Prop}
theorem rds_unsnoc {G : Hp} : ∀ {l : List Dt} {xs : List V} {x : V}, RDs K G l (xs ++ [x]) → ∃ l' d, l = l' ++ [d] ∧ RDs K G l' xs ∧ RD K G d x
  | [], xs, x, h => by
    have h' : xs ++ [x] = [] := h
    simp at h'
  | d :: l, [], x, ⟨y, r, e, h1, h2⟩ => by
    have e' : [x] = y :: r := e
    cases e'
    cases l with
    | nil => exact ⟨[], d, rfl, rfl, h1⟩
    | cons d' l =>
      obtain ⟨_, _, z, _⟩ := h2
      cases z
  | d :: l, z :: xs, x, ⟨y, r, e, h1, h2⟩ => by
    have e' : z :: (xs ++ [x]) = y :: r := e
    cases e'
    obtain ⟨l', d', e2, h3, h4⟩ := rds_unsnoc h2
    exact ⟨d :: l', d', by rw [e2]; rfl, ⟨z, xs, rfl, h1, h3⟩, h4⟩
theorem np_data {G H H2 : Hp} {ts : List V} {ps : List (V × V)} (np : NP H ts ps H2) : ∀ (l m : List Dt), Same G H → RDs K G l (ps.map (·.1)) → RDs K G m (ps.map (·.2)) → ∃ G', Nw G H G' H2 ∧ RDs K G' (zpD l m) ts := by
  induction np with
  | nil =>
    intro l m s h1 h2
    have e : l = [] := List.eq_nil_of_length_eq_zero (by have := h1.length; simpa using this.symm)
    subst e
    exact ⟨G, Nw.refl s, rfl⟩
  | @snoc H' ts ps T x y np n ih =>
    intro l m s h1 h2
    rw [List.map_append] at h1 h2
    obtain ⟨l', d, rfl, a1, a2⟩ := rds_unsnoc h1
    obtain ⟨m', e, rfl, b1, b2⟩ := rds_unsnoc h2
    obtain ⟨G1, nw, rd⟩ := ih l' m' s a1 b1
    obtain ⟨G2, nw2, rd2⟩ := nw_pair (K := K) nw.s n (a2.same nw.g) (b2.same nw.g)
    have len : l'.length = m'.length := by
      have q1 := a1.length
      have q2 := b1.length
      rw [List.length_map] at q1 q2
      omega
    refine ⟨G2, nw.trans nw2, ?_⟩
    have e3 : zpD (l' ++ [d]) (m' ++ [e]) = zpD l' m' ++ [.tup [d, e]] := by
      unfold zpD
      rw [List.zip_append len, List.map_append]; rfl
    rw [e3]
    exact (rd.same nw2.g).snoc rd2
theorem zip_fst {α β : Type} : ∀ {xs : List α} {ys : List β}, xs.length = ys.length → (xs.zip ys).map (·.1) = xs ∧ (xs.zip ys).map (·.2) = ys
  | [], [], _ => ⟨rfl, rfl⟩
  | x :: xs, y :: ys, h => by
    obtain ⟨h1, h2⟩ := zip_fst (xs := xs) (ys := ys) (by simpa using h)
    exact ⟨by rw [List.zip_cons_cons, List.map_cons, h1], by rw [List.zip_cons_cons, List.map_cons, h2]⟩
theorem ae_listZip {ta : TA} (h : AA K ta ρ fun ds ρ1 => ∃ l m, ds = [.lst l, .lst m] ∧ l.length = m.length ∧ Ψ (.lst (zpD l m)) ρ1) : AE K (tListZip K ta) ρ Ψ := fun B σ G H mm Q q =>
  h B σ G H mm _ fun vs ds ρ1 G1 H1 m1 s1 t1 r1 ⟨l, m, e, len, p⟩ => by
    subst e
    obtain ⟨x, y, rfl, ⟨a, xs, rfl, h1, h2⟩, ⟨b, ys, rfl, h3, h4⟩⟩ := r1.two
    refine ⟨a, b, xs, ys, rfl, SqL.of (m1.sub _ _ h1), SqL.of (m1.sub _ _ h3), fun ts H2 c np hc => ?_⟩
    have e1 := h2.length
    have e2 := h4.length
    obtain ⟨z1, z2⟩ := zip_fst (xs := xs) (ys := ys) (by omega)
    obtain ⟨G2, nw, rd⟩ := np_data (K := K) np l m m1.sub (by rw [z1]; exact h2) (by rw [z2]; exact h4)
    have nw2 := Nw.new (o := .lst ts) nw.s hc
    exact q (.ref c) (.lst (zpD l m)) ρ1 _ _ ((m1.nw nw).nw nw2) ((s1.trans nw.g).trans nw2.g) ((t1.trans (Tr.same nw.h)).trans (Tr.same nw2.h)) ⟨c, ts, rfl, upd_same, rd.same nw2.g⟩ p
theorem ar_inD {d : Dt} {l : List Dt} (p1 : d.pl = true) (p2 : pls l = true) (s1 : SeqAt.shaped d.pd = true) (s2 : SeqAt.shaped (Dt.lst l).pd = true) (h : Φ (.bl ((pds l).any fun z => PyData.eqv z d.pd))) : AR K (rInD K) d (.lst l) Φ := fun G H s x y r1 r2 Q q =>
  ⟨d.pd, pds l, r1.dp s p1, (show Dp K H y (Dt.lst l).pd from r2.dp s p2), s1, s2, q _ (.bl _) G H (Nw.refl s) rfl h⟩
end
theorem room65 {k : Nat} {A : Around} (r : Room k A) : A.units + 65 < cLine := by have := r.un; omega
end Sh
set_option Elab.async false
set_option linter.all false
set_option maxRecDepth 100000
set_option maxHeartbeats 4000000
namespace Sh
open PySem PySem.Spec PyProof.Rows L2
def prD (p : VT × VT) : Dt := .tup [vT p.1, vT p.2]
theorem prD_inj (s t : VT × VT) (h : prD s = prD t) : s = t := by
  obtain ⟨a, b⟩ := s
  obtain ⟨c, d⟩ := t
  have h' := Dt.tup.inj h
  have e1 : a = c := vT_inj (List.cons.inj h').1
  have e2 : b = d := vT_inj (List.cons.inj (List.cons.inj h').2).1
  rw [e1, e2]
theorem zp_is : ∀ {Z Y : List VT}, zpD (Z.map vT) (Y.map vT) = (Z.zip Y).map prD
  | [], Y => by simp [zpD]
  | z :: Z, [] => by simp [zpD]
  | z :: Z, y :: Y => by
    show Dt.tup [vT z, vT y] :: zpD (Z.map vT) (Y.map vT) = _
    rw [zp_is]; rfl
theorem zip_left {f : VT → VT → VT} : ∀ {Z Y : List VT} {p : VT × VT}, p ∈ Z.zip ((Z.zip Y).map fun q => f q.1 q.2) → ∃ b, (p.1, b) ∈ Z.zip Y ∧ p.2 = f p.1 b
  | z :: Z, y :: Y, p, h => by
    rcases List.mem_cons.mp (show p ∈ (z, f z y) :: Z.zip ((Z.zip Y).map fun q => f q.1 q.2) from h) with rfl | h
    · exact ⟨y, List.mem_cons_self, rfl⟩
    · obtain ⟨b, h1, h2⟩ := zip_left h
      exact ⟨b, List.mem_cons_of_mem _ h1, h2⟩
  | z :: Z, [], p, h => by simp at h
  | [], Y, p, h => by simp at h
theorem zip_right {f : VT → VT → VT} : ∀ {Z Y : List VT} {p : VT × VT}, p ∈ ((Z.zip Y).map fun q => f q.1 q.2).zip Y → ∃ a, (a, p.2) ∈ Z.zip Y ∧ p.1 = f a p.2
  | z :: Z, y :: Y, p, h => by
    rcases List.mem_cons.mp (show p ∈ (f z y, y) :: ((Z.zip Y).map fun q => f q.1 q.2).zip Y from h) with rfl | h
    · exact ⟨z, List.mem_cons_self, rfl⟩
    · obtain ⟨b, h1, h2⟩ := zip_right h
      exact ⟨b, List.mem_cons_of_mem _ h1, h2⟩
  | z :: Z, [], p, h => by simp at h
  | [], Y, p, h => by simp at h
/-- a None among values -/
theorem ov_pl : ∀ {os : List (Option VT)}, pls (os.map oV) = true ∧ PyData.canLayAll0 (pds (os.map oV)) = true ∧ PyData.depthAll (pds (os.map oV)) ≤ 8 ∧ ((pds (os.map oV)).any fun z => PyData.eqv z PyData.none) = os.any Option.isNone
  | [] => ⟨rfl, rfl, by decide, rfl⟩
  | o :: os => by
    obtain ⟨h1, h2, h3, h4⟩ := @ov_pl os
    cases o with
    | none =>
      refine ⟨?_, ?_, ?_, ?_⟩
      · show (true && pls (os.map oV)) = true
        rw [h1]; rfl
      · show (true && PyData.canLayAll0 (pds (os.map oV))) = true
        rw [h2]; rfl
      · show max 0 (PyData.depthAll (pds (os.map oV))) ≤ 8
        omega
      · show (true || _) = (true || _)
        rfl
    | some v =>
      obtain ⟨a, b, m, r⟩ := v
      refine ⟨?_, ?_, ?_, ?_⟩
      · show ((vT (a, b, m, r)).pl && pls (os.map oV)) = true
        rw [h1, (sh_v _).1]; rfl
      · show ((vT (a, b, m, r)).pd.canLay0 && PyData.canLayAll0 (pds (os.map oV))) = true
        rw [h2, SeqAt.canLay_of_shaped (sh_v _).2]; rfl
      · have hd : (vT (a, b, m, r)).pd.depth ≤ 8 := by cases a <;> cases b <;> exact Nat.le_of_ble_eq_true rfl
        show max ((vT (a, b, m, r)).pd.depth) (PyData.depthAll (pds (os.map oV))) ≤ 8
        omega
      · show (PyData.eqv (vT (a, b, m, r)).pd PyData.none || _) = (false || _)
        have : PyData.eqv (vT (a, b, m, r)).pd PyData.none = false := by cases a <;> cases b <;> rfl
        rw [this, h4]
theorem ar_inNone {K : PySem.W.Frag} {Φ : Dt → Prop} {os : List (Option VT)} (h : Φ (.bl (os.any Option.isNone))) : AR K (rInD K) .non (.lst (os.map oV)) Φ := by
  obtain ⟨h1, h2, h3, h4⟩ := @ov_pl os
  refine ar_inD rfl h1 rfl ?_ ?_
  · show (PyData.canLayAll0 (pds (os.map oV)) && decide (PyData.depthAll (pds (os.map oV)) + 1 ≤ 64)) = true
    rw [h2, decide_eq_true (by omega)]; rfl
  · rw [show (pds (os.map oV)).any (fun z => PyData.eqv z (Dt.non).pd) = os.any Option.isNone from h4]; exact h
/-- what the law compares -/
structure Pf (Z Y : List VT) (jn mt : List VT) (mN W : Bool) : Prop where
  fj : ∀ k k' q q', S_pj [pcD k k' (cutF 0 Z), pcD q q' (cutF 0 Y)] (pcT (cutF 0 jn))
  fm : ∀ k k' q q', S_pm [pcD k k' (cutF 0 Z), pcD q q' (cutF 0 Y)] (if mN = true then .non else pcT (cutF 0 mt))
  fw : ∀ k k' q q', S_pw [pcD k k' (cutF 0 Z), pcD q q' (cutF 0 Y)] (.bl W)
  f1 : S_pw [pcT (cutF 0 Z), pcT (cutF 0 jn)] (.bl true)
  f2 : mN = false → S_pw [pcT (cutF 0 mt), pcT (cutF 0 Y)] (.bl true)
theorem pf_of {n : Nat} {Z Y : List VT} (n1 : n ≤ 12) (hz : ArrS n Z) (hy : ArrS n Y) :
    Pf Z Y ((Z.zip Y).map fun p => jV p.1 p.2) ((Z.zip Y).map fun p => (mO p.1 p.2).getD EV) ((Z.zip Y).any fun p => (mO p.1 p.2).isNone) ((Z.zip Y).all fun p => wiB p.1 p.2) := by
  obtain ⟨az, _, sz, ez⟩ := cut_form Z 0
  obtain ⟨ay, _, sy, ey⟩ := cut_form Y 0
  have lz := cut_len Z 0
  have ly := cut_len Y 0
  have q1 := hz.len
  have q2 := hy.len
  have vz : ∀ x, x ∈ Z → VOk x := fun x h => (hz.ok x h).ok
  have vy : ∀ x, x ∈ Y → VOk x := fun x h => (hy.ok x h).ok
  have sV : ∀ {L : List VT}, (∀ x, x ∈ L → VS x) → ∀ p, p ∈ cutF 0 L → VS p.2 := fun {L} h p hp => by
    obtain ⟨a, _, s, _⟩ := cut_form L 0
    have := mem_sp a p hp
    rw [s] at this
    exact h _ this
  obtain ⟨R, h⟩ := al_ex _ (cutF 0 Z) (cutF 0 Y) 0 (Nat.le_refl _) az ay (by rw [ez, ey, q1, q2])
  have gen : ∀ f : VT → VT → VT, mgd (R.map fun t => (t.1, f t.2.1 t.2.2)) = cutF 0 ((Z.zip Y).map fun p => f p.1 p.2) := fun f => by
    obtain ⟨e, a, _⟩ := al_zip (f := f) h 0 az ay
    rw [mgd_cut a, e, sz, sy, zipW_map]
  have hany := al_any h az ay fun a b => (mO a b).isNone
  have hall := al_all h az ay fun a b => wiB a b
  rw [sz, sy] at hany hall
  have lenz : (Z.zip Y).length = n := by rw [List.length_zip, q1, q2, Nat.min_self]
  refine ⟨fun k k' q q' => ⟨k, k', q, q', _, _, R, rfl, h, cut_vok vz, cut_vok vy, by omega, by rw [gen jV]⟩, fun k k' q q' => ⟨k, k', q, q', _, _, R, rfl, h, by omega, sV hz.ok, sV hy.ok, ?_⟩,
    fun k k' q q' => ⟨k, k', q, q', _, _, R, rfl, h, by omega, by rw [hall]⟩, ?_, fun hN => ?_⟩
  · rw [hany, gen fun a b => (mO a b).getD EV]
  · generalize hJ : (Z.zip Y).map (fun p => jV p.1 p.2) = J
    obtain ⟨aj, _, sj, ej⟩ := cut_form J 0
    have lj := cut_len J 0
    have q3 : J.length = n := by rw [← hJ, List.length_map, lenz]
    obtain ⟨R2, h2⟩ := al_ex _ (cutF 0 Z) (cutF 0 J) 0 (Nat.le_refl _) az aj (by rw [ez, ej, q1, q3])
    refine ⟨true, true, true, true, _, _, R2, rfl, h2, by omega, ?_⟩
    rw [al_wi h2 az aj (by
      rw [sz, sj, ← hJ]
      intro p hp
      obtain ⟨b, _, e⟩ := zip_left (f := jV) hp
      rw [e]; exact (wi_join _ _).1)]
  · generalize hJ : (Z.zip Y).map (fun p => (mO p.1 p.2).getD EV) = J
    obtain ⟨aj, _, sj, ej⟩ := cut_form J 0
    have lj := cut_len J 0
    have q3 : J.length = n := by rw [← hJ, List.length_map, lenz]
    obtain ⟨R2, h2⟩ := al_ex _ (cutF 0 J) (cutF 0 Y) 0 (Nat.le_refl _) aj ay (by rw [ey, ej, q2, q3])
    refine ⟨true, true, true, true, _, _, R2, rfl, h2, by omega, ?_⟩
    rw [al_wi h2 aj ay (by
      rw [sy, sj, ← hJ]
      intro p hp
      obtain ⟨a, hm, e⟩ := zip_right (f := fun x y => (mO x y).getD EV) hp
      have ha := List.of_mem_zip hm
      have hno := List.any_eq_false.mp hN (a, p.2) hm
      cases ho : mO a p.2 with
      | none => rw [ho] at hno; exact absurd rfl hno
      | some u =>
        rw [e, ho]
        exact (mO_is (vz _ ha.1) (vy _ ha.2)).2 u ho)]
theorem met_none {Z Y : List VT} (h : ((Z.zip Y).any fun p => (mO p.1 p.2).isNone) = false) : ((Z.zip Y).map fun p => mO p.1 p.2).map oV = ((Z.zip Y).map fun p => (mO p.1 p.2).getD EV).map vT := by
  rw [List.map_map, List.map_map]
  refine List.map_congr_left fun p hp => ?_
  have := List.any_eq_false.mp h p hp
  show oV (mO p.1 p.2) = vT ((mO p.1 p.2).getD EV)
  cases e : mO p.1 p.2 with
  | none => rw [e] at this; exact absurd rfl this
  | some u => rfl
end Sh
set_option Elab.async false
set_option linter.all false
set_option maxRecDepth 100000
set_option maxHeartbeats 4000000
namespace Sh
open PySem PySem.Spec PyProof.Rows L2
abbrev s_l_right : Stmt := topS 54
abbrev N_l_right : List Str := ["_law_box_here", "_law_count", "_law_pairs_so", "_law_met_so", "_law_due", "_law_told", "_law_named", "_law_mine", "_law_its", "_law_kept_so", "_law_others", "_law_soft", "_law_firm", "_law_own", "_law_mate", "_law_part"]
abbrev p_l_right : List Str := ["_law_box_here"]
theorem sc_l_right : FnScope N_l_right p_l_right (defScope s_l_right) := ⟨rfl, rfl, rfl, by decide +kernel, rfl, by decide +kernel, by decide +kernel⟩
def domR (ds : List Dt) : Prop := ds = []
def postR (ds : List Dt) (d : Dt) : Prop := d = .bl true
theorem lift_j {t : VT × VT} : vT (jV t.1 t.2) = liftF prD (fun p => vT (jV p.1 p.2)) (prD t) := (lift_is (g := fun p : VT × VT => vT (jV p.1 p.2)) prD_inj t).symm
theorem lift_m {t : VT × VT} : oV (mO t.1 t.2) = liftF prD (fun p => oV (mO p.1 p.2)) (prD t) := (lift_is (g := fun p : VT × VT => oV (mO p.1 p.2)) prD_inj t).symm
theorem lift_w {t : VT × VT} : Dt.bl (wiB t.1 t.2) = liftF prD (fun p => .bl (wiB p.1 p.2)) (prD t) := (lift_is (g := fun p : VT × VT => Dt.bl (wiB p.1 p.2)) prD_inj t).symm
theorem df_b {b : Bool} : (Dt.bl b).dep ≤ 4 ∧ (Dt.bl b).fit = true := ⟨by cases b <;> decide, by cases b <;> rfl⟩
theorem df_six {a b c : Dt} (h : a.dep ≤ 4 ∧ a.fit = true) (k : b.dep ≤ 4 ∧ b.fit = true) (l : c.dep ≤ 4 ∧ c.fit = true) : (Dt.lst [.lst [a, b, c], .lst [a, b, c]]).dep ≤ 8 ∧ (Dt.lst [.lst [a, b, c], .lst [a, b, c]]).fit = true := by
  constructor
  · show max (max a.dep (max b.dep (max c.dep 0)) + 1) (max (max a.dep (max b.dep (max c.dep 0)) + 1) 0) + 1 ≤ 8
    omega
  · show (decide (2 ≤ 9000) && ((decide (3 ≤ 9000) && (a.fit && (b.fit && (c.fit && true)))) && ((decide (3 ≤ 9000) && (a.fit && (b.fit && (c.fit && true)))) && true))) = true
    rw [h.2, k.2, l.2]; rfl
theorem ar_isT {K : PySem.W.Frag} {Φ : Dt → Prop} {a : Bool} (h : Φ (.bl a)) : AR K rIsB (.bl a) (.bl true) Φ := ar_isBl (by cases a <;> exact h)
structure RF (Z Y : List VT) (PZ PY PJ PM : Pcs) (J Mt : List VT) (Mo : List (Option VT)) (Wl : List Bool) (W mN : Bool) : Prop where
  hany : Mo.any Option.isNone = mN
  hall : Wl.all id = W
  hj : (Z.zip Y).map (fun p => vT (jV p.1 p.2)) = J.map vT
  hm : (Z.zip Y).map (fun p => oV (mO p.1 p.2)) = Mo.map oV
  hw : (Z.zip Y).map (fun p => Dt.bl (wiB p.1 p.2)) = Wl.map Dt.bl
  hmap : mN = false → Mo.map oV = Mt.map vT
  cZ : S_lcut [.lst (Z.map vT)] (pcT PZ)
  cY : S_lcut [.lst (Y.map vT)] (pcT PY)
  cJ : S_lcut [.lst (J.map vT)] (pcT PJ)
  cM : S_lcut [.lst (Mt.map vT)] (pcT PM)
  aJ : S_pj [pcT PZ, pcT PY] (pcT PJ)
  bJ : S_pj [.lst (PZ.map fS), .lst (PY.map pT)] (pcT PJ)
  aW : S_pw [pcT PZ, pcT PY] (.bl W)
  bW : S_pw [.lst (PZ.map fS), .lst (PY.map pT)] (.bl W)
  aM : S_pm [pcT PZ, pcT PY] (if mN = true then .non else pcT PM)
  bM : S_pm [.lst (PZ.map fS), .lst (PY.map pT)] (if mN = true then .non else pcT PM)
  f1 : S_pw [pcT PZ, pcT PJ] (.bl true)
  f2 : mN = false → S_pw [pcT PM, pcT PY] (.bl true)
  okz : ∀ p, p ∈ Z.zip Y → VS p.1 ∧ VS p.2
  szP : ((Z.zip Y).map prD).length < sizeLine
  zP : PZ.length < sizeLine
  dJ : (pcT PJ).dep ≤ 4 ∧ (pcT PJ).fit = true
  dM : (pcT PM).dep ≤ 4 ∧ (pcT PM).fit = true
theorem right_facts {n : Nat} {Z Y : List VT} (n1 : n ≤ 12) (hz : ArrS n Z) (hy : ArrS n Y) : ∃ PZ PY PJ PM J Mt Mo Wl W mN, RF Z Y PZ PY PJ PM J Mt Mo Wl W mN := by
  have q1 := hz.len
  have q2 := hy.len
  have pf := pf_of n1 hz hy
  have lenz : (Z.zip Y).length = n := by rw [List.length_zip, q1, q2, Nat.min_self]
  have lJ : ((Z.zip Y).map fun p => jV p.1 p.2).length ≤ 100 := by rw [List.length_map, lenz]; omega
  have lM : ((Z.zip Y).map fun p => (mO p.1 p.2).getD EV).length ≤ 100 := by rw [List.length_map, lenz]; omega
  refine ⟨cutF 0 Z, cutF 0 Y, cutF 0 ((Z.zip Y).map fun p : VT × VT => jV p.1 p.2), cutF 0 ((Z.zip Y).map fun p : VT × VT => (mO p.1 p.2).getD EV), (Z.zip Y).map fun p : VT × VT => jV p.1 p.2, (Z.zip Y).map fun p : VT × VT => (mO p.1 p.2).getD EV, (Z.zip Y).map fun p : VT × VT => mO p.1 p.2, (Z.zip Y).map fun p : VT × VT => wiB p.1 p.2, _, _,
    ⟨by rw [List.any_map]; rfl, by rw [List.all_map]; rfl, by rw [List.map_map]; rfl, by rw [List.map_map]; rfl, by rw [List.map_map]; rfl, fun h => met_none h, ⟨Z, rfl, by omega, rfl⟩, ⟨Y, rfl, by omega, rfl⟩, ⟨_, rfl, lJ, rfl⟩, ⟨_, rfl, lM, rfl⟩,
      pf.fj true true true true, pf.fj false false false true, pf.fw true true true true, pf.fw false false false true, pf.fm true true true true, pf.fm false false false true, pf.f1, pf.f2, fun p hp => ?_, ?_, ?_, df_p ?_, df_p ?_⟩⟩
  · have := List.of_mem_zip (a := p.1) (b := p.2) hp
    exact ⟨hz.ok _ this.1, hy.ok _ this.2⟩
  · rw [List.length_map, lenz, sizeLine_eq]; omega
  · have := cut_len Z 0
    rw [sizeLine_eq]; omega
  · have := cut_len ((Z.zip Y).map fun p => jV p.1 p.2) 0
    omega
  · have := cut_len ((Z.zip Y).map fun p => (mO p.1 p.2).getD EV) 0
    omega
section
variable {P : Program} {w : World} {K : PySem.W.Frag} {mg : Str → Option Value} {base : Heap}
theorem ok_l_right (bl : Blts mg) {g_l_take : Addr} {d_l_take : FuncData} (c_l_take : Cal P w K mg base 2 "_law_take" p_l_take (spB K 1 domT postT) g_l_take d_l_take) {g_l_filled : Addr} {d_l_filled : FuncData} (c_l_filled : Cal P w K mg base 23 "_law_filled" p_l_filled (spB K 78 domX postF) g_l_filled d_l_filled) {g_l_cut : Addr} {d_l_cut : FuncData} (c_l_cut : Cal P w K mg base 1 "_law_cut" p_l_cut (spP K S_lcut) g_l_cut d_l_cut) {g_value_meet : Addr} {d_value_meet : FuncData} (c_value_meet : Cal P w K mg base 5 "value_meet" p_value_meet (spP K S_vm) g_value_meet d_value_meet) {g_value_join : Addr} {d_value_join : FuncData} (c_value_join : Cal P w K mg base 5 "value_join" p_value_join (spP K S_vj) g_value_join d_value_join) {g_value_within : Addr} {d_value_within : FuncData} (c_value_within : Cal P w K mg base 3 "value_within" p_value_within (spP K S_vw) g_value_within d_value_within) {g_pieces_join : Addr} {d_pieces_join : FuncData} (c_pieces_join : Cal P w K mg base 22 "pieces_join" p_pieces_join (spP K S_pj) g_pieces_join d_pieces_join) {g_pieces_meet : Addr} {d_pieces_meet : FuncData} (c_pieces_meet : Cal P w K mg base 22 "pieces_meet" p_pieces_meet (spP K S_pm) g_pieces_meet d_pieces_meet) {g_pieces_within : Addr} {d_pieces_within : FuncData} (c_pieces_within : Cal P w K mg base 22 "pieces_within" p_pieces_within (spP K S_pw) g_pieces_within d_pieces_within) {g_l_same : Addr} {d_l_same : FuncData} (c_l_same : Cal P w K mg base 8 "_law_same" p_l_same (spP K (S_same 8)) g_l_same d_l_same) (k_pieces_join : KB0 K d_pieces_join p_pieces_join ["other", "one"] List.reverse List.reverse) (k_pieces_meet : KB0 K d_pieces_meet p_pieces_meet ["other", "one"] List.reverse List.reverse) (k_pieces_within : KB0 K d_pieces_within p_pieces_within ["other", "one"] List.reverse List.reverse)  {f : Addr} {fd : FuncData} (F : Fun K "_law_right" "_law_right" s_l_right f fd) : FnOk P w K mg base CX0 24 f fd p_l_right (spB K 157 (domR) (postR)) := by
  refine okB F sc_l_right (fun ds h => ?_) (fun cdv A outer s H E hr ds h => ?_)
  · obtain ⟨rfl⟩ := h
    rfl
  obtain ⟨rfl⟩ := h
  refine ⟨_, (pss_cons (ps_set (i := 1) sc_l_right.nd rfl (by first | exact Or.inl rfl | exact Or.inr rfl) (pe_op op_add pe_int (pe_call c_l_take.ok (hr.mono (by decide)) rfl c_l_take.mg c_l_take.kp c_l_take.bi .nil pass0 (pa_cons (pv 0) (pa_cons pe_int pa_nil)))))
    (pss_cons (ps_par (i := 7) (j := 8) (by rfl) sc_l_right.nd rfl rfl (by decide) rfl rfl (pa_cons (pe_call c_l_filled.ok (hr.mono (by decide)) rfl c_l_filled.mg c_l_filled.kp c_l_filled.bi .nil pass0 (pa_cons (pv 0) (pa_cons (pv 1) pa_nil))) (pa_cons (pe_call c_l_filled.ok (hr.mono (by decide)) rfl c_l_filled.mg c_l_filled.kp c_l_filled.bi .nil pass0 (pa_cons (pv 0) (pa_cons (pv 1) pa_nil))) pa_nil)) (by rfl))
    (pss_cons (ps_if (PW.pt (pw_or (pt_cmpR op_isN (pv 7) pe_non (nomark _)) (pw_or1 (pt_cmpR op_isN (pv 8) pe_non (nomark _))))) (pss_one (ps_ret pe_bl)) pss_nil)
    (pss_cons (ps_set (i := 2) sc_l_right.nd rfl (by first | exact Or.inl rfl | exact Or.inr rfl) (pe_listZip rfl rfl bl.list rfl bl.zip (pa_cons (pv 7) (pa_cons (pv 8) pa_nil))))
    (pss_cons (ps_setLc (i := 3) (own := [("_law_own", 13), ("_law_mate", 14)]) (g := (gTup K 2 (gCons (gName 13) (gCons (gName 14) gNil)))) (te := (tCall (spP K S_vm) [] E0 (tCons (tVar 13) (tCons (tVar 14) tNil)))) (tt := tYes) rfl sc_l_right.nd rfl rfl (sw_true rfl rfl rfl (by decide +kernel)) (pi_list (pv 2)) (blkOk_by (N := N_l_right) (sc := defScope s_l_right) (by decide +kernel)) (fun _ _ _ _ _ => (pg_tup rfl (pgs_cons (pg_name (i := 13) sc_l_right.nd rfl (by first | exact Or.inl rfl | exact Or.inr rfl)) (pgs_cons (pg_name (i := 14) sc_l_right.nd rfl (by first | exact Or.inl rfl | exact Or.inr rfl)) pgs_nil)))) (fun _ _ _ _ _ => pts_nil) (fun _ _ _ _ _ => (pe_call c_value_meet.ok (hr.mono (by decide)) rfl c_value_meet.mg c_value_meet.kp c_value_meet.bi .nil pass0 (pa_cons (pv 13) (pa_cons (pv 14) pa_nil)))))
    (pss_cons (ps_set (i := 4) sc_l_right.nd rfl (by first | exact Or.inl rfl | exact Or.inr rfl) (pe_lst (pa_cons (pe_call c_l_cut.ok (hr.mono (by decide)) rfl c_l_cut.mg c_l_cut.kp c_l_cut.bi .nil pass0 (pa_cons (pe_lc (own := [("_law_own", 13), ("_law_mate", 14)]) (g := (gTup K 2 (gCons (gName 13) (gCons (gName 14) gNil)))) (te := (tCall (spP K S_vj) [] E0 (tCons (tVar 13) (tCons (tVar 14) tNil)))) (tt := tYes) rfl sc_l_right.nd (pi_list (pv 2)) (blkOk_by (N := N_l_right) (sc := defScope s_l_right) (by decide +kernel)) (fun _ _ _ _ _ => (pg_tup rfl (pgs_cons (pg_name (i := 13) sc_l_right.nd rfl (by first | exact Or.inl rfl | exact Or.inr rfl)) (pgs_cons (pg_name (i := 14) sc_l_right.nd rfl (by first | exact Or.inl rfl | exact Or.inr rfl)) pgs_nil)))) (fun _ _ _ _ _ => pts_nil) (fun _ _ _ _ _ => (pe_call c_value_join.ok (hr.mono (by decide)) rfl c_value_join.mg c_value_join.kp c_value_join.bi .nil pass0 (pa_cons (pv 13) (pa_cons (pv 14) pa_nil))))) pa_nil)) (pa_cons (pe_ifExp (pt_cmpR (op_inD (room65 hr)) pe_non (pv 3) rfl) pe_non (pe_call c_l_cut.ok (hr.mono (by decide)) rfl c_l_cut.mg c_l_cut.kp c_l_cut.bi .nil pass0 (pa_cons (pv 3) pa_nil))) pa_nil))))
    (pss_cons (ps_expr (pe_bm PySem.F.plainAttrs_list PySem.F.slot_list_append PySem.F.type_list_append mt_append (pv 4) (pa_cons (pe_callB (cr_all rfl) rfl bl.all (by decide +kernel) (pa_cons (pe_lc (own := [("_law_own", 13), ("_law_mate", 14)]) (g := (gTup K 2 (gCons (gName 13) (gCons (gName 14) gNil)))) (te := (tCall (spP K S_vw) [] E0 (tCons (tVar 13) (tCons (tVar 14) tNil)))) (tt := tYes) rfl sc_l_right.nd (pi_list (pv 2)) (blkOk_by (N := N_l_right) (sc := defScope s_l_right) (by decide +kernel)) (fun _ _ _ _ _ => (pg_tup rfl (pgs_cons (pg_name (i := 13) sc_l_right.nd rfl (by first | exact Or.inl rfl | exact Or.inr rfl)) (pgs_cons (pg_name (i := 14) sc_l_right.nd rfl (by first | exact Or.inl rfl | exact Or.inr rfl)) pgs_nil)))) (fun _ _ _ _ _ => pts_nil) (fun _ _ _ _ _ => (pe_call c_value_within.ok (hr.mono (by decide)) rfl c_value_within.mg c_value_within.kp c_value_within.bi .nil pass0 (pa_cons (pv 13) (pa_cons (pv 14) pa_nil))))) pa_nil)) pa_nil)))
    (pss_cons (ps_par (i := 9) (j := 10) (by rfl) sc_l_right.nd rfl rfl (by decide) rfl rfl (pa_cons (pe_call c_l_cut.ok (hr.mono (by decide)) rfl c_l_cut.mg c_l_cut.kp c_l_cut.bi .nil pass0 (pa_cons (pv 7) pa_nil)) (pa_cons (pe_call c_l_cut.ok (hr.mono (by decide)) rfl c_l_cut.mg c_l_cut.kp c_l_cut.bi .nil pass0 (pa_cons (pv 8) pa_nil)) pa_nil)) (by rfl))
    (pss_cons (ps_set (i := 5) sc_l_right.nd rfl (by first | exact Or.inl rfl | exact Or.inr rfl) (pe_lst (pa_cons (pe_call c_pieces_join.ok (hr.mono (by decide)) rfl c_pieces_join.mg c_pieces_join.kp c_pieces_join.bi .nil pass0 (pa_cons (pv 9) (pa_cons (pv 10) pa_nil))) (pa_cons (pe_call c_pieces_meet.ok (hr.mono (by decide)) rfl c_pieces_meet.mg c_pieces_meet.kp c_pieces_meet.bi .nil pass0 (pa_cons (pv 9) (pa_cons (pv 10) pa_nil))) (pa_cons (pe_call c_pieces_within.ok (hr.mono (by decide)) rfl c_pieces_within.mg c_pieces_within.kp c_pieces_within.bi .nil pass0 (pa_cons (pv 9) (pa_cons (pv 10) pa_nil))) pa_nil)))))
    (pss_cons (ps_par (i := 11) (j := 12) (by rfl) sc_l_right.nd rfl rfl (by decide) rfl rfl (pa_cons (pe_lc (own := [("_law_part", 15)]) (g := (gName 15)) (te := (tCB (fun xs H Q => ∃ p ys, xs = [.ref p] ∧ (SqL K H p ys ∨ SqT K H p ys) ∧ ∀ l, H l = none → Q (.ref l) (upd H l (.lst ys))) (tCons (tVar 15) tNil))) (tt := tYes) rfl sc_l_right.nd (pi_tup (pv 9)) (blkOk_by (N := N_l_right) (sc := defScope s_l_right) (by decide +kernel)) (fun _ _ _ _ _ => (pg_name (i := 15) sc_l_right.nd rfl (by first | exact Or.inl rfl | exact Or.inr rfl))) (fun _ _ _ _ _ => pts_nil) (fun _ _ _ _ _ => (pe_callTy call_list_of rfl bl.list (by decide +kernel) (pa_cons (pv 15) pa_nil)))) (pa_cons (pe_callTy call_list_of rfl bl.list (by decide +kernel) (pa_cons (pv 10) pa_nil)) pa_nil)) (by rfl))
    (pss_cons (ps_set (i := 6) sc_l_right.nd rfl (by first | exact Or.inl rfl | exact Or.inr rfl) (pe_lst (pa_cons (pe_callK0 c_pieces_join.ok (hr.mono (by decide)) rfl c_pieces_join.mg c_pieces_join.kp k_pieces_join pass0 (pk_cons (pv 12) (pk_cons (pv 11) pk_nil))) (pa_cons (pe_callK0 c_pieces_meet.ok (hr.mono (by decide)) rfl c_pieces_meet.mg c_pieces_meet.kp k_pieces_meet pass0 (pk_cons (pv 12) (pk_cons (pv 11) pk_nil))) pa_nil))))
    (pss_cons (ps_expr (pe_bm PySem.F.plainAttrs_list PySem.F.slot_list_append PySem.F.type_list_append mt_append (pv 6) (pa_cons (pe_callK0 c_pieces_within.ok (hr.mono (by decide)) rfl c_pieces_within.mg c_pieces_within.kp k_pieces_within pass0 (pk_cons (pv 12) (pk_cons (pv 11) pk_nil))) pa_nil)))
    (pss_cons (ps_if (PW.pt (pw_or (pt_not (pt_val (pe_call c_l_same.ok (hr.mono (by decide)) rfl c_l_same.mg c_l_same.kp c_l_same.bi .nil pass0 (pa_cons (pe_lst (pa_cons (pv 5) (pa_cons (pv 6) pa_nil))) (pa_cons (pe_lst (pa_cons (pv 4) (pa_cons (pv 4) pa_nil))) pa_nil))))) (pw_or1 (pt_cmpR op_notBl (pe_call c_pieces_within.ok (hr.mono (by decide)) rfl c_pieces_within.mg c_pieces_within.kp c_pieces_within.bi .nil pass0 (pa_cons (pv 9) (pa_cons (pe_ix ix_list (pv 4) pe_int (fun _ _ => rfl)) pa_nil))) pe_bl (nomark _))))) (pss_one (ps_ret pe_bl)) pss_nil)
    (pss_one (ps_ret (pe_or (pe_cmpR op_isN (pe_ix ix_list (pv 4) pe_int (fun _ _ => rfl)) pe_non (nomark _)) (pe_one (pe_cmpR op_isBl (pe_call c_pieces_within.ok (hr.mono (by decide)) rfl c_pieces_within.mg c_pieces_within.kp c_pieces_within.bi .nil pass0 (pa_cons (pe_ix ix_list (pv 4) pe_int (fun _ _ => rfl)) (pa_cons (pv 10) pa_nil))) pe_bl (nomark _))))))))))))))))))), fun b F => ?_⟩
  change AS K _ [En.bx _ _, En.no, En.no, En.no, En.no, En.no, En.no, En.no, En.no, En.no, En.no, En.no, En.no, En.no, En.no, En.no] _ _
  try simp only [cxOf_K, cxOf_w]
  refine as_seq ?_
  refine as_set ?_
  refine ae_op ?_
  refine ae_int ?_
  refine ae_take rfl ?_
  refine ae_int ?_
  refine ⟨_, rfl, by decide, by decide, F + 156, rfl, fun v v0 v1 => ?_⟩
  refine ar_I0i ?_
  obtain ⟨n, hn⟩ : ∃ n : Nat, 1 + v = (n : Int) := ⟨(1 + v).toNat, by omega⟩
  rw [hn]
  have n0 : 1 ≤ n := by omega
  have n1 : n ≤ 12 := by omega
  clear hn v0 v1 v
  refine as_seq ?_
  refine as_par ?_
  refine aa_cons ?_
  refine ae_draw (n := 78) rfl ?_
  refine aa_cons (ae_var rfl (aa_nil ⟨⟨n, rfl, n0, n1⟩, F + 78, rfl, fun d hd => ?_⟩))
  obtain ⟨Z, rfl, hz⟩ := hd n rfl
  clear hd
  refine aa_cons ?_
  refine ae_draw (n := 78) rfl ?_
  refine aa_cons (ae_var rfl (aa_nil ⟨⟨n, rfl, n0, n1⟩, F, rfl, fun d hd => ?_⟩))
  obtain ⟨Y, rfl, hy⟩ := hd n rfl
  clear hd
  refine aa_nil ⟨_, _, rfl, ?_⟩
  have leq : (Z.map vT).length = (Y.map vT).length := by rw [List.length_map, List.length_map, hz.len, hy.len]
  obtain ⟨PZ, PY, PJ, PM, J, Mt, Mo, Wl, W, mN, rf⟩ := right_facts n1 hz hy
  obtain ⟨hany, hall, hj, hm, hw, hmap, cZ, cY, cJ, cM, aJ, bJ, aW, bW, aM, bM, f1, f2, okz, szP, zP, dJ, dM⟩ := rf
  have hzp := @zp_is Z Y
  cases mN with
  | true =>
    have aM : S_pm [pcT PZ, pcT PY] .non := aM
    have bM : S_pm [.lst (PZ.map fS), .lst (PY.map pT)] .non := bM
    have dS := df_six dJ df_n (df_b (b := W))
    clear f2 cM hmap
    repeat' (first
      | (with_reducible refine as_own (i := 6) ?_)
      | (with_reducible refine as_own (i := 4) ?_)
      | ((with_reducible apply as_norm); (· simp only [List.set_cons_zero, List.set_cons_succ, wipeE, List.map_cons, List.map_nil] <;> rfl); (with_reducible refine as_appF ⟨_, rfl⟩ ?_))
      | ((with_reducible apply as_seq); (with_reducible apply as_norm); (· simp only [List.set_cons_zero, List.set_cons_succ, wipeE, List.map_cons, List.map_nil] <;> rfl))
      | with_reducible apply ae_call
      | (with_reducible refine ae_lcMap (te := tCall (spP K S_vj) [] E0 (tCons (tVar 13) (tCons (tVar 14) tNil))) (liftF prD (fun p => vT (jV p.1 p.2))) ?_)
      | (with_reducible refine ae_lcMap (te := tCall (spP K S_vm) [] E0 (tCons (tVar 13) (tCons (tVar 14) tNil))) (liftF prD (fun p => oV (mO p.1 p.2))) ?_)
      | (with_reducible refine ae_lcMap (te := tCall (spP K S_vw) [] E0 (tCons (tVar 13) (tCons (tVar 14) tNil))) (liftF prD (fun p => .bl (wiB p.1 p.2))) ?_)
      | (with_reducible refine ae_lcMap (g := gName 15) (liftF pT fS) ?_)
      | with_reducible apply ai_tup
      | with_reducible apply ai_list
      | (refine ⟨_, rfl, szP, fun d hd => ?_, ?_⟩)
      | (refine ⟨_, rfl, (by rw [List.length_map]; exact zP), fun d hd => ?_, ?_⟩)
      | (obtain ⟨(t : VT × VT), ht, rfl⟩ := List.mem_map.mp hd; clear hd; obtain ⟨o1, o2⟩ := okz t ht)
      | (obtain ⟨(t : Int × VT), ht, rfl⟩ := List.mem_map.mp hd; clear hd)
      | (refine agv_tup (n := 2) (ds := [vT t.1, vT t.2]) rfl (agvs_cons (agv_name (by decide) (agvs_cons (agv_name (by decide) (agvs_nil ?_))))))
      | ((with_reducible apply agv_name); · decide)
      | (exact ⟨lift_s, rfl⟩)
      | (exact ⟨lift_j, rfl⟩)
      | (exact ⟨lift_m, rfl⟩)
      | (exact ⟨lift_w, rfl⟩)
      | (refine ⟨vT (jV t.1 t.2), ⟨true, true, _, _, _, _, _, _, _, _, rfl, (jV_ok o1.ok o2.ok).2.symm⟩, ?_⟩)
      | (refine ⟨oV (mO t.1 t.2), ⟨true, true, _, _, _, _, _, _, _, _, rfl, o1.vd, o2.vd, (mO_is o1.ok o2.ok).1.symm⟩, ?_⟩)
      | (refine ⟨.bl (wiB t.1 t.2), ⟨true, true, _, _, _, _, _, _, _, _, rfl, rfl⟩, ?_⟩)
      | (rw [lift_map pT_inj (g := fS)])
      | (rw [lift_map prD_inj, hj])
      | (rw [lift_map prD_inj, hm])
      | (rw [lift_map prD_inj, hw]; refine ac_all ?_; rw [hall])
      | (with_reducible refine ae_listZip ?_)
      | (refine ⟨_, _, rfl, leq, ?_⟩; rw [hzp])
      | (refine ar_inNone ?_; rw [hany])
      | (with_reducible refine call_x cZ ?_)
      | (with_reducible refine call_x cY ?_)
      | (with_reducible refine call_x cJ ?_)
      | (with_reducible refine call_x aJ ?_)
      | (with_reducible refine call_x aM ?_)
      | (with_reducible refine call_x aW ?_)
      | (with_reducible refine call_x f1 ?_)
      | ((with_reducible refine ae_callK2 ?_ ?_); · rfl)
      | (with_reducible refine ⟨_, _, rfl, call_x bJ ?_⟩)
      | (with_reducible refine ⟨_, _, rfl, call_x bM ?_⟩)
      | (with_reducible refine ⟨_, _, rfl, call_x bW ?_⟩)
      | (with_reducible refine ⟨_, rfl, Nat.le_of_ble_eq_true rfl, Nat.le_of_ble_eq_true rfl, ?_⟩)
      | (with_reducible refine same_y dS ?_)
      | (refine ar_notBl ?_)
      | dsimp only [List.cons_append, List.nil_append]
      | exact ⟨rfl, _, rfl, by omega⟩
      | with_reducible apply as_seq
      | with_reducible apply as_ret
      | with_reducible apply as_next
      | with_reducible apply as_if
      | with_reducible apply as_set
      | with_reducible apply as_par
      | ((with_reducible apply ae_var); · rfl)
      | with_reducible apply ae_int
      | with_reducible apply ae_non
      | with_reducible apply ae_bl
      | with_reducible apply ae_op
      | with_reducible apply aa_nil
      | with_reducible apply aa_cons
      | with_reducible apply ae_cb
      | with_reducible apply ae_lst
      | with_reducible apply ae_if
      | with_reducible apply at_test
      | with_reducible apply at_b
      | with_reducible apply at_or
      | with_reducible apply at_not
      | with_reducible apply ae_orV
      | with_reducible apply ar_isN
      | ((with_reducible apply ar_ixL); · rfl)
      | with_reducible apply ac_listT
      | refine ⟨sz60 (Nat.le_of_ble_eq_true rfl), ?_⟩
      | refine ⟨_, rfl, ?_⟩
      | refine ⟨_, _, rfl, ?_⟩
      | (refine ⟨fun hc => ?_, fun hc => ?_⟩ <;> (first | (exfalso; exact absurd (show false = true from hc) (by decide)) | (exfalso; exact absurd (show true = false from hc) (by decide)) | (exfalso; simp at hc; done) | skip))
      | fail)
  | false =>
    have aM : S_pm [pcT PZ, pcT PY] (pcT PM) := aM
    have bM : S_pm [.lst (PZ.map fS), .lst (PY.map pT)] (pcT PM) := bM
    have dS := df_six dJ dM (df_b (b := W))
    have f2 := f2 rfl
    have hmap := hmap rfl
    have cM : S_lcut [.lst (Mo.map oV)] (pcT PM) := by rw [hmap]; exact cM
    clear hmap
    repeat' (first
      | (with_reducible refine call_x cM ?_)
      | (with_reducible refine call_x f2 ?_)
      | (with_reducible refine as_own (i := 6) ?_)
      | (with_reducible refine as_own (i := 4) ?_)
      | ((with_reducible apply as_norm); (· simp only [List.set_cons_zero, List.set_cons_succ, wipeE, List.map_cons, List.map_nil] <;> rfl); (with_reducible refine as_appF ⟨_, rfl⟩ ?_))
      | ((with_reducible apply as_seq); (with_reducible apply as_norm); (· simp only [List.set_cons_zero, List.set_cons_succ, wipeE, List.map_cons, List.map_nil] <;> rfl))
      | with_reducible apply ae_call
      | (with_reducible refine ae_lcMap (te := tCall (spP K S_vj) [] E0 (tCons (tVar 13) (tCons (tVar 14) tNil))) (liftF prD (fun p => vT (jV p.1 p.2))) ?_)
      | (with_reducible refine ae_lcMap (te := tCall (spP K S_vm) [] E0 (tCons (tVar 13) (tCons (tVar 14) tNil))) (liftF prD (fun p => oV (mO p.1 p.2))) ?_)
      | (with_reducible refine ae_lcMap (te := tCall (spP K S_vw) [] E0 (tCons (tVar 13) (tCons (tVar 14) tNil))) (liftF prD (fun p => .bl (wiB p.1 p.2))) ?_)
      | (with_reducible refine ae_lcMap (g := gName 15) (liftF pT fS) ?_)
      | with_reducible apply ai_tup
      | with_reducible apply ai_list
      | (refine ⟨_, rfl, szP, fun d hd => ?_, ?_⟩)
      | (refine ⟨_, rfl, (by rw [List.length_map]; exact zP), fun d hd => ?_, ?_⟩)
      | (obtain ⟨(t : VT × VT), ht, rfl⟩ := List.mem_map.mp hd; clear hd; obtain ⟨o1, o2⟩ := okz t ht)
      | (obtain ⟨(t : Int × VT), ht, rfl⟩ := List.mem_map.mp hd; clear hd)
      | (refine agv_tup (n := 2) (ds := [vT t.1, vT t.2]) rfl (agvs_cons (agv_name (by decide) (agvs_cons (agv_name (by decide) (agvs_nil ?_))))))
      | ((with_reducible apply agv_name); · decide)
      | (exact ⟨lift_s, rfl⟩)
      | (exact ⟨lift_j, rfl⟩)
      | (exact ⟨lift_m, rfl⟩)
      | (exact ⟨lift_w, rfl⟩)
      | (refine ⟨vT (jV t.1 t.2), ⟨true, true, _, _, _, _, _, _, _, _, rfl, (jV_ok o1.ok o2.ok).2.symm⟩, ?_⟩)
      | (refine ⟨oV (mO t.1 t.2), ⟨true, true, _, _, _, _, _, _, _, _, rfl, o1.vd, o2.vd, (mO_is o1.ok o2.ok).1.symm⟩, ?_⟩)
      | (refine ⟨.bl (wiB t.1 t.2), ⟨true, true, _, _, _, _, _, _, _, _, rfl, rfl⟩, ?_⟩)
      | (rw [lift_map pT_inj (g := fS)])
      | (rw [lift_map prD_inj, hj])
      | (rw [lift_map prD_inj, hm])
      | (rw [lift_map prD_inj, hw]; refine ac_all ?_; rw [hall])
      | (with_reducible refine ae_listZip ?_)
      | (refine ⟨_, _, rfl, leq, ?_⟩; rw [hzp])
      | (refine ar_inNone ?_; rw [hany])
      | (with_reducible refine call_x cZ ?_)
      | (with_reducible refine call_x cY ?_)
      | (with_reducible refine call_x cJ ?_)
      | (with_reducible refine call_x aJ ?_)
      | (with_reducible refine call_x aM ?_)
      | (with_reducible refine call_x aW ?_)
      | (with_reducible refine call_x f1 ?_)
      | ((with_reducible refine ae_callK2 ?_ ?_); · rfl)
      | (with_reducible refine ⟨_, _, rfl, call_x bJ ?_⟩)
      | (with_reducible refine ⟨_, _, rfl, call_x bM ?_⟩)
      | (with_reducible refine ⟨_, _, rfl, call_x bW ?_⟩)
      | (with_reducible refine ⟨_, rfl, Nat.le_of_ble_eq_true rfl, Nat.le_of_ble_eq_true rfl, ?_⟩)
      | (with_reducible refine same_y dS ?_)
      | (refine ar_notBl ?_)
      | (refine ar_isT ?_)
      | dsimp only [List.cons_append, List.nil_append]
      | exact ⟨rfl, _, rfl, by omega⟩
      | with_reducible apply as_seq
      | with_reducible apply as_ret
      | with_reducible apply as_next
      | with_reducible apply as_if
      | with_reducible apply as_set
      | with_reducible apply as_par
      | ((with_reducible apply ae_var); · rfl)
      | with_reducible apply ae_int
      | with_reducible apply ae_non
      | with_reducible apply ae_bl
      | with_reducible apply ae_op
      | with_reducible apply aa_nil
      | with_reducible apply aa_cons
      | with_reducible apply ae_cb
      | with_reducible apply ae_lst
      | with_reducible apply ae_if
      | with_reducible apply at_test
      | with_reducible apply at_b
      | with_reducible apply at_or
      | with_reducible apply at_not
      | with_reducible apply ae_orV
      | with_reducible apply ar_isN
      | ((with_reducible apply ar_ixL); · rfl)
      | with_reducible apply ac_listT
      | refine ⟨sz60 (Nat.le_of_ble_eq_true rfl), ?_⟩
      | refine ⟨_, rfl, ?_⟩
      | refine ⟨_, _, rfl, ?_⟩
      | (refine ⟨fun hc => ?_, fun hc => ?_⟩ <;> (first | (exfalso; exact absurd (show false = true from hc) (by decide)) | (exfalso; exact absurd (show true = false from hc) (by decide)) | (exfalso; simp at hc; done) | skip))
      | fail)
end
end Sh
set_option Elab.async false
set_option linter.all false
set_option maxRecDepth 100000
set_option maxHeartbeats 4000000
namespace Sh
open PySem PySem.Spec PyProof.Rows L2
theorem kb0_of {K : PySem.W.Frag} {x qual : Str} {st : Stmt} {f : Addr} {fd : FuncData} {ps ks : List Str} {g : List Value → List Value} {gV : List V → List V} (F : Fun K x qual st f fd)
    (h : ∀ (kV doc pm : Value) (an : Option Addr) (cdv ct : Value) (ws : List Value), ws.length = ks.length → bindArgs (PySem.W.fnOf x qual (defArgs st) (defBody st) (defScope st) .none kV doc pm an cdv ct) ⟨[], ks.zip ws⟩ = pure (ps.zip (g ws)))
    (rel : ∀ {zs : List V} {ws : List Value}, Vals zs ws → zs.length = ks.length → Vals (gV zs) (g ws)) : KB0 K fd ps ks g gV := by
  obtain ⟨oc, od, kV, doc, pm, an, cdv, ct, osl, rfl, lk, hcd⟩ := F.ex
  exact ⟨fun s ws hl => .of_eq (h kV doc pm an cdv ct ws hl), rel⟩
abbrev sLaw : Stmt := topS 55
abbrev NL : List Str := ["_law_script", "_law_cells_here", "_law_k", "_law_box_here", "_law_turn"]
theorem scLaw : FnScope NL ["_law_script"] (defScope sLaw) := ⟨rfl, rfl, rfl, by decide +kernel, rfl, by decide +kernel, by decide +kernel⟩
section
variable {P : Program} {w : World} {K : PySem.W.Frag} {mg : Str → Option Value} {base : Heap}
def spLaw (K : PySem.W.Frag) : Sp := fun vs H Q _ => ∃ (a : Addr) (ns : List Int), vs = [.ref a] ∧ SqL K H a (ns.map V.int) ∧ ns.length ≤ 63 ∧ ∀ H', Q (.bl true) H'
theorem ok_law {f gC gB gR : Addr} {fd dC dB dR : FuncData} (F : Fun K "law" "law" sLaw f fd)
    (GC : FnOk P w K mg base CX0 1 gC dC ["_law_script", "_law_most"] (spCells K)) (bC : Binds K dC ["_law_script", "_law_most"] []) (kC : PySem.W.keepIn K (.ref gC) = true) (mC : mg "_law_cells" = some (.ref gC))
    (GB : FnOk P w K mg base CX0 1 gB dB ["_law_script", "_law_k"] (spBox K)) (bB : Binds K dB ["_law_script", "_law_k"] []) (kB : PySem.W.keepIn K (.ref gB) = true) (mB : mg "_law_box" = some (.ref gB))
    (GR : FnOk P w K mg base CX0 24 gR dR ["_law_box_here"] (spB K 157 domR postR)) (bR : Binds K dR ["_law_box_here"] []) (kR : PySem.W.keepIn K (.ref gR) = true) (mR : mg "_law_right" = some (.ref gR))
    (mr : mg "range" = none) (ml : mg "len" = none) (mall : mg "all" = none) : FnOk P w K mg base CX0 25 f fd ["_law_script"] (spLaw K) := by
  refine F.ok scLaw (fun vs H Q E h => ?_) (fun cdv A outer s H vs Q Ex hr h => ?_)
  · obtain ⟨a, ns, rfl, _⟩ := h
    rfl
  obtain ⟨a, ns, rfl, hS, hlen, q⟩ := h
  refine ⟨_, pss_cons (ps_set (i := 1) scLaw.nd rfl (Or.inl rfl) (pe_call GC (hr.mono (by decide)) rfl mC kC bC .nil pass0 (pa_cons (pv 0) (pa_cons pe_int pa_nil))))
    (pss_cons (ps_for PassesOwn.never rfl (pi_range1 rfl mr (pa_cons (pe_callB call_len_seq rfl ml PySem.boot_len (pa_cons (pv 1) pa_nil)) pa_nil)) (pg_name (i := 2) scLaw.nd rfl (Or.inl rfl))
      (pss_cons (ps_set (i := 3) scLaw.nd rfl (Or.inr rfl) (pe_call GB (hr.mono (by decide)) rfl mB kB bB .nil pass0 (pa_cons (pv 1) (pa_cons (pv 2) pa_nil))))
      (pss_one (ps_if (pt_not (pt_val (pe_callB (cr_all rfl) rfl mall (by decide +kernel) (pa_cons (pe_lc (own := [("_law_turn", 4)]) (g := gName 4) (tt := tYes) rfl scLaw.nd (pi_range1 rfl mr (pa_cons pe_int pa_nil)) (blkOk_by (N := NL) (sc := defScope sLaw) (by decide +kernel))
        (fun _ _ _ _ _ => pg_name (i := 4) scLaw.nd rfl (Or.inl rfl)) (fun _ _ _ _ _ => pts_nil) (fun _ _ _ _ _ => pe_call GR hr rfl mR kR bR .nil pass0 (pa_cons (pv 3) pa_nil))) pa_nil)))) (pss_one (ps_ret pe_bl)) pss_nil))))
    (pss_one (ps_ret pe_bl))), ?_⟩
  refine ⟨_, rfl, a, ns, 3, rfl, hS, hlen, by decide, by decide, fun p ms H1 np s1 ep l1 l2 => ?_⟩
  have hml : (ms.map V.int).length = ms.length := List.length_map _
  refine ⟨_, rfl, p, _, rfl, .inl (SqL.of ep), _, rfl, by omega, by omega, for_range (lo := 0) (n := (ms.map V.int).length) (fun i σ H2 => ∃ o2 o3 o4 : Option V, σ = [some (.ref a), some (.ref p), o2, o3, o4] ∧ Same H1 H2)
    ⟨none, none, none, rfl, Same.refl _⟩ ?_ ?_⟩
  · rintro i σ H2 hi ⟨o2, o3, o4, rfl, s2⟩
    rw [hml] at hi
    refine ⟨_, rfl, _, rfl, p, ms, _, rfl, SqL.of (s2 _ _ ep), by omega, by omega, by omega, fun bx x y nbx x0 y0 y1 => ?_⟩
    have s3 := same_up (o := .lst [.int x, .int y, .int 0]) nbx
    have hb0 : Bx (upd H2 bx (.lst [.int x, .int y, .int 0])) bx y 0 := ⟨x, upd_same, x0, y0, y1⟩
    refine ⟨8, rfl, by decide, by decide, fun D hD => lc_range (lo := 0) (n := 8) (fun t H4 => ∃ y c : Int, Bx H4 bx y c ∧ 0 ≤ c ∧ c + (((8 - t) * 157 : Nat) : Int) ≤ BxM ∧ Same H2 H4 ∧ H4 D = some (.lst ((List.replicate t true).map V.bl))) ?_ ?_ ?_⟩
    · have s4 := same_up (o := .lst []) hD
      exact ⟨y, 0, hb0.same s4, by omega, by unfold BxM; decide, s3.trans s4, upd_same⟩
    · rintro t H4 ht ⟨y, c, hB, c0, c1, s4, e4⟩
      have nD : H2 D = none := s3.free hD
      have neD : D ≠ bx := fun e => by
        rw [e, upd_same] at hD
        cases hD
      have ef : (8 - t) * 157 = (8 - (t + 1)) * 157 + 157 := by omega
      rw [ef] at c1
      refine ⟨rfl, ?_⟩
      show tCall (spB K 157 domR postR) [] E0 (tCons (tVar 3) tNil) _ _ _
      refine ⟨_, rfl, fun _ => none, [], bx, [], y, c, _, rfl, (fun a o e => nomatch e), hB, c0, c1, rfl, rfl, rfl, fun v d G' H5 y' c' nb hB' c0' c1' rd hp => ?_⟩
      have e5 := nb.h _ _ neD e4
      refine ⟨_, e5, ?_, y', c', ?_, c0', c1', fun b o e => ?_, ?_⟩
      · rw [List.length_map, List.length_replicate]; exact sz60' (by omega)
      · obtain ⟨x', q1, q2⟩ := hB'
        exact ⟨x', by rw [upd_ne neD.symm]; exact q1, q2⟩
      · rw [upd_ne (ne_of_none e nD)]; exact nb.h _ _ (ne_of_none e nbx) (s4 _ _ e)
      · subst hp
        cases (show v = .bl true from rd)
        rw [upd_same, List.replicate_succ', List.map_append]; rfl
    · rintro H4 ⟨y, c, hB, c0, c1, s4, e4⟩
      refine ⟨D, _, rfl, SqL.of e4, true, congrArg V.bl (all_true 8), ?_⟩
      exact ⟨_, _, _, rfl, s2.trans s4⟩
  · rintro σ H2 ⟨o2, o3, o4, rfl, s2⟩
    exact q H2
end
theorem all_mk {l : PySem.W.OpenLaw} {w : World} {K : PySem.W.Frag} {h : Heap} {mg : Str → Option Value} {fa fD0 fD1 fD2 fD3 fD4 fD5 fD6 fD7 fD8 fD9 fD10 fD11 fD12 fD13 fD14 fD15 fD16 fD17 fD18 fD19 fD20 fD21 fD22 fD23 fD24 fD25 fD26 fD27 fD28 fD29 fD30 fD31 fD32 fD33 fD34 fD35 fD36 fD37 fD38 fD39 fD40 fD41 fD42 fD43 fD44 fD45 fD46 fD47 : Addr} (X : K.In h) (G : h.Ns mainGlobals mg) (hfa : mg "law" = some (.ref fa))
    {odD0 anD0 odD1 anD1 odD2 anD2 odD3 anD3 odD4 anD4 odD5 anD5 odD6 anD6 odD7 anD7 odD8 anD8 odD9 anD9 odD10 anD10 odD11 anD11 odD12 anD12 odD13 anD13 odD14 anD14 odD15 anD15 odD16 anD16 odD17 anD17 odD18 anD18 odD19 anD19 odD20 anD20 odD21 anD21 odD22 anD22 odD23 anD23 odD24 anD24 odD25 anD25 odD26 anD26 odD27 anD27 odD28 anD28 odD29 anD29 odD30 anD30 odD31 anD31 odD32 anD32 odD33 anD33 odD34 anD34 odD35 anD35 odD36 anD36 odD37 anD37 odD38 anD38 odD39 anD39 odD40 anD40 odD41 anD41 odD42 anD42 odD43 anD43 odD44 anD44 odD45 anD45 odD46 anD46 odD47 anD47 : Option Addr} {slD0 slD1 slD2 slD3 slD4 slD5 slD6 slD7 slD8 slD9 slD10 slD11 slD12 slD13 slD14 slD15 slD16 slD17 slD18 slD19 slD20 slD21 slD22 slD23 slD24 slD25 slD26 slD27 slD28 slD29 slD30 slD31 slD32 slD33 slD34 slD35 slD36 slD37 slD38 slD39 slD40 slD41 slD42 slD43 slD44 slD45 slD46 slD47 : Array (Option Value)} {ocD0 kVD0 dcD0 pmD0 cdD0 ctD0 ocD1 kVD1 dcD1 pmD1 cdD1 ctD1 ocD2 kVD2 dcD2 pmD2 cdD2 ctD2 ocD3 kVD3 dcD3 pmD3 cdD3 ctD3 ocD4 kVD4 dcD4 pmD4 cdD4 ctD4 ocD5 kVD5 dcD5 pmD5 cdD5 ctD5 ocD6 kVD6 dcD6 pmD6 cdD6 ctD6 ocD7 kVD7 dcD7 pmD7 cdD7 ctD7 ocD8 kVD8 dcD8 pmD8 cdD8 ctD8 ocD9 kVD9 dcD9 pmD9 cdD9 ctD9 ocD10 kVD10 dcD10 pmD10 cdD10 ctD10 ocD11 kVD11 dcD11 pmD11 cdD11 ctD11 ocD12 kVD12 dcD12 pmD12 cdD12 ctD12 ocD13 kVD13 dcD13 pmD13 cdD13 ctD13 ocD14 kVD14 dcD14 pmD14 cdD14 ctD14 ocD15 kVD15 dcD15 pmD15 cdD15 ctD15 ocD16 kVD16 dcD16 pmD16 cdD16 ctD16 ocD17 kVD17 dcD17 pmD17 cdD17 ctD17 ocD18 kVD18 dcD18 pmD18 cdD18 ctD18 ocD19 kVD19 dcD19 pmD19 cdD19 ctD19 ocD20 kVD20 dcD20 pmD20 cdD20 ctD20 ocD21 kVD21 dcD21 pmD21 cdD21 ctD21 ocD22 kVD22 dcD22 pmD22 cdD22 ctD22 ocD23 kVD23 dcD23 pmD23 cdD23 ctD23 ocD24 kVD24 dcD24 pmD24 cdD24 ctD24 ocD25 kVD25 dcD25 pmD25 cdD25 ctD25 ocD26 kVD26 dcD26 pmD26 cdD26 ctD26 ocD27 kVD27 dcD27 pmD27 cdD27 ctD27 ocD28 kVD28 dcD28 pmD28 cdD28 ctD28 ocD29 kVD29 dcD29 pmD29 cdD29 ctD29 ocD30 kVD30 dcD30 pmD30 cdD30 ctD30 ocD31 kVD31 dcD31 pmD31 cdD31 ctD31 ocD32 kVD32 dcD32 pmD32 cdD32 ctD32 ocD33 kVD33 dcD33 pmD33 cdD33 ctD33 ocD34 kVD34 dcD34 pmD34 cdD34 ctD34 ocD35 kVD35 dcD35 pmD35 cdD35 ctD35 ocD36 kVD36 dcD36 pmD36 cdD36 ctD36 ocD37 kVD37 dcD37 pmD37 cdD37 ctD37 ocD38 kVD38 dcD38 pmD38 cdD38 ctD38 ocD39 kVD39 dcD39 pmD39 cdD39 ctD39 ocD40 kVD40 dcD40 pmD40 cdD40 ctD40 ocD41 kVD41 dcD41 pmD41 cdD41 ctD41 ocD42 kVD42 dcD42 pmD42 cdD42 ctD42 ocD43 kVD43 dcD43 pmD43 cdD43 ctD43 ocD44 kVD44 dcD44 pmD44 cdD44 ctD44 ocD45 kVD45 dcD45 pmD45 cdD45 ctD45 ocD46 kVD46 dcD46 pmD46 cdD46 ctD46 ocD47 kVD47 dcD47 pmD47 cdD47 ctD47 : Value} 
    (aD0 : PySem.W.nsIn K mainGlobals "as_tuples" = some (some (.ref fD0)))
    (lD0 : K.lookup fD0 = some ⟨ocD0, odD0, .func (PySem.W.fnOf "as_tuples" "as_tuples" (defArgs s_as_tuples) (defBody s_as_tuples) (defScope s_as_tuples) .none kVD0 dcD0 pmD0 anD0 cdD0 ctD0), slD0⟩)
    (cD0 : PySem.W.codeIn K cdD0 "as_tuples" = true)
    (kD0 : PySem.W.keepIn K (.ref fD0) = true)
    (aD1 : PySem.W.nsIn K mainGlobals "loosest_low" = some (some (.ref fD1)))
    (lD1 : K.lookup fD1 = some ⟨ocD1, odD1, .func (PySem.W.fnOf "loosest_low" "loosest_low" (defArgs s_loosest_low) (defBody s_loosest_low) (defScope s_loosest_low) .none kVD1 dcD1 pmD1 anD1 cdD1 ctD1), slD1⟩)
    (cD1 : PySem.W.codeIn K cdD1 "loosest_low" = true)
    (kD1 : PySem.W.keepIn K (.ref fD1) = true)
    (aD2 : PySem.W.nsIn K mainGlobals "tightest_low" = some (some (.ref fD2)))
    (lD2 : K.lookup fD2 = some ⟨ocD2, odD2, .func (PySem.W.fnOf "tightest_low" "tightest_low" (defArgs s_tightest_low) (defBody s_tightest_low) (defScope s_tightest_low) .none kVD2 dcD2 pmD2 anD2 cdD2 ctD2), slD2⟩)
    (cD2 : PySem.W.codeIn K cdD2 "tightest_low" = true)
    (kD2 : PySem.W.keepIn K (.ref fD2) = true)
    (aD3 : PySem.W.nsIn K mainGlobals "loosest_high" = some (some (.ref fD3)))
    (lD3 : K.lookup fD3 = some ⟨ocD3, odD3, .func (PySem.W.fnOf "loosest_high" "loosest_high" (defArgs s_loosest_high) (defBody s_loosest_high) (defScope s_loosest_high) .none kVD3 dcD3 pmD3 anD3 cdD3 ctD3), slD3⟩)
    (cD3 : PySem.W.codeIn K cdD3 "loosest_high" = true)
    (kD3 : PySem.W.keepIn K (.ref fD3) = true)
    (aD4 : PySem.W.nsIn K mainGlobals "tightest_high" = some (some (.ref fD4)))
    (lD4 : K.lookup fD4 = some ⟨ocD4, odD4, .func (PySem.W.fnOf "tightest_high" "tightest_high" (defArgs s_tightest_high) (defBody s_tightest_high) (defScope s_tightest_high) .none kVD4 dcD4 pmD4 anD4 cdD4 ctD4), slD4⟩)
    (cD4 : PySem.W.codeIn K cdD4 "tightest_high" = true)
    (kD4 : PySem.W.keepIn K (.ref fD4) = true)
    (aD5 : PySem.W.nsIn K mainGlobals "low_within" = some (some (.ref fD5)))
    (lD5 : K.lookup fD5 = some ⟨ocD5, odD5, .func (PySem.W.fnOf "low_within" "low_within" (defArgs s_low_within) (defBody s_low_within) (defScope s_low_within) .none kVD5 dcD5 pmD5 anD5 cdD5 ctD5), slD5⟩)
    (cD5 : PySem.W.codeIn K cdD5 "low_within" = true)
    (kD5 : PySem.W.keepIn K (.ref fD5) = true)
    (aD6 : PySem.W.nsIn K mainGlobals "high_within" = some (some (.ref fD6)))
    (lD6 : K.lookup fD6 = some ⟨ocD6, odD6, .func (PySem.W.fnOf "high_within" "high_within" (defArgs s_high_within) (defBody s_high_within) (defScope s_high_within) .none kVD6 dcD6 pmD6 anD6 cdD6 ctD6), slD6⟩)
    (cD6 : PySem.W.codeIn K cdD6 "high_within" = true)
    (kD6 : PySem.W.keepIn K (.ref fD6) = true)
    (aD7 : PySem.W.nsIn K mainGlobals "lets_in" = some (some (.ref fD7)))
    (lD7 : K.lookup fD7 = some ⟨ocD7, odD7, .func (PySem.W.fnOf "lets_in" "lets_in" (defArgs s_lets_in) (defBody s_lets_in) (defScope s_lets_in) .none kVD7 dcD7 pmD7 anD7 cdD7 ctD7), slD7⟩)
    (cD7 : PySem.W.codeIn K cdD7 "lets_in" = true)
    (kD7 : PySem.W.keepIn K (.ref fD7) = true)
    (aD8 : PySem.W.nsIn K mainGlobals "rest_join" = some (some (.ref fD8)))
    (lD8 : K.lookup fD8 = some ⟨ocD8, odD8, .func (PySem.W.fnOf "rest_join" "rest_join" (defArgs s_rest_join) (defBody s_rest_join) (defScope s_rest_join) .none kVD8 dcD8 pmD8 anD8 cdD8 ctD8), slD8⟩)
    (cD8 : PySem.W.codeIn K cdD8 "rest_join" = true)
    (kD8 : PySem.W.keepIn K (.ref fD8) = true)
    (aD9 : PySem.W.nsIn K mainGlobals "rest_meet" = some (some (.ref fD9)))
    (lD9 : K.lookup fD9 = some ⟨ocD9, odD9, .func (PySem.W.fnOf "rest_meet" "rest_meet" (defArgs s_rest_meet) (defBody s_rest_meet) (defScope s_rest_meet) .none kVD9 dcD9 pmD9 anD9 cdD9 ctD9), slD9⟩)
    (cD9 : PySem.W.codeIn K cdD9 "rest_meet" = true)
    (kD9 : PySem.W.keepIn K (.ref fD9) = true)
    (aD10 : PySem.W.nsIn K mainGlobals "rest_of" = some (some (.ref fD10)))
    (lD10 : K.lookup fD10 = some ⟨ocD10, odD10, .func (PySem.W.fnOf "rest_of" "rest_of" (defArgs s_rest_of) (defBody s_rest_of) (defScope s_rest_of) .none kVD10 dcD10 pmD10 anD10 cdD10 ctD10), slD10⟩)
    (cD10 : PySem.W.codeIn K cdD10 "rest_of" = true)
    (kD10 : PySem.W.keepIn K (.ref fD10) = true)
    (aD11 : PySem.W.nsIn K mainGlobals "rest_has" = some (some (.ref fD11)))
    (lD11 : K.lookup fD11 = some ⟨ocD11, odD11, .func (PySem.W.fnOf "rest_has" "rest_has" (defArgs s_rest_has) (defBody s_rest_has) (defScope s_rest_has) .none kVD11 dcD11 pmD11 anD11 cdD11 ctD11), slD11⟩)
    (cD11 : PySem.W.codeIn K cdD11 "rest_has" = true)
    (kD11 : PySem.W.keepIn K (.ref fD11) = true)
    (aD12 : PySem.W.nsIn K mainGlobals "rest_within" = some (some (.ref fD12)))
    (lD12 : K.lookup fD12 = some ⟨ocD12, odD12, .func (PySem.W.fnOf "rest_within" "rest_within" (defArgs s_rest_within) (defBody s_rest_within) (defScope s_rest_within) .none kVD12 dcD12 pmD12 anD12 cdD12 ctD12), slD12⟩)
    (cD12 : PySem.W.codeIn K cdD12 "rest_within" = true)
    (kD12 : PySem.W.keepIn K (.ref fD12) = true)
    (aD13 : PySem.W.nsIn K mainGlobals "inverse" = some (some (.ref fD13)))
    (lD13 : K.lookup fD13 = some ⟨ocD13, odD13, .func (PySem.W.fnOf "inverse" "inverse" (defArgs s_inverse) (defBody s_inverse) (defScope s_inverse) .none kVD13 dcD13 pmD13 anD13 cdD13 ctD13), slD13⟩)
    (cD13 : PySem.W.codeIn K cdD13 "inverse" = true)
    (kD13 : PySem.W.keepIn K (.ref fD13) = true)
    (aD14 : PySem.W.nsIn K mainGlobals "span_join" = some (some (.ref fD14)))
    (lD14 : K.lookup fD14 = some ⟨ocD14, odD14, .func (PySem.W.fnOf "span_join" "span_join" (defArgs s_span_join) (defBody s_span_join) (defScope s_span_join) .none kVD14 dcD14 pmD14 anD14 cdD14 ctD14), slD14⟩)
    (cD14 : PySem.W.codeIn K cdD14 "span_join" = true)
    (kD14 : PySem.W.keepIn K (.ref fD14) = true)
    (aD15 : PySem.W.nsIn K mainGlobals "span_meet" = some (some (.ref fD15)))
    (lD15 : K.lookup fD15 = some ⟨ocD15, odD15, .func (PySem.W.fnOf "span_meet" "span_meet" (defArgs s_span_meet) (defBody s_span_meet) (defScope s_span_meet) .none kVD15 dcD15 pmD15 anD15 cdD15 ctD15), slD15⟩)
    (cD15 : PySem.W.codeIn K cdD15 "span_meet" = true)
    (kD15 : PySem.W.keepIn K (.ref fD15) = true)
    (aD16 : PySem.W.nsIn K mainGlobals "single" = some (some (.ref fD16)))
    (lD16 : K.lookup fD16 = some ⟨ocD16, odD16, .func (PySem.W.fnOf "single" "single" (defArgs s_single) (defBody s_single) (defScope s_single) .none kVD16 dcD16 pmD16 anD16 cdD16 ctD16), slD16⟩)
    (cD16 : PySem.W.codeIn K cdD16 "single" = true)
    (kD16 : PySem.W.keepIn K (.ref fD16) = true)
    (aD17 : PySem.W.nsIn K mainGlobals "value_of" = some (some (.ref fD17)))
    (lD17 : K.lookup fD17 = some ⟨ocD17, odD17, .func (PySem.W.fnOf "value_of" "value_of" (defArgs s_value_of) (defBody s_value_of) (defScope s_value_of) .none kVD17 dcD17 pmD17 anD17 cdD17 ctD17), slD17⟩)
    (cD17 : PySem.W.codeIn K cdD17 "value_of" = true)
    (kD17 : PySem.W.keepIn K (.ref fD17) = true)
    (aD18 : PySem.W.nsIn K mainGlobals "contains" = some (some (.ref fD18)))
    (lD18 : K.lookup fD18 = some ⟨ocD18, odD18, .func (PySem.W.fnOf "contains" "contains" (defArgs s_contains) (defBody s_contains) (defScope s_contains) .none kVD18 dcD18 pmD18 anD18 cdD18 ctD18), slD18⟩)
    (cD18 : PySem.W.codeIn K cdD18 "contains" = true)
    (kD18 : PySem.W.keepIn K (.ref fD18) = true)
    (aD19 : PySem.W.nsIn K mainGlobals "value_within" = some (some (.ref fD19)))
    (lD19 : K.lookup fD19 = some ⟨ocD19, odD19, .func (PySem.W.fnOf "value_within" "value_within" (defArgs s_value_within) (defBody s_value_within) (defScope s_value_within) .none kVD19 dcD19 pmD19 anD19 cdD19 ctD19), slD19⟩)
    (cD19 : PySem.W.codeIn K cdD19 "value_within" = true)
    (kD19 : PySem.W.keepIn K (.ref fD19) = true)
    (aD20 : PySem.W.nsIn K mainGlobals "value_join" = some (some (.ref fD20)))
    (lD20 : K.lookup fD20 = some ⟨ocD20, odD20, .func (PySem.W.fnOf "value_join" "value_join" (defArgs s_value_join) (defBody s_value_join) (defScope s_value_join) .none kVD20 dcD20 pmD20 anD20 cdD20 ctD20), slD20⟩)
    (cD20 : PySem.W.codeIn K cdD20 "value_join" = true)
    (kD20 : PySem.W.keepIn K (.ref fD20) = true)
    (aD21 : PySem.W.nsIn K mainGlobals "value_meet" = some (some (.ref fD21)))
    (lD21 : K.lookup fD21 = some ⟨ocD21, odD21, .func (PySem.W.fnOf "value_meet" "value_meet" (defArgs s_value_meet) (defBody s_value_meet) (defScope s_value_meet) .none kVD21 dcD21 pmD21 anD21 cdD21 ctD21), slD21⟩)
    (cD21 : PySem.W.codeIn K cdD21 "value_meet" = true)
    (kD21 : PySem.W.keepIn K (.ref fD21) = true)
    (aD22 : PySem.W.nsIn K mainGlobals "value_cut" = some (some (.ref fD22)))
    (lD22 : K.lookup fD22 = some ⟨ocD22, odD22, .func (PySem.W.fnOf "value_cut" "value_cut" (defArgs s_value_cut) (defBody s_value_cut) (defScope s_value_cut) .none kVD22 dcD22 pmD22 anD22 cdD22 ctD22), slD22⟩)
    (cD22 : PySem.W.codeIn K cdD22 "value_cut" = true)
    (kD22 : PySem.W.keepIn K (.ref fD22) = true)
    (aD23 : PySem.W.nsIn K mainGlobals "value_from" = some (some (.ref fD23)))
    (lD23 : K.lookup fD23 = some ⟨ocD23, odD23, .func (PySem.W.fnOf "value_from" "value_from" (defArgs s_value_from) (defBody s_value_from) (defScope s_value_from) .none kVD23 dcD23 pmD23 anD23 cdD23 ctD23), slD23⟩)
    (cD23 : PySem.W.codeIn K cdD23 "value_from" = true)
    (kD23 : PySem.W.keepIn K (.ref fD23) = true)
    (aD24 : PySem.W.nsIn K mainGlobals "joined" = some (some (.ref fD24)))
    (lD24 : K.lookup fD24 = some ⟨ocD24, odD24, .func (PySem.W.fnOf "joined" "joined" (defArgs s_joined) (defBody s_joined) (defScope s_joined) .none kVD24 dcD24 pmD24 anD24 cdD24 ctD24), slD24⟩)
    (cD24 : PySem.W.codeIn K cdD24 "joined" = true)
    (kD24 : PySem.W.keepIn K (.ref fD24) = true)
    (aD25 : PySem.W.nsIn K mainGlobals "same_pieces" = some (some (.ref fD25)))
    (lD25 : K.lookup fD25 = some ⟨ocD25, odD25, .func (PySem.W.fnOf "same_pieces" "same_pieces" (defArgs s_same_pieces) (defBody s_same_pieces) (defScope s_same_pieces) .none kVD25 dcD25 pmD25 anD25 cdD25 ctD25), slD25⟩)
    (cD25 : PySem.W.codeIn K cdD25 "same_pieces" = true)
    (kD25 : PySem.W.keepIn K (.ref fD25) = true)
    (aD26 : PySem.W.nsIn K mainGlobals "pieces_read" = some (some (.ref fD26)))
    (lD26 : K.lookup fD26 = some ⟨ocD26, odD26, .func (PySem.W.fnOf "pieces_read" "pieces_read" (defArgs s_pieces_read) (defBody s_pieces_read) (defScope s_pieces_read) .none kVD26 dcD26 pmD26 anD26 cdD26 ctD26), slD26⟩)
    (cD26 : PySem.W.codeIn K cdD26 "pieces_read" = true)
    (kD26 : PySem.W.keepIn K (.ref fD26) = true)
    (aD27 : PySem.W.nsIn K mainGlobals "pieces_write" = some (some (.ref fD27)))
    (lD27 : K.lookup fD27 = some ⟨ocD27, odD27, .func (PySem.W.fnOf "pieces_write" "pieces_write" (defArgs s_pieces_write) (defBody s_pieces_write) (defScope s_pieces_write) .none kVD27 dcD27 pmD27 anD27 cdD27 ctD27), slD27⟩)
    (cD27 : PySem.W.codeIn K cdD27 "pieces_write" = true)
    (kD27 : PySem.W.keepIn K (.ref fD27) = true)
    (aD28 : PySem.W.nsIn K mainGlobals "pieces_within" = some (some (.ref fD28)))
    (lD28 : K.lookup fD28 = some ⟨ocD28, odD28, .func (PySem.W.fnOf "pieces_within" "pieces_within" (defArgs s_pieces_within) (defBody s_pieces_within) (defScope s_pieces_within) .none kVD28 dcD28 pmD28 anD28 cdD28 ctD28), slD28⟩)
    (cD28 : PySem.W.codeIn K cdD28 "pieces_within" = true)
    (kD28 : PySem.W.keepIn K (.ref fD28) = true)
    (aD29 : PySem.W.nsIn K mainGlobals "pieces_join" = some (some (.ref fD29)))
    (lD29 : K.lookup fD29 = some ⟨ocD29, odD29, .func (PySem.W.fnOf "pieces_join" "pieces_join" (defArgs s_pieces_join) (defBody s_pieces_join) (defScope s_pieces_join) .none kVD29 dcD29 pmD29 anD29 cdD29 ctD29), slD29⟩)
    (cD29 : PySem.W.codeIn K cdD29 "pieces_join" = true)
    (kD29 : PySem.W.keepIn K (.ref fD29) = true)
    (aD30 : PySem.W.nsIn K mainGlobals "pieces_meet" = some (some (.ref fD30)))
    (lD30 : K.lookup fD30 = some ⟨ocD30, odD30, .func (PySem.W.fnOf "pieces_meet" "pieces_meet" (defArgs s_pieces_meet) (defBody s_pieces_meet) (defScope s_pieces_meet) .none kVD30 dcD30 pmD30 anD30 cdD30 ctD30), slD30⟩)
    (cD30 : PySem.W.codeIn K cdD30 "pieces_meet" = true)
    (kD30 : PySem.W.keepIn K (.ref fD30) = true)
    (aD31 : PySem.W.nsIn K mainGlobals "written" = some (some (.ref fD31)))
    (lD31 : K.lookup fD31 = some ⟨ocD31, odD31, .func (PySem.W.fnOf "written" "written" (defArgs s_written) (defBody s_written) (defScope s_written) .none kVD31 dcD31 pmD31 anD31 cdD31 ctD31), slD31⟩)
    (cD31 : PySem.W.codeIn K cdD31 "written" = true)
    (kD31 : PySem.W.keepIn K (.ref fD31) = true)
    (aD32 : PySem.W.nsIn K mainGlobals "items_of" = some (some (.ref fD32)))
    (lD32 : K.lookup fD32 = some ⟨ocD32, odD32, .func (PySem.W.fnOf "items_of" "items_of" (defArgs s_items_of) (defBody s_items_of) (defScope s_items_of) .none kVD32 dcD32 pmD32 anD32 cdD32 ctD32), slD32⟩)
    (cD32 : PySem.W.codeIn K cdD32 "items_of" = true)
    (kD32 : PySem.W.keepIn K (.ref fD32) = true)
    (aD33 : PySem.W.nsIn K mainGlobals "merged" = some (some (.ref fD33)))
    (lD33 : K.lookup fD33 = some ⟨ocD33, odD33, .func (PySem.W.fnOf "merged" "merged" (defArgs s_merged) (defBody s_merged) (defScope s_merged) .none kVD33 dcD33 pmD33 anD33 cdD33 ctD33), slD33⟩)
    (cD33 : PySem.W.codeIn K cdD33 "merged" = true)
    (kD33 : PySem.W.keepIn K (.ref fD33) = true)
    (aD34 : PySem.W.nsIn K mainGlobals "aligned" = some (some (.ref fD34)))
    (lD34 : K.lookup fD34 = some ⟨ocD34, odD34, .func (PySem.W.fnOf "aligned" "aligned" (defArgs s_aligned) (defBody s_aligned) (defScope s_aligned) .none kVD34 dcD34 pmD34 anD34 cdD34 ctD34), slD34⟩)
    (cD34 : PySem.W.codeIn K cdD34 "aligned" = true)
    (kD34 : PySem.W.keepIn K (.ref fD34) = true)
    (aD35 : PySem.W.nsIn K mainGlobals "_law_box" = some (some (.ref fD35)))
    (lD35 : K.lookup fD35 = some ⟨ocD35, odD35, .func (PySem.W.fnOf "_law_box" "_law_box" (defArgs sBox) (defBody sBox) (defScope sBox) .none kVD35 dcD35 pmD35 anD35 cdD35 ctD35), slD35⟩)
    (cD35 : PySem.W.codeIn K cdD35 "_law_box" = true)
    (kD35 : PySem.W.keepIn K (.ref fD35) = true)
    (aD36 : PySem.W.nsIn K mainGlobals "_law_take" = some (some (.ref fD36)))
    (lD36 : K.lookup fD36 = some ⟨ocD36, odD36, .func (PySem.W.fnOf "_law_take" "_law_take" (defArgs sTake) (defBody sTake) (defScope sTake) .none kVD36 dcD36 pmD36 anD36 cdD36 ctD36), slD36⟩)
    (cD36 : PySem.W.codeIn K cdD36 "_law_take" = true)
    (kD36 : PySem.W.keepIn K (.ref fD36) = true)
    (aD37 : PySem.W.nsIn K mainGlobals "_law_cells" = some (some (.ref fD37)))
    (lD37 : K.lookup fD37 = some ⟨ocD37, odD37, .func (PySem.W.fnOf "_law_cells" "_law_cells" (defArgs sCells) (defBody sCells) (defScope sCells) .none kVD37 dcD37 pmD37 anD37 cdD37 ctD37), slD37⟩)
    (cD37 : PySem.W.codeIn K cdD37 "_law_cells" = true)
    (kD37 : PySem.W.keepIn K (.ref fD37) = true)
    (aD38 : PySem.W.nsIn K mainGlobals "_law_of" = some (some (.ref fD38)))
    (lD38 : K.lookup fD38 = some ⟨ocD38, odD38, .func (PySem.W.fnOf "_law_of" "_law_of" (defArgs sOf) (defBody sOf) (defScope sOf) .none kVD38 dcD38 pmD38 anD38 cdD38 ctD38), slD38⟩)
    (cD38 : PySem.W.codeIn K cdD38 "_law_of" = true)
    (kD38 : PySem.W.keepIn K (.ref fD38) = true)
    (aD39 : PySem.W.nsIn K mainGlobals "_law_same" = some (some (.ref fD39)))
    (lD39 : K.lookup fD39 = some ⟨ocD39, odD39, .func (PySem.W.fnOf "_law_same" "_law_same" (defArgs s_l_same) (defBody s_l_same) (defScope s_l_same) .none kVD39 dcD39 pmD39 anD39 cdD39 ctD39), slD39⟩)
    (cD39 : PySem.W.codeIn K cdD39 "_law_same" = true)
    (kD39 : PySem.W.keepIn K (.ref fD39) = true)
    (aD40 : PySem.W.nsIn K mainGlobals "_law_value" = some (some (.ref fD40)))
    (lD40 : K.lookup fD40 = some ⟨ocD40, odD40, .func (PySem.W.fnOf "_law_value" "_law_value" (defArgs s_l_value) (defBody s_l_value) (defScope s_l_value) .none kVD40 dcD40 pmD40 anD40 cdD40 ctD40), slD40⟩)
    (cD40 : PySem.W.codeIn K cdD40 "_law_value" = true)
    (kD40 : PySem.W.keepIn K (.ref fD40) = true)
    (aD41 : PySem.W.nsIn K mainGlobals "_law_index" = some (some (.ref fD41)))
    (lD41 : K.lookup fD41 = some ⟨ocD41, odD41, .func (PySem.W.fnOf "_law_index" "_law_index" (defArgs s_l_index) (defBody s_l_index) (defScope s_l_index) .none kVD41 dcD41 pmD41 anD41 cdD41 ctD41), slD41⟩)
    (cD41 : PySem.W.codeIn K cdD41 "_law_index" = true)
    (kD41 : PySem.W.keepIn K (.ref fD41) = true)
    (aD42 : PySem.W.nsIn K mainGlobals "_law_cut" = some (some (.ref fD42)))
    (lD42 : K.lookup fD42 = some ⟨ocD42, odD42, .func (PySem.W.fnOf "_law_cut" "_law_cut" (defArgs s_l_cut) (defBody s_l_cut) (defScope s_l_cut) .none kVD42 dcD42 pmD42 anD42 cdD42 ctD42), slD42⟩)
    (cD42 : PySem.W.codeIn K cdD42 "_law_cut" = true)
    (kD42 : PySem.W.keepIn K (.ref fD42) = true)
    (aD43 : PySem.W.nsIn K mainGlobals "_law_written" = some (some (.ref fD43)))
    (lD43 : K.lookup fD43 = some ⟨ocD43, odD43, .func (PySem.W.fnOf "_law_written" "_law_written" (defArgs s_l_written) (defBody s_l_written) (defScope s_l_written) .none kVD43 dcD43 pmD43 anD43 cdD43 ctD43), slD43⟩)
    (cD43 : PySem.W.codeIn K cdD43 "_law_written" = true)
    (kD43 : PySem.W.keepIn K (.ref fD43) = true)
    (aD44 : PySem.W.nsIn K mainGlobals "_law_seen" = some (some (.ref fD44)))
    (lD44 : K.lookup fD44 = some ⟨ocD44, odD44, .func (PySem.W.fnOf "_law_seen" "_law_seen" (defArgs s_l_seen) (defBody s_l_seen) (defScope s_l_seen) .none kVD44 dcD44 pmD44 anD44 cdD44 ctD44), slD44⟩)
    (cD44 : PySem.W.codeIn K cdD44 "_law_seen" = true)
    (kD44 : PySem.W.keepIn K (.ref fD44) = true)
    (aD45 : PySem.W.nsIn K mainGlobals "_law_filled" = some (some (.ref fD45)))
    (lD45 : K.lookup fD45 = some ⟨ocD45, odD45, .func (PySem.W.fnOf "_law_filled" "_law_filled" (defArgs s_l_filled) (defBody s_l_filled) (defScope s_l_filled) .none kVD45 dcD45 pmD45 anD45 cdD45 ctD45), slD45⟩)
    (cD45 : PySem.W.codeIn K cdD45 "_law_filled" = true)
    (kD45 : PySem.W.keepIn K (.ref fD45) = true)
    (aD46 : PySem.W.nsIn K mainGlobals "_law_right" = some (some (.ref fD46)))
    (lD46 : K.lookup fD46 = some ⟨ocD46, odD46, .func (PySem.W.fnOf "_law_right" "_law_right" (defArgs s_l_right) (defBody s_l_right) (defScope s_l_right) .none kVD46 dcD46 pmD46 anD46 cdD46 ctD46), slD46⟩)
    (cD46 : PySem.W.codeIn K cdD46 "_law_right" = true)
    (kD46 : PySem.W.keepIn K (.ref fD46) = true)
    (aD47 : PySem.W.nsIn K mainGlobals "law" = some (some (.ref fD47)))
    (lD47 : K.lookup fD47 = some ⟨ocD47, odD47, .func (PySem.W.fnOf "law" "law" (defArgs sLaw) (defBody sLaw) (defScope sLaw) .none kVD47 dcD47 pmD47 anD47 cdD47 ctD47), slD47⟩)
    (cD47 : PySem.W.codeIn K cdD47 "law" = true)
    (kD47 : PySem.W.keepIn K (.ref fD47) = true)
    (b_len : PySem.W.nsIn K mainGlobals "len" = some none)
    (b_abs : PySem.W.nsIn K mainGlobals "abs" = some none)
    (b_int : PySem.W.nsIn K mainGlobals "int" = some none)
    (b_list : PySem.W.nsIn K mainGlobals "list" = some none)
    (b_tuple : PySem.W.nsIn K mainGlobals "tuple" = some none)
    (b_bool : PySem.W.nsIn K mainGlobals "bool" = some none)
    (b_str : PySem.W.nsIn K mainGlobals "str" = some none)
    (b_enumerate : PySem.W.nsIn K mainGlobals "enumerate" = some none)
    (b_isinstance : PySem.W.nsIn K mainGlobals "isinstance" = some none)
    (b_all : PySem.W.nsIn K mainGlobals "all" = some none)
    (b_any : PySem.W.nsIn K mainGlobals "any" = some none)
    (b_zip : PySem.W.nsIn K mainGlobals "zip" = some none)
    (b_range : PySem.W.nsIn K mainGlobals "range" = some none)
    (b_min : PySem.W.nsIn K mainGlobals "min" = some none)
    (b_max : PySem.W.nsIn K mainGlobals "max" = some none)
    (b_set : PySem.W.nsIn K mainGlobals "set" = some none)
    (b_sorted : PySem.W.nsIn K mainGlobals "sorted" = some none)
    (b_repr : PySem.W.nsIn K mainGlobals "repr" = some none)
    (b_sum : PySem.W.nsIn K mainGlobals "sum" = some none)
    (aGCD : PySem.W.nsIn K mainGlobals "gcd" = some (some (.builtin "math.gcd")))
    (b_map : PySem.W.nsIn K mainGlobals "map" = some none) :
    ∃ fd : FuncData, (∀ (s : Shared) (v : Value), BindsTo s fd ⟨[v], []⟩ [("_law_script", v)]) ∧ ∀ base : Heap, K.In base → base.Ns mainGlobals mg → FnOk l.prog w K mg base CX0 25 fa fd ["_law_script"] (spLaw K) := by
  have e := hfa.symm.trans (PySem.W.mg_of X G aD47)
  cases e
  have F_as_tuples := fun_mk (st := s_as_tuples) lD0 cD0 kD0
  have b_as_tuples := F_as_tuples.binds (ps := ["thing"]) fun _ _ _ _ _ _ us hl => match us, hl with | [_], _ => rfl
  have F_loosest_low := fun_mk (st := s_loosest_low) lD1 cD1 kD1
  have b_loosest_low := F_loosest_low.binds (ps := ["one", "other"]) fun _ _ _ _ _ _ us hl => match us, hl with | [_, _], _ => rfl
  have F_tightest_low := fun_mk (st := s_tightest_low) lD2 cD2 kD2
  have b_tightest_low := F_tightest_low.binds (ps := ["one", "other"]) fun _ _ _ _ _ _ us hl => match us, hl with | [_, _], _ => rfl
  have F_loosest_high := fun_mk (st := s_loosest_high) lD3 cD3 kD3
  have b_loosest_high := F_loosest_high.binds (ps := ["one", "other"]) fun _ _ _ _ _ _ us hl => match us, hl with | [_, _], _ => rfl
  have F_tightest_high := fun_mk (st := s_tightest_high) lD4 cD4 kD4
  have b_tightest_high := F_tightest_high.binds (ps := ["one", "other"]) fun _ _ _ _ _ _ us hl => match us, hl with | [_, _], _ => rfl
  have F_low_within := fun_mk (st := s_low_within) lD5 cD5 kD5
  have b_low_within := F_low_within.binds (ps := ["one", "other"]) fun _ _ _ _ _ _ us hl => match us, hl with | [_, _], _ => rfl
  have F_high_within := fun_mk (st := s_high_within) lD6 cD6 kD6
  have b_high_within := F_high_within.binds (ps := ["one", "other"]) fun _ _ _ _ _ _ us hl => match us, hl with | [_, _], _ => rfl
  have F_lets_in := fun_mk (st := s_lets_in) lD7 cD7 kD7
  have b_lets_in := F_lets_in.binds (ps := ["low", "high", "n"]) fun _ _ _ _ _ _ us hl => match us, hl with | [_, _, _], _ => rfl
  have F_rest_join := fun_mk (st := s_rest_join) lD8 cD8 kD8
  have b_rest_join := F_rest_join.binds (ps := ["one", "other"]) fun _ _ _ _ _ _ us hl => match us, hl with | [_, _], _ => rfl
  have F_rest_meet := fun_mk (st := s_rest_meet) lD9 cD9 kD9
  have b_rest_meet := F_rest_meet.binds (ps := ["one", "other"]) fun _ _ _ _ _ _ us hl => match us, hl with | [_, _], _ => rfl
  have F_rest_of := fun_mk (st := s_rest_of) lD10 cD10 kD10
  have b_rest_of := F_rest_of.binds (ps := ["m", "n"]) fun _ _ _ _ _ _ us hl => match us, hl with | [_, _], _ => rfl
  have F_rest_has := fun_mk (st := s_rest_has) lD11 cD11 kD11
  have b_rest_has := F_rest_has.binds (ps := ["rest", "n"]) fun _ _ _ _ _ _ us hl => match us, hl with | [_, _], _ => rfl
  have F_rest_within := fun_mk (st := s_rest_within) lD12 cD12 kD12
  have b_rest_within := F_rest_within.binds (ps := ["one", "other"]) fun _ _ _ _ _ _ us hl => match us, hl with | [_, _], _ => rfl
  have F_inverse := fun_mk (st := s_inverse) lD13 cD13 kD13
  have b_inverse := F_inverse.binds (ps := ["n", "m"]) fun _ _ _ _ _ _ us hl => match us, hl with | [_, _], _ => rfl
  have F_span_join := fun_mk (st := s_span_join) lD14 cD14 kD14
  have b_span_join := F_span_join.binds (ps := ["one", "other"]) fun _ _ _ _ _ _ us hl => match us, hl with | [_, _], _ => rfl
  have F_span_meet := fun_mk (st := s_span_meet) lD15 cD15 kD15
  have b_span_meet := F_span_meet.binds (ps := ["one", "other"]) fun _ _ _ _ _ _ us hl => match us, hl with | [_, _], _ => rfl
  have F_single := fun_mk (st := s_single) lD16 cD16 kD16
  have b_single := F_single.binds (ps := ["n"]) fun _ _ _ _ _ _ us hl => match us, hl with | [_], _ => rfl
  have F_value_of := fun_mk (st := s_value_of) lD17 cD17 kD17
  have b_value_of := F_value_of.binds (ps := ["low", "high", "m", "r"]) fun _ _ _ _ _ _ us hl => match us, hl with | [_, _, _, _], _ => rfl
  have F_contains := fun_mk (st := s_contains) lD18 cD18 kD18
  have b_contains := F_contains.binds (ps := ["value", "n"]) fun _ _ _ _ _ _ us hl => match us, hl with | [_, _], _ => rfl
  have F_value_within := fun_mk (st := s_value_within) lD19 cD19 kD19
  have b_value_within := F_value_within.binds (ps := ["one", "other"]) fun _ _ _ _ _ _ us hl => match us, hl with | [_, _], _ => rfl
  have F_value_join := fun_mk (st := s_value_join) lD20 cD20 kD20
  have b_value_join := F_value_join.binds (ps := ["one", "other"]) fun _ _ _ _ _ _ us hl => match us, hl with | [_, _], _ => rfl
  have F_value_meet := fun_mk (st := s_value_meet) lD21 cD21 kD21
  have b_value_meet := F_value_meet.binds (ps := ["one", "other"]) fun _ _ _ _ _ _ us hl => match us, hl with | [_, _], _ => rfl
  have F_value_cut := fun_mk (st := s_value_cut) lD22 cD22 kD22
  have b_value_cut := F_value_cut.binds (ps := ["value", "low", "high"]) fun _ _ _ _ _ _ us hl => match us, hl with | [_, _, _], _ => rfl
  have F_value_from := fun_mk (st := s_value_from) lD23 cD23 kD23
  have b_value_from := F_value_from.binds (ps := ["span", "rest"]) fun _ _ _ _ _ _ us hl => match us, hl with | [_, _], _ => rfl
  have F_joined := fun_mk (st := s_joined) lD24 cD24 kD24
  have b_joined := F_joined.binds (ps := ["one", "other"]) fun _ _ _ _ _ _ us hl => match us, hl with | [_, _], _ => rfl
  have F_same_pieces := fun_mk (st := s_same_pieces) lD25 cD25 kD25
  have b_same_pieces := F_same_pieces.binds (ps := ["n", "value"]) fun _ _ _ _ _ _ us hl => match us, hl with | [_, _], _ => rfl
  have F_pieces_read := fun_mk (st := s_pieces_read) lD26 cD26 kD26
  have b_pieces_read := F_pieces_read.binds (ps := ["pieces", "index"]) fun _ _ _ _ _ _ us hl => match us, hl with | [_, _], _ => rfl
  have F_pieces_write := fun_mk (st := s_pieces_write) lD27 cD27 kD27
  have b_pieces_write := F_pieces_write.binds (ps := ["pieces", "index", "value"]) fun _ _ _ _ _ _ us hl => match us, hl with | [_, _, _], _ => rfl
  have F_pieces_within := fun_mk (st := s_pieces_within) lD28 cD28 kD28
  have b_pieces_within := F_pieces_within.binds (ps := ["one", "other"]) fun _ _ _ _ _ _ us hl => match us, hl with | [_, _], _ => rfl
  have F_pieces_join := fun_mk (st := s_pieces_join) lD29 cD29 kD29
  have b_pieces_join := F_pieces_join.binds (ps := ["one", "other"]) fun _ _ _ _ _ _ us hl => match us, hl with | [_, _], _ => rfl
  have F_pieces_meet := fun_mk (st := s_pieces_meet) lD30 cD30 kD30
  have b_pieces_meet := F_pieces_meet.binds (ps := ["one", "other"]) fun _ _ _ _ _ _ us hl => match us, hl with | [_, _], _ => rfl
  have F_written := fun_mk (st := s_written) lD31 cD31 kD31
  have b_written := F_written.binds (ps := ["old", "new", "alone"]) fun _ _ _ _ _ _ us hl => match us, hl with | [_, _, _], _ => rfl
  have F_items_of := fun_mk (st := s_items_of) lD32 cD32 kD32
  have b_items_of := F_items_of.binds (ps := ["pieces"]) fun _ _ _ _ _ _ us hl => match us, hl with | [_], _ => rfl
  have F_merged := fun_mk (st := s_merged) lD33 cD33 kD33
  have b_merged := F_merged.binds (ps := ["pairs"]) fun _ _ _ _ _ _ us hl => match us, hl with | [_], _ => rfl
  have F_aligned := fun_mk (st := s_aligned) lD34 cD34 kD34
  have b_aligned := F_aligned.binds (ps := ["one", "other"]) fun _ _ _ _ _ _ us hl => match us, hl with | [_, _], _ => rfl
  have F_l_box := fun_mk (st := sBox) lD35 cD35 kD35
  have b_l_box := F_l_box.binds (ps := ["_law_script", "_law_k"]) fun _ _ _ _ _ _ us hl => match us, hl with | [_, _], _ => rfl
  have F_l_take := fun_mk (st := sTake) lD36 cD36 kD36
  have b_l_take := F_l_take.binds (ps := ["_law_box_here", "_law_below"]) fun _ _ _ _ _ _ us hl => match us, hl with | [_, _], _ => rfl
  have F_l_cells := fun_mk (st := sCells) lD37 cD37 kD37
  have b_l_cells := F_l_cells.binds (ps := ["_law_script", "_law_most"]) fun _ _ _ _ _ _ us hl => match us, hl with | [_, _], _ => rfl
  have F_l_of := fun_mk (st := sOf) lD38 cD38 kD38
  have b_l_of := F_l_of.binds (ps := ["_law_box_here", "_law_some"]) fun _ _ _ _ _ _ us hl => match us, hl with | [_, _], _ => rfl
  have F_l_same := fun_mk (st := s_l_same) lD39 cD39 kD39
  have b_l_same := F_l_same.binds (ps := ["_law_found", "_law_due"]) fun _ _ _ _ _ _ us hl => match us, hl with | [_, _], _ => rfl
  have F_l_value := fun_mk (st := s_l_value) lD40 cD40 kD40
  have b_l_value := F_l_value.binds (ps := ["_law_box_here"]) fun _ _ _ _ _ _ us hl => match us, hl with | [_], _ => rfl
  have F_l_index := fun_mk (st := s_l_index) lD41 cD41 kD41
  have b_l_index := F_l_index.binds (ps := ["_law_box_here", "_law_count"]) fun _ _ _ _ _ _ us hl => match us, hl with | [_, _], _ => rfl
  have F_l_cut := fun_mk (st := s_l_cut) lD42 cD42 kD42
  have b_l_cut := F_l_cut.binds (ps := ["_law_items"]) fun _ _ _ _ _ _ us hl => match us, hl with | [_], _ => rfl
  have F_l_written := fun_mk (st := s_l_written) lD43 cD43 kD43
  have b_l_written := F_l_written.binds (ps := ["_law_items", "_law_index_so", "_law_value_so"]) fun _ _ _ _ _ _ us hl => match us, hl with | [_, _, _], _ => rfl
  have F_l_seen := fun_mk (st := s_l_seen) lD44 cD44 kD44
  have b_l_seen := F_l_seen.binds (ps := ["_law_items", "_law_index_so"]) fun _ _ _ _ _ _ us hl => match us, hl with | [_, _], _ => rfl
  have F_l_filled := fun_mk (st := s_l_filled) lD45 cD45 kD45
  have b_l_filled := F_l_filled.binds (ps := ["_law_box_here", "_law_count"]) fun _ _ _ _ _ _ us hl => match us, hl with | [_, _], _ => rfl
  have F_l_right := fun_mk (st := s_l_right) lD46 cD46 kD46
  have b_l_right := F_l_right.binds (ps := ["_law_box_here"]) fun _ _ _ _ _ _ us hl => match us, hl with | [_], _ => rfl
  have F_law := fun_mk (st := sLaw) lD47 cD47 kD47
  have b_law := F_law.binds (ps := ["_law_script"]) fun _ _ _ _ _ _ us hl => match us, hl with | [_], _ => rfl
  have bl : Blts mg := ⟨PySem.W.mg_none_of X G b_len, PySem.W.mg_none_of X G b_abs, PySem.W.mg_none_of X G b_int, PySem.W.mg_none_of X G b_list, PySem.W.mg_none_of X G b_tuple, PySem.W.mg_none_of X G b_bool, PySem.W.mg_none_of X G b_str, PySem.W.mg_none_of X G b_enumerate, PySem.W.mg_none_of X G b_isinstance, PySem.W.mg_none_of X G b_all, PySem.W.mg_none_of X G b_any, PySem.W.mg_none_of X G b_zip, PySem.W.mg_none_of X G b_range, PySem.W.mg_none_of X G b_min, PySem.W.mg_none_of X G b_max, PySem.W.mg_none_of X G b_set, PySem.W.mg_none_of X G b_sorted, PySem.W.mg_none_of X G b_repr, PySem.W.mg_none_of X G b_sum⟩
  have hgcd := PySem.W.mg_of X G aGCD
  have hmap := PySem.W.mg_none_of X G b_map
  have n_as_tuples := PySem.W.mg_of X G aD0
  have n_loosest_low := PySem.W.mg_of X G aD1
  have n_tightest_low := PySem.W.mg_of X G aD2
  have n_loosest_high := PySem.W.mg_of X G aD3
  have n_tightest_high := PySem.W.mg_of X G aD4
  have n_low_within := PySem.W.mg_of X G aD5
  have n_high_within := PySem.W.mg_of X G aD6
  have n_lets_in := PySem.W.mg_of X G aD7
  have n_rest_join := PySem.W.mg_of X G aD8
  have n_rest_meet := PySem.W.mg_of X G aD9
  have n_rest_of := PySem.W.mg_of X G aD10
  have n_rest_has := PySem.W.mg_of X G aD11
  have n_rest_within := PySem.W.mg_of X G aD12
  have n_inverse := PySem.W.mg_of X G aD13
  have n_span_join := PySem.W.mg_of X G aD14
  have n_span_meet := PySem.W.mg_of X G aD15
  have n_single := PySem.W.mg_of X G aD16
  have n_value_of := PySem.W.mg_of X G aD17
  have n_contains := PySem.W.mg_of X G aD18
  have n_value_within := PySem.W.mg_of X G aD19
  have n_value_join := PySem.W.mg_of X G aD20
  have n_value_meet := PySem.W.mg_of X G aD21
  have n_value_cut := PySem.W.mg_of X G aD22
  have n_value_from := PySem.W.mg_of X G aD23
  have n_joined := PySem.W.mg_of X G aD24
  have n_same_pieces := PySem.W.mg_of X G aD25
  have n_pieces_read := PySem.W.mg_of X G aD26
  have n_pieces_write := PySem.W.mg_of X G aD27
  have n_pieces_within := PySem.W.mg_of X G aD28
  have n_pieces_join := PySem.W.mg_of X G aD29
  have n_pieces_meet := PySem.W.mg_of X G aD30
  have n_written := PySem.W.mg_of X G aD31
  have n_items_of := PySem.W.mg_of X G aD32
  have n_merged := PySem.W.mg_of X G aD33
  have n_aligned := PySem.W.mg_of X G aD34
  have n_l_box := PySem.W.mg_of X G aD35
  have n_l_take := PySem.W.mg_of X G aD36
  have n_l_cells := PySem.W.mg_of X G aD37
  have n_l_of := PySem.W.mg_of X G aD38
  have n_l_same := PySem.W.mg_of X G aD39
  have n_l_value := PySem.W.mg_of X G aD40
  have n_l_index := PySem.W.mg_of X G aD41
  have n_l_cut := PySem.W.mg_of X G aD42
  have n_l_written := PySem.W.mg_of X G aD43
  have n_l_seen := PySem.W.mg_of X G aD44
  have n_l_filled := PySem.W.mg_of X G aD45
  have n_l_right := PySem.W.mg_of X G aD46
  refine ⟨PySem.W.fnOf "law" "law" (defArgs sLaw) (defBody sLaw) (defScope sLaw) .none kVD47 dcD47 pmD47 anD47 cdD47 ctD47, fun s v => .of_eq rfl, fun base _ _ => ?_⟩
  have c_as_tuples : Cal l.prog w K mg base 20 "as_tuples" ["thing"] (spP K (S_as 4)) _ _ := ⟨all_as (P := l.prog) (w := w) (base := base) bl hmap F_as_tuples b_as_tuples n_as_tuples 4, b_as_tuples, F_as_tuples.kp, n_as_tuples⟩
  have c_loosest_low : Cal l.prog w K mg base 1 "loosest_low" ["one", "other"] (spP K (S2 lowJ)) _ _ := ⟨ok_loosest_low (P := l.prog) (w := w) (mg := mg) (base := base) bl F_loosest_low, b_loosest_low, F_loosest_low.kp, n_loosest_low⟩
  have c_loosest_high : Cal l.prog w K mg base 1 "loosest_high" ["one", "other"] (spP K (S2 highJ)) _ _ := ⟨ok_loosest_high (P := l.prog) (w := w) (mg := mg) (base := base) bl F_loosest_high, b_loosest_high, F_loosest_high.kp, n_loosest_high⟩
  have c_tightest_low : Cal l.prog w K mg base 1 "tightest_low" ["one", "other"] (spP K (S2 tightL)) _ _ := ⟨ok_tightest_low (P := l.prog) (w := w) (mg := mg) (base := base) bl F_tightest_low, b_tightest_low, F_tightest_low.kp, n_tightest_low⟩
  have c_tightest_high : Cal l.prog w K mg base 1 "tightest_high" ["one", "other"] (spP K (S2 tightH)) _ _ := ⟨ok_tightest_high (P := l.prog) (w := w) (mg := mg) (base := base) bl F_tightest_high, b_tightest_high, F_tightest_high.kp, n_tightest_high⟩
  have c_low_within : Cal l.prog w K mg base 1 "low_within" ["one", "other"] (spP K (S2b lwB)) _ _ := ⟨ok_low_within (P := l.prog) (w := w) (mg := mg) (base := base) bl F_low_within, b_low_within, F_low_within.kp, n_low_within⟩
  have c_high_within : Cal l.prog w K mg base 1 "high_within" ["one", "other"] (spP K (S2b hwB)) _ _ := ⟨ok_high_within (P := l.prog) (w := w) (mg := mg) (base := base) bl F_high_within, b_high_within, F_high_within.kp, n_high_within⟩
  have c_rest_of : Cal l.prog w K mg base 1 "rest_of" ["m", "n"] (spP K (S_ro)) _ _ := ⟨ok_rest_of (P := l.prog) (w := w) (mg := mg) (base := base) bl F_rest_of, b_rest_of, F_rest_of.kp, n_rest_of⟩
  have c_rest_has : Cal l.prog w K mg base 1 "rest_has" ["rest", "n"] (spP K (S_has)) _ _ := ⟨ok_rest_has (P := l.prog) (w := w) (mg := mg) (base := base) bl F_rest_has, b_rest_has, F_rest_has.kp, n_rest_has⟩
  have c_single : Cal l.prog w K mg base 1 "single" ["n"] (spP K (S_sing)) _ _ := ⟨ok_single (P := l.prog) (w := w) (mg := mg) (base := base) bl F_single, b_single, F_single.kp, n_single⟩
  have c_merged : Cal l.prog w K mg base 1 "merged" ["pairs"] (spP K (S_mg)) _ _ := ⟨ok_merged (P := l.prog) (w := w) (mg := mg) (base := base) bl F_merged, b_merged, F_merged.kp, n_merged⟩
  have c_inverse : Cal l.prog w K mg base 1 "inverse" ["n", "m"] (spP K (S_inv)) _ _ := ⟨ok_inverse (P := l.prog) (w := w) (mg := mg) (base := base) bl F_inverse, b_inverse, F_inverse.kp, n_inverse⟩
  have c_items_of : Cal l.prog w K mg base 1 "items_of" ["pieces"] (spP K (S_it)) _ _ := ⟨ok_items_of (P := l.prog) (w := w) (mg := mg) (base := base) bl F_items_of, b_items_of, F_items_of.kp, n_items_of⟩
  have c_lets_in : Cal l.prog w K mg base 2 "lets_in" ["low", "high", "n"] (spP K S_lets) _ _ := ⟨ok_lets_in bl c_low_within c_high_within F_lets_in, b_lets_in, F_lets_in.kp, n_lets_in⟩
  have c_span_join : Cal l.prog w K mg base 2 "span_join" ["one", "other"] (spP K S_sj) _ _ := ⟨ok_span_join bl c_loosest_low c_loosest_high F_span_join, b_span_join, F_span_join.kp, n_span_join⟩
  have c_span_meet : Cal l.prog w K mg base 2 "span_meet" ["one", "other"] (spP K S_sm) _ _ := ⟨ok_span_meet bl c_tightest_low c_tightest_high F_span_meet, b_span_meet, F_span_meet.kp, n_span_meet⟩
  have c_rest_join : Cal l.prog w K mg base 2 "rest_join" ["one", "other"] (spP K S_rj) _ _ := ⟨ok_rest_join bl c_rest_of hgcd F_rest_join, b_rest_join, F_rest_join.kp, n_rest_join⟩
  have c_rest_meet : Cal l.prog w K mg base 2 "rest_meet" ["one", "other"] (spP K (S2r fMeet)) _ _ := ⟨ok_rest_meet bl c_rest_has c_rest_of c_inverse hgcd F_rest_meet, b_rest_meet, F_rest_meet.kp, n_rest_meet⟩
  have c_rest_within : Cal l.prog w K mg base 2 "rest_within" ["one", "other"] (spP K S_rw) _ _ := ⟨ok_rest_within bl c_rest_has F_rest_within, b_rest_within, F_rest_within.kp, n_rest_within⟩
  have c_value_of : Cal l.prog w K mg base 3 "value_of" ["low", "high", "m", "r"] (spP K S_vo) _ _ := ⟨ok_value_of bl c_lets_in c_single F_value_of, b_value_of, F_value_of.kp, n_value_of⟩
  have c_contains : Cal l.prog w K mg base 3 "contains" ["value", "n"] (spP K S_con) _ _ := ⟨ok_contains bl c_lets_in c_rest_has F_contains, b_contains, F_contains.kp, n_contains⟩
  have c_value_within : Cal l.prog w K mg base 3 "value_within" ["one", "other"] (spP K S_vw) _ _ := ⟨ok_value_within bl c_low_within c_high_within c_rest_within F_value_within, b_value_within, F_value_within.kp, n_value_within⟩
  have c_value_from : Cal l.prog w K mg base 4 "value_from" ["span", "rest"] (spP K S_vf) _ _ := ⟨ok_value_from bl c_value_of F_value_from, b_value_from, F_value_from.kp, n_value_from⟩
  have c2_value_from : Cal l.prog w K mg base 4 "value_from" ["span", "rest"] (spP K S_vf2) _ _ := ⟨ok_value_from2 bl c_value_of F_value_from, b_value_from, F_value_from.kp, n_value_from⟩
  have c_value_cut : Cal l.prog w K mg base 4 "value_cut" ["value", "low", "high"] (spP K S_cut) _ _ := ⟨ok_value_cut bl c_tightest_low c_tightest_high c_value_of F_value_cut, b_value_cut, F_value_cut.kp, n_value_cut⟩
  have c_value_join : Cal l.prog w K mg base 5 "value_join" ["one", "other"] (spP K S_vj) _ _ := ⟨ok_value_join bl c_span_join c_rest_join c_value_from F_value_join, b_value_join, F_value_join.kp, n_value_join⟩
  have c_value_meet : Cal l.prog w K mg base 5 "value_meet" ["one", "other"] (spP K S_vm) _ _ := ⟨ok_value_meet bl c_span_meet c_rest_meet c2_value_from F_value_meet, b_value_meet, F_value_meet.kp, n_value_meet⟩
  have c_aligned : Cal l.prog w K mg base 21 "aligned" ["one", "other"] (spP K S_al) _ _ := ⟨ok_aligned bl c_as_tuples F_aligned, b_aligned, F_aligned.kp, n_aligned⟩
  have c_joined : Cal l.prog w K mg base 6 "joined" ["one", "other"] (spP K S_jo) _ _ := ⟨ok_joined bl c_value_join F_joined, b_joined, F_joined.kp, n_joined⟩
  have c_same_pieces : Cal l.prog w K mg base 21 "same_pieces" ["n", "value"] (spP K S_sp) _ _ := ⟨ok_same_pieces bl c_as_tuples F_same_pieces, b_same_pieces, F_same_pieces.kp, n_same_pieces⟩
  have c_written : Cal l.prog w K mg base 6 "written" ["old", "new", "alone"] (spP K S_wr) _ _ := ⟨ok_written bl c_value_join F_written, b_written, F_written.kp, n_written⟩
  have c_pieces_write : Cal l.prog w K mg base 22 "pieces_write" ["pieces", "index", "value"] (spP K S_pwr) _ _ := ⟨ok_pieces_write bl c_as_tuples c_items_of c_value_cut c_contains c_written c_merged F_pieces_write, b_pieces_write, F_pieces_write.kp, n_pieces_write⟩
  have c_pieces_read : Cal l.prog w K mg base 22 "pieces_read" ["pieces", "index"] (spP K S_prd) _ _ := ⟨ok_pieces_read bl c_as_tuples c_value_cut c_joined F_pieces_read, b_pieces_read, F_pieces_read.kp, n_pieces_read⟩
  have c_pieces_within : Cal l.prog w K mg base 22 "pieces_within" ["one", "other"] (spP K S_pw) _ _ := ⟨ok_pieces_within bl c_value_within c_aligned F_pieces_within, b_pieces_within, F_pieces_within.kp, n_pieces_within⟩
  have c_pieces_join : Cal l.prog w K mg base 22 "pieces_join" ["one", "other"] (spP K S_pj) _ _ := ⟨ok_pieces_join bl c_value_join c_aligned c_merged F_pieces_join, b_pieces_join, F_pieces_join.kp, n_pieces_join⟩
  have c_pieces_meet : Cal l.prog w K mg base 22 "pieces_meet" ["one", "other"] (spP K S_pm) _ _ := ⟨ok_pieces_meet bl c_aligned c_value_meet c_merged F_pieces_meet, b_pieces_meet, F_pieces_meet.kp, n_pieces_meet⟩
  have k_same_pieces : KB0 K _ p_same_pieces ["value", "n"] List.reverse List.reverse := kb0_of F_same_pieces (fun _ _ _ _ _ _ us hl => match us, hl with | [_, _], _ => rfl) (fun r _ => vals_rev r)
  have k_pieces_write : KB0 K _ p_pieces_write ["value", "index", "pieces"] List.reverse List.reverse := kb0_of F_pieces_write (fun _ _ _ _ _ _ us hl => match us, hl with | [_, _, _], _ => rfl) (fun r _ => vals_rev r)
  have k_pieces_read : KB0 K _ p_pieces_read ["index", "pieces"] List.reverse List.reverse := kb0_of F_pieces_read (fun _ _ _ _ _ _ us hl => match us, hl with | [_, _], _ => rfl) (fun r _ => vals_rev r)
  have k_pieces_join : KB0 K _ p_pieces_join ["other", "one"] List.reverse List.reverse := kb0_of F_pieces_join (fun _ _ _ _ _ _ us hl => match us, hl with | [_, _], _ => rfl) (fun r _ => vals_rev r)
  have k_pieces_meet : KB0 K _ p_pieces_meet ["other", "one"] List.reverse List.reverse := kb0_of F_pieces_meet (fun _ _ _ _ _ _ us hl => match us, hl with | [_, _], _ => rfl) (fun r _ => vals_rev r)
  have k_pieces_within : KB0 K _ p_pieces_within ["other", "one"] List.reverse List.reverse := kb0_of F_pieces_within (fun _ _ _ _ _ _ us hl => match us, hl with | [_, _], _ => rfl) (fun r _ => vals_rev r)
  have T1 := ok_take (n := 1) (P := l.prog) (w := w) (mg := mg) (base := base) F_l_take
  have c_l_take : Cal l.prog w K mg base 2 "_law_take" ["_law_box_here", "_law_below"] (spB K 1 domT postT) _ _ := ⟨take_B T1, b_l_take, F_l_take.kp, n_l_take⟩
  have c_l_of : Cal l.prog w K mg base 3 "_law_of" ["_law_box_here", "_law_some"] (spB K 1 domO postO) _ _ := ⟨ok_l_of bl c_l_take F_l_of, b_l_of, F_l_of.kp, n_l_of⟩
  have c_l_same : Cal l.prog w K mg base 8 "_law_same" ["_law_found", "_law_due"] (spP K (S_same 8)) _ _ := ⟨all_same bl F_l_same b_l_same n_l_same 8, b_l_same, F_l_same.kp, n_l_same⟩
  have c_l_value : Cal l.prog w K mg base 4 "_law_value" ["_law_box_here"] (spB K 5 domV postV) _ _ := ⟨ok_l_value bl c_l_take c_l_of c_value_of F_l_value, b_l_value, F_l_value.kp, n_l_value⟩
  have c_l_index : Cal l.prog w K mg base 4 "_law_index" ["_law_box_here", "_law_count"] (spB K 4 domX postX) _ _ := ⟨ok_l_index bl c_l_take c_l_of c_value_of F_l_index, b_l_index, F_l_index.kp, n_l_index⟩
  have c_l_cut : Cal l.prog w K mg base 1 "_law_cut" ["_law_items"] (spP K S_lcut) _ _ := ⟨ok_l_cut (P := l.prog) (w := w) (mg := mg) (base := base) bl F_l_cut, b_l_cut, F_l_cut.kp, n_l_cut⟩
  have c_l_written : Cal l.prog w K mg base 6 "_law_written" ["_law_items", "_law_index_so", "_law_value_so"] (spP K S_lwr) _ _ := ⟨ok_l_written bl c_contains c_value_join F_l_written, b_l_written, F_l_written.kp, n_l_written⟩
  have c_l_seen : Cal l.prog w K mg base 6 "_law_seen" ["_law_items", "_law_index_so"] (spP K S_lse) _ _ := ⟨ok_l_seen bl c_contains c_value_join F_l_seen, b_l_seen, F_l_seen.kp, n_l_seen⟩
  have c_l_filled : Cal l.prog w K mg base 23 "_law_filled" ["_law_box_here", "_law_count"] (spB K 78 domX postF) _ _ := ⟨ok_l_filled bl c_l_take c_l_value c_l_index c_l_cut c_l_written c_l_seen c_same_pieces c_pieces_write c_pieces_read c_l_same k_same_pieces k_pieces_write k_pieces_read F_l_filled, b_l_filled, F_l_filled.kp, n_l_filled⟩
  have GR := ok_l_right bl c_l_take c_l_filled c_l_cut c_value_meet c_value_join c_value_within c_pieces_join c_pieces_meet c_pieces_within c_l_same k_pieces_join k_pieces_meet k_pieces_within F_l_right
  have GC := ok_cells (P := l.prog) (w := w) (mg := mg) (base := base) (n := 0) F_l_cells bl.list bl.enumerate
  have GB := ok_box (P := l.prog) (w := w) (mg := mg) (base := base) (n := 0) F_l_box bl.len bl.abs bl.int
  exact ok_law F_law GC b_l_cells F_l_cells.kp n_l_cells GB b_l_box F_l_box.kp n_l_box GR b_l_right F_l_right.kp n_l_right bl.range bl.len bl.all
end Sh
set_option Elab.async false
open PySem PySem.W PyProof.Rows
set_option maxRecDepth 100000 in
set_option maxHeartbeats 0 in
theorem PySem.Challenge.cw_shadowruns_k35_arrays_by_pieces_holds : PySem.Challenge.rw_shadowruns_k35_arrays_by_pieces.Holds := by
  w_on; o_law; k_head; (case hw => w_witness2)
  k_fill
  refine L2.walk_of (l := PySem.Challenge.rw_shadowruns_k35_arrays_by_pieces) (n := 63) (k := 25) (x := "_law_script") (CX := fun _ => L2.CX0) (sp := fun w => Sh.spLaw _) rfl (by decide) rfl ⟨rfl, by decide, by decide⟩ (fun w h Y => PySem.W.kIn_of Y) ?F (fun _ _ a ns hl _ hS => ⟨a, ns, rfl, hS, hl, fun _ => rfl⟩) (fun _ _ _ _ _ h => h)
  case F =>
    intro w mg fa h KX G hmg
    refine' Sh.all_mk KX G hmg ?aD0 ?lD0 ?cD0 ?kD0 ?aD1 ?lD1 ?cD1 ?kD1 ?aD2 ?lD2 ?cD2 ?kD2 ?aD3 ?lD3 ?cD3 ?kD3 ?aD4 ?lD4 ?cD4 ?kD4 ?aD5 ?lD5 ?cD5 ?kD5 ?aD6 ?lD6 ?cD6 ?kD6 ?aD7 ?lD7 ?cD7 ?kD7 ?aD8 ?lD8 ?cD8 ?kD8 ?aD9 ?lD9 ?cD9 ?kD9 ?aD10 ?lD10 ?cD10 ?kD10 ?aD11 ?lD11 ?cD11 ?kD11 ?aD12 ?lD12 ?cD12 ?kD12 ?aD13 ?lD13 ?cD13 ?kD13 ?aD14 ?lD14 ?cD14 ?kD14 ?aD15 ?lD15 ?cD15 ?kD15 ?aD16 ?lD16 ?cD16 ?kD16 ?aD17 ?lD17 ?cD17 ?kD17 ?aD18 ?lD18 ?cD18 ?kD18 ?aD19 ?lD19 ?cD19 ?kD19 ?aD20 ?lD20 ?cD20 ?kD20 ?aD21 ?lD21 ?cD21 ?kD21 ?aD22 ?lD22 ?cD22 ?kD22 ?aD23 ?lD23 ?cD23 ?kD23 ?aD24 ?lD24 ?cD24 ?kD24 ?aD25 ?lD25 ?cD25 ?kD25 ?aD26 ?lD26 ?cD26 ?kD26 ?aD27 ?lD27 ?cD27 ?kD27 ?aD28 ?lD28 ?cD28 ?kD28 ?aD29 ?lD29 ?cD29 ?kD29 ?aD30 ?lD30 ?cD30 ?kD30 ?aD31 ?lD31 ?cD31 ?kD31 ?aD32 ?lD32 ?cD32 ?kD32 ?aD33 ?lD33 ?cD33 ?kD33 ?aD34 ?lD34 ?cD34 ?kD34 ?aD35 ?lD35 ?cD35 ?kD35 ?aD36 ?lD36 ?cD36 ?kD36 ?aD37 ?lD37 ?cD37 ?kD37 ?aD38 ?lD38 ?cD38 ?kD38 ?aD39 ?lD39 ?cD39 ?kD39 ?aD40 ?lD40 ?cD40 ?kD40 ?aD41 ?lD41 ?cD41 ?kD41 ?aD42 ?lD42 ?cD42 ?kD42 ?aD43 ?lD43 ?cD43 ?kD43 ?aD44 ?lD44 ?cD44 ?kD44 ?aD45 ?lD45 ?cD45 ?kD45 ?aD46 ?lD46 ?cD46 ?kD46 ?aD47 ?lD47 ?cD47 ?kD47 ?b_len ?b_abs ?b_int ?b_list ?b_tuple ?b_bool ?b_str ?b_enumerate ?b_isinstance ?b_all ?b_any ?b_zip ?b_range ?b_min ?b_max ?b_set ?b_sorted ?b_repr ?b_sum ?aGCD ?b_map
    (case aD0 => k_is)
    (case lD0 => k_is)
    (case cD0 => k_is)
    (case kD0 => k_is)
    (case aD1 => k_is)
    (case lD1 => k_is)
    (case cD1 => k_is)
    (case kD1 => k_is)
    (case aD2 => k_is)
    (case lD2 => k_is)
    (case cD2 => k_is)
    (case kD2 => k_is)
    (case aD3 => k_is)
    (case lD3 => k_is)
    (case cD3 => k_is)
    (case kD3 => k_is)
    (case aD4 => k_is)
    (case lD4 => k_is)
    (case cD4 => k_is)
    (case kD4 => k_is)
    (case aD5 => k_is)
    (case lD5 => k_is)
    (case cD5 => k_is)
    (case kD5 => k_is)
    (case aD6 => k_is)
    (case lD6 => k_is)
    (case cD6 => k_is)
    (case kD6 => k_is)
    (case aD7 => k_is)
    (case lD7 => k_is)
    (case cD7 => k_is)
    (case kD7 => k_is)
    (case aD8 => k_is)
    (case lD8 => k_is)
    (case cD8 => k_is)
    (case kD8 => k_is)
    (case aD9 => k_is)
    (case lD9 => k_is)
    (case cD9 => k_is)
    (case kD9 => k_is)
    (case aD10 => k_is)
    (case lD10 => k_is)
    (case cD10 => k_is)
    (case kD10 => k_is)
    (case aD11 => k_is)
    (case lD11 => k_is)
    (case cD11 => k_is)
    (case kD11 => k_is)
    (case aD12 => k_is)
    (case lD12 => k_is)
    (case cD12 => k_is)
    (case kD12 => k_is)
    (case aD13 => k_is)
    (case lD13 => k_is)
    (case cD13 => k_is)
    (case kD13 => k_is)
    (case aD14 => k_is)
    (case lD14 => k_is)
    (case cD14 => k_is)
    (case kD14 => k_is)
    (case aD15 => k_is)
    (case lD15 => k_is)
    (case cD15 => k_is)
    (case kD15 => k_is)
    (case aD16 => k_is)
    (case lD16 => k_is)
    (case cD16 => k_is)
    (case kD16 => k_is)
    (case aD17 => k_is)
    (case lD17 => k_is)
    (case cD17 => k_is)
    (case kD17 => k_is)
    (case aD18 => k_is)
    (case lD18 => k_is)
    (case cD18 => k_is)
    (case kD18 => k_is)
    (case aD19 => k_is)
    (case lD19 => k_is)
    (case cD19 => k_is)
    (case kD19 => k_is)
    (case aD20 => k_is)
    (case lD20 => k_is)
    (case cD20 => k_is)
    (case kD20 => k_is)
    (case aD21 => k_is)
    (case lD21 => k_is)
    (case cD21 => k_is)
    (case kD21 => k_is)
    (case aD22 => k_is)
    (case lD22 => k_is)
    (case cD22 => k_is)
    (case kD22 => k_is)
    (case aD23 => k_is)
    (case lD23 => k_is)
    (case cD23 => k_is)
    (case kD23 => k_is)
    (case aD24 => k_is)
    (case lD24 => k_is)
    (case cD24 => k_is)
    (case kD24 => k_is)
    (case aD25 => k_is)
    (case lD25 => k_is)
    (case cD25 => k_is)
    (case kD25 => k_is)
    (case aD26 => k_is)
    (case lD26 => k_is)
    (case cD26 => k_is)
    (case kD26 => k_is)
    (case aD27 => k_is)
    (case lD27 => k_is)
    (case cD27 => k_is)
    (case kD27 => k_is)
    (case aD28 => k_is)
    (case lD28 => k_is)
    (case cD28 => k_is)
    (case kD28 => k_is)
    (case aD29 => k_is)
    (case lD29 => k_is)
    (case cD29 => k_is)
    (case kD29 => k_is)
    (case aD30 => k_is)
    (case lD30 => k_is)
    (case cD30 => k_is)
    (case kD30 => k_is)
    (case aD31 => k_is)
    (case lD31 => k_is)
    (case cD31 => k_is)
    (case kD31 => k_is)
    (case aD32 => k_is)
    (case lD32 => k_is)
    (case cD32 => k_is)
    (case kD32 => k_is)
    (case aD33 => k_is)
    (case lD33 => k_is)
    (case cD33 => k_is)
    (case kD33 => k_is)
    (case aD34 => k_is)
    (case lD34 => k_is)
    (case cD34 => k_is)
    (case kD34 => k_is)
    (case aD35 => k_is)
    (case lD35 => k_is)
    (case cD35 => k_is)
    (case kD35 => k_is)
    (case aD36 => k_is)
    (case lD36 => k_is)
    (case cD36 => k_is)
    (case kD36 => k_is)
    (case aD37 => k_is)
    (case lD37 => k_is)
    (case cD37 => k_is)
    (case kD37 => k_is)
    (case aD38 => k_is)
    (case lD38 => k_is)
    (case cD38 => k_is)
    (case kD38 => k_is)
    (case aD39 => k_is)
    (case lD39 => k_is)
    (case cD39 => k_is)
    (case kD39 => k_is)
    (case aD40 => k_is)
    (case lD40 => k_is)
    (case cD40 => k_is)
    (case kD40 => k_is)
    (case aD41 => k_is)
    (case lD41 => k_is)
    (case cD41 => k_is)
    (case kD41 => k_is)
    (case aD42 => k_is)
    (case lD42 => k_is)
    (case cD42 => k_is)
    (case kD42 => k_is)
    (case aD43 => k_is)
    (case lD43 => k_is)
    (case cD43 => k_is)
    (case kD43 => k_is)
    (case aD44 => k_is)
    (case lD44 => k_is)
    (case cD44 => k_is)
    (case kD44 => k_is)
    (case aD45 => k_is)
    (case lD45 => k_is)
    (case cD45 => k_is)
    (case kD45 => k_is)
    (case aD46 => k_is)
    (case lD46 => k_is)
    (case cD46 => k_is)
    (case kD46 => k_is)
    (case aD47 => k_is)
    (case lD47 => k_is)
    (case cD47 => k_is)
    (case kD47 => k_is)
    (case b_len => k_is)
    (case b_abs => k_is)
    (case b_int => k_is)
    (case b_list => k_is)
    (case b_tuple => k_is)
    (case b_bool => k_is)
    (case b_str => k_is)
    (case b_enumerate => k_is)
    (case b_isinstance => k_is)
    (case b_all => k_is)
    (case b_any => k_is)
    (case b_zip => k_is)
    (case b_range => k_is)
    (case b_min => k_is)
    (case b_max => k_is)
    (case b_set => k_is)
    (case b_sorted => k_is)
    (case b_repr => k_is)
    (case b_sum => k_is)
    (case aGCD => k_is)
    (case b_map => k_is)
