import PyProof.Rows.All
import Wide.All
import OpenK.AllK
import Wide.FinOn
import HandS.ForMost
import HandS.Flow
import HandS.IsInst
import HandS.FStr
import HandS.Zip
import HandS.Walk
import HandS.Wide
import HandS.TupAny
import HandS.Defaults
import HandS.Style
import HandS.SetFor
import HandS.Strs
import HandS.SortKw
import KE.DatumOrd
import HandS.NoneIn
import HandS.Conv
import HandS.Rev
import HandS.RevTup
import HandS.MapObj
import HandS.MapJoin
import HandS.Gcd
import PyProof.Rows.SortShellAny
import KE.RegKIsAll
import PySem.Challenge.RW_shadowruns_k31_values_as_sets
set_option Elab.async false
set_option linter.all false
set_option maxRecDepth 100000
set_option maxHeartbeats 4000000
/-! A layer of its own over the hand layer: values as data, the heap out of sight. -/
namespace Sh
open PySem PySem.Spec PyProof.Rows L2
inductive Dt where
  | non | bl (b : Bool) | int (i : Int) | str (s : Str) | ty (n : String) | tup (l : List Dt) | lst (l : List Dt)
section
variable (K : PySem.W.Frag)
mutual
def RD (G : Hp) : Dt → V → Prop
  | .non, v => v = .non
  | .bl b, v => v = .bl b
  | .int i, v => v = .int i
  | .str s, v => v = .str s
  | .ty n, v => v = .ty n
  | .tup l, v => ∃ a xs, v = .ref a ∧ SqT K G a xs ∧ RDs G l xs
  | .lst l, v => ∃ a xs, v = .ref a ∧ G a = some (.lst xs) ∧ RDs G l xs
def RDs (G : Hp) : List Dt → List V → Prop
  | [], xs => xs = []
  | d :: l, xs => ∃ x r, xs = x :: r ∧ RD G d x ∧ RDs G l r
end
end
section
variable {K : PySem.W.Frag}
theorem same_rd {H H' : Hp} {a : Addr} {u : HO} (e : Same H H') (h : Rd H a u) : Rd H' a u := by
  rcases h with h | ⟨o, h⟩
  · exact .inl (e _ _ h)
  · exact .inr ⟨o, e _ _ h⟩
theorem same_sqT {H H' : Hp} {a : Addr} {xs : List V} (e : Same H H') (h : SqT K H a xs) : SqT K H' a xs := by
  rcases h with h | h
  · exact .inl (same_rd e h)
  · exact .inr h
mutual
theorem RD.same {G G' : Hp} (k : Same G G') : ∀ {d : Dt} {v : V}, RD K G d v → RD K G' d v
  | .non, _, h => h
  | .bl _, _, h => h
  | .int _, _, h => h
  | .str _, _, h => h
  | .ty _, _, h => h
  | .tup _, _, ⟨a, xs, e, q, r⟩ => ⟨a, xs, e, same_sqT k q, RDs.same k r⟩
  | .lst _, _, ⟨a, xs, e, q, r⟩ => ⟨a, xs, e, k _ _ q, RDs.same k r⟩
theorem RDs.same {G G' : Hp} (k : Same G G') : ∀ {l : List Dt} {xs : List V}, RDs K G l xs → RDs K G' l xs
  | [], _, h => h
  | _ :: _, _, ⟨x, r, e, h1, h2⟩ => ⟨x, r, e, RD.same k h1, RDs.same k h2⟩
end
theorem RDs.length {G : Hp} : ∀ {l : List Dt} {xs : List V}, RDs K G l xs → xs.length = l.length
  | [], _, h => by rw [show _ = [] from h]; rfl
  | _ :: _, _, ⟨x, r, e, h1, h2⟩ => by rw [e, List.length_cons, List.length_cons, RDs.length h2]
theorem RDs.get {G : Hp} : ∀ {l : List Dt} {xs : List V} {i : Nat} {d : Dt}, RDs K G l xs → l[i]? = some d → ∃ x, xs[i]? = some x ∧ RD K G d x
  | [], _, i, _, h, e => by simp at e
  | d :: l, _, 0, _, ⟨y, r, e1, h1, h2⟩, e => by
    cases e; subst e1; exact ⟨y, rfl, h1⟩
  | d :: l, _, i + 1, _, ⟨y, r, e1, h1, h2⟩, e => by
    subst e1
    obtain ⟨x, q1, q2⟩ := RDs.get (i := i) h2 (by simpa using e)
    exact ⟨x, by simpa using q1, q2⟩
theorem RDs.back {G : Hp} : ∀ {l : List Dt} {xs : List V} {i : Nat} {x : V}, RDs K G l xs → xs[i]? = some x → ∃ d, l[i]? = some d ∧ RD K G d x
  | [], _, i, x, h, e => by rw [show _ = [] from h] at e; simp at e
  | d :: l, _, 0, x, ⟨y, r, e1, h1, h2⟩, e => by
    rw [e1] at e; cases e; exact ⟨d, rfl, h1⟩
  | d :: l, _, i + 1, x, ⟨y, r, e1, h1, h2⟩, e => by
    rw [e1] at e
    obtain ⟨d', q1, q2⟩ := RDs.back (i := i) h2 (by simpa using e)
    exact ⟨d', by simpa using q1, q2⟩
theorem RDs.snoc {G : Hp} : ∀ {l : List Dt} {xs : List V} {d : Dt} {x : V}, RDs K G l xs → RD K G d x → RDs K G (l ++ [d]) (xs ++ [x])
  | [], _, d, x, h, r => by rw [show _ = [] from h]; exact ⟨x, [], rfl, r, rfl⟩
  | d :: l, _, _, x, ⟨y, r, e1, h1, h2⟩, q => ⟨y, r ++ [x], by rw [e1]; rfl, h1, RDs.snoc h2 q⟩
theorem RDs.app {G : Hp} : ∀ {l m : List Dt} {xs ys : List V}, RDs K G l xs → RDs K G m ys → RDs K G (l ++ m) (xs ++ ys)
  | [], _, _, _, h, r => by rw [show _ = [] from h]; exact r
  | d :: l, _, _, ys, ⟨y, r, e1, h1, h2⟩, q => ⟨y, r ++ ys, by rw [e1]; rfl, h1, RDs.app h2 q⟩
theorem RDs.take {G : Hp} : ∀ {l : List Dt} {xs : List V} (n : Nat), RDs K G l xs → RDs K G (l.take n) (xs.take n)
  | _, _, 0, h => by rw [List.take_zero, List.take_zero]; rfl
  | [], _, n + 1, h => by rw [show _ = [] from h]; rfl
  | d :: l, _, n + 1, ⟨y, r, e1, h1, h2⟩ => ⟨y, r.take n, by rw [e1]; rfl, h1, RDs.take n h2⟩
theorem RDs.drop {G : Hp} : ∀ {l : List Dt} {xs : List V} (n : Nat), RDs K G l xs → RDs K G (l.drop n) (xs.drop n)
  | _, _, 0, h => h
  | [], _, n + 1, h => by rw [show _ = [] from h]; rfl
  | d :: l, _, n + 1, ⟨y, r, e1, h1, h2⟩ => by rw [e1]; exact RDs.drop n h2
theorem RDs.ints {G : Hp} : ∀ {ns : List Int} {xs : List V}, RDs K G (ns.map Dt.int) xs → xs = ns.map V.int
  | [], _, h => h
  | n :: ns, _, ⟨y, r, e1, h1, h2⟩ => by rw [e1, show y = V.int n from h1, RDs.ints h2]; rfl
theorem RDs.bls {G : Hp} : ∀ {ns : List Bool} {xs : List V}, RDs K G (ns.map Dt.bl) xs → xs = ns.map V.bl
  | [], _, h => h
  | n :: ns, _, ⟨y, r, e1, h1, h2⟩ => by rw [e1, show y = V.bl n from h1, RDs.bls h2]; rfl
theorem RDs.one {G : Hp} {d : Dt} {xs : List V} (h : RDs K G [d] xs) : ∃ x, xs = [x] ∧ RD K G d x := by
  obtain ⟨x, r, rfl, h1, rfl⟩ := h
  exact ⟨x, rfl, h1⟩
theorem RDs.two {G : Hp} {d e : Dt} {xs : List V} (h : RDs K G [d, e] xs) : ∃ x y, xs = [x, y] ∧ RD K G d x ∧ RD K G e y := by
  obtain ⟨x, r, rfl, h1, y, r2, rfl, h2, rfl⟩ := h
  exact ⟨x, y, rfl, h1, h2⟩
theorem same_up {H : Hp} {p : Addr} {o : HO} (h : H p = none) : Same H (upd H p o) := fun b x e => by
  rw [upd_ne (ne_of_none e h)]; exact e
theorem same_upd {G H : Hp} {p : Addr} {o : HO} (h : Same G H) : Same (upd G p o) (upd H p o) := fun b x e => by
  by_cases z : b = p
  · subst z; rw [upd_same] at e ⊢; exact e
  · rw [upd_ne z] at e ⊢; exact h _ _ e
/-! ### what stands in the slots -/
def BxM : Int := 1000000000000
def Bx (H : Hp) (b : Addr) (y c : Int) : Prop := ∃ x : Int, H b = some (.lst [.int x, .int y, .int c]) ∧ 0 ≤ x ∧ 0 ≤ y ∧ y < 4611686018427387904
inductive En where
  | no | da (d : Dt) | own (l : List Dt) | bx (b : Addr) (f : Nat)
def En.isOwn : En → Prop
  | .own _ => True
  | .bx _ _ => True
  | _ => False
end
/-- G: what is data; H: all; B: what others hold and is no data -/
structure Mt (K : PySem.W.Frag) (B : Addr → Prop) (ρ : List En) (σ : L2.St) (G H : Hp) : Prop where
  sub : Same G H
  pro : ∀ a, B a → G a = none ∧ H a ≠ none
  len : σ.length = ρ.length
  da : ∀ (i : Nat) (d : Dt), ρ[i]? = some (.da d) → ∃ v, σ[i]? = some (some v) ∧ RD K G d v
  own : ∀ (i : Nat) (l : List Dt), ρ[i]? = some (.own l) → ∃ (q : Addr) (xs : List V), σ[i]? = some (some (V.ref q)) ∧ H q = some (.lst xs) ∧ RDs K G l xs ∧ G q = none ∧ ¬ B q
  bx : ∀ (i : Nat) (b : Addr) (f : Nat), ρ[i]? = some (.bx b f) → ∃ (y c : Int), σ[i]? = some (some (V.ref b)) ∧ Bx H b y c ∧ 0 ≤ c ∧ c + f ≤ BxM ∧ G b = none ∧ ¬ B b
  dis : ∀ (i j : Nat) (e e' : En) (a : Addr), ρ[i]? = some e → ρ[j]? = some e' → e.isOwn → e'.isOwn → i ≠ j → σ[i]? = some (some (V.ref a)) → σ[j]? = some (some (V.ref a)) → False
/-- what others hold stays -/
def Tr (B : Addr → Prop) (H H' : Hp) : Prop := ∀ a o, B a → H a = some o → H' a = some o
theorem Tr.refl {B : Addr → Prop} {H : Hp} : Tr B H H := fun _ _ _ e => e
theorem Tr.trans {B : Addr → Prop} {H H1 H2 : Hp} (x : Tr B H H1) (y : Tr B H1 H2) : Tr B H H2 := fun a o b e => y a o b (x a o b e)
theorem Tr.same {B : Addr → Prop} {H H' : Hp} (x : Same H H') : Tr B H H' := fun a o _ e => x a o e
/-- a step that only lays new data -/
structure Nw (G H G' H' : Hp) : Prop where
  g : Same G G'
  s : Same G' H'
  h : Same H H'
  f : ∀ a, G a = none → H a ≠ none → G' a = none
theorem Nw.refl {G H : Hp} (s : Same G H) : Nw G H G H := ⟨Same.refl _, s, Same.refl _, fun _ h _ => h⟩
theorem Nw.trans {G H G1 H1 G2 H2 : Hp} (x : Nw G H G1 H1) (y : Nw G1 H1 G2 H2) : Nw G H G2 H2 :=
  ⟨x.g.trans y.g, y.s, x.h.trans y.h, fun a h1 h2 => y.f a (x.f a h1 h2) (fun z => by
    cases e : H a with
    | none => exact h2 e
    | some o => rw [x.h _ _ e] at z; cases z)⟩
theorem Nw.new {G H : Hp} {p : Addr} {o : HO} (s : Same G H) (n : H p = none) : Nw G H (upd G p o) (upd H p o) :=
  ⟨same_up (s.free n), same_upd s, same_up n, fun a h1 h2 => by
    rw [upd_ne (fun z => h2 (by rw [z]; exact n))]; exact h1⟩
section
variable {K : PySem.W.Frag} {B : Addr → Prop} {ρ : List En} {σ : L2.St} {G H G' H' : Hp}
theorem ne_none {H H' : Hp} {a : Addr} (s : Same H H') (h : H a ≠ none) : H' a ≠ none := fun z => h (s.free z)
theorem some_ne {H : Hp} {a : Addr} {o : HO} (e : H a = some o) : H a ≠ none := fun z => by rw [z] at e; cases e
theorem Bx.ne {b : Addr} {y c : Int} (h : Bx H b y c) : H b ≠ none := by
  obtain ⟨x, e, _⟩ := h
  exact some_ne e
theorem Bx.same {b : Addr} {y c : Int} (s : Same H H') (h : Bx H b y c) : Bx H' b y c := by
  obtain ⟨x, e, r⟩ := h
  exact ⟨x, s _ _ e, r⟩
theorem Mt.nw (m : Mt K B ρ σ G H) (n : Nw G H G' H') : Mt K B ρ σ G' H' where
  sub := n.s
  pro := fun a b => ⟨n.f a (m.pro a b).1 (m.pro a b).2, ne_none n.h (m.pro a b).2⟩
  len := m.len
  da := fun i d e => by
    obtain ⟨v, h1, h2⟩ := m.da i d e
    exact ⟨v, h1, h2.same n.g⟩
  own := fun i l e => by
    obtain ⟨q, xs, h1, h2, h3, h4, h5⟩ := m.own i l e
    exact ⟨q, xs, h1, n.h _ _ h2, h3.same n.g, n.f q h4 (some_ne h2), h5⟩
  bx := fun i b f e => by
    obtain ⟨y, c, h1, h2, h3, h4, h5, h6⟩ := m.bx i b f e
    exact ⟨y, c, h1, h2.same n.h, h3, h4, n.f b h5 h2.ne, h6⟩
  dis := m.dis
theorem get_set {α : Type} {l : List α} {i j : Nat} {x y : α} (h : (l.set i x)[j]? = some y) : (i = j ∧ y = x ∧ i < l.length) ∨ (i ≠ j ∧ l[j]? = some y) := by
  rw [List.getElem?_set] at h
  by_cases e : i = j
  · rw [if_pos e] at h
    split at h
    · cases h; exact .inl ⟨e, rfl, by assumption⟩
    · cases h
  · rw [if_neg e] at h; exact .inr ⟨e, h⟩
theorem set_at {α : Type} {l : List α} {i : Nat} {x : α} (h : i < l.length) : (l.set i x)[i]? = some x := by
  rw [List.getElem?_set, if_pos rfl, if_pos h]
theorem set_off {α : Type} {l : List α} {i j : Nat} {x : α} (h : i ≠ j) : (l.set i x)[j]? = l[j]? := by
  rw [List.getElem?_set, if_neg h]
/-- a slot gets data -/
theorem Mt.set (m : Mt K B ρ σ G H) (i : Nat) {d : Dt} {v : V} (r : RD K G d v) : Mt K B (ρ.set i (.da d)) (σ.set i (some v)) G H where
  sub := m.sub
  pro := m.pro
  len := by rw [List.length_set, List.length_set]; exact m.len
  da := fun j e h => by
    rcases get_set h with ⟨rfl, z, lt⟩ | ⟨ne, z⟩
    · cases z; exact ⟨v, set_at (by rw [m.len]; exact lt), r⟩
    · rw [set_off ne]; exact m.da j e z
  own := fun j l h => by
    rcases get_set h with ⟨rfl, z, lt⟩ | ⟨ne, z⟩
    · cases z
    · rw [set_off ne]; exact m.own j l z
  bx := fun j b f h => by
    rcases get_set h with ⟨rfl, z, lt⟩ | ⟨ne, z⟩
    · cases z
    · rw [set_off ne]; exact m.bx j b f z
  dis := fun j k e e' a h1 h2 o1 o2 ne s1 s2 => by
    rcases get_set h1 with ⟨rfl, z, lt⟩ | ⟨n1, z1⟩
    · subst z; exact o1
    · rcases get_set h2 with ⟨rfl, z, lt⟩ | ⟨n2, z2⟩
      · subst z; exact o2
      · rw [set_off n1] at s1; rw [set_off n2] at s2; exact m.dis j k e e' a z1 z2 o1 o2 ne s1 s2
/-- a slot is forgotten -/
theorem Mt.drop (m : Mt K B ρ σ G H) (i : Nat) (o : Option V) : Mt K B (ρ.set i .no) (σ.set i o) G H where
  sub := m.sub
  pro := m.pro
  len := by rw [List.length_set, List.length_set]; exact m.len
  da := fun j e h => by
    rcases get_set h with ⟨rfl, z, lt⟩ | ⟨ne, z⟩
    · cases z
    · rw [set_off ne]; exact m.da j e z
  own := fun j l h => by
    rcases get_set h with ⟨rfl, z, lt⟩ | ⟨ne, z⟩
    · cases z
    · rw [set_off ne]; exact m.own j l z
  bx := fun j b f h => by
    rcases get_set h with ⟨rfl, z, lt⟩ | ⟨ne, z⟩
    · cases z
    · rw [set_off ne]; exact m.bx j b f z
  dis := fun j k e e' a h1 h2 o1 o2 ne s1 s2 => by
    rcases get_set h1 with ⟨rfl, z, lt⟩ | ⟨n1, z1⟩
    · subst z; exact o1
    · rcases get_set h2 with ⟨rfl, z, lt⟩ | ⟨n2, z2⟩
      · subst z; exact o2
      · rw [set_off n1] at s1; rw [set_off n2] at s2; exact m.dis j k e e' a z1 z2 o1 o2 ne s1 s2
/-- less is protected -/
theorem Mt.less (m : Mt K B ρ σ G H) {B' : Addr → Prop} (h : ∀ a, B' a → B a) : Mt K B' ρ σ G H where
  sub := m.sub
  pro := fun a b => m.pro a (h a b)
  len := m.len
  da := m.da
  own := fun i l e => by
    obtain ⟨q, xs, h1, h2, h3, h4, h5⟩ := m.own i l e
    exact ⟨q, xs, h1, h2, h3, h4, fun z => h5 (h _ z)⟩
  bx := fun i b f e => by
    obtain ⟨y, c, h1, h2, h3, h4, h5, h6⟩ := m.bx i b f e
    exact ⟨y, c, h1, h2, h3, h4, h5, fun z => h6 (h _ z)⟩
  dis := m.dis
/-- a new object that is no data is protected, too -/
theorem Mt.guard (m : Mt K B ρ σ G H) {p : Addr} {o : HO} (n : H p = none) : Mt K (fun a => B a ∨ a = p) ρ σ G (upd H p o) where
  sub := m.sub.trans (same_up n)
  pro := fun a b => by
    rcases b with b | rfl
    · exact ⟨(m.pro a b).1, ne_none (same_up n) (m.pro a b).2⟩
    · exact ⟨m.sub.free n, some_ne upd_same⟩
  len := m.len
  da := m.da
  own := fun i l e => by
    obtain ⟨q, xs, h1, h2, h3, h4, h5⟩ := m.own i l e
    exact ⟨q, xs, h1, same_up n _ _ h2, h3, h4, fun z => z.elim h5 (ne_of_none h2 n)⟩
  bx := fun i b f e => by
    obtain ⟨y, c, h1, h2, h3, h4, h5, h6⟩ := m.bx i b f e
    exact ⟨y, c, h1, h2.same (same_up n), h3, h4, h5, fun z => z.elim h6 (fun w => h2.ne (by rw [w]; exact n))⟩
  dis := m.dis
/-- a protected object changes -/
theorem Mt.turn (m : Mt K B ρ σ G H) {p : Addr} {o : HO} (bp : B p) : Mt K B ρ σ G (upd H p o) where
  sub := fun a u e => by
    rw [upd_ne (fun z => by rw [z, (m.pro p bp).1] at e; cases e)]; exact m.sub _ _ e
  pro := fun a ba => ⟨(m.pro a ba).1, by
    by_cases z : a = p
    · subst z; exact some_ne upd_same
    · rw [upd_ne z]; exact (m.pro a ba).2⟩
  len := m.len
  da := m.da
  own := fun i l e => by
    obtain ⟨q, xs, h1, h2, h3, h4, h5⟩ := m.own i l e
    exact ⟨q, xs, h1, by rw [upd_ne (fun z => h5 (by rw [z]; exact bp))]; exact h2, h3, h4, h5⟩
  bx := fun i b f e => by
    obtain ⟨y, k, h1, ⟨x, h2, h2'⟩, h3, h4, h5, h6⟩ := m.bx i b f e
    exact ⟨y, k, h1, ⟨x, by rw [upd_ne (fun z => h6 (by rw [z]; exact bp))]; exact h2, h2'⟩, h3, h4, h5, h6⟩
  dis := m.dis
end
end Sh
set_option Elab.async false
set_option linter.all false
set_option maxRecDepth 100000
set_option maxHeartbeats 4000000
namespace Sh
open PySem PySem.Spec PyProof.Rows L2
section
variable (K : PySem.W.Frag)
/-- what must hold so that an expression gives d, leaving ρ', of which Ψ d ρ' holds: of data alone -/
def AE (te : TE) (ρ : List En) (Ψ : Dt → List En → Prop) : Prop := ∀ B σ G H, Mt K B ρ σ G H → ∀ Q : VK, (∀ v d ρ' G' H', Mt K B ρ' σ G' H' → Same G G' → Tr B H H' → RD K G' d v → Ψ d ρ' → Q v H') → te σ H Q
def AT (tt : TT) (ρ : List En) (Ψ : Bool → List En → Prop) : Prop := ∀ B σ G H, Mt K B ρ σ G H → ∀ Q : Bool → Hp → Prop, (∀ b ρ' G' H', Mt K B ρ' σ G' H' → Same G G' → Tr B H H' → Ψ b ρ' → Q b H') → tt σ H Q
def AA (ta : TA) (ρ : List En) (Ψ : List Dt → List En → Prop) : Prop := ∀ B σ G H, Mt K B ρ σ G H → ∀ Q : List V → Hp → Prop, (∀ vs ds ρ' G' H', Mt K B ρ' σ G' H' → Same G G' → Tr B H H' → RDs K G' ds vs → Ψ ds ρ' → Q vs H') → ta σ H Q
/-- a block: N of what it goes on with, R of what it returns -/
def AS (ts : TS) (ρ : List En) (N : List En → Prop) (R : Dt → List En → Prop) : Prop := ∀ B σ G H, Mt K B ρ σ G H → ∀ D : Ends,
  (∀ σ' ρ' G' H', Mt K B ρ' σ' G' H' → Same G G' → Tr B H H' → N ρ' → D.nx σ' H') →
  (∀ v d σ' ρ' G' H', Mt K B ρ' σ' G' H' → Same G G' → Tr B H H' → RD K G' d v → R d ρ' → D.rt v H') → ts D σ H
/-- by values: of data to data, only new data laid -/
def AR (r : R2) (d1 d2 : Dt) (Φ : Dt → Prop) : Prop := ∀ G H, Same G H → ∀ x y, RD K G d1 x → RD K G d2 y → ∀ Q : VK, (∀ v d G' H', Nw G H G' H' → RD K G' d v → Φ d → Q v H') → r x y H Q
def AU (r : V → Hp → VK → Prop) (d1 : Dt) (Φ : Dt → Prop) : Prop := ∀ G H, Same G H → ∀ x, RD K G d1 x → ∀ Q : VK, (∀ v d G' H', Nw G H G' H' → RD K G' d v → Φ d → Q v H') → r x H Q
def AC (r : List V → Hp → VK → Prop) (ds : List Dt) (Φ : Dt → Prop) : Prop := ∀ G H, Same G H → ∀ vs, RDs K G ds vs → ∀ Q : VK, (∀ v d G' H', Nw G H G' H' → RD K G' d v → Φ d → Q v H') → r vs H Q
end
section
variable {K : PySem.W.Frag} {ρ : List En} {Ψ : Dt → List En → Prop} {ΨT : Bool → List En → Prop} {ΨA : List Dt → List En → Prop} {N : List En → Prop} {R : Dt → List En → Prop} {Φ : Dt → Prop}
theorem ae_var {i : Nat} {d : Dt} (e : ρ[i]? = some (.da d)) (h : Ψ d ρ) : AE K (tVar i) ρ Ψ := fun B σ G H m Q q => by
  obtain ⟨v, h1, h2⟩ := m.da i d e
  exact ⟨v, h1, q v d ρ G H m (Same.refl _) Tr.refl h2 h⟩
theorem ae_c {v : V} (d : Dt) (e : ∀ G, RD K G d v) (h : Ψ d ρ) : AE K (tC v) ρ Ψ := fun B σ G H m Q q => q v d ρ G H m (Same.refl _) Tr.refl (e G) h
theorem ae_int {i : Int} (h : Ψ (.int i) ρ) : AE K (tC (.int i)) ρ Ψ := ae_c (.int i) (fun _ => rfl) h
theorem ae_non (h : Ψ .non ρ) : AE K (tC .non) ρ Ψ := ae_c .non (fun _ => rfl) h
theorem ae_bl {b : Bool} (h : Ψ (.bl b) ρ) : AE K (tC (.bl b)) ρ Ψ := ae_c (.bl b) (fun _ => rfl) h
theorem ae_str {s : Str} (h : Ψ (.str s) ρ) : AE K (tC (.str s)) ρ Ψ := ae_c (.str s) (fun _ => rfl) h
theorem ae_mono {te : TE} {Ψ' : Dt → List En → Prop} (h : AE K te ρ Ψ') (k : ∀ d ρ', Ψ' d ρ' → Ψ d ρ') : AE K te ρ Ψ := fun B σ G H m Q q =>
  h B σ G H m Q fun v d ρ' G' H' m' s t r p => q v d ρ' G' H' m' s t r (k d ρ' p)
theorem at_mono {te : TT} {Ψ' : Bool → List En → Prop} (h : AT K te ρ Ψ') (k : ∀ d ρ', Ψ' d ρ' → ΨT d ρ') : AT K te ρ ΨT := fun B σ G H m Q q =>
  h B σ G H m Q fun d ρ' G' H' m' s t p => q d ρ' G' H' m' s t (k d ρ' p)
theorem ae_op {r : R2} {ta tb : TE} (h : AE K ta ρ fun d1 ρ1 => AE K tb ρ1 fun d2 ρ2 => AR K r d1 d2 fun d => Ψ d ρ2) : AE K (tOp r ta tb) ρ Ψ := fun B σ G H m Q q =>
  h B σ G H m _ fun x d1 ρ1 G1 H1 m1 s1 t1 r1 h1 => h1 B σ G1 H1 m1 _ fun y d2 ρ2 G2 H2 m2 s2 t2 r2 h2 =>
    h2 G2 H2 m2.sub x y (r1.same s2) r2 Q fun v d G3 H3 n3 r3 p3 => q v d ρ2 G3 H3 (m2.nw n3) ((s1.trans s2).trans n3.g) ((t1.trans t2).trans (Tr.same n3.h)) r3 p3
theorem ae_un {r : V → Hp → VK → Prop} {ta : TE} (h : AE K ta ρ fun d1 ρ1 => AU K r d1 fun d => Ψ d ρ1) : AE K (tUn r ta) ρ Ψ := fun B σ G H m Q q =>
  h B σ G H m _ fun x d1 ρ1 G1 H1 m1 s1 t1 r1 h1 => h1 G1 H1 m1.sub x r1 Q fun v d G3 H3 n3 r3 p3 => q v d ρ1 G3 H3 (m1.nw n3) (s1.trans n3.g) (t1.trans (Tr.same n3.h)) r3 p3
theorem aa_nil (h : ΨA [] ρ) : AA K tNil ρ ΨA := fun B σ G H m Q q => q [] [] ρ G H m (Same.refl _) Tr.refl rfl h
theorem aa_cons {ta : TE} {tr : TA} (h : AE K ta ρ fun d ρ1 => AA K tr ρ1 fun ds ρ2 => ΨA (d :: ds) ρ2) : AA K (tCons ta tr) ρ ΨA := fun B σ G H m Q q =>
  h B σ G H m _ fun x d ρ1 G1 H1 m1 s1 t1 r1 h1 => h1 B σ G1 H1 m1 _ fun xs ds ρ2 G2 H2 m2 s2 t2 r2 h2 =>
    q (x :: xs) (d :: ds) ρ2 G2 H2 m2 (s1.trans s2) (t1.trans t2) ⟨x, xs, rfl, r1.same s2, r2⟩ h2
theorem ae_cb {r : List V → Hp → VK → Prop} {ta : TA} (h : AA K ta ρ fun ds ρ1 => AC K r ds fun d => Ψ d ρ1) : AE K (tCB r ta) ρ Ψ := fun B σ G H m Q q =>
  h B σ G H m _ fun x d1 ρ1 G1 H1 m1 s1 t1 r1 h1 => h1 G1 H1 m1.sub x r1 Q fun v d G3 H3 n3 r3 p3 => q v d ρ1 G3 H3 (m1.nw n3) (s1.trans n3.g) (t1.trans (Tr.same n3.h)) r3 p3
theorem ae_tup {ta : TA} (h : AA K ta ρ fun ds ρ1 => ds.length ≤ sizeLine ∧ Ψ (.tup ds) ρ1) : AE K (tTup ta) ρ Ψ := fun B σ G H m Q q =>
  h B σ G H m _ fun xs ds ρ1 G1 H1 m1 s1 t1 r1 h1 => ⟨by rw [r1.length]; exact h1.1, fun p hp => by
    have n := Nw.new (o := .tup xs) m1.sub hp
    exact q _ (.tup ds) ρ1 _ _ (m1.nw n) (s1.trans n.g) (t1.trans (Tr.same n.h)) ⟨p, xs, rfl, SqT.of upd_same, r1.same n.g⟩ h1.2⟩
theorem ae_lst {ta : TA} (h : AA K ta ρ fun ds ρ1 => ds.length ≤ sizeLine ∧ Ψ (.lst ds) ρ1) : AE K (tLst ta) ρ Ψ := fun B σ G H m Q q =>
  h B σ G H m _ fun xs ds ρ1 G1 H1 m1 s1 t1 r1 h1 => ⟨by rw [r1.length]; exact h1.1, fun p hp => by
    have n := Nw.new (o := .lst xs) m1.sub hp
    exact q _ (.lst ds) ρ1 _ _ (m1.nw n) (s1.trans n.g) (t1.trans (Tr.same n.h)) ⟨p, xs, rfl, upd_same, r1.same n.g⟩ h1.2⟩
theorem ae_if {tt : TT} {ta tb : TE} (h : AT K tt ρ fun b ρ1 => (b = true → AE K ta ρ1 Ψ) ∧ (b = false → AE K tb ρ1 Ψ)) : AE K (tIf tt ta tb) ρ Ψ := fun B σ G H m Q q =>
  h B σ G H m _ fun b ρ1 G1 H1 m1 s1 t1 h1 => by
    cases b
    · rw [if_neg (by decide)]; exact h1.2 rfl B σ G1 H1 m1 Q fun v d ρ' G' H' m' s t r p => q v d ρ' G' H' m' (s1.trans s) (t1.trans t) r p
    · rw [if_pos rfl]; exact h1.1 rfl B σ G1 H1 m1 Q fun v d ρ' G' H' m' s t r p => q v d ρ' G' H' m' (s1.trans s) (t1.trans t) r p
theorem at_test {te : TE} (h : AE K te ρ fun d ρ1 => ∃ b, d = .bl b ∧ ΨT b ρ1) : AT K (tTest te) ρ ΨT := fun B σ G H m Q q =>
  h B σ G H m _ fun v d ρ1 G1 H1 m1 s1 t1 r1 ⟨b, e, p⟩ => by
    subst e; exact ⟨b, r1, q b ρ1 G1 H1 m1 s1 t1 p⟩
theorem at_b {te : TE} (h : AE K te ρ fun d ρ1 => ∃ b, d = .bl b ∧ ΨT b ρ1) : AT K (tB te) ρ ΨT := at_test h
theorem at_and {t u : TT} (h : AT K t ρ fun b ρ1 => (b = true → AT K u ρ1 ΨT) ∧ (b = false → ΨT false ρ1)) : AT K (tAnd t u) ρ ΨT := fun B σ G H m Q q =>
  h B σ G H m _ fun b ρ1 G1 H1 m1 s1 t1 h1 => by
    cases b
    · rw [if_neg (by decide)]; exact q false ρ1 G1 H1 m1 s1 t1 (h1.2 rfl)
    · rw [if_pos rfl]; exact h1.1 rfl B σ G1 H1 m1 Q fun d ρ' G' H' m' s t p => q d ρ' G' H' m' (s1.trans s) (t1.trans t) p
theorem at_or {t u : TT} (h : AT K t ρ fun b ρ1 => (b = true → ΨT true ρ1) ∧ (b = false → AT K u ρ1 ΨT)) : AT K (tOr t u) ρ ΨT := fun B σ G H m Q q =>
  h B σ G H m _ fun b ρ1 G1 H1 m1 s1 t1 h1 => by
    cases b
    · rw [if_neg (by decide)]; exact h1.2 rfl B σ G1 H1 m1 Q fun d ρ' G' H' m' s t p => q d ρ' G' H' m' (s1.trans s) (t1.trans t) p
    · rw [if_pos rfl]; exact q true ρ1 G1 H1 m1 s1 t1 (h1.1 rfl)
theorem at_not {t : TT} (h : AT K t ρ fun b ρ1 => ΨT (!b) ρ1) : AT K (tNot t) ρ ΨT := fun B σ G H m Q q =>
  h B σ G H m _ fun b ρ1 G1 H1 m1 s1 t1 h1 => q (!b) ρ1 G1 H1 m1 s1 t1 h1
theorem ae_andV {ta tb : TE} (h : AE K ta ρ fun d ρ1 => ∃ b, d = .bl b ∧ (b = true → AE K tb ρ1 Ψ) ∧ (b = false → Ψ (.bl false) ρ1)) : AE K (tAndV ta tb) ρ Ψ := fun B σ G H m Q q =>
  h B σ G H m _ fun v d ρ1 G1 H1 m1 s1 t1 r1 ⟨b, e, h1, h2⟩ => by
    subst e
    refine ⟨b, r1, ?_⟩
    cases b
    · rw [if_neg (by decide)]; exact q _ (.bl false) ρ1 G1 H1 m1 s1 t1 rfl (h2 rfl)
    · rw [if_pos rfl]; exact h1 rfl B σ G1 H1 m1 Q fun v d ρ' G' H' m' s t r p => q v d ρ' G' H' m' (s1.trans s) (t1.trans t) r p
theorem ae_orV {ta tb : TE} (h : AE K ta ρ fun d ρ1 => ∃ b, d = .bl b ∧ (b = true → Ψ (.bl true) ρ1) ∧ (b = false → AE K tb ρ1 Ψ)) : AE K (tOrV ta tb) ρ Ψ := fun B σ G H m Q q =>
  h B σ G H m _ fun v d ρ1 G1 H1 m1 s1 t1 r1 ⟨b, e, h1, h2⟩ => by
    subst e
    refine ⟨b, r1, ?_⟩
    cases b
    · rw [if_neg (by decide)]; exact h2 rfl B σ G1 H1 m1 Q fun v d ρ' G' H' m' s t r p => q v d ρ' G' H' m' (s1.trans s) (t1.trans t) r p
    · rw [if_pos rfl]; exact q _ (.bl true) ρ1 G1 H1 m1 s1 t1 rfl (h1 rfl)
theorem ae_notV {ta : TE} (h : AE K ta ρ fun d ρ1 => ∃ b, d = .bl b ∧ Ψ (.bl (!b)) ρ1) : AE K (tNotV ta) ρ Ψ := fun B σ G H m Q q =>
  h B σ G H m _ fun v d ρ1 G1 H1 m1 s1 t1 r1 ⟨b, e, h1⟩ => by
    subst e
    exact ⟨b, r1, q _ (.bl (!b)) ρ1 G1 H1 m1 s1 t1 rfl h1⟩
/-! statements -/
theorem as_seq {t u : TS} (h : AS K t ρ (fun ρ1 => AS K u ρ1 N R) R) : AS K (tSeq t u) ρ N R := fun B σ G H m D qn qr =>
  h B σ G H m { D with nx := u D } (fun σ1 ρ1 G1 H1 m1 s1 t1 h1 => h1 B σ1 G1 H1 m1 D (fun σ' ρ' G' H' m' s t p => qn σ' ρ' G' H' m' (s1.trans s) (t1.trans t) p) fun v d σ' ρ' G' H' m' s t r p => qr v d σ' ρ' G' H' m' (s1.trans s) (t1.trans t) r p) qr
theorem as_next (h : N ρ) : AS K tNext ρ N R := fun B σ G H m D qn qr => qn σ ρ G H m (Same.refl _) Tr.refl h
theorem as_ret {te : TE} (h : AE K te ρ R) : AS K (tRet te) ρ N R := fun B σ G H m D qn qr => h B σ G H m _ fun v d ρ1 G1 H1 m1 s1 t1 r1 h1 => qr v d σ ρ1 G1 H1 m1 s1 t1 r1 h1
theorem as_if {c : TT} {t u : TS} (h : AT K c ρ fun b ρ1 => (b = true → AS K t ρ1 N R) ∧ (b = false → AS K u ρ1 N R)) : AS K (tIfS c t u) ρ N R := fun B σ G H m D qn qr =>
  h B σ G H m _ fun b ρ1 G1 H1 m1 s1 t1 h1 => by
    cases b
    · rw [if_neg (by decide)]
      exact h1.2 rfl B σ G1 H1 m1 D (fun σ' ρ' G' H' m' s t p => qn σ' ρ' G' H' m' (s1.trans s) (t1.trans t) p) fun v d σ' ρ' G' H' m' s t r p => qr v d σ' ρ' G' H' m' (s1.trans s) (t1.trans t) r p
    · rw [if_pos rfl]
      exact h1.1 rfl B σ G1 H1 m1 D (fun σ' ρ' G' H' m' s t p => qn σ' ρ' G' H' m' (s1.trans s) (t1.trans t) p) fun v d σ' ρ' G' H' m' s t r p => qr v d σ' ρ' G' H' m' (s1.trans s) (t1.trans t) r p
theorem as_set {te : TE} {i : Nat} (h : AE K te ρ fun d ρ1 => N (ρ1.set i (.da d))) : AS K (tAsg te (gName i)) ρ N R := fun B σ G H m D qn qr =>
  h B σ G H m _ fun v d ρ1 G1 H1 m1 s1 t1 r1 h1 => qn _ _ G1 H1 (m1.set i r1) s1 t1 h1
theorem as_par {ta : TA} {i j : Nat} (h : AA K ta ρ fun ds ρ1 => ∃ d e, ds = [d, e] ∧ N ((ρ1.set i (.da d)).set j (.da e))) : AS K (tPar i j ta) ρ N R := fun B σ G H m D qn qr =>
  h B σ G H m _ fun vs ds ρ1 G1 H1 m1 s1 t1 r1 ⟨d, e, z, h1⟩ => by
    subst z
    obtain ⟨x, y, rfl, r2, r3⟩ := r1.two
    exact ⟨x, y, rfl, qn _ _ G1 H1 ((m1.set i r2).set j r3) s1 t1 h1⟩
/-- targets -/
def AG (K : PySem.W.Frag) (g : TG) (d : Dt) (ρ : List En) (N : List En → Prop) : Prop := ∀ B σ G H, Mt K B ρ σ G H → ∀ v, RD K G d v → ∀ Q : L2.St → Hp → Prop, (∀ σ' ρ' G' H', Mt K B ρ' σ' G' H' → Same G G' → Tr B H H' → N ρ' → Q σ' H') → g v σ H Q
def AGs (K : PySem.W.Frag) (g : TGs) (ds : List Dt) (ρ : List En) (N : List En → Prop) : Prop := ∀ B σ G H, Mt K B ρ σ G H → ∀ vs, RDs K G ds vs → ∀ Q : L2.St → Hp → Prop, (∀ σ' ρ' G' H', Mt K B ρ' σ' G' H' → Same G G' → Tr B H H' → N ρ' → Q σ' H') → g vs σ H Q
theorem ag_name {i : Nat} {d : Dt} (h : N (ρ.set i (.da d))) : AG K (gName i) d ρ N := fun B σ G H m v r Q q => q _ _ G H (m.set i r) (Same.refl _) Tr.refl h
theorem ags_nil (h : N ρ) : AGs K gNil [] ρ N := fun B σ G H m vs r Q q => ⟨r, q σ ρ G H m (Same.refl _) Tr.refl h⟩
theorem ags_cons {t : TG} {u : TGs} {d : Dt} {ds : List Dt} (h : AG K t d ρ fun ρ1 => AGs K u ds ρ1 N) : AGs K (gCons t u) (d :: ds) ρ N := fun B σ G H m vs r Q q => by
  obtain ⟨x, xs, rfl, r1, r2⟩ := r
  exact ⟨x, xs, rfl, h B σ G H m x r1 _ fun σ1 ρ1 G1 H1 m1 s1 t1 h1 => h1 B σ1 G1 H1 m1 xs (r2.same s1) Q fun σ' ρ' G' H' m' s t p => q σ' ρ' G' H' m' (s1.trans s) (t1.trans t) p⟩
theorem ag_tup {t : TGs} {n : Nat} {ds : List Dt} (hn : ds.length = n) (h : AGs K t ds ρ N) : AG K (gTup K n t) (.tup ds) ρ N := fun B σ G H m v r Q q => by
  obtain ⟨a, xs, rfl, r1, r2⟩ := r
  exact ⟨a, xs, rfl, same_sqT m.sub r1, by rw [r2.length]; exact hn, h B σ G H m xs r2 Q q⟩
theorem as_asg {te : TE} {g : TG} (h : AE K te ρ fun d ρ1 => AG K g d ρ1 N) : AS K (tAsg te g) ρ N R := fun B σ G H m D qn qr =>
  h B σ G H m _ fun v d ρ1 G1 H1 m1 s1 t1 r1 h1 => h1 B σ G1 H1 m1 v r1 _ fun σ' ρ' G' H' m' s t p => qn σ' ρ' G' H' m' (s1.trans s) (t1.trans t) p
/-! own lists -/
end
end Sh
set_option Elab.async false
set_option linter.all false
set_option maxRecDepth 100000
set_option maxHeartbeats 4000000
namespace Sh
open PySem PySem.Spec PyProof.Rows L2
section
variable {K : PySem.W.Frag} {ρ : List En} {Ψ : Dt → List En → Prop} {ΨT : Bool → List En → Prop} {ΨA : List Dt → List En → Prop} {N : List En → Prop} {R : Dt → List En → Prop} {Φ : Dt → Prop}
/-! ### operators -/
theorem ar_I0i {g : Int → Int → Int} {i j : Int} (h : Φ (.int (g i j))) : AR K (rI0 fun i j => .int (g i j)) (.int i) (.int j) Φ := fun G H s x y r1 r2 Q q =>
  ⟨i, j, r1, r2, q _ (.int (g i j)) G H (Nw.refl s) rfl h⟩
theorem ar_I0b {g : Int → Int → Bool} {i j : Int} (h : Φ (.bl (g i j))) : AR K (rI0 fun i j => .bl (g i j)) (.int i) (.int j) Φ := fun G H s x y r1 r2 Q q =>
  ⟨i, j, r1, r2, q _ (.bl (g i j)) G H (Nw.refl s) rfl h⟩
theorem ar_Ii {C : Int → Int → Prop} {g : Int → Int → Int} {i j : Int} (c : C i j) (h : Φ (.int (g i j))) : AR K (rI C fun i j => .int (g i j)) (.int i) (.int j) Φ := fun G H s x y r1 r2 Q q =>
  ⟨i, j, r1, r2, c, q _ (.int (g i j)) G H (Nw.refl s) rfl h⟩
theorem au_Ui {g : Int → Int} {i : Int} (h : Φ (.int (g i))) : AU K (rU fun i => .int (g i)) (.int i) Φ := fun G H s x r1 Q q => ⟨i, r1, q _ (.int (g i)) G H (Nw.refl s) rfl h⟩
def Dt.isNon : Dt → Bool
  | .non => true
  | _ => false
theorem RD.isNon {G : Hp} : ∀ {d : Dt} {x : V}, RD K G d x → decide (x = V.non) = d.isNon
  | .non, _, r => by rw [show _ = V.non from r]; rfl
  | .bl _, _, r => by rw [show _ = V.bl _ from r]; rfl
  | .int _, _, r => by rw [show _ = V.int _ from r]; rfl
  | .str _, _, r => by rw [show _ = V.str _ from r]; rfl
  | .ty _, _, r => by rw [show _ = V.ty _ from r]; rfl
  | .tup _, _, ⟨a, _, e, _⟩ => by rw [e]; rfl
  | .lst _, _, ⟨a, _, e, _⟩ => by rw [e]; rfl
theorem ar_isN {d : Dt} (h : Φ (.bl d.isNon)) : AR K (fun x y H Q => y = .non ∧ Q (.bl (decide (x = .non))) H) d .non Φ := fun G H s x y r1 r2 Q q =>
  ⟨r2, q _ (.bl d.isNon) G H (Nw.refl s) (by rw [r1.isNon]; rfl) h⟩
theorem ar_notN {d : Dt} (h : Φ (.bl (!d.isNon))) : AR K (fun x y H Q => y = .non ∧ Q (.bl (!decide (x = .non))) H) d .non Φ := fun G H s x y r1 r2 Q q =>
  ⟨r2, q _ (.bl (!d.isNon)) G H (Nw.refl s) (by rw [r1.isNon]; rfl) h⟩
/-- flat data as a value -/
def Dt.v? : Dt → Option V
  | .non => some .non
  | .bl b => some (.bl b)
  | .int i => some (.int i)
  | .str s => some (.str s)
  | _ => none
theorem RD.v {G : Hp} : ∀ {d : Dt} {x y : V}, d.v? = some y → RD K G d x → x = y
  | .non, _, _, e, r => by cases e; exact r
  | .bl _, _, _, e, r => by cases e; exact r
  | .int _, _, _, e, r => by cases e; exact r
  | .str _, _, _, e, r => by cases e; exact r
theorem ar_eq {d e : Dt} {x y : V} (h1 : d.v? = some x) (h2 : e.v? = some y) (hs : scal x y = true) (h : Φ (.bl (decide (x = y)))) : AR K rEq d e Φ := fun G H s x' y' r1 r2 Q q => by
  cases RD.v h1 r1; cases RD.v h2 r2
  exact ⟨hs, q _ (.bl (decide (x = y))) G H (Nw.refl s) rfl h⟩
theorem ar_ne {d e : Dt} {x y : V} (h1 : d.v? = some x) (h2 : e.v? = some y) (hs : scal x y = true) (h : Φ (.bl (!decide (x = y)))) : AR K rNe d e Φ := fun G H s x' y' r1 r2 Q q => by
  cases RD.v h1 r1; cases RD.v h2 r2
  exact ⟨hs, q _ (.bl (!decide (x = y))) G H (Nw.refl s) rfl h⟩
def vs? : List Dt → Option (List V)
  | [] => some []
  | d :: l => match d.v?, vs? l with
    | some x, some xs => some (x :: xs)
    | _, _ => none
theorem RDs.v {G : Hp} : ∀ {l : List Dt} {xs ys : List V}, vs? l = some ys → RDs K G l xs → xs = ys
  | [], _, _, e, r => by cases e; exact r
  | d :: l, _, ys, e, ⟨x, r, e1, h1, h2⟩ => by
    unfold vs? at e
    cases q1 : d.v? with
    | none => rw [q1] at e; cases e
    | some z =>
      cases q2 : vs? l with
      | none => rw [q1, q2] at e; cases e
      | some zs => rw [q1, q2] at e; cases e; rw [e1, RD.v q1 h1, RDs.v q2 h2]
theorem ar_inL {neg : Bool} {d : Dt} {l : List Dt} {x : V} {xs : List V} (h1 : d.v? = some x) (h2 : vs? l = some xs) (f1 : flatV x = true) (f2 : xs.all flatV = true) (h : Φ (.bl (if neg then !inV x xs else inV x xs))) : AR K (rIn K neg) d (.lst l) Φ := fun G H s x' y' r1 ⟨a, ys, e, q1, q2⟩ Q q => by
  cases RD.v h1 r1; cases RDs.v h2 q2
  exact ⟨a, xs, e, .inl (SqL.of (s _ _ q1)), f1, f2, q _ (.bl (if neg then !inV x xs else inV x xs)) G H (Nw.refl s) rfl h⟩
/-! places -/
theorem atI_get {l : List Dt} {xs : List V} {G : Hp} {i : Int} {d : Dt} (r : RDs K G l xs) (e : atI l i = some d) : ∃ x, atI xs i = some x ∧ RD K G d x := by
  unfold atI at e ⊢
  rw [r.length]
  cases q : ixN l.length i with
  | none => rw [q] at e; cases e
  | some j =>
    rw [q] at e
    obtain ⟨x, h1, h2⟩ := r.get (i := j) e
    exact ⟨x, h1, h2⟩
theorem ar_ixT {l : List Dt} {i : Int} {d : Dt} (e : atI l i = some d) (h : Φ d) : AR K (rIxT K) (.tup l) (.int i) Φ := fun G H s x y ⟨a, xs, e1, q1, q2⟩ r2 Q q => by
  obtain ⟨z, h1, h2⟩ := atI_get q2 e
  exact ⟨a, xs, i, z, e1, r2, same_sqT s q1, h1, q _ d G H (Nw.refl s) h2 h⟩
theorem ar_ixL {l : List Dt} {i : Int} {d : Dt} (e : atI l i = some d) (h : Φ d) : AR K (rIxL K) (.lst l) (.int i) Φ := fun G H s x y ⟨a, xs, e1, q1, q2⟩ r2 Q q => by
  obtain ⟨z, h1, h2⟩ := atI_get q2 e
  exact ⟨a, xs, i, z, e1, r2, SqL.of (s _ _ q1), h1, q _ d G H (Nw.refl s) h2 h⟩
def sq (k : Bool) (l : List Dt) : Dt := if k then .tup l else .lst l
theorem ar_ix {k : Bool} {l : List Dt} {i : Int} {d : Dt} (e : atI l i = some d) (h : Φ d) : AR K (rIx K) (sq k l) (.int i) Φ := fun G H s x y r1 r2 Q q => by
  cases k
  · exact .inl (ar_ixL e h G H s x y r1 r2 Q q)
  · exact .inr (.inl (ar_ixT e h G H s x y r1 r2 Q q))
theorem ar_ixTs {l : List Dt} {i : Int} {d : Dt} (e : atI l i = some d) (h : Φ d) : AR K (rIx K) (.tup l) (.int i) Φ := ar_ix (k := true) e h
theorem ar_ixLs {l : List Dt} {i : Int} {d : Dt} (e : atI l i = some d) (h : Φ d) : AR K (rIx K) (.lst l) (.int i) Φ := ar_ix (k := false) e h
/-! ### built-ins -/
theorem ac_abs {i : Int} (h : Φ (.int (if i < 0 then -i else i))) : AC K (fun xs H Q => ∃ i, xs = [.int i] ∧ Q (.int (if i < 0 then -i else i)) H) [.int i] Φ := fun G H s vs r Q q => by
  obtain ⟨x, rfl, h1⟩ := r.one
  exact ⟨i, by rw [show x = V.int i from h1], q _ (.int (if i < 0 then -i else i)) G H (Nw.refl s) rfl h⟩
theorem ac_max2 {i j : Int} (h : Φ (.int (if j > i then j else i))) : AC K (fun xs H Q => ∃ i j, xs = [.int i, .int j] ∧ Q (.int (if j > i then j else i)) H) [.int i, .int j] Φ := fun G H s vs r Q q => by
  obtain ⟨x, y, rfl, h1, h2⟩ := r.two
  exact ⟨i, j, by rw [show x = V.int i from h1, show y = V.int j from h2], q _ (.int (if j > i then j else i)) G H (Nw.refl s) rfl h⟩
theorem ac_min2 {i j : Int} (h : Φ (.int (if j < i then j else i))) : AC K (fun xs H Q => ∃ i j, xs = [.int i, .int j] ∧ Q (.int (if j < i then j else i)) H) [.int i, .int j] Φ := fun G H s vs r Q q => by
  obtain ⟨x, y, rfl, h1, h2⟩ := r.two
  exact ⟨i, j, by rw [show x = V.int i from h1, show y = V.int j from h2], q _ (.int (if j < i then j else i)) G H (Nw.refl s) rfl h⟩
theorem ac_lenT {l : List Dt} (h : Φ (.int (l.length : Nat))) : AC K (fun xs H Q => ∃ p ys, xs = [.ref p] ∧ (SqL K H p ys ∨ SqT K H p ys) ∧ Q (.int ys.length) H) [.tup l] Φ := fun G H s vs r Q q => by
  obtain ⟨x, rfl, a, xs, rfl, h1, h2⟩ := r.one
  exact ⟨a, xs, rfl, .inr (same_sqT s h1), q _ (.int (l.length : Nat)) G H (Nw.refl s) (by rw [h2.length]; rfl) h⟩
theorem ac_lenL {l : List Dt} (h : Φ (.int (l.length : Nat))) : AC K (fun xs H Q => ∃ p ys, xs = [.ref p] ∧ (SqL K H p ys ∨ SqT K H p ys) ∧ Q (.int ys.length) H) [.lst l] Φ := fun G H s vs r Q q => by
  obtain ⟨x, rfl, a, xs, rfl, h1, h2⟩ := r.one
  exact ⟨a, xs, rfl, .inl (SqL.of (s _ _ h1)), q _ (.int (l.length : Nat)) G H (Nw.refl s) (by rw [h2.length]; rfl) h⟩
theorem ac_listT {l : List Dt} (h : Φ (.lst l)) : AC K (fun xs H Q => ∃ p ys, xs = [.ref p] ∧ (SqL K H p ys ∨ SqT K H p ys) ∧ ∀ l, H l = none → Q (.ref l) (upd H l (.lst ys))) [.tup l] Φ := fun G H s vs r Q q => by
  obtain ⟨x, rfl, a, xs, rfl, h1, h2⟩ := r.one
  refine ⟨a, xs, rfl, .inr (same_sqT s h1), fun p hp => ?_⟩
  have n := Nw.new (o := .lst xs) s hp
  exact q _ (.lst l) _ _ n ⟨p, xs, rfl, upd_same, h2.same n.g⟩ h
theorem ac_listL {l : List Dt} (h : Φ (.lst l)) : AC K (fun xs H Q => ∃ p ys, xs = [.ref p] ∧ (SqL K H p ys ∨ SqT K H p ys) ∧ ∀ l, H l = none → Q (.ref l) (upd H l (.lst ys))) [.lst l] Φ := fun G H s vs r Q q => by
  obtain ⟨x, rfl, a, xs, rfl, h1, h2⟩ := r.one
  refine ⟨a, xs, rfl, .inl (SqL.of (s _ _ h1)), fun p hp => ?_⟩
  have n := Nw.new (o := .lst xs) s hp
  exact q _ (.lst l) _ _ n ⟨p, xs, rfl, upd_same, h2.same n.g⟩ h
theorem ac_tupL {l : List Dt} (h : Φ (.tup l)) : AC K (fun xs H Q => ∃ p ys, xs = [.ref p] ∧ ((SqL K H p ys ∧ ∀ l, H l = none → Q (.ref l) (upd H l (.tup ys))) ∨ (SqT K H p ys ∧ Q (.ref p) H))) [.lst l] Φ := fun G H s vs r Q q => by
  obtain ⟨x, rfl, a, xs, rfl, h1, h2⟩ := r.one
  refine ⟨a, xs, rfl, .inl ⟨SqL.of (s _ _ h1), fun p hp => ?_⟩⟩
  have n := Nw.new (o := .tup xs) s hp
  exact q _ (.tup l) _ _ n ⟨p, xs, rfl, SqT.of upd_same, h2.same n.g⟩ h
theorem ac_tupT {l : List Dt} (h : Φ (.tup l)) : AC K (fun xs H Q => ∃ p ys, xs = [.ref p] ∧ ((SqL K H p ys ∧ ∀ l, H l = none → Q (.ref l) (upd H l (.tup ys))) ∨ (SqT K H p ys ∧ Q (.ref p) H))) [.tup l] Φ := fun G H s vs r Q q => by
  obtain ⟨x, rfl, a, xs, rfl, h1, h2⟩ := r.one
  exact ⟨a, xs, rfl, .inr ⟨same_sqT s h1, q _ (.tup l) G H (Nw.refl s) ⟨a, xs, rfl, h1, h2⟩ h⟩⟩
theorem ac_all {bs : List Bool} (h : Φ (.bl (bs.all id))) : AC K (rAll K) [.lst (bs.map Dt.bl)] Φ := fun G H s vs r Q q => by
  obtain ⟨x, rfl, a, xs, rfl, h1, h2⟩ := r.one
  cases h2.bls
  exact ⟨a, bs, rfl, SqL.of (s _ _ h1), q _ (.bl (bs.all id)) G H (Nw.refl s) rfl h⟩
theorem ac_int {i : Int} (h : Φ (.int i)) : AC K (fun xs H Q => (∃ i, xs = [.int i] ∧ Q (.int i) H) ∨ ∃ k, xs = [.bl k] ∧ Q (.int (if k then 1 else 0)) H) [.int i] Φ := fun G H s vs r Q q => by
  obtain ⟨x, rfl, h1⟩ := r.one
  exact .inl ⟨i, by rw [show x = V.int i from h1], q _ (.int i) G H (Nw.refl s) rfl h⟩
theorem ac_intB {b : Bool} (h : Φ (.int (if b then 1 else 0))) : AC K (fun xs H Q => (∃ i, xs = [.int i] ∧ Q (.int i) H) ∨ ∃ k, xs = [.bl k] ∧ Q (.int (if k then 1 else 0)) H) [.bl b] Φ := fun G H s vs r Q q => by
  obtain ⟨x, rfl, h1⟩ := r.one
  exact .inr ⟨b, by rw [show x = V.bl b from h1], q _ (.int (if b then 1 else 0)) G H (Nw.refl s) rfl h⟩
/-! kinds -/
def Dt.kind : Dt → String
  | .non => "NoneType" | .bl _ => "bool" | .int _ => "int" | .str _ => "str" | .ty _ => "type" | .tup _ => "tuple" | .lst _ => "list"
def Dt.noTy : Dt → Bool
  | .ty _ => false
  | _ => true
theorem RD.kind {G H : Hp} (s : Same G H) : ∀ {d : Dt} {x : V}, d.noTy = true → RD K G d x → TyX K H x (.type d.kind)
  | .non, _, _, r => by cases (show _ = V.non from r); exact .base .non
  | .bl _, _, _, r => by cases (show _ = V.bl _ from r); exact .base (.bl _)
  | .int _, _, _, r => by cases (show _ = V.int _ from r); exact .base (.int _)
  | .str _, _, _, r => by cases (show _ = V.str _ from r); exact .base (.str _)
  | .tup _, _, _, ⟨a, xs, e, q, _⟩ => by
    subst e
    rcases q with (q | ⟨o, q⟩) | ⟨o, its, n, q1, q2, _⟩
    · exact .base (.tup (s _ _ q))
    · exact .fTuple (s _ _ q)
    · exact .kTuple q1 q2
  | .lst _, _, _, ⟨a, xs, e, q, _⟩ => by subst e; exact .base (.lst (s _ _ q))
theorem ac_isi {d : Dt} {T : String} {b : Bool} (n : d.noTy = true) (hb : kitB d.kind T = some b) (h : Φ (.bl b)) : AC K (rIsi K) [d, .ty T] Φ := fun G H s vs r Q q => by
  obtain ⟨x, y, rfl, h1, h2⟩ := r.two
  cases (show y = V.ty T from h2)
  exact ⟨x, .ty T, _, _, b, rfl, .ty T, h1.kind s n, kit_ty hb, q _ (.bl b) G H (Nw.refl s) rfl h⟩
theorem kit_2 {a S T : String} {r : Bool} (h1 : kitB a S = some false) (h2 : kitB a T = some r) : PySem.W.kitAny K (.type a) [.type S, .type T] = some r :=
  kitAny_cons (kit_ty h1) (fun _ => kitAny_cons (kit_ty h2) (fun e => by rw [e]; exact kitAny_nil) (fun e => e)) (fun e => nomatch e)
theorem kit_1 {a S T : String} (h1 : kitB a S = some true) : PySem.W.kitAny K (.type a) [.type S, .type T] = some true :=
  kitAny_cons (kit_ty h1) (fun e => nomatch e) (fun _ => rfl)
/-- isinstance(e, (S, T)) -/
theorem ae_isi2 {te : TE} {S T : String} (h : AE K te ρ fun d ρ1 => d.noTy = true ∧ ∃ b, ((kitB d.kind S = some true ∧ b = true) ∨ (kitB d.kind S = some false ∧ kitB d.kind T = some b)) ∧ Ψ (.bl b) ρ1) :
    AE K (tCB (rIsiT K) (tCons te (tCons (tTup (tCons (tC (.ty S)) (tCons (tC (.ty T)) tNil))) tNil))) ρ Ψ := fun B σ G H m Q q =>
  h B σ G H m _ fun v d ρ1 G1 H1 m1 s1 t1 r1 ⟨n, b, hb, p⟩ => by
    refine ⟨by show 2 ≤ sizeLine; decide, fun a ha => ?_⟩
    have k : PySem.W.kitAny K (.type d.kind) [.type S, .type T] = some b := by
      rcases hb with ⟨h1, rfl⟩ | ⟨h1, h2⟩
      · exact kit_1 h1
      · exact kit_2 h1 h2
    have nw := Nw.new (o := .tup [V.ty S, V.ty T]) m1.sub ha
    exact ⟨v, a, _, _, _, b, rfl, upd_same, .cons (.ty _) (.cons (.ty _) .nil), (r1.same nw.g).kind nw.s n, k, q _ (.bl b) ρ1 _ _ (m1.nw nw) (s1.trans nw.g) (t1.trans (Tr.same nw.h)) rfl p⟩
theorem ae_ty {T : String} (h : Ψ (.ty T) ρ) : AE K (tC (.ty T)) ρ Ψ := ae_c (.ty T) (fun _ => rfl) h
/-! ### deep equality -/
mutual
def Dt.pd : Dt → PyData
  | .non => .none | .bl b => .bool b | .int i => .int i | .str s => .str s | .ty _ => .none
  | .tup l => .tuple (pds l)
  | .lst l => .list (pds l)
def pds : List Dt → List PyData
  | [] => []
  | d :: l => d.pd :: pds l
def Dt.pl : Dt → Bool
  | .ty _ => false
  | .tup l => pls l
  | .lst l => pls l
  | _ => true
def pls : List Dt → Bool
  | [] => true
  | d :: l => d.pl && pls l
end
mutual
theorem RD.dp {G H : Hp} (s : Same G H) : ∀ {d : Dt} {v : V}, d.pl = true → RD K G d v → Dp K H v d.pd
  | .non, v, _, h => by cases (show v = .non from h); exact .non
  | .bl b, v, _, h => by cases (show v = .bl b from h); exact .bl b
  | .int i, v, _, h => by cases (show v = .int i from h); exact .int i
  | .str z, v, _, h => by cases (show v = .str z from h); exact .str z
  | .tup l, _, p, ⟨a, xs, e, ha, r⟩ => by subst e; exact .tup (same_sqT s ha) (RDs.dp s p r)
  | .lst l, _, p, ⟨a, xs, e, ha, r⟩ => by subst e; exact .lst (SqL.of (s _ _ ha)) (RDs.dp s p r)
theorem RDs.dp {G H : Hp} (s : Same G H) : ∀ {l : List Dt} {xs : List V}, pls l = true → RDs K G l xs → DpAll K H xs (pds l)
  | [], xs, _, h => by cases (show xs = [] from h); exact .nil
  | d :: l, _, p, ⟨x, r, e, h1, h2⟩ => by
    subst e
    have p' : (d.pl && pls l) = true := p
    rw [Bool.and_eq_true] at p'
    exact .cons (RD.dp s p'.1 h1) (RDs.dp s p'.2 h2)
end
theorem ar_neD {d e : Dt} (p1 : d.pl = true) (p2 : e.pl = true) (s1 : SeqAt.shaped d.pd = true) (s2 : SeqAt.shaped e.pd = true) (h : Φ (.bl (!PyData.eqv d.pd e.pd))) : AR K (rNeD K) d e Φ := fun G H s x y r1 r2 Q q =>
  ⟨d.pd, e.pd, r1.dp s p1, r2.dp s p2, s1, s2, q _ (.bl (!PyData.eqv d.pd e.pd)) G H (Nw.refl s) rfl h⟩
end
end Sh
set_option Elab.async false
set_option linter.all false
set_option maxRecDepth 100000
set_option maxHeartbeats 4000000
namespace Sh
open PySem PySem.Spec PyProof.Rows L2
section
variable {K : PySem.W.Frag} {ρ : List En} {Ψ : Dt → List En → Prop} {ΨT : Bool → List En → Prop} {ΨA : List Dt → List En → Prop} {N : List En → Prop} {R : Dt → List En → Prop} {Φ : Dt → Prop}
/-! ### walks -/
def Wj (K : PySem.W.Frag) (J : It) (l : List Dt) (G0 : Hp) : Prop :=
  (∀ i H, i < l.length → Same G0 H → J.go i H) ∧ (∀ H, Same G0 H → J.stop l.length H) ∧ ∀ i G H x H', i < l.length → Same G0 G → Same G H → J.yld i H x H' → ∃ G' d, Nw G H G' H' ∧ l[i]? = some d ∧ RD K G' d x
theorem Wj.walk {J : It} {l : List Dt} {G0 : Hp} (w : Wj K J l G0) : Walk J l.length (fun H => Same G0 H) fun i H x H' => ∀ G, Same G0 G → Same G H → ∃ G' d, Nw G H G' H' ∧ l[i]? = some d ∧ RD K G' d x :=
  ⟨fun i H hi s => w.1 i H hi s, fun H s => w.2.1 H s, fun i H x H' hi s y G s1 s2 => w.2.2 i G H x H' hi s1 s2 y⟩
def AI (K : PySem.W.Frag) (wi : TI) (ρ : List En) (Θ : List Dt → List En → Prop) : Prop := ∀ B σ G H, Mt K B ρ σ G H → ∀ R : It → Hp → Prop, (∀ J l ρ' G' H', Mt K B ρ' σ G' H' → Same G G' → Tr B H H' → Wj K J l G' → Θ l ρ' → R J H') → wi σ H R
theorem wj_list {a : Addr} {xs : List V} {l : List Dt} {G : Hp} (h : G a = some (.lst xs)) (r : RDs K G l xs) : Wj K (Itl K a) l G := by
  have e := r.length
  refine ⟨fun i H hi s => ⟨xs, xs[i]'(by omega), SqL.of (s _ _ h), by simp [show i < xs.length by omega]⟩, fun H s => ⟨xs, SqL.of (s _ _ h), by omega⟩, fun i G1 H x H' hi s1 s2 y => ?_⟩
  obtain ⟨d, h1, h2⟩ := r.back (i := i) (y.2 xs (SqL.of (s2 _ _ (s1 _ _ h))))
  refine ⟨G1, d, ?_, h1, h2.same s1⟩
  rw [y.1]; exact Nw.refl s2
def rgD (lo : Int) (n : Nat) : List Dt := (List.range n).map fun i => .int (lo + (i : Nat))
theorem wj_range {lo : Int} {n : Nat} {G : Hp} : Wj K (Itr lo n) (rgD lo n) G := by
  have e : (rgD lo n).length = n := by unfold rgD; rw [List.length_map, List.length_range]
  refine ⟨fun i H hi s => by rw [e] at hi; exact hi, fun H s => by rw [e]; exact Nat.le_refl _, fun i G1 H x H' hi s1 s2 y => ⟨G1, .int (lo + (i : Nat)), ?_, ?_, y.2⟩⟩
  · rw [y.1]; exact Nw.refl s2
  · rw [e] at hi; unfold rgD; rw [List.getElem?_map, List.getElem?_range hi]; rfl
theorem ai_list {te : TE} {Θ : List Dt → List En → Prop} (h : AE K te ρ fun d ρ1 => ∃ l, d = .lst l ∧ Θ l ρ1) : AI K (iList K te) ρ Θ := fun B σ G H m Rr q =>
  h B σ G H m _ fun v d ρ1 G1 H1 m1 s1 t1 r1 ⟨l, e, p⟩ => by
    subst e
    obtain ⟨a, xs, e, h1, h2⟩ := r1
    exact ⟨a, e, ⟨xs, SqL.of (m1.sub _ _ h1)⟩, q _ l ρ1 G1 H1 m1 s1 t1 (wj_list h1 h2) p⟩
theorem ai_rng1 {ta : TA} {Θ : List Dt → List En → Prop} (h : AA K ta ρ fun ds ρ1 => ∃ j : Int, ds = [.int j] ∧ -(2 ^ 62) ≤ j ∧ j < 2 ^ 62 ∧ Θ (rgD 0 j.toNat) ρ1) : AI K (iRng1 ta) ρ Θ := fun B σ G H m Rr q =>
  h B σ G H m _ fun vs ds ρ1 G1 H1 m1 s1 t1 r1 ⟨j, e, p1, p2, p⟩ => by
    subst e
    obtain ⟨x, rfl, h1⟩ := r1.one
    cases (show x = .int j from h1)
    exact ⟨j, rfl, p1, p2, q _ _ ρ1 G1 H1 m1 s1 t1 wj_range p⟩
theorem ai_rng2 {ta : TA} {Θ : List Dt → List En → Prop} (h : AA K ta ρ fun ds ρ1 => ∃ i j : Int, ds = [.int i, .int j] ∧ (-(2 ^ 62) ≤ i ∧ i < 2 ^ 62 ∧ -(2 ^ 62) ≤ j ∧ j < 2 ^ 62) ∧ Θ (rgD i (j - i).toNat) ρ1) : AI K (iRng2 ta) ρ Θ := fun B σ G H m Rr q =>
  h B σ G H m _ fun vs ds ρ1 G1 H1 m1 s1 t1 r1 ⟨i, j, e, p1, p⟩ => by
    subst e
    obtain ⟨x, y, rfl, h1, h2⟩ := r1.two
    cases (show x = .int i from h1)
    cases (show y = .int j from h2)
    exact ⟨i, j, rfl, p1, q _ _ ρ1 G1 H1 m1 s1 t1 wj_range p⟩
/-! new pairs -/
theorem nw_pair {G H : Hp} {T : Addr} {x y : V} {d e : Dt} (s : Same G H) (n : H T = none) (r1 : RD K G d x) (r2 : RD K G e y) : ∃ G', Nw G H G' (upd H T (.tup [x, y])) ∧ RD K G' (.tup [d, e]) (.ref T) := by
  have nw := Nw.new (o := .tup [x, y]) s n
  exact ⟨_, nw, T, _, rfl, SqT.of upd_same, x, [y], rfl, r1.same nw.g, y, [], rfl, r2.same nw.g, rfl⟩
theorem zip_get {α β : Type} : ∀ {xs : List α} {ys : List β} {i : Nat} {x : α} {y : β}, xs[i]? = some x → ys[i]? = some y → (xs.zip ys)[i]? = some (x, y)
  | a :: xs, b :: ys, 0, _, _, h1, h2 => by cases h1; cases h2; rfl
  | a :: xs, b :: ys, i + 1, x, y, h1, h2 => by
    have := zip_get (i := i) (by simpa using h1) (by simpa using h2)
    simpa using this
  | [], _, _, _, _, h1, _ => by simp at h1
  | _ :: _, [], _, _, _, _, h2 => by simp at h2
def zpD (l m : List Dt) : List Dt := (l.zip m).map fun p => .tup [p.1, p.2]
theorem zpD_len {l m : List Dt} : (zpD l m).length = min l.length m.length := by unfold zpD; rw [List.length_map, List.length_zip]
theorem zpD_get {l m : List Dt} {i : Nat} {d e : Dt} (h1 : l[i]? = some d) (h2 : m[i]? = some e) : (zpD l m)[i]? = some (.tup [d, e]) := by
  unfold zpD; rw [List.getElem?_map, zip_get h1 h2]; rfl
theorem wj_zipL {a b : Addr} {xs ys : List V} {l m : List Dt} {G : Hp} (h : G a = some (.lst xs)) (h' : G b = some (.lst ys)) (r : RDs K G l xs) (r' : RDs K G m ys) : Wj K (Itz K a b) (zpD l m) G := by
  have e := r.length
  have e' := r'.length
  have w := walk_zip (K := K) (a := a) (b := b) (xs := xs) (ys := ys) rfl
  have el : (zpD l m).length = min xs.length ys.length := by rw [zpD_len, e, e']
  refine ⟨fun i H hi s => w.goes i H (by rw [el] at hi; exact hi) ⟨SqL.of (s _ _ h), SqL.of (s _ _ h')⟩, fun H s => by rw [el]; exact w.stops H ⟨SqL.of (s _ _ h), SqL.of (s _ _ h')⟩, fun i G1 H x H' hi s1 s2 y => ?_⟩
  obtain ⟨T, u, v, rfl, nT, rfl, f1, f2⟩ := w.yields i H x H' (by rw [el] at hi; exact hi) ⟨SqL.of (s2 _ _ (s1 _ _ h)), SqL.of (s2 _ _ (s1 _ _ h'))⟩ y
  obtain ⟨d1, g1, q1⟩ := r.back f1
  obtain ⟨d2, g2, q2⟩ := r'.back f2
  obtain ⟨G', n, rd⟩ := nw_pair s2 nT (q1.same s1) (q2.same s1)
  exact ⟨G', _, n, zpD_get g1 g2, rd⟩
theorem walk_zipT {a b : Addr} {xs ys : List V} : Walk (RZ.ItzT K a b) (min xs.length ys.length) (fun H => SqT K H a xs ∧ SqT K H b ys) (YPair (fun i => xs[i]?) (fun i => ys[i]?)) := by
  refine ⟨fun i H hi q => ?_, fun _ q => ⟨xs, ys, q.1, q.2, by omega⟩, fun _ _ _ _ _ q ⟨T, x, y, e1, e2, e3, f, g⟩ => ⟨T, x, y, e1, e2, e3, f xs q.1, g ys q.2⟩⟩
  have h1 : i < xs.length := by omega
  have h2 : i < ys.length := by omega
  exact ⟨xs, ys, xs[i], ys[i], q.1, q.2, List.getElem?_eq_getElem h1, List.getElem?_eq_getElem h2⟩
theorem wj_zipT {a b : Addr} {xs ys : List V} {l m : List Dt} {G : Hp} (h : SqT K G a xs) (h' : SqT K G b ys) (r : RDs K G l xs) (r' : RDs K G m ys) : Wj K (RZ.ItzT K a b) (zpD l m) G := by
  have e := r.length
  have e' := r'.length
  have w := walk_zipT (K := K) (a := a) (b := b) (xs := xs) (ys := ys)
  have el : (zpD l m).length = min xs.length ys.length := by rw [zpD_len, e, e']
  refine ⟨fun i H hi s => w.goes i H (by rw [el] at hi; exact hi) ⟨same_sqT s h, same_sqT s h'⟩, fun H s => by rw [el]; exact w.stops H ⟨same_sqT s h, same_sqT s h'⟩, fun i G1 H x H' hi s1 s2 y => ?_⟩
  obtain ⟨T, u, v, rfl, nT, rfl, f1, f2⟩ := w.yields i H x H' (by rw [el] at hi; exact hi) ⟨same_sqT s2 (same_sqT s1 h), same_sqT s2 (same_sqT s1 h')⟩ y
  obtain ⟨d1, g1, q1⟩ := r.back f1
  obtain ⟨d2, g2, q2⟩ := r'.back f2
  obtain ⟨G', n, rd⟩ := nw_pair s2 nT (q1.same s1) (q2.same s1)
  exact ⟨G', _, n, zpD_get g1 g2, rd⟩
theorem ai_zipL {ta : TA} {Θ : List Dt → List En → Prop} (h : AA K ta ρ fun ds ρ1 => ∃ l m, ds = [.lst l, .lst m] ∧ Θ (zpD l m) ρ1) : AI K (RZ.iZipA K ta) ρ Θ := fun B σ G H mm Rr q =>
  h B σ G H mm _ fun vs ds ρ1 G1 H1 m1 s1 t1 r1 ⟨l, m, e, p⟩ => by
    subst e
    obtain ⟨x, y, rfl, ⟨a, xs, rfl, h1, h2⟩, ⟨b, ys, rfl, h3, h4⟩⟩ := r1.two
    exact ⟨a, b, xs, ys, rfl, .inl ⟨SqL.of (m1.sub _ _ h1), SqL.of (m1.sub _ _ h3), q _ _ ρ1 G1 H1 m1 s1 t1 (wj_zipL h1 h3 h2 h4) p⟩⟩
theorem ai_zipT {ta : TA} {Θ : List Dt → List En → Prop} (h : AA K ta ρ fun ds ρ1 => ∃ l m, ds = [.tup l, .tup m] ∧ Θ (zpD l m) ρ1) : AI K (RZ.iZipA K ta) ρ Θ := fun B σ G H mm Rr q =>
  h B σ G H mm _ fun vs ds ρ1 G1 H1 m1 s1 t1 r1 ⟨l, m, e, p⟩ => by
    subst e
    obtain ⟨x, y, rfl, ⟨a, xs, rfl, h1, h2⟩, ⟨b, ys, rfl, h3, h4⟩⟩ := r1.two
    exact ⟨a, b, xs, ys, rfl, .inr ⟨same_sqT m1.sub h1, same_sqT m1.sub h3, q _ _ ρ1 G1 H1 m1 s1 t1 (wj_zipT h1 h3 h2 h4) p⟩⟩
/-! ### for -/
theorem as_for {wi : TI} {g : TG} {tb : TS} (h : AI K wi ρ fun l ρ1 => ∃ I : Nat → List En → Prop, I 0 ρ1 ∧ (∀ i d ρ2, l[i]? = some d → I i ρ2 → AG K g d ρ2 fun ρ3 => AS K tb ρ3 (I (i + 1)) R) ∧ ∀ ρ2, I l.length ρ2 → N ρ2) : AS K (tFor wi g tb) ρ N R := fun B σ G H m D qn qr =>
  h B σ G H m _ fun J l ρ1 G1 H1 m1 s1 t1 w ⟨I, i0, is, ie⟩ => by
    refine for_it w.walk (fun i σ2 H2 => ∃ ρ2 G2, Mt K B ρ2 σ2 G2 H2 ∧ Same G1 G2 ∧ Tr B H1 H2 ∧ I i ρ2) ⟨ρ1, G1, m1, Same.refl _, Tr.refl, i0⟩ (fun i σ2 H2 _ ⟨ρ2, G2, m2, s2, t2, p⟩ => s2.trans m2.sub) ?_ ?_
    · rintro i x σ2 H2 H3 hi ⟨ρ2, G2, m2, s2, t2, p⟩ y
      obtain ⟨G3, d, n3, hd, rd⟩ := y G2 s2 m2.sub
      refine is i d ρ2 hd p B σ2 G3 H3 (m2.nw n3) x rd _ fun σ4 ρ4 G4 H4 m4 s4 t4 h4 => ?_
      refine h4 B σ4 G4 H4 m4 _ (fun σ5 ρ5 G5 H5 m5 s5 t5 p5 => ⟨ρ5, G5, m5, (((s2.trans n3.g).trans s4).trans s5), (((t2.trans (Tr.same n3.h)).trans t4).trans t5), p5⟩) ?_
      exact fun v d σ5 ρ5 G5 H5 m5 s5 t5 r5 p5 => qr v d σ5 ρ5 G5 H5 m5 ((((s1.trans s2).trans n3.g).trans s4).trans s5) ((((t1.trans t2).trans (Tr.same n3.h)).trans t4).trans t5) r5 p5
    · rintro σ2 H2 ⟨ρ2, G2, m2, s2, t2, p⟩
      exact qn σ2 ρ2 G2 H2 m2 (s1.trans s2) (t1.trans t2) (ie ρ2 p)
/-! ### comprehensions -/
def wipeE (ρ : List En) : List Nat → List En
  | [] => ρ
  | v :: vs => (wipeE ρ vs).set v .no
theorem Mt.wipe {B : Addr → Prop} {σ : L2.St} {G H : Hp} (m : Mt K B ρ σ G H) : ∀ vs : List Nat, Mt K B (wipeE ρ vs) (L2.wipe σ vs) G H
  | [] => m
  | v :: vs => (Mt.wipe m vs).drop v none
/-- the slots may be others where nothing is known -/
theorem Mt.other {B : Addr → Prop} {σ σ' : L2.St} {G H : Hp} (m : Mt K B ρ σ G H) (hl : σ'.length = σ.length) (h : ∀ i : Nat, ρ[i]? = some En.no ∨ σ'[i]? = σ[i]?) : Mt K B ρ σ' G H where
  sub := m.sub
  pro := m.pro
  len := hl.trans m.len
  da := fun i d e => by
    rcases h i with z | z
    · rw [z] at e; cases e
    · rw [z]; exact m.da i d e
  own := fun i d e => by
    rcases h i with z | z
    · rw [z] at e; cases e
    · rw [z]; exact m.own i d e
  bx := fun i b f e => by
    rcases h i with z | z
    · rw [z] at e; cases e
    · rw [z]; exact m.bx i b f e
  dis := fun i j e e' a h1 h2 o1 o2 ne s1 s2 => by
    rcases h i with z | z
    · rw [z] at h1; cases h1; exact o1
    · rcases h j with z' | z'
      · rw [z'] at h2; cases h2; exact o2
      · rw [z] at s1; rw [z'] at s2; exact m.dis i j e e' a h1 h2 o1 o2 ne s1 s2
/-- off vs the slots are the same -/
def Off (vs : List Nat) (σ σ' : L2.St) : Prop := σ'.length = σ.length ∧ ∀ i, i ∉ vs → σ'[i]? = σ[i]?
theorem wipe_in {σ : L2.St} {i : Nat} : ∀ {vs : List Nat}, i ∈ vs → i < σ.length → (L2.wipe σ vs)[i]? = some none
  | v :: vs, h, lt => by
    unfold L2.wipe
    by_cases e : v = i
    · subst e; exact set_at (by rw [wipe_length]; exact lt)
    · rw [set_off e]
      exact wipe_in (by rcases List.mem_cons.mp h with z | z; exact absurd z.symm e; exact z) lt
theorem Off.wipe {vs : List Nat} {σ σ' : L2.St} (o : Off vs σ σ') : L2.wipe σ' vs = L2.wipe σ vs := by
  apply List.ext_getElem?
  intro i
  by_cases h : i ∈ vs
  · by_cases lt : i < σ.length
    · rw [wipe_in h lt, wipe_in h (by rw [o.1]; exact lt)]
    · rw [List.getElem?_eq_none (by rw [wipe_length, o.1]; omega), List.getElem?_eq_none (by rw [wipe_length]; omega)]
  · rw [wipe_out h, wipe_out h, o.2 i h]
theorem wipe_off (vs : List Nat) (σ : L2.St) : Off vs (L2.wipe σ vs) σ := ⟨(wipe_length σ vs).symm, fun i h => (wipe_out h).symm⟩
def AGv (K : PySem.W.Frag) (vs : List Nat) (g : TG) (d : Dt) (ρ : List En) (N : List En → Prop) : Prop := ∀ B σ G H, Mt K B ρ σ G H → ∀ v, RD K G d v → ∀ Q : L2.St → Hp → Prop, (∀ σ' ρ' G' H', Mt K B ρ' σ' G' H' → Same G G' → Tr B H H' → Off vs σ σ' → N ρ' → Q σ' H') → g v σ H Q
def AGvs (K : PySem.W.Frag) (vs : List Nat) (g : TGs) (ds : List Dt) (ρ : List En) (N : List En → Prop) : Prop := ∀ B σ G H, Mt K B ρ σ G H → ∀ xs, RDs K G ds xs → ∀ Q : L2.St → Hp → Prop, (∀ σ' ρ' G' H', Mt K B ρ' σ' G' H' → Same G G' → Tr B H H' → Off vs σ σ' → N ρ' → Q σ' H') → g xs σ H Q
theorem agv_name {vs : List Nat} {i : Nat} {d : Dt} (hi : i ∈ vs) (h : N (ρ.set i (.da d))) : AGv K vs (gName i) d ρ N := fun B σ G H m v r Q q => q _ _ G H (m.set i r) (Same.refl _) Tr.refl ⟨List.length_set, fun j hj => set_off (fun z => hj (by rw [← z]; exact hi))⟩ h
theorem agvs_nil {vs : List Nat} (h : N ρ) : AGvs K vs gNil [] ρ N := fun B σ G H m xs r Q q => ⟨r, q σ ρ G H m (Same.refl _) Tr.refl ⟨rfl, fun _ _ => rfl⟩ h⟩
theorem agvs_cons {vs : List Nat} {t : TG} {u : TGs} {d : Dt} {ds : List Dt} (h : AGv K vs t d ρ fun ρ1 => AGvs K vs u ds ρ1 N) : AGvs K vs (gCons t u) (d :: ds) ρ N := fun B σ G H m xs r Q q => by
  obtain ⟨x, ys, rfl, r1, r2⟩ := r
  exact ⟨x, ys, rfl, h B σ G H m x r1 _ fun σ1 ρ1 G1 H1 m1 s1 t1 o1 h1 => h1 B σ1 G1 H1 m1 ys (r2.same s1) Q fun σ' ρ' G' H' m' s t o p => q σ' ρ' G' H' m' (s1.trans s) (t1.trans t) ⟨o.1.trans o1.1, fun i hi => (o.2 i hi).trans (o1.2 i hi)⟩ p⟩
theorem agv_tup {vs : List Nat} {t : TGs} {n : Nat} {ds : List Dt} (hn : ds.length = n) (h : AGvs K vs t ds ρ N) : AGv K vs (gTup K n t) (.tup ds) ρ N := fun B σ G H m v r Q q => by
  obtain ⟨a, xs, rfl, r1, r2⟩ := r
  exact ⟨a, xs, rfl, same_sqT m.sub r1, by rw [r2.length]; exact hn, h B σ G H m xs r2 Q q⟩
theorem at_yes (h : ΨT true ρ) : AT K tYes ρ ΨT := fun B σ G H m Q q => q true ρ G H m (Same.refl _) Tr.refl h
/-- [e for .. in ..]: ρ is silent about the slots of the targets -/
theorem ae_lc {wi : TI} {g : TG} {tt : TT} {te : TE} {vs : List Nat}
    (h : AI K wi ρ fun l ρ1 => ∃ I : Nat → List Dt → List En → Prop, I 0 [] (wipeE ρ1 vs) ∧
      (∀ i d acc ρ2, l[i]? = some d → I i acc ρ2 → AGv K vs g d ρ2 fun ρ3 => AT K tt ρ3 fun b ρ4 => (b = true → AE K te ρ4 fun e ρ5 => acc.length < sizeLine ∧ I (i + 1) (acc ++ [e]) (wipeE ρ5 vs)) ∧ (b = false → I (i + 1) acc (wipeE ρ4 vs))) ∧
      ∀ acc ρ2, I l.length acc ρ2 → (∀ i ∈ vs, i < ρ2.length → ρ2[i]? = some En.no) ∧ Ψ (.lst acc) ρ2) : AE K (tLc wi g tt te vs) ρ Ψ := fun B σ G H m Q q =>
  h B σ G H m _ fun J l ρ1 G1 H1 m1 s1 t1 w ⟨I, i0, is, ie⟩ => fun D hD => by
    have back : ∀ {σ2 : L2.St} {ρ2 : List En} {B' : Addr → Prop} {G2 H2 : Hp}, L2.wipe σ2 vs = L2.wipe σ vs → Mt K B' ρ2 σ2 G2 H2 → Mt K B' (wipeE ρ2 vs) (L2.wipe σ vs) G2 H2 := fun e m2 => by
      rw [← e]; exact m2.wipe vs
    have mg := m1.guard (o := .lst []) hD
    refine lc_it w.walk (fun i H2 => ∃ (acc : List Dt) (xs : List V) (ρ2 : List En) (G2 : Hp), Mt K (fun a => B a ∨ a = D) ρ2 (L2.wipe σ vs) G2 H2 ∧ Same G1 G2 ∧ Tr B H1 H2 ∧ H2 D = some (.lst xs) ∧ RDs K G2 acc xs ∧ I i acc ρ2)
      ⟨[], [], wipeE ρ1 vs, G1, mg.wipe vs, Same.refl _, Tr.same (same_up hD), upd_same, rfl, i0⟩ (fun i H2 _ ⟨acc, xs, ρ2, G2, m2, s2, t2, e2, r2, p⟩ => s2.trans m2.sub) ?_ ?_
    · rintro i x H2 H3 hi ⟨acc, xs, ρ2, G2, m2, s2, t2, e2, r2, p⟩ y
      obtain ⟨G3, d, n3, hd, rd⟩ := y G2 s2 m2.sub
      have m3 := m2.nw n3
      refine is i d acc ρ2 hd p _ (L2.wipe σ vs) G3 H3 m3 x rd _ fun σ4 ρ4 G4 H4 m4 s4 t4 o4 h4 => ?_
      have ew : L2.wipe σ4 vs = L2.wipe σ vs := by
        rw [o4.wipe]
        exact (Off.wipe (wipe_off vs σ)).symm
      have e3 := n3.h _ _ e2
      have e4 := t4 _ _ (.inr rfl) e3
      have tB3 : Tr B H1 H4 := (t2.trans (Tr.same n3.h)).trans fun a o b e => t4 a o (.inl b) e
      refine ⟨ew, ?_⟩
      refine h4 _ σ4 G4 H4 m4 _ fun b ρ5 G5 H5 m5 s5 t5 h5 => ?_
      have e5 := t5 _ _ (.inr rfl) e4
      have tB5 : Tr B H1 H5 := tB3.trans fun a o b e => t5 a o (.inl b) e
      have s15 : Same G1 G5 := ((s2.trans n3.g).trans s4).trans s5
      cases b
      · rw [if_neg (by decide)]
        exact ⟨acc, xs, wipeE ρ5 vs, G5, back ew m5, s15, tB5, e5, ((r2.same n3.g).same s4).same s5, h5.2 rfl⟩
      · rw [if_pos rfl]
        refine h5.1 rfl _ σ4 G5 H5 m5 _ fun v e ρ6 G6 H6 m6 s6 t6 r6 h6 => ?_
        have e6 := t6 _ _ (.inr rfl) e5
        have rr : RDs K G6 acc xs := (((r2.same n3.g).same s4).same s5).same s6
        refine ⟨xs, e6, by rw [rr.length]; exact h6.1, acc ++ [e], xs ++ [v], wipeE ρ6 vs, G6, (back ew m6).turn (.inr rfl), s15.trans s6, ?_, upd_same, rr.snoc r6, h6.2⟩
        intro a o b z
        have z1 := t6 a o (.inl b) (tB5 a o b z)
        rw [upd_ne (fun z' => (m1.pro a b).2 (by rw [z']; exact hD))]; exact z1
    · rintro H2 ⟨acc, xs, ρ2, G2, m2, s2, t2, e2, r2, p⟩
      obtain ⟨hn, hp⟩ := ie acc ρ2 p
      have m3 : Mt K (fun a => B a ∨ a = D) ρ2 σ G2 H2 := m2.other (wipe_length σ vs).symm fun i => by
        by_cases hi : i ∈ vs
        · by_cases lt : i < ρ2.length
          · exact .inl (hn i hi lt)
          · exact .inr (by rw [List.getElem?_eq_none (by have := m2.len; rw [wipe_length] at this; omega), List.getElem?_eq_none (by have := m2.len; omega)])
        · exact .inr (wipe_out hi).symm
      have nD : G2 D = none := (m2.pro D (.inr rfl)).1
      have mB : Mt K B ρ2 σ G2 H2 := m3.less fun a b => .inl b
      -- the new list becomes data
      have sg : Same G2 (upd G2 D (.lst xs)) := same_up nD
      have mF : Mt K B ρ2 σ (upd G2 D (.lst xs)) H2 := ⟨fun a o z => by
          by_cases w : a = D
          · subst w; rw [upd_same] at z; cases z; exact e2
          · rw [upd_ne w] at z; exact m2.sub _ _ z,
        fun a b => ⟨by rw [upd_ne (fun w => (m1.pro a b).2 (by rw [w]; exact hD))]; exact (mB.pro a b).1, (mB.pro a b).2⟩, mB.len, fun i d e => by
          obtain ⟨v, z1, z2⟩ := mB.da i d e
          exact ⟨v, z1, z2.same sg⟩, fun i k e => by
          obtain ⟨q', ys, z1, z2, z3, z4, z5⟩ := m3.own i k e
          exact ⟨q', ys, z1, z2, z3.same sg, by rw [upd_ne (fun w => z5 (.inr w))]; exact z4, fun b => z5 (.inl b)⟩, fun i b f e => by
          obtain ⟨y, c, z1, z2, z3, z4, z5, z6⟩ := m3.bx i b f e
          exact ⟨y, c, z1, z2, z3, z4, by rw [upd_ne (fun w => z6 (.inr w))]; exact z5, fun b => z6 (.inl b)⟩, mB.dis⟩
      exact q _ (.lst acc) ρ2 _ H2 mF ((s1.trans s2).trans sg) (t1.trans t2) ⟨D, xs, rfl, upd_same, r2.same sg⟩ hp
end
end Sh
set_option Elab.async false
set_option linter.all false
set_option maxRecDepth 100000
set_option maxHeartbeats 4000000
namespace Sh
open PySem PySem.Spec PyProof.Rows L2
/-! ### promises over data -/
def spP (K : PySem.W.Frag) (S : List Dt → Dt → Prop) : Sp := fun vs H Q _ => ∃ G ds r, Same G H ∧ RDs K G ds vs ∧ S ds r ∧ ∀ v G' H', Nw G H G' H' → RD K G' r v → Q v H'
def But (b : Addr) (H H' : Hp) : Prop := ∀ a o, a ≠ b → H a = some o → H' a = some o
theorem but_upd {H : Hp} {b : Addr} {o : HO} : But b H (upd H b o) := fun a u n e => by rw [upd_ne n]; exact e
structure Nb (b : Addr) (G H G' H' : Hp) : Prop where
  g : Same G G'
  s : Same G' H'
  h : But b H H'
  f : ∀ a, G a = none → H a ≠ none → G' a = none
def spB (K : PySem.W.Frag) (n : Nat) (dom : List Dt → Prop) (post : List Dt → Dt → Prop) : Sp := fun vs H Q _ => ∃ G ds b us y c, ∃ F : Nat, vs = .ref b :: us ∧ Same G H ∧ Bx H b y c ∧ 0 ≤ c ∧ c + (F + n : Nat) ≤ BxM ∧ G b = none ∧ RDs K G ds us ∧ dom ds ∧
  ∀ v d G' H' y' c', Nb b G H G' H' → Bx H' b y' c' → 0 ≤ c' → c' + F ≤ BxM → RD K G' d v → post ds d → Q v H'
section
variable {K : PySem.W.Frag} {ρ : List En} {Ψ : Dt → List En → Prop} {ΨT : Bool → List En → Prop} {ΨA : List Dt → List En → Prop} {N : List En → Prop} {R : Dt → List En → Prop} {Φ : Dt → Prop}
theorem ae_call {S : List Dt → Dt → Prop} {E : XK} {ta : TA} (h : AA K ta ρ fun ds ρ1 => ∃ r, S ds r ∧ Ψ r ρ1) : AE K (tCall (spP K S) [] E ta) ρ Ψ := fun B σ G H m Q q =>
  h B σ G H m _ fun vs ds ρ1 G1 H1 m1 s1 t1 r1 ⟨r, hs, p⟩ => ⟨G1, ds, r, m1.sub, by rw [List.append_nil]; exact r1, hs, fun v G2 H2 n r2 => q v r ρ1 G2 H2 (m1.nw n) (s1.trans n.g) (t1.trans (Tr.same n.h)) r2 p⟩
/-- a box has been drawn from -/
theorem Mt.box {B : Addr → Prop} {σ : L2.St} {G H G' H' : Hp} (m : Mt K B ρ σ G H) {i f : Nat} {b : Addr} {y c : Int} (e : ρ[i]? = some (.bx b f)) (n : Nb b G H G' H') {F : Nat} (h : Bx H' b y c) (c0 : 0 ≤ c) (c1 : c + F ≤ BxM) : Mt K B (ρ.set i (.bx b F)) σ G' H' ∧ Tr B H H' := by
  obtain ⟨y0, k0, z1, z2, z3, z4, z5, z6⟩ := m.bx i b f e
  have tr : Tr B H H' := fun a o ba e => n.h a o (fun w => z6 (by rw [← w]; exact ba)) e
  refine ⟨⟨n.s, fun a ba => ⟨n.f a (m.pro a ba).1 (m.pro a ba).2, ?_⟩, by rw [List.length_set]; exact m.len, ?_, ?_, ?_, ?_⟩, tr⟩
  · intro z
    cases q : H a with
    | none => exact (m.pro a ba).2 q
    | some o => rw [tr a o ba q] at z; cases z
  · intro j d hj
    rcases get_set hj with ⟨rfl, w, lt⟩ | ⟨ne, w⟩
    · cases w
    · obtain ⟨v, w1, w2⟩ := m.da j d w
      exact ⟨v, w1, w2.same n.g⟩
  · intro j l hj
    rcases get_set hj with ⟨rfl, w, lt⟩ | ⟨ne, w⟩
    · cases w
    · obtain ⟨q, xs, w1, w2, w3, w4, w5⟩ := m.own j l w
      exact ⟨q, xs, w1, n.h _ _ (fun z => m.dis i j _ _ b e w trivial trivial ne z1 (by rw [← z]; exact w1)) w2, w3.same n.g, n.f q w4 (some_ne w2), w5⟩
  · intro j b' f' hj
    rcases get_set hj with ⟨rfl, w, lt⟩ | ⟨ne, w⟩
    · cases w
      exact ⟨y, c, z1, h, c0, c1, n.f b z5 z2.ne, z6⟩
    · obtain ⟨y', c', w1, ⟨x, w2, w2'⟩, w3, w4, w5, w6⟩ := m.bx j b' f' w
      exact ⟨y', c', w1, ⟨x, n.h _ _ (fun z => m.dis i j _ _ b e w trivial trivial ne z1 (by rw [← z]; exact w1)) w2, w2'⟩, w3, w4, n.f b' w5 (some_ne w2), w6⟩
  · intro j k e1 e2 a g1 g2 o1 o2 ne s1 s2
    rcases get_set g1 with ⟨rfl, z, lt⟩ | ⟨n1, z1'⟩
    · rcases get_set g2 with ⟨w, z', lt'⟩ | ⟨n2, z2'⟩
      · exact ne w
      · exact m.dis i k _ e2 a e z2' trivial o2 ne s1 s2
    · rcases get_set g2 with ⟨rfl, z, lt⟩ | ⟨n2, z2'⟩
      · exact m.dis j i e1 _ a z1' e o1 trivial ne s1 s2
      · exact m.dis j k e1 e2 a z1' z2' o1 o2 ne s1 s2
theorem ae_draw {n : Nat} {dom : List Dt → Prop} {post : List Dt → Dt → Prop} {E : XK} {ta : TA} {i : Nat} {b : Addr} {f0 : Nat} (e0 : ρ[i]? = some (.bx b f0))
    (h : AA K ta ρ fun ds ρ1 => dom ds ∧ ∃ F, ρ1[i]? = some (.bx b (F + n)) ∧ ∀ d, post ds d → Ψ d (ρ1.set i (.bx b F))) : AE K (tCall (spB K n dom post) [] E (tCons (tVar i) ta)) ρ Ψ := fun B σ G H m Q q => by
  obtain ⟨y0, k0, z1, _⟩ := m.bx i b f0 e0
  refine ⟨_, z1, h B σ G H m _ fun vs ds ρ1 G1 H1 m1 s1 t1 r1 ⟨hd, F, e, p⟩ => ?_⟩
  obtain ⟨y, c, w1, w2, w3, w4, w5, w6⟩ := m1.bx i b (F + n) e
  refine ⟨G1, ds, b, vs, y, c, F, by rw [List.append_nil], m1.sub, w2, w3, w4, w5, r1, hd, fun v d G2 H2 y' c' nb hb c0 c1 r2 hp => ?_⟩
  obtain ⟨m2, t2⟩ := m1.box e nb hb c0 c1
  exact q v d _ G2 H2 m2 (s1.trans nb.g) (t1.trans t2) r2 (p d hp)
/-! ### a def keeps such a promise -/
def env0 (N : List Str) (ds : List Dt) : List En := ds.map En.da ++ List.replicate (N.length - ds.length) .no
def envB (N : List Str) (b : Addr) (f : Nat) (ds : List Dt) : List En := .bx b f :: (ds.map En.da ++ List.replicate (N.length - (ds.length + 1)) .no)
theorem rep_get {n i : Nat} {e : En} (h : (List.replicate n En.no)[i]? = some e) : e = .no := by
  rw [List.getElem?_replicate] at h
  split at h
  · cases h; rfl
  · cases h
theorem da_get {ds : List Dt} {n i : Nat} {e : En} (h : (ds.map En.da ++ List.replicate n En.no)[i]? = some e) : e = .no ∨ ∃ d, ds[i]? = some d ∧ e = .da d := by
  by_cases lt : i < ds.length
  · rw [List.getElem?_append_left (by rw [List.length_map]; exact lt), List.getElem?_map] at h
    obtain ⟨d, h1, h2⟩ := Option.map_eq_some_iff.mp h
    exact .inr ⟨d, h1, h2.symm⟩
  · rw [List.getElem?_append_right (by rw [List.length_map]; omega)] at h
    exact .inl (rep_get h)
theorem start_get {N : List Str} {vs : List V} {i : Nat} {x : V} (h : vs[i]? = some x) : (L2.start N vs)[i]? = some (some x) := by
  have lt := (List.getElem?_eq_some_iff.mp h).1
  unfold L2.start
  rw [List.getElem?_append_left (by rw [List.length_map]; exact lt), List.getElem?_map, h]; rfl
theorem mt_start {N : List Str} {ds : List Dt} {vs : List V} {G H : Hp} (s : Same G H) (r : RDs K G ds vs) : Mt K (fun a => H a ≠ none ∧ G a = none) (env0 N ds) (L2.start N vs) G H where
  sub := s
  pro := fun a b => ⟨b.2, b.1⟩
  len := by unfold L2.start env0; simp [r.length]
  da := fun i d e => by
    rcases da_get e with z | ⟨d', z1, z2⟩
    · cases z
    · cases z2
      obtain ⟨x, h1, h2⟩ := r.get z1
      exact ⟨x, start_get h1, h2⟩
  own := fun i l e => by rcases da_get e with z | ⟨d', z1, z2⟩ <;> contradiction
  bx := fun i b f e => by rcases da_get e with z | ⟨d', z1, z2⟩ <;> contradiction
  dis := fun i j e e' a h1 h2 o1 o2 ne s1 s2 => by
    rcases da_get h1 with z | ⟨d', z1, z2⟩
    · subst z; exact o1
    · subst z2; exact o1
theorem mt_startB {N : List Str} {ds : List Dt} {vs : List V} {G H : Hp} {b : Addr} {y c : Int} {f : Nat} (s : Same G H) (r : RDs K G ds vs) (hb : Bx H b y c) (c0 : 0 ≤ c) (c1 : c + f ≤ BxM) (gb : G b = none) : Mt K (fun a => H a ≠ none ∧ G a = none ∧ a ≠ b) (envB N b f ds) (L2.start N (.ref b :: vs)) G H where
  sub := s
  pro := fun a b => ⟨b.2.1, b.1⟩
  len := by unfold L2.start envB; simp [r.length]
  da := fun i d e => by
    cases i with
    | zero => cases e
    | succ i =>
      rcases da_get (show _ = some _ from e) with z | ⟨d', z1, z2⟩
      · cases z
      · cases z2
        obtain ⟨x, h1, h2⟩ := r.get z1
        exact ⟨x, start_get (vs := .ref b :: vs) (i := i + 1) h1, h2⟩
  own := fun i l e => by
    cases i with
    | zero => cases e
    | succ i => rcases da_get (show _ = some _ from e) with z | ⟨d', z1, z2⟩ <;> contradiction
  bx := fun i b' f' e => by
    cases i with
    | zero => cases e; exact ⟨y, c, rfl, hb, c0, c1, gb, fun z => z.2.2 rfl⟩
    | succ i => rcases da_get (show _ = some _ from e) with z | ⟨d', z1, z2⟩ <;> contradiction
  dis := fun i j e e' a h1 h2 o1 o2 ne s1 s2 => by
    cases i with
    | zero =>
      cases j with
      | zero => exact ne rfl
      | succ j => rcases da_get (show _ = some _ from h2) with z | ⟨d', z1, z2⟩ <;> (subst_vars; exact o2)
    | succ i => rcases da_get (show _ = some _ from h1) with z | ⟨d', z1, z2⟩ <;> (subst_vars; exact o1)
end
section
variable {P : Program} {w : World} {K : PySem.W.Frag} {mg : Str → Option Value} {base : Heap}
theorem okP {x qual : Str} {st : Stmt} {f : Addr} {fd : FuncData} {N ps : List Str} {k : Nat} {S : List Dt → Dt → Prop} (F : Fun K x qual st f fd) (sc : FnScope N ps (defScope st)) (len : ∀ ds r, S ds r → ds.length = ps.length)
    (body : ∀ (cdv : Value) (A : Around) (outer : List Env) (s : Shared) (H : Hp) (E : XK), Room k (A.deeper (envOfC qual (defScope st) s.heap.objs.size f cdv)) → ∀ ds r, S ds r →
      ∃ t, PSs (cxOf CX0 P w K mg base N qual (defScope st) f cdv A outer s H E).nox (defBody st) t ∧ AS K t (env0 N ds) (fun _ => r = .non) (fun d _ => d = r)) : FnOk P w K mg base CX0 (k + 1) f fd ps (spP K S) := by
  refine F.ok sc (fun vs H Q E h => ?_) (fun cdv A outer s H vs Q E hr h => ?_)
  · obtain ⟨G, ds, r, s, rd, hs, _⟩ := h
    rw [rd.length]; exact len ds r hs
  · obtain ⟨G, ds, r, sm, rd, hs, q⟩ := h
    obtain ⟨t, ht, ha⟩ := body cdv A outer s H E hr ds r hs
    refine ⟨t, ht, ha _ _ G H (mt_start sm rd) _ (fun σ' ρ' G' H' m' s' t' e => ?_) (fun v d σ' ρ' G' H' m' s' t' rv e => ?_)⟩
    all_goals
      have nw : Nw G H G' H' := ⟨s', m'.sub, fun a o e => by
          cases z : G a with
          | none => exact t' a o ⟨some_ne e, z⟩ e
          | some o' => rw [sm _ _ z] at e; cases e; exact m'.sub _ _ (s' _ _ z), fun a h1 h2 => (m'.pro a ⟨h2, h1⟩).1⟩
    · exact q .non G' H' nw (by rw [e]; rfl)
    · exact q v G' H' nw (by rw [← e]; exact rv)
theorem okB {x qual : Str} {st : Stmt} {f : Addr} {fd : FuncData} {N ps : List Str} {k n : Nat} {dom : List Dt → Prop} {post : List Dt → Dt → Prop} (F : Fun K x qual st f fd) (sc : FnScope N ps (defScope st)) (len : ∀ ds, dom ds → ds.length + 1 = ps.length)
    (body : ∀ (cdv : Value) (A : Around) (outer : List Env) (s : Shared) (H : Hp) (E : XK), Room k (A.deeper (envOfC qual (defScope st) s.heap.objs.size f cdv)) → ∀ ds, dom ds →
      ∃ t, PSs (cxOf CX0 P w K mg base N qual (defScope st) f cdv A outer s H E).nox (defBody st) t ∧ ∀ (b : Addr) (F : Nat), AS K t (envB N b (F + n) ds) (fun ρ => post ds .non ∧ ∃ f, ρ[0]? = some (.bx b f) ∧ F ≤ f) (fun d ρ => post ds d ∧ ∃ f, ρ[0]? = some (.bx b f) ∧ F ≤ f)) : FnOk P w K mg base CX0 (k + 1) f fd ps (spB K n dom post) := by
  refine F.ok sc (fun vs H Q E h => ?_) (fun cdv A outer s H vs Q E hr h => ?_)
  · obtain ⟨G, ds, b, us, y, c, F', rfl, sm, hb, c0, c1, gb, rd, hd, _⟩ := h
    rw [List.length_cons, rd.length]; exact len ds hd
  · obtain ⟨G, ds, b, us, y, c, F', rfl, sm, hb, c0, c1, gb, rd, hd, q⟩ := h
    obtain ⟨t, ht, ha⟩ := body cdv A outer s H E hr ds hd
    refine ⟨t, ht, ha b F' _ _ G H (mt_startB sm rd hb c0 c1 gb) _ (fun σ' ρ' G' H' m' s' t' e => ?_) (fun v d σ' ρ' G' H' m' s' t' rv e => ?_)⟩
    all_goals
      obtain ⟨hp, f', he, hf⟩ := e
      have nb : Nb b G H G' H' := ⟨s', m'.sub, fun a o ne e => by
          cases z : G a with
          | none => exact t' a o ⟨some_ne e, z, ne⟩ e
          | some o' => rw [sm _ _ z] at e; cases e; exact m'.sub _ _ (s' _ _ z), fun a h1 h2 => by
          by_cases w : a = b
          · subst w
            obtain ⟨_, _, _, _, _, _, z, _⟩ := m'.bx 0 a f' he
            exact z
          · exact (m'.pro a ⟨h2, h1, w⟩).1⟩
      obtain ⟨y', c', w1, w2, w3, w4, w5, w6⟩ := m'.bx 0 b f' he
    · exact q .non .non G' H' y' c' nb w2 w3 (by omega) rfl hp
    · exact q v d G' H' y' c' nb w2 w3 (by omega) rv hp
end
/-! ### calls by keywords alone -/
def tCallK0 (m : Nat) (sp : Sp) (gV : List V → List V) (E : XK) (tk : TA) : TE := fun σ H Q => tk σ H fun zs H2 => zs.length = m ∧ sp (gV zs) H2 Q E
structure KB0 (K : PySem.W.Frag) (fd : FuncData) (ps ks : List Str) (g : List Value → List Value) (gV : List V → List V) : Prop where
  to : ∀ (s : Shared) (ws : List Value), ws.length = ks.length → BindsTo s fd ⟨[], ks.zip ws⟩ (ps.zip (g ws))
  rel : ∀ {zs : List V} {ws : List Value}, Vals zs ws → zs.length = ks.length → Vals (gV zs) (g ws)
section
variable {X : Cx} {CX : CXT} {k n : Nat} {f : Addr} {fd : FuncData} {ps ks : List Str} {sp : Sp} {E : XK} {x : Str} {p pos : Pos} {kws : List Keyword} {tk : TA} {g : List Value → List Value} {gV : List V → List V}
theorem run_fnK0 {pins : List (Addr × Obj)} {σ : L2.St} {H : Hp} {s : Shared} {Q : VK} {ws : List Value} {zs : List V} (F : FnOk X.prog X.w X.K X.mg X.base CX k f fd ps sp) (hr : Room k X.A) (hb : KB0 X.K fd ps ks g gV) (hx : Passes CX X E)
    (I : Inv X pins σ H s) (rz : Vals zs ws) (l2 : zs.length = ks.length) (h : sp (gV zs) H Q E) : wpAny (model X.prog X.w) X.A (call (.ref f) [] (ks.zip ws)) (EP X pins σ Q) X.xe s := by
  have r2 := hb.rel rz l2
  refine wpAny_call (codeAny_mono (F.run X.A X.stack s H ⟨[], ks.zip ws⟩ (g ws) (gV zs) Q E hr I.env0 (hb.to s ws (rz.length.symm.trans l2)) r2 h) fun r s' hq => ?_)
  cases r with
  | error e => exact hx pins σ H s e s' I hq
  | ok fl =>
    cases fl with
    | ret u => exact I.after hq
    | next => exact False.elim hq
    | brk => exact False.elim hq
    | cont => exact False.elim hq
theorem pe_callK0 (F : FnOk X.prog X.w X.K X.mg X.base CX k f fd ps sp) (hr : Room k X.A) (hg : Gl X x) (hm : X.mg x = some (.ref f)) (hk : PySem.W.keepIn X.K (.ref f) = true) (hb : KB0 X.K fd ps ks g gV) (hx : Passes CX X E)
    (hkw : PK X kws tk) (hall : (backToKw pos (keywordEach kws X.env)).all (·.1.isSome) = true := by rfl) (hks : (backToKw pos (keywordEach kws X.env)).filterMap (·.1) = ks := by rfl)
    (hdb : (x == ("__debug__" : Str)) = false := by decide) (hpl : ((backTo pos (starEach [] X.env)).any (·.1) || (backToKw pos (keywordEach kws X.env)).any (·.1.isNone)) = false := by rfl) :
    PE X (.Call (.Name x p) [] kws pos) (tCallK0 ks.length sp gV E tk) := by
  refine ⟨fun pins s σ H Q I h => ?_⟩
  refine wpAny_Call_Name_kw (ld_glob I hg hm ?_ hdb)
  refine PySem.W.callWith_KW0 (h₀ := X.base) I.ok.mod.kin hk hall ?_ hpl
  refine thn (hkw.run pos pins s σ H _ I h) fun ws s2 ⟨zs, H2, I2, rz, l2, q2⟩ => ⟨I2.kIn, ?_⟩
  rw [hks]
  exact run_fnK0 F hr hb hx I2 rz l2 q2
end
section
variable {K : PySem.W.Frag} {ρ : List En} {Ψ : Dt → List En → Prop} {E : XK} {tk : TA}
theorem ae_callK {m : Nat} {S : List Dt → Dt → Prop} {gV : List V → List V} (gD : List Dt → List Dt) (hg : ∀ {G : Hp} {ds : List Dt} {vs : List V}, RDs K G ds vs → ds.length = m → RDs K G (gD ds) (gV vs)) (h : AA K tk ρ fun ds ρ1 => ds.length = m ∧ ∃ r, S (gD ds) r ∧ Ψ r ρ1) : AE K (tCallK0 m (spP K S) gV E tk) ρ Ψ := fun B σ G H mm Q q =>
  h B σ G H mm _ fun vs ds ρ1 G1 H1 m1 s1 t1 r1 ⟨l, r, hs, p⟩ => ⟨by rw [r1.length]; exact l, G1, gD ds, r, m1.sub, hg r1 l, hs, fun v G2 H2 n r2 => q v r ρ1 G2 H2 (m1.nw n) (s1.trans n.g) (t1.trans (Tr.same n.h)) r2 p⟩
end
end Sh
set_option Elab.async false
set_option linter.all false
set_option maxRecDepth 100000
set_option maxHeartbeats 4000000
namespace Sh
open PySem PySem.Spec PyProof.Rows L2
/-- a def that may be called: its promise, how its arguments bind -/
structure Cal (P : Program) (w : World) (K : PySem.W.Frag) (mg : Str → Option Value) (base : Heap) (n : Nat) (x : Str) (ps : List Str) (sp : Sp) (g : Addr) (d : FuncData) : Prop where
  ok : FnOk P w K mg base CX0 n g d ps sp
  bi : Binds K d ps []
  kp : PySem.W.keepIn K (.ref g) = true
  mg : mg x = some (.ref g)
structure Blts (mg : Str → Option Value) : Prop where
  len : mg "len" = none
  abs : mg "abs" = none
  int : mg "int" = none
  list : mg "list" = none
  tuple : mg "tuple" = none
  bool : mg "bool" = none
  str : mg "str" = none
  enumerate : mg "enumerate" = none
  isinstance : mg "isinstance" = none
  all : mg "all" = none
  any : mg "any" = none
  zip : mg "zip" = none
  range : mg "range" = none
  min : mg "min" = none
  max : mg "max" = none
  set : mg "set" = none
  sorted : mg "sorted" = none
  repr : mg "repr" = none
  sum : mg "sum" = none
section
variable {K : PySem.W.Frag} {ρ : List En} {N : List En → Prop} {R : Dt → List En → Prop}
theorem as_par3 {ta : TA} {i j l : Nat} (h : AA K ta ρ fun ds ρ1 => ∃ d e f, ds = [d, e, f] ∧ N (((ρ1.set i (.da d)).set j (.da e)).set l (.da f))) : AS K (tPar3 i j l ta) ρ N R := fun B σ G H m D qn qr =>
  h B σ G H m _ fun vs ds ρ1 G1 H1 m1 s1 t1 r1 ⟨d, e, f, z, h1⟩ => by
    subst z
    obtain ⟨x, r, rfl, r2, r3⟩ := r1
    obtain ⟨y, z, rfl, r4, r5⟩ := r3.two
    exact ⟨x, y, z, rfl, qn _ _ G1 H1 (((m1.set i r2).set j r4).set l r5) s1 t1 h1⟩
theorem ar_eq3 {d e : Dt} {x y : V} {Φ : Dt → Prop} (c : d.v? = some x ∧ e.v? = some y ∧ scal x y = true) (h : Φ (.bl (decide (x = y)))) : AR K rEq d e Φ := ar_eq c.1 c.2.1 c.2.2 h
theorem ar_ne3 {d e : Dt} {x y : V} {Φ : Dt → Prop} (c : d.v? = some x ∧ e.v? = some y ∧ scal x y = true) (h : Φ (.bl (!decide (x = y)))) : AR K rNe d e Φ := ar_ne c.1 c.2.1 c.2.2 h
theorem ac_isi1 {d : Dt} {T : String} {b : Bool} {Φ : Dt → Prop} (c : d.noTy = true ∧ kitB d.kind T = some b) (h : Φ (.bl b)) : AC K (rIsi K) [d, .ty T] Φ := ac_isi c.1 c.2 h
theorem kb_NoneType_list : kitB "NoneType" "list" = some false := by decide +kernel
theorem kb_NoneType_tuple : kitB "NoneType" "tuple" = some false := by decide +kernel
theorem kb_NoneType_bool : kitB "NoneType" "bool" = some false := by decide +kernel
theorem kb_NoneType_int : kitB "NoneType" "int" = some false := by decide +kernel
theorem kb_NoneType_str : kitB "NoneType" "str" = some false := by decide +kernel
theorem kb_bool_list : kitB "bool" "list" = some false := by decide +kernel
theorem kb_bool_tuple : kitB "bool" "tuple" = some false := by decide +kernel
theorem kb_bool_bool : kitB "bool" "bool" = some true := by decide +kernel
theorem kb_bool_int : kitB "bool" "int" = some true := by decide +kernel
theorem kb_bool_str : kitB "bool" "str" = some false := by decide +kernel
theorem kb_int_list : kitB "int" "list" = some false := by decide +kernel
theorem kb_int_tuple : kitB "int" "tuple" = some false := by decide +kernel
theorem kb_int_bool : kitB "int" "bool" = some false := by decide +kernel
theorem kb_int_int : kitB "int" "int" = some true := by decide +kernel
theorem kb_int_str : kitB "int" "str" = some false := by decide +kernel
theorem kb_str_list : kitB "str" "list" = some false := by decide +kernel
theorem kb_str_tuple : kitB "str" "tuple" = some false := by decide +kernel
theorem kb_str_bool : kitB "str" "bool" = some false := by decide +kernel
theorem kb_str_int : kitB "str" "int" = some false := by decide +kernel
theorem kb_str_str : kitB "str" "str" = some true := by decide +kernel
theorem kb_tuple_list : kitB "tuple" "list" = some false := by decide +kernel
theorem kb_tuple_tuple : kitB "tuple" "tuple" = some true := by decide +kernel
theorem kb_tuple_bool : kitB "tuple" "bool" = some false := by decide +kernel
theorem kb_tuple_int : kitB "tuple" "int" = some false := by decide +kernel
theorem kb_tuple_str : kitB "tuple" "str" = some false := by decide +kernel
theorem kb_list_list : kitB "list" "list" = some true := by decide +kernel
theorem kb_list_tuple : kitB "list" "tuple" = some false := by decide +kernel
theorem kb_list_bool : kitB "list" "bool" = some false := by decide +kernel
theorem kb_list_int : kitB "list" "int" = some false := by decide +kernel
theorem kb_list_str : kitB "list" "str" = some false := by decide +kernel
theorem ac_len {k : Bool} {l : List Dt} {Φ : Dt → Prop} (h : Φ (.int (l.length : Nat))) : AC K (fun xs H Q => ∃ p ys, xs = [.ref p] ∧ (SqL K H p ys ∨ SqT K H p ys) ∧ Q (.int ys.length) H) [sq k l] Φ := by
  cases k
  · exact ac_lenL h
  · exact ac_lenT h
theorem wipe_no {ρ : List En} {i : Nat} : ∀ {vs : List Nat}, i ∈ vs → i < ρ.length → (wipeE ρ vs)[i]? = some En.no
  | v :: vs, h, lt => by
    have hl : ∀ ws : List Nat, (wipeE ρ ws).length = ρ.length := fun ws => by
      induction ws with
      | nil => rfl
      | cons w ws ih => unfold wipeE; rw [List.length_set, ih]
    unfold wipeE
    by_cases e : v = i
    · subst e; exact set_at (by rw [hl]; exact lt)
    · rw [set_off e]
      exact wipe_no (by rcases List.mem_cons.mp h with z | z; exact absurd z.symm e; exact z) lt
theorem wipeE_len {ρ : List En} (ws : List Nat) : (wipeE ρ ws).length = ρ.length := by
  induction ws with
  | nil => rfl
  | cons w ws ih => unfold wipeE; rw [List.length_set, ih]
/-- a comprehension item by item -/
theorem ae_lcMap {Ψ : Dt → List En → Prop} {wi : TI} {g : TG} {te : TE} {vs : List Nat} (f : Dt → Dt)
    (h : AI K wi ρ fun l ρ1 => l.length < sizeLine ∧ (∀ d ∈ l, AGv K vs g d (wipeE ρ1 vs) fun ρ3 => AE K te ρ3 fun e ρ5 => e = f d ∧ wipeE ρ5 vs = wipeE ρ1 vs) ∧ Ψ (.lst (l.map f)) (wipeE ρ1 vs)) : AE K (tLc wi g tYes te vs) ρ Ψ := by
  refine ae_lc (fun B σ G H m R q => h B σ G H m R fun J l ρ1 G1 H1 m1 s1 t1 w ⟨h1, h2, h3⟩ => q J l ρ1 G1 H1 m1 s1 t1 w ⟨fun i acc ρ2 => i ≤ l.length ∧ acc = (l.take i).map f ∧ ρ2 = wipeE ρ1 vs, ⟨Nat.zero_le _, rfl, rfl⟩, ?_, ?_⟩)
  · rintro i d acc ρ2 hd ⟨hi, rfl, rfl⟩
    have lt := (List.getElem?_eq_some_iff.mp hd).1
    have hm := List.mem_of_getElem? hd
    intro B σ G H m v r Q q
    refine h2 d hm B σ G H m v r Q fun σ' ρ' G' H' m' s t o p => q σ' ρ' G' H' m' s t o (at_yes ⟨fun _ => ?_, fun z => nomatch z⟩)
    refine ae_mono p fun e ρ5 ⟨e1, e2⟩ => ⟨?_, lt, ?_, e2⟩
    · rw [List.length_map, List.length_take]; exact Nat.lt_of_le_of_lt (Nat.min_le_right _ _) h1
    · rw [e1, List.take_succ, hd, List.map_append]; rfl
  · rintro acc ρ2 ⟨_, rfl, rfl⟩
    refine ⟨fun i hi lt => wipe_no hi (by rw [wipeE_len] at lt; exact lt), ?_⟩
    rw [List.take_length]; exact h3
/-- a comprehension with a test -/
theorem ae_lcFil {Ψ : Dt → List En → Prop} {wi : TI} {g : TG} {tt : TT} {te : TE} {vs : List Nat} (f : Dt → Option Dt)
    (h : AI K wi ρ fun l ρ1 => l.length < sizeLine ∧ (∀ d ∈ l, AGv K vs g d (wipeE ρ1 vs) fun ρ3 => AT K tt ρ3 fun b ρ4 => (b = true → AE K te ρ4 fun e ρ5 => f d = some e ∧ wipeE ρ5 vs = wipeE ρ1 vs) ∧ (b = false → f d = none ∧ wipeE ρ4 vs = wipeE ρ1 vs)) ∧ Ψ (.lst (l.filterMap f)) (wipeE ρ1 vs)) : AE K (tLc wi g tt te vs) ρ Ψ := by
  refine ae_lc (fun B σ G H m R q => h B σ G H m R fun J l ρ1 G1 H1 m1 s1 t1 w ⟨h1, h2, h3⟩ => q J l ρ1 G1 H1 m1 s1 t1 w ⟨fun i acc ρ2 => i ≤ l.length ∧ acc = (l.take i).filterMap f ∧ ρ2 = wipeE ρ1 vs, ⟨Nat.zero_le _, rfl, rfl⟩, ?_, ?_⟩)
  · rintro i d acc ρ2 hd ⟨hi, rfl, rfl⟩
    have lt := (List.getElem?_eq_some_iff.mp hd).1
    have hm := List.mem_of_getElem? hd
    intro B σ G H m v r Q q
    refine h2 d hm B σ G H m v r Q fun σ' ρ' G' H' m' s t o p => q σ' ρ' G' H' m' s t o (at_mono p fun b ρ4 ⟨p1, p2⟩ => ⟨fun hb => ae_mono (p1 hb) fun e ρ5 ⟨e1, e2⟩ => ⟨?_, lt, ?_, e2⟩, fun hb => ⟨lt, ?_, (p2 hb).2⟩⟩)
    · exact Nat.lt_of_le_of_lt (Nat.le_trans (List.length_filterMap_le _ _) (by rw [List.length_take]; exact Nat.min_le_right _ _)) h1
    · rw [List.take_succ, hd, List.filterMap_append]; simp [e1]
    · rw [List.take_succ, hd, List.filterMap_append]; simp [(p2 hb).1]
  · rintro acc ρ2 ⟨_, rfl, rfl⟩
    refine ⟨fun i hi lt => wipe_no hi (by rw [wipeE_len] at lt; exact lt), ?_⟩
    rw [List.take_length]; exact h3
theorem sz60 {n : Nat} (h : n ≤ 60) : n ≤ sizeLine := Nat.le_trans h (by decide)
theorem sz60' {n : Nat} (h : n ≤ 60) : n < sizeLine := Nat.lt_of_le_of_lt h (by decide)
theorem cxOf_K {CX : CXT} {P : Program} {w : World} {mg : Str → Option Value} {base : Heap} {N : List Str} {q : Str} {sc : Scope} {f : Addr} {cdv : Value} {A : Around} {outer : List Env} {s : Shared} {H : Hp} {E : XK} : (cxOf CX P w K mg base N q sc f cdv A outer s H E).K = K := rfl
end
def oD : Option Int → Dt
  | none => .non
  | some i => .int i
theorem oD_some {i : Int} : oD (some i) = .int i := rfl
theorem oD_none : oD none = .non := rfl
end Sh
set_option Elab.async false
set_option linter.all false
set_option maxRecDepth 100000
set_option maxHeartbeats 4000000
/-! ### set(xs) of a list of whole numbers; max, min of one with a default -/
namespace Sh
open PySem PySem.Spec PyProof.Rows L2
abbrev eSet (w : World) : Obj :=
  { cls := .type "set", dict := none,
    data := .set #[] 0 (.fresh 0 0 (!w.params.followText "set-order")) }
section
variable {P : Program} {w : World} {A : Around} {E : Value → Shared → Prop} {s : Shared}
set_option maxHeartbeats 8000000 in
theorem set_of_ints {l : Addr} {its : Array Value} (ns : List Int) {Q : Value → Shared → Prop}
    (nh : A.handled = none) (il : s.heap.IsList l its) (ii : IntsAre its.toList ns)
    (nb : ns.length + 1 < scanBound)
    (kont : ∀ (g : Heap) (tk c : Nat),
      SetR w g s.heap.objs.size (fun j => decide (j ∈ ns)) c → c ≤ ns.length →
      (∀ b o, s.heap.get? b = some o → g.get? b = some o) →
      Q (.ref s.heap.objs.size) { s with heap := g, toks := tk }) :
    wpAny (model P w) A (call (.type "set") [.ref l]) Q E s := by
  have sz : its.size = ns.length := by
    have z := IntsAre.length ii
    rwa [Array.length_toList] at z
  obtain ⟨cc, tl, isMro⟩ := F.called_set.mro
  have isMade := F.called_set.made
  have isSub := F.called_set.sub
  refine wpAny_call (codeAny_of_tree ?_)
  show wpAny _ _
    (callAny (.type "set") _) _ _ _
  refine wpAny_pure
    ⟨Code.quiet_builtin _ (by decide +kernel), codeAny_builtin F.entry_type_call ?_⟩
  rw [Around.under_plain
    (weight_type_call_type "set" [.ref l] []) rfl]
  have notT := F.called_set.notType
  have canC := F.called_set.canCreate
  have typC := F.typeCall_set_1 (.ref l)
  repeat (any_goals (first
    | assumption
    | wp_step))
  refine codeAny_mono (code_set_led1 (.ref l) (E := E)
    (Q₁ := fun o t => o = .ref s.heap.objs.size ∧
      t = { s with heap := s.heap.push (eSet w) }) ⟨rfl, rfl⟩) fun r t hr => ?_
  cases r with
  | error _ => exact hr
  | ok fl =>
    cases fl with
    | ret o =>
      obtain ⟨rfl, rfl⟩ := hr
      have at0 : (s.heap.push (eSet w)).get? s.heap.objs.size = some (eSet w) :=
        Heap.get?_push_size _ rfl
      have isT : Shared.TypeIs { s with heap := s.heap.push (eSet w) }
          (.ref s.heap.objs.size) "set" := ⟨_, at0, rfl⟩
      have lkI := F.called_set.init.lookup
      have bdI := F.called_set.init.bind (.ref s.heap.objs.size)
      repeat (any_goals (first
        | assumption
        | wp_step))
      refine codeAny_mono (codeAny_call_builtin
        (R := wants (fun r u => r = .none ∧ ∃ g tk c,
          u = { s with heap := g, toks := tk } ∧
          SetR w g s.heap.objs.size (fun j => decide (j ∈ ns)) c ∧ c ≤ ns.length ∧
          (∀ b o, s.heap.get? b = some o → g.get? b = some o)) E)
        F.called_set.init.plain F.entry_set_init
        (check_set_init_1 isT ?_)) fun r2 u hr2 => ?_
      · have lt : l < s.heap.objs.size := by
          obtain ⟨ob, hob, _⟩ := il
          exact Heap.lt_size hob
        have il1 : (s.heap.push (eSet w)).IsList l its := il.push _
        obtain ⟨ob, hob, hcls, nn, hdat⟩ := il1
        obtain ⟨oc, od, oda, osl⟩ := ob
        simp only at hcls hdat
        subst hcls
        subst hdat
        have il1 : (s.heap.push (eSet w)).IsList l its := ⟨_, hob, rfl, nn, rfl⟩
        have subA := F.sub_list_set
        have subB := F.sub_list_frozenset
        have nd : (Value.type "list" == Value.type "dict") = false := by decide
        unfold Builtin.«set.__init__» noKeywords Builtin.Frozenset.updateFrom
        generalize eqI : pyIter = PI
        wp_walk
        subst eqI
        refine wpAny_pyIter_list il1 ?_
        refine wpAny_bind (wpAny_runValue ?_)
        have nh3 : A.in1.in1.in1.handled = none := by simp [nh]
        have szp : (s.heap.push (eSet w)).objs.size = s.heap.objs.size + 1 :=
          Heap.size_push ..
        have neI : l ≠ (s.heap.push (eSet w)).objs.size := by
          rw [szp]
          exact Nat.ne_of_lt (Nat.lt_succ_of_lt lt)
        have notIn : s.heap.objs.size ∉ [(s.heap.push (eSet w)).objs.size, l] := by
          rw [szp]
          simp only [List.mem_cons, List.not_mem_nil, or_false, not_or]
          exact ⟨Nat.ne_of_lt (Nat.lt_succ_self _), Nat.ne_of_gt lt⟩
        have vals : ∀ (i : Nat) (v : Value), its[i]? = some v →
            ∃ k t, ns[i]? = some k ∧ v = .int k t := fun i v hv => by
          have lti : i < ns.length := by
            rw [← sz]
            exact (Array.getElem?_eq_some_iff.mp hv).1
          obtain ⟨t, e⟩ := PyProof.Rows.IntsAre.int_at ii i v
            (by rw [Array.getElem?_toList]; exact hv)
          exact ⟨ns[i], t, List.getElem?_eq_getElem lti, by
            rw [e, List.getD_eq_getElem?_getD, List.getElem?_eq_getElem lti]; rfl⟩
        refine set_update_ints
          ((Walks.list nh3 _ l neI its).toS) s.heap.objs.size notIn ns sz nb vals
          (its.size - 0) 0 _ (by omega) (Nat.zero_le _)
          ⟨⟨_, Heap.get?_push_size _ rfl, rfl, rfl⟩, il1.push _⟩ ?first ?last
        case first =>
          exact ⟨0, Nat.le_refl 0, setR_new_at (Heap.get?_push_of_some _ at0)⟩
        case last =>
          intro v c mv hc hS
          obtain ⟨g, g2, d, tk, os⟩ := v
          have e1 : g2 = s.gens := mv.gens
          have e2 : d = s.drawn := mv.drawn
          have e3 : os = s.os := mv.os
          subst e1
          subst e2
          subst e3
          show wpAny _ _ _ _ _ _
          refine wpAny_pure ?_
          show wpAny _ _ (ret Value.none) _ _ _
          rw [sz] at hc
          refine wpAny_pure ⟨rfl, g, tk, c, rfl, hS, hc, fun b o e => ?_⟩
          have ltb : b < s.heap.objs.size := Heap.lt_size e
          refine mv.heap b o ?_ (Heap.get?_push_of_some _ (Heap.get?_push_of_some _ e))
          rw [szp]
          simp only [List.mem_cons, List.not_mem_nil, or_false, not_or]
          exact ⟨Nat.ne_of_lt ltb, Nat.ne_of_lt (Nat.lt_succ_of_lt ltb)⟩
      · cases r2 with
        | error _ => exact hr2
        | ok fl2 =>
          cases fl2 with
          | ret _ =>
            obtain ⟨rfl, g, tk, c, rfl, hS, hc, hk⟩ := hr2
            repeat (any_goals (first
              | assumption
              | wp_step))
            exact kont _ _ _ hS hc hk
          | _ => exact hr2.elim
    | _ => exact hr.elim
end
/-! by values -/
section
variable {X : Cx}
/-- set(xs), xs a list of whole numbers -/
def rSetI (K : PySem.W.Frag) (w : World) : List V → Hp → VK → Prop := fun vs H Q => ∃ (a : Addr) (ns : List Int), vs = [.ref a] ∧ SqL K H a (ns.map V.int) ∧ ns.length + 1 < scanBound ∧
  ∀ p c, H p = none → c ≤ ns.length → Q (.ref p) (upd H p (SetO w p (fun j => decide (j ∈ ns)) c))
theorem cr_setI (hc : X.calm = true) : CallR X (.type "set") (rSetI X.K X.w) := by
  intro pins s σ H vs us Q I r h
  obtain ⟨a, ns, rfl, hs, hb, q⟩ := h
  obtain ⟨its, rv, hl, _⟩ := I.list hs
  rw [Vals.ref1 r]
  refine set_of_ints ns (I.ok.hd hc) hl.isList (by simpa using rv.ints) hb fun g tk c hS hle hk => ?_
  exact ⟨.ref _, _, I.laid (t' := tk) hk (Nat.le_refl _) (setO_new hS), rfl, q _ c (I.hok.fresh (Nat.le_refl _)) hle⟩
end
end Sh
set_option Elab.async false
set_option linter.all false
set_option maxRecDepth 100000
set_option maxHeartbeats 4000000
set_option Elab.async false
set_option linter.all false
set_option maxRecDepth 100000
set_option maxHeartbeats 4000000
namespace Sh
open PySem PySem.Spec PyProof.Rows L2
theorem pg_or {X : Cx} {tg : Expr} {g1 g2 : TG} (h1 : PG X tg g1) (h2 : PG X tg g2) : PG X tg (fun v σ H Q => g1 v σ H Q ∨ g2 v σ H Q) :=
  ⟨fun pins s σ H v u Q I r h => h.elim (h1.run pins s σ H v u Q I r) (h2.run pins s σ H v u Q I r)⟩
section
variable {K : PySem.W.Frag} {ρ : List En} {N : List En → Prop} {Φ : Dt → Prop}
theorem ag_unl {t : TGs} {n : Nat} {ds : List Dt} (hn : ds.length = n) (h : AGs K t ds ρ N) : AG K (gUnl K n t) (.lst ds) ρ N := fun B σ G H m v r Q q => by
  obtain ⟨a, xs, rfl, r1, r2⟩ := r
  exact ⟨a, xs, rfl, SqL.of (m.sub _ _ r1), by rw [r2.length]; exact hn, h B σ G H m xs r2 Q q⟩
theorem ag_seq {t : TGs} {n : Nat} {k : Bool} {ds : List Dt} (hn : ds.length = n) (h : AGs K t ds ρ N) : AG K (fun v σ H Q => gTup K n t v σ H Q ∨ gUnl K n t v σ H Q) (sq k ds) ρ N := fun B σ G H m v r Q q => by
  cases k
  · exact .inr (ag_unl hn h B σ G H m v r Q q)
  · exact .inl (ag_tup hn h B σ G H m v r Q q)
/-- whole numbers that pass -/
def fI (p : Int → Bool) : Dt → Option Dt
  | .int m => if p m then some (.int m) else none
  | _ => none
theorem fI_map (p : Int → Bool) : ∀ ms : List Int, (ms.map Dt.int).filterMap (fI p) = (ms.filter p).map Dt.int
  | [] => rfl
  | m :: ms => by
    rw [List.map_cons, List.filterMap_cons, List.filter_cons, fI_map p ms]
    cases h : p m <;> simp [fI, h]
theorem ints_pl : ∀ ns : List Int, pls (ns.map Dt.int) = true
  | [] => rfl
  | n :: ns => by show (true && pls (ns.map Dt.int)) = true; rw [ints_pl ns]; rfl
theorem ints_lay : ∀ ns : List Int, PyData.canLayAll0 (pds (ns.map Dt.int)) = true ∧ PyData.depthAll (pds (ns.map Dt.int)) = 0
  | [] => ⟨rfl, rfl⟩
  | n :: ns => by
    obtain ⟨h1, h2⟩ := ints_lay ns
    refine ⟨?_, ?_⟩
    · show (true && PyData.canLayAll0 (pds (ns.map Dt.int))) = true
      rw [h1]; rfl
    · show max 0 (PyData.depthAll (pds (ns.map Dt.int))) = 0
      rw [h2]; rfl
theorem ints_shaped (ns : List Int) : SeqAt.shaped (Dt.lst (ns.map Dt.int)).pd = true := by
  obtain ⟨h1, h2⟩ := ints_lay ns
  show (PyData.canLayAll0 (pds (ns.map Dt.int)) && decide (PyData.depthAll (pds (ns.map Dt.int)) + 1 ≤ 64)) = true
  rw [h1, h2]; rfl
theorem ar_neNil {ns : List Int} (h : Φ (.bl (!ns.isEmpty))) : AR K (rNeD K) (.lst (ns.map Dt.int)) (.lst []) Φ := by
  refine ar_neD (ints_pl ns) rfl (ints_shaped ns) rfl ?_
  cases ns with
  | nil => exact h
  | cons n ns => exact h
theorem cxOf_w {CX : CXT} {P : Program} {w : World} {mg : Str → Option Value} {base : Heap} {N : List Str} {q : Str} {sc : Scope} {f : Addr} {cdv : Value} {A : Around} {outer : List Env} {s : Shared} {H : Hp} {E : XK} : (cxOf CX P w K mg base N q sc f cdv A outer s H E).w = w := rfl
theorem RDs.rev {G : Hp} : ∀ {ds : List Dt} {vs : List V}, RDs K G ds vs → RDs K G ds.reverse vs.reverse
  | [], _, h => by cases (show _ = [] from h); rfl
  | d :: ds, _, ⟨x, r, e, h1, h2⟩ => by
    subst e
    rw [List.reverse_cons, List.reverse_cons]
    exact (RDs.rev h2).snoc h1
theorem vals_rev : ∀ {zs : List V} {ws : List Value}, Vals zs ws → Vals zs.reverse ws.reverse
  | _, _, .nil => .nil
  | _, _, .cons (l₁ := zs) (l₂ := ws) r t => by
    rw [List.reverse_cons, List.reverse_cons]
    exact (vals_rev t).append (.cons r .nil)
end
end Sh
set_option Elab.async false
set_option linter.all false
set_option maxRecDepth 100000
set_option maxHeartbeats 4000000
set_option Elab.async false
set_option linter.all false
set_option maxRecDepth 100000
set_option maxHeartbeats 4000000
set_option Elab.async false
set_option linter.all false
set_option maxRecDepth 100000
set_option maxHeartbeats 4000000
namespace Sh
open PySem PySem.Spec PyProof.Rows L2
abbrev IP := Int × Int
section
variable {K : PySem.W.Frag} {ρ : List En} {Ψ : Dt → List En → Prop} {N : List En → Prop} {R : Dt → List En → Prop} {Φ : Dt → Prop}
abbrev pD (p : IP) : Dt := .tup [.int p.1, .int p.2]
end
end Sh
set_option Elab.async false
set_option linter.all false
set_option maxRecDepth 100000
set_option maxHeartbeats 4000000
set_option Elab.async false
set_option linter.all false
set_option maxRecDepth 100000
set_option maxHeartbeats 4000000
set_option Elab.async false
set_option linter.all false
set_option maxRecDepth 100000
set_option maxHeartbeats 4000000
/-! a pair backwards, extend of a list of one's own, None in a list -/
set_option Elab.async false
set_option linter.all false
set_option maxRecDepth 100000
set_option maxHeartbeats 4000000
/-! texts: join of a list backwards, f-strings, str, a loop that is not entered, a name that stands for a number, or of tuples -/
set_option Elab.async false
set_option linter.all false
set_option maxRecDepth 100000
set_option maxHeartbeats 4000000
set_option Elab.async false
set_option linter.all false
set_option maxRecDepth 100000
set_option maxHeartbeats 4000000
/-! gcd of three, is True, slices of four -/
namespace Sh
open PySem PySem.Spec PyProof.Rows L2 PySem.Calls PySem.W
theorem args_gcd3 (a b c : Value) : argsOk "math.gcd" ⟨[a, b, c], []⟩ := by unfold argsOk; kernel_rfl
theorem run_gcd3 (a : Int) (t : Tok) (b : Int) (u : Tok) (c : Int) (v : Tok) :
    Gives (Builtin.«math.gcd» ⟨[.int a t, .int b u, .int c v], []⟩) (.int ((((Nat.gcd 0 a.natAbs).gcd b.natAbs).gcd c.natAbs : Nat) : Int)) :=
  .of_wp fun M A E s Q h => by obtain ⟨hp, g, d, tk, os⟩ := s; wp_walk; exact ⟨_, rfl, h⟩
def g3 (a b c : Int) : Int := (((Nat.gcd a.natAbs b.natAbs).gcd c.natAbs : Nat) : Int)
def rGcd3 : List V → Hp → VK → Prop := fun vs H Q => ∃ a b c : Int, vs = [.int a, .int b, .int c] ∧ Q (.int (g3 a b c)) H
section
variable {X : Cx}
theorem cr_gcd3 : CallR X (.builtin "math.gcd") rGcd3 := by
  intro pins s σ H vs us Q I r h
  obtain ⟨a, b, c, rfl, q⟩ := h
  cases r with
  | cons r1 r => cases r with
    | cons r2 r => cases r with
      | cons r3 r =>
        cases r
        obtain ⟨t, rfl⟩ := r1
        obtain ⟨u, rfl⟩ := r2
        obtain ⟨v, rfl⟩ := r3
        have g := run_gcd3 a t b u c v
        rw [Nat.gcd_zero_left] at g
        exact call_function_meets MGF.kind_gcd MGF.plain_gcd MGF.entry_gcd (args_gcd3 _ _ _) g.meets ⟨.int _, H, I.tok _, ⟨_, rfl⟩, q⟩
def rSlS (K : PySem.W.Frag) : V → Option Int → Option Int → Hp → VK → Prop := fun x lo hi H Q => rSlL K x lo hi H Q ∨ rSlA K x lo hi H Q
theorem sl_seq : SlR X (rSlS X.K) := SlR.or sl_list sl_tupA
end
section
variable {K : PySem.W.Frag} {ρ : List En} {Ψ : Dt → List En → Prop} {Φ : Dt → Prop}
theorem ac_gcd3 {a b c : Int} (h : Φ (.int (g3 a b c))) : AC K rGcd3 [.int a, .int b, .int c] Φ := fun G H s vs r Q q => by
  obtain ⟨x, r1, rfl, h1, y, r2, rfl, h2, z, r3, rfl, h3, e⟩ := r
  cases (show r3 = [] from e)
  cases (show x = V.int a from h1)
  cases (show y = V.int b from h2)
  cases (show z = V.int c from h3)
  exact ⟨a, b, c, rfl, q _ (.int (g3 a b c)) G H (Nw.refl s) rfl h⟩
theorem RDs.four {G : Hp} {a b c d : Dt} {xs : List V} (h : RDs K G [a, b, c, d] xs) : ∃ w x y z, xs = [w, x, y, z] ∧ RD K G a w ∧ RD K G b x ∧ RD K G c y ∧ RD K G d z := by
  obtain ⟨w, r1, rfl, h1, x, r2, rfl, h2, y, r3, rfl, h3, z, r4, rfl, h4, e⟩ := h
  cases (show r4 = [] from e)
  exact ⟨w, x, y, z, rfl, h1, h2, h3, h4⟩
theorem ae_sl2 {lo hi : Option Int} {tl th : TO} {te : TE} {f : Dt → Dt → Dt → Dt → List Dt} {g : V → V → V → V → List V}
    (el : tl = (fun _ H Q => Q lo H)) (eh : th = (fun _ H Q => Q hi H)) (hc : ∀ w x y z, cutV [w, x, y, z] lo hi = g w x y z) (hn : ¬ (HT.sIx 4 0 lo = 0 ∧ HT.sIx 4 4 hi = 4))
    (hr : ∀ {G : Hp} {a b c d : Dt} {w x y z : V}, RD K G a w → RD K G b x → RD K G c y → RD K G d z → RDs K G (f a b c d) (g w x y z))
    (h : AE K te ρ fun d ρ1 => ∃ k a b c e, d = sq k [a, b, c, e] ∧ Ψ (sq k (f a b c e)) ρ1) : AE K (tSl (rSlS K) te tl th) ρ Ψ := fun B σ G H m Q q => by
  subst el eh
  refine h B σ G H m _ fun v d ρ1 G1 H1 m1 s1 t1 r1 ⟨k, a, b, c, e, ed, n⟩ => ?_
  subst ed
  cases k with
  | false =>
    obtain ⟨p, xs, rfl, hp, r⟩ := r1
    obtain ⟨w, x, y, z, rfl, h1, h2, h3, h4⟩ := r.four
    refine .inl ⟨p, _, rfl, SqL.of (m1.sub _ _ hp), fun p' hp' => ?_⟩
    have nw := Nw.new (o := .lst (cutV [w, x, y, z] lo hi)) m1.sub hp'
    rw [hc] at nw
    rw [hc]
    exact q _ (.lst (f a b c e)) ρ1 _ _ (m1.nw nw) (s1.trans nw.g) (t1.trans (Tr.same nw.h)) ⟨p', _, rfl, upd_same, (hr h1 h2 h3 h4).same nw.g⟩ n
  | true =>
    obtain ⟨p, xs, rfl, hp, r⟩ := r1
    obtain ⟨w, x, y, z, rfl, h1, h2, h3, h4⟩ := r.four
    refine .inr ⟨p, _, rfl, same_sqT m1.sub hp, fun c => absurd c hn, fun _ p' hp' => ?_⟩
    have nw := Nw.new (o := .tup (cutV [w, x, y, z] lo hi)) m1.sub hp'
    rw [hc] at nw
    rw [hc]
    exact q _ (.tup (f a b c e)) ρ1 _ _ (m1.nw nw) (s1.trans nw.g) (t1.trans (Tr.same nw.h)) ⟨p', _, rfl, SqT.of upd_same, (hr h1 h2 h3 h4).same nw.g⟩ n
theorem part_int {i : Int} : tPart (tC (.int i)) = (fun _ H Q => Q (some i) H) := by
  funext σ H Q
  exact propext ⟨fun ⟨j, e, q⟩ => by cases e; exact q, fun q => ⟨i, rfl, q⟩⟩
theorem ae_slTo {te : TE} (h : AE K te ρ fun d ρ1 => ∃ k a b c e, d = sq k [a, b, c, e] ∧ Ψ (sq k [a, b]) ρ1) : AE K (tSl (rSlS K) te tNoPart (tPart (tC (.int 2)))) ρ Ψ :=
  ae_sl2 (lo := none) (hi := some 2) (f := fun a b _ _ => [a, b]) (g := fun a b _ _ => [a, b]) rfl part_int (fun _ _ _ _ => rfl) (by decide) (fun h1 h2 _ _ => ⟨_, _, rfl, h1, _, _, rfl, h2, rfl⟩) h
theorem ae_slFrom {te : TE} (h : AE K te ρ fun d ρ1 => ∃ k a b c e, d = sq k [a, b, c, e] ∧ Ψ (sq k [c, e]) ρ1) : AE K (tSl (rSlS K) te (tPart (tC (.int 2))) tNoPart) ρ Ψ :=
  ae_sl2 (lo := some 2) (hi := none) (f := fun _ _ c d => [c, d]) (g := fun _ _ c d => [c, d]) part_int rfl (fun _ _ _ _ => rfl) (by decide) (fun _ _ h3 h4 => ⟨_, _, rfl, h3, _, _, rfl, h4, rfl⟩) h
end
end Sh
set_option Elab.async false
set_option linter.all false
set_option maxRecDepth 100000
set_option maxHeartbeats 4000000
/-! loops by a measure, quotients by great numbers, chains of comparisons, gcd of two -/
namespace Sh
open PySem PySem.Spec PyProof.Rows L2 PySem.Calls
def CDivB (_ j : Int) : Prop := j ≠ 0 ∧ j.natAbs.log2 < 9000
section
variable {X : Cx}
theorem op_fdivB : OpR X (binaryOp .FloorDiv) (rI CDivB fun i j => .int (i.fdiv j)) := opI fun _ _ _ _ _ _ _ hc q => floordiv_int hc.1 q (.inl (PyProof.noPylong_of_log2 (by have := hc.2; omega)))
end
theorem divB {x y : Int} (h : y ≠ 0) (h1 : -(10 ^ 60) ≤ y) (h2 : y ≤ 10 ^ 60) : CDivB x y := by
  refine ⟨h, (Nat.log2_lt (by omega)).mpr ?_⟩
  have : y.natAbs ≤ 10 ^ 60 := by
    have : (10 : Int) ^ 60 = ((10 ^ 60 : Nat) : Int) := by decide
    omega
  exact Nat.lt_of_le_of_lt this (by decide +kernel)
section
variable {K : PySem.W.Frag} {ρ : List En} {Ψ : Dt → List En → Prop} {N : List En → Prop} {R : Dt → List En → Prop} {Φ : Dt → Prop}
theorem ac_gcd2 {a b : Int} (h : Φ (.int ((Nat.gcd a.natAbs b.natAbs : Nat) : Int))) : AC K rGcd [.int a, .int b] Φ := fun G H s vs r Q q => by
  obtain ⟨x, r1, rfl, h1, y, r2, rfl, h2, e⟩ := r
  cases (show r2 = [] from e)
  cases (show x = V.int a from h1)
  cases (show y = V.int b from h2)
  exact ⟨a, b, rfl, q _ (.int ((Nat.gcd a.natAbs b.natAbs : Nat) : Int)) G H (Nw.refl s) rfl h⟩
/-- a loop: what holds ahead of each turn, with a number that falls -/
theorem as_while {c : TT} {tb : TS} (h : ∃ I : Nat → List En → Prop, (∃ k, I k ρ) ∧ ∀ k ρ1, I k ρ1 → AT K c ρ1 fun b ρ2 => (b = true → AS K tb ρ2 (fun ρ3 => ∃ j, j < k ∧ I j ρ3) R) ∧ (b = false → N ρ2)) : AS K (tWhile c tb) ρ N R := fun B σ G H m D qn qr => by
  obtain ⟨I, ⟨k0, i0⟩, step⟩ := h
  refine ⟨fun k σ1 H1 => ∃ ρ1 G1, Mt K B ρ1 σ1 G1 H1 ∧ Same G G1 ∧ Tr B H H1 ∧ I k ρ1, ⟨k0, ρ, G, m, Same.refl _, Tr.refl, i0⟩, ?_⟩
  rintro k σ1 H1 ⟨ρ1, G1, m1, s1, t1, i1⟩
  refine step k ρ1 i1 B σ1 G1 H1 m1 _ fun b ρ2 G2 H2 m2 s2 t2 ⟨p1, p2⟩ => ?_
  cases b with
  | false =>
    rw [if_neg Bool.false_ne_true]
    exact qn σ1 ρ2 G2 H2 m2 (s1.trans s2) (t1.trans t2) (p2 rfl)
  | true =>
    rw [if_pos rfl]
    refine ⟨fun σ3 H3 => ∃ j, j < k ∧ ∃ ρ3 G3, Mt K B ρ3 σ3 G3 H3 ∧ Same G G3 ∧ Tr B H H3 ∧ I j ρ3, fun σ3 H3 h => h, ?_⟩
    refine p1 rfl B σ1 G2 H2 m2 _ (fun σ3 ρ3 G3 H3 m3 s3 t3 ⟨j, lt, i3⟩ => ⟨j, lt, ρ3, G3, m3, (s1.trans s2).trans s3, (t1.trans t2).trans t3, i3⟩) ?_
    exact fun v d σ3 ρ3 G3 H3 m3 s3 t3 r3 p3 => qr v d σ3 ρ3 G3 H3 m3 ((s1.trans s2).trans s3) ((t1.trans t2).trans t3) r3 p3
end
end Sh
set_option Elab.async false
set_option linter.all false
set_option maxRecDepth 100000
set_option maxHeartbeats 4000000
namespace Sh
open PySem PySem.Spec PyProof.Rows L2
def lowJ : Option Int → Option Int → Option Int
  | some a, some b => some (if b < a then b else a)
  | _, _ => none
def highJ : Option Int → Option Int → Option Int
  | some a, some b => some (if b > a then b else a)
  | _, _ => none
def lwB (a b : Option Int) : Bool := match b with | none => true | some y => match a with | none => false | some x => decide (y ≤ x)
def hwB (a b : Option Int) : Bool := match b with | none => true | some y => match a with | none => false | some x => decide (x ≤ y)
def restOf (m n : Int) : IP := if m = 0 then (0, n) else (m, n.fmod m)
def restJ (m r n s : Int) : IP := restOf (g3 m n (r - s)) r
def hasB (m r n : Int) : Bool := if m = 0 then decide (n = r) else decide (n.fmod m = r)
def rwB (m r n s : Int) : Bool := if n = 0 then decide (m = 0) && decide (r = s) else decide (m.fmod n = 0) && hasB n s r
def letsB (lo hi : Option Int) (n : Int) : Bool := lwB (some n) lo && hwB (some n) hi
def upR (r m x : Int) : Int := x + (r - x).fmod m
def dnR (r m y : Int) : Int := y - (y - r).fmod m
abbrev vD (lo hi : Option Int) (m r : Int) : Dt := .tup [oD lo, oD hi, .int m, .int r]
def voD (lo hi : Option Int) (m r : Int) : Dt := if m = 0 then (if letsB lo hi r then vD (some r) (some r) 0 r else .non) else
  match lo.map (upR r m), hi.map (dnR r m) with
  | some a, some b => if b ≤ a then (if a = b then vD (some a) (some a) 0 a else .non) else vD (some a) (some b) m r
  | a, b => vD a b m r
def setD (lo hi : Option Int) (m r : Int) : Dt := if m = 0 then vD (some r) (some r) 0 r else
  match lo.map (upR r m), hi.map (dnR r m) with
  | some a, some b => if a < b then vD (some a) (some b) m r else vD (some a) (some a) 0 a
  | a, b => vD a b m r
structure Ok (lo hi : Option Int) (m r : Int) : Prop where
  h : (m = 0 ∧ lo = some r ∧ hi = some r) ∨ (1 ≤ m ∧ 0 ≤ r ∧ r < m ∧ (∀ x, lo = some x → x.fmod m = r) ∧ (∀ y, hi = some y → y.fmod m = r) ∧ ∀ x y, lo = some x → hi = some y → x < y)
def Sub (m r n s : Int) : Prop := (n = 0 ∧ m = 0 ∧ s = r) ∨ (1 ≤ n ∧ m.fmod n = 0 ∧ r.fmod n = s)
theorem fe {x m : Int} (h : 1 ≤ m) : x.fmod m = x % m := Int.fmod_eq_emod_of_nonneg x (by omega)
theorem fm_r {x m : Int} (h : 0 < m) : 0 ≤ x.fmod m ∧ x.fmod m < m := by
  rw [fe (by omega)]; exact ⟨Int.emod_nonneg x (by omega), Int.emod_lt_of_pos x h⟩
theorem fm_same {x : Int} {m r : Int} (hm : 1 ≤ m) (h : x.fmod m = r) : (r - x).fmod m = 0 ∧ (x - r).fmod m = 0 := by
  rw [fe hm] at h; rw [fe hm, fe hm]
  subst h
  constructor
  · have : (x % m - x) = (- (x / m)) * m := by have := Int.mul_ediv_add_emod x m; rw [Int.neg_mul, Int.mul_comm]; omega
    rw [this, Int.mul_emod_left]
  · have : (x - x % m) = (x / m) * m := by have := Int.mul_ediv_add_emod x m; rw [Int.mul_comm]; omega
    rw [this, Int.mul_emod_left]
theorem up_same {x m r : Int} (hm : 1 ≤ m) (h : x.fmod m = r) : upR r m x = x := by unfold upR; rw [(fm_same hm h).1]; omega
theorem dn_same {x m r : Int} (hm : 1 ≤ m) (h : x.fmod m = r) : dnR r m x = x := by unfold dnR; rw [(fm_same hm h).2]; omega
theorem up_mod {x m r : Int} (hm : 1 ≤ m) (r0 : 0 ≤ r) (r1 : r < m) : (upR r m x).fmod m = r := by
  unfold upR
  rw [fe hm, fe hm]
  rw [Int.add_emod, Int.emod_emod_of_dvd _ (Int.dvd_refl m), ← Int.add_emod]
  rw [show x + (r - x) = r by omega]
  exact Int.emod_eq_of_lt r0 r1
theorem dn_mod {x m r : Int} (hm : 1 ≤ m) (r0 : 0 ≤ r) (r1 : r < m) : (dnR r m x).fmod m = r := by
  unfold dnR
  rw [fe hm, fe hm]
  rw [Int.sub_emod, Int.emod_emod_of_dvd _ (Int.dvd_refl m), ← Int.sub_emod]
  rw [show x - (x - r) = r by omega]
  exact Int.emod_eq_of_lt r0 r1
/-- two numbers that leave the same are apart by the modulus or equal -/
theorem apart {x y m : Int} (hm : 1 ≤ m) (h : x.fmod m = y.fmod m) (l : x < y) : x + m ≤ y := by
  rw [fe hm, fe hm] at h
  have e1 := Int.mul_ediv_add_emod x m
  have e2 := Int.mul_ediv_add_emod y m
  rw [h] at e1
  have hq : x / m < y / m := by
    have : m * (x / m) < m * (y / m) := by omega
    exact Int.lt_of_mul_lt_mul_left this (by omega)
  have : m * (x / m) + m ≤ m * (y / m) := by
    have h1 : x / m + 1 ≤ y / m := by omega
    have := Int.mul_le_mul_of_nonneg_left h1 (show 0 ≤ m by omega)
    rw [Int.mul_add, Int.mul_one] at this
    exact this
  omega
theorem up_b {x m r : Int} (hm : 1 ≤ m) : x ≤ upR r m x ∧ upR r m x < x + m := by
  have := fm_r (x := r - x) (m := m) (by omega)
  unfold upR; omega
theorem dn_b {x m r : Int} (hm : 1 ≤ m) : dnR r m x ≤ x ∧ x < dnR r m x + m := by
  have := fm_r (x := x - r) (m := m) (by omega)
  unfold dnR; omega
theorem up_le {x y m r : Int} (hm : 1 ≤ m) (r0 : 0 ≤ r) (r1 : r < m) (h : x ≤ y) (hy : y.fmod m = r) : upR r m x ≤ y := by
  have b := up_b (x := x) (r := r) hm
  have e := up_mod (x := x) hm r0 r1
  by_cases l : y < upR r m x
  · have := apart hm (hy.trans e.symm) l
    omega
  · omega
theorem dn_ge {x y m r : Int} (hm : 1 ≤ m) (r0 : 0 ≤ r) (r1 : r < m) (h : y ≤ x) (hy : y.fmod m = r) : y ≤ dnR r m x := by
  have b := dn_b (x := x) (r := r) hm
  have e := dn_mod (x := x) hm r0 r1
  by_cases l : dnR r m x < y
  · have := apart hm (e.trans hy.symm) l
    omega
  · omega
/-- what the widened value is -/
def dLo (l : Option Int) (m r : Int) : Option Int := if m = 0 then some r else l.map (upR r m)
def dHi (l : Option Int) (m r : Int) : Option Int := if m = 0 then some r else l.map (dnR r m)
theorem lw_le {x y : Int} (h : lwB (some x) (some y) = true) : y ≤ x := of_decide_eq_true h
theorem hw_le {x y : Int} (h : hwB (some x) (some y) = true) : x ≤ y := of_decide_eq_true h
section
variable {c d : Option Int} {m r : Int} (k : Ok c d m r)
include k
theorem dlo_in {l : Option Int} (h : lwB c l = true) : lwB c (dLo l m r) = true := by
  unfold dLo
  rcases k.h with ⟨rfl, rfl, rfl⟩ | ⟨hm, r0, r1, hc, hd, ho⟩
  · exact decide_eq_true (Int.le_refl _)
  · rw [if_neg (by omega)]
    cases l with
    | none => rfl
    | some x => cases c with
      | none => cases h
      | some y => exact decide_eq_true (up_le hm r0 r1 (lw_le h) (hc y rfl))
theorem dhi_in {l : Option Int} (h : hwB d l = true) : hwB d (dHi l m r) = true := by
  unfold dHi
  rcases k.h with ⟨rfl, rfl, rfl⟩ | ⟨hm, r0, r1, hc, hd, ho⟩
  · exact decide_eq_true (Int.le_refl _)
  · rw [if_neg (by omega)]
    cases l with
    | none => rfl
    | some x => cases d with
      | none => cases h
      | some y => exact decide_eq_true (dn_ge hm r0 r1 (hw_le h) (hd y rfl))
theorem d_ok {l u : Option Int} (h1 : lwB c l = true) (h2 : hwB d u = true) : Ok (dLo l m r) (dHi u m r) m r := by
  have e1 := dlo_in k h1
  have e2 := dhi_in k h2
  rcases k.h with ⟨rfl, rfl, rfl⟩ | ⟨hm, r0, r1, hc, hd, ho⟩
  · exact ⟨.inl ⟨rfl, rfl, rfl⟩⟩
  · refine ⟨.inr ⟨hm, r0, r1, ?_, ?_, ?_⟩⟩
    · intro x e
      unfold dLo at e
      rw [if_neg (by omega)] at e
      obtain ⟨y, _, rfl⟩ := Option.map_eq_some_iff.mp e
      exact up_mod hm r0 r1
    · intro x e
      unfold dHi at e
      rw [if_neg (by omega)] at e
      obtain ⟨y, _, rfl⟩ := Option.map_eq_some_iff.mp e
      exact dn_mod hm r0 r1
    · intro x y ex ey
      rw [ex] at e1; rw [ey] at e2
      cases c with
      | none => cases e1
      | some c' => cases d with
        | none => cases e2
        | some d' =>
          have := lw_le e1
          have := hw_le e2
          have := ho c' d' rfl rfl
          omega
theorem vo_d {l u : Option Int} (h1 : lwB c l = true) (h2 : hwB d u = true) : voD l u m r = vD (dLo l m r) (dHi u m r) m r ∧ setD l u m r = vD (dLo l m r) (dHi u m r) m r := by
  have o := d_ok k h1 h2
  rcases k.h with ⟨rfl, rfl, rfl⟩ | ⟨hm, r0, r1, hc, hd, ho⟩
  · refine ⟨?_, rfl⟩
    unfold voD
    rw [if_pos rfl, if_pos (show letsB l u r = true by unfold letsB; rw [h1, h2]; rfl)]
    rfl
  · have hm0 : ¬ m = 0 := by omega
    rcases o.h with ⟨e, _⟩ | ⟨_, _, _, _, _, lt⟩
    · omega
    · unfold voD setD
      unfold dLo dHi at *
      rw [if_neg hm0, if_neg hm0, if_neg hm0, if_neg hm0]
      rw [if_neg hm0, if_neg hm0] at lt
      cases hl : l.map (upR r m) with
      | none => exact ⟨rfl, rfl⟩
      | some x => cases hu : u.map (dnR r m) with
        | none => exact ⟨rfl, rfl⟩
        | some y =>
          have := lt x y hl hu
          dsimp only
          rw [if_neg (by omega), if_pos this]
          exact ⟨rfl, rfl⟩
end
/-- a value is as it is -/
theorem dlo_self {lo hi : Option Int} {m r : Int} (k : Ok lo hi m r) : dLo lo m r = lo ∧ dHi hi m r = hi := by
  unfold dLo dHi
  rcases k.h with ⟨rfl, rfl, rfl⟩ | ⟨hm, r0, r1, hc, hd, ho⟩
  · exact ⟨rfl, rfl⟩
  · rw [if_neg (by omega), if_neg (by omega)]
    constructor
    · cases lo with
      | none => rfl
      | some x => show some _ = _; rw [up_same hm (hc x rfl)]
    · cases hi with
      | none => rfl
      | some x => show some _ = _; rw [dn_same hm (hd x rfl)]
theorem lw_self {a : Option Int} : lwB a a = true := by cases a <;> simp [lwB]
theorem hw_self {a : Option Int} : hwB a a = true := by cases a <;> simp [hwB]
theorem rw_self {lo hi : Option Int} {m r : Int} (k : Ok lo hi m r) : rwB m r m r = true := by
  unfold rwB hasB
  rcases k.h with ⟨rfl, rfl, rfl⟩ | ⟨hm, r0, r1, hc, hd, ho⟩
  · simp
  · rw [if_neg (by omega), if_neg (by omega), fe hm, fe hm, Int.emod_self, Int.emod_eq_of_lt r0 r1]; simp
theorem ok_le {lo hi : Option Int} {m r x y : Int} (k : Ok lo hi m r) (h1 : lo = some x) (h2 : hi = some y) : x ≤ y := by
  rcases k.h with ⟨rfl, e, f⟩ | ⟨hm, r0, r1, hc, hd, ho⟩
  · rw [e] at h1; rw [f] at h2; cases h1; cases h2; exact Int.le_refl _
  · exact Int.le_of_lt (ho x y h1 h2)
/-! joins -/
theorem g3_dvd (a b c : Int) : g3 a b c ∣ a ∧ g3 a b c ∣ b ∧ g3 a b c ∣ c := by
  unfold g3
  refine ⟨?_, ?_, ?_⟩ <;> apply Int.natAbs_dvd_natAbs.mp <;> rw [Int.natAbs_natCast]
  · exact Nat.dvd_trans (Nat.gcd_dvd_left _ _) (Nat.gcd_dvd_left _ _)
  · exact Nat.dvd_trans (Nat.gcd_dvd_left _ _) (Nat.gcd_dvd_right _ _)
  · exact Nat.gcd_dvd_right _ _
theorem g3_nn (a b c : Int) : 0 ≤ g3 a b c := Int.natCast_nonneg _
theorem g3_zero {a b c : Int} (h : g3 a b c = 0) : a = 0 ∧ b = 0 ∧ c = 0 := by
  obtain ⟨h1, h2, h3⟩ := g3_dvd a b c
  rw [h] at h1 h2 h3
  exact ⟨Int.zero_dvd.mp h1, Int.zero_dvd.mp h2, Int.zero_dvd.mp h3⟩
theorem mod_trans {x r m g : Int} (hm : 1 ≤ m) (hg : 1 ≤ g) (h : x.fmod m = r) (d : g ∣ m) : x.fmod g = r.fmod g := by
  rw [fe hm] at h; rw [fe hg, fe hg]
  subst h
  exact (Int.emod_emod_of_dvd x d).symm
theorem mod_eq {x y g : Int} (hg : 1 ≤ g) (d : g ∣ x - y) : x.fmod g = y.fmod g := by
  rw [fe hg, fe hg]
  exact Int.emod_eq_emod_iff_emod_sub_eq_zero.mpr (Int.emod_eq_zero_of_dvd d)
theorem ok_mod {lo hi : Option Int} {m r x g : Int} (k : Ok lo hi m r) (hg : 1 ≤ g) (d : g ∣ m) (h : lo = some x ∨ hi = some x) : x.fmod g = r.fmod g := by
  rcases k.h with ⟨rfl, e, f⟩ | ⟨hm, r0, r1, hc, hd, ho⟩
  · rcases h with h | h
    · rw [e] at h; cases h; rfl
    · rw [f] at h; cases h; rfl
  · rcases h with h | h
    · exact mod_trans hm hg (hc x h) d
    · exact mod_trans hm hg (hd x h) d
theorem join_ok {a b c d : Option Int} {m r n s : Int} (k : Ok a b m r) (l : Ok c d n s) : ∃ m' r', restJ m r n s = (m', r') ∧ Ok (lowJ a c) (highJ b d) m' r' ∧ Sub m r m' r' := by
  by_cases h0 : g3 m n (r - s) = 0
  · obtain ⟨rfl, rfl, h⟩ := g3_zero h0
    refine ⟨0, r, by unfold restJ restOf; rw [if_pos h0], ⟨.inl ⟨rfl, ?_, ?_⟩⟩, .inl ⟨rfl, rfl, rfl⟩⟩
    all_goals
      rcases k.h with ⟨_, rfl, rfl⟩ | ⟨hm, _⟩
      · rcases l.h with ⟨_, rfl, rfl⟩ | ⟨hm, _⟩
        · have : s = r := by omega
          subst this
          simp [lowJ, highJ]
        · omega
      · omega
  · have hg : 1 ≤ g3 m n (r - s) := by have := g3_nn m n (r - s); omega
    obtain ⟨d1, d2, d3⟩ := g3_dvd m n (r - s)
    generalize hG : g3 m n (r - s) = g at *
    have er : r.fmod g = s.fmod g := mod_eq hg d3
    have bb := fm_r (x := r) (m := g) (by omega)
    have km : ∀ x, (a = some x ∨ b = some x) → x.fmod g = r.fmod g := fun x h => ok_mod k hg d1 h
    have lm : ∀ x, (c = some x ∨ d = some x) → x.fmod g = r.fmod g := fun x h => (ok_mod l hg d2 h).trans er.symm
    refine ⟨g, r.fmod g, by unfold restJ restOf; rw [hG, if_neg h0], ⟨.inr ⟨hg, bb.1, bb.2, ?_, ?_, ?_⟩⟩, .inr ⟨hg, ?_, rfl⟩⟩
    · intro x e
      cases a with
      | none => cases e
      | some a' => cases c with
        | none => cases e
        | some c' =>
          have e' : (if c' < a' then c' else a') = x := by injection e
          rw [← e']
          split
          · exact lm _ (.inl rfl)
          · exact km _ (.inl rfl)
    · intro x e
      cases b with
      | none => cases e
      | some a' => cases d with
        | none => cases e
        | some c' =>
          have e' : (if c' > a' then c' else a') = x := by injection e
          rw [← e']
          split
          · exact lm _ (.inr rfl)
          · exact km _ (.inr rfl)
    · intro x y ex ey
      cases a with
      | none => cases ex
      | some a' => cases c with
        | none => cases ex
        | some c' => cases b with
          | none => cases ey
          | some b' => cases d with
            | none => cases ey
            | some d' =>
              have e1 : (if c' < a' then c' else a') = x := by injection ex
              have e2 : (if d' > b' then d' else b') = y := by injection ey
              have o1 := ok_le k rfl rfl
              have o2 := ok_le l rfl rfl
              by_cases eq : a' = b' ∧ c' = d' ∧ a' = c'
              · exfalso
                obtain ⟨q1, q2, q3⟩ := eq
                rcases k.h with ⟨z1, z2, z3⟩ | ⟨hm, _, _, _, _, lt⟩
                · rcases l.h with ⟨w1, w2, w3⟩ | ⟨hm, _, _, _, _, lt⟩
                  · injection z2 with z2; injection w2 with w2
                    subst z1 w1
                    have : r - s = 0 := by omega
                    rw [this] at hG
                    exact h0 hG.symm
                  · have := lt c' d' rfl rfl; omega
                · have := lt a' b' rfl rfl; omega
              · split at e1 <;> split at e2 <;> omega
    · rw [fe hg]; exact Int.emod_eq_zero_of_dvd d1
theorem okS (n : Int) : Ok (some n) (some n) 0 n := ⟨.inl ⟨rfl, rfl, rfl⟩⟩
end Sh
set_option Elab.async false
set_option linter.all false
set_option maxRecDepth 100000
set_option maxHeartbeats 4000000
namespace Sh
/-! the greatest common divisor of a list -/
def g2 (a b : Int) : Int := ((Nat.gcd a.natAbs b.natAbs : Nat) : Int)
def dN (ns : List Int) : Nat := ns.foldl (fun g n => Nat.gcd g n.natAbs) 0
def dL (ns : List Int) : Int := ((dN ns : Nat) : Int)
theorem fold_dvd {ns : List Int} : ∀ {g : Nat} {d : Nat}, d ∣ ns.foldl (fun g n => Nat.gcd g n.natAbs) g ↔ d ∣ g ∧ ∀ x, x ∈ ns → d ∣ x.natAbs := by
  induction ns with
  | nil => intro g d; simp
  | cons n ns ih =>
    intro g d
    rw [List.foldl_cons, ih, Nat.dvd_gcd_iff]
    constructor
    · rintro ⟨⟨h1, h2⟩, h3⟩
      exact ⟨h1, fun x hx => by rcases List.mem_cons.mp hx with rfl | hx; exact h2; exact h3 x hx⟩
    · rintro ⟨h1, h2⟩
      exact ⟨⟨h1, h2 n (List.mem_cons_self ..)⟩, fun x hx => h2 x (List.mem_cons_of_mem _ hx)⟩
theorem dL_dvd {ns : List Int} {d : Int} : d ∣ dL ns ↔ ∀ x, x ∈ ns → d ∣ x := by
  unfold dL dN
  rw [← Int.natAbs_dvd_natAbs, Int.natAbs_natCast, fold_dvd]
  constructor
  · rintro ⟨_, h⟩ x hx; exact Int.natAbs_dvd_natAbs.mp (h x hx)
  · intro h; exact ⟨Nat.dvd_zero _, fun x hx => Int.natAbs_dvd_natAbs.mpr (h x hx)⟩
theorem dL_nn (ns : List Int) : 0 ≤ dL ns := Int.natCast_nonneg _
theorem g2_dvd {a b d : Int} : d ∣ g2 a b ↔ d ∣ a ∧ d ∣ b := by
  unfold g2
  rw [← Int.natAbs_dvd_natAbs, Int.natAbs_natCast, Nat.dvd_gcd_iff, Int.natAbs_dvd_natAbs, Int.natAbs_dvd_natAbs]
theorem g3_dvd' {a b c d : Int} : d ∣ g3 a b c ↔ d ∣ a ∧ d ∣ b ∧ d ∣ c := by
  unfold g3
  rw [← Int.natAbs_dvd_natAbs, Int.natAbs_natCast, Nat.dvd_gcd_iff, Nat.dvd_gcd_iff, Int.natAbs_dvd_natAbs, Int.natAbs_dvd_natAbs, Int.natAbs_dvd_natAbs, and_assoc]
theorem eq_of_dvd {a b : Int} (ha : 0 ≤ a) (hb : 0 ≤ b) (h : a ∣ b) (k : b ∣ a) : a = b := by
  have h' := Int.natAbs_dvd_natAbs.mpr h
  have k' := Int.natAbs_dvd_natAbs.mpr k
  have := Nat.dvd_antisymm h' k'
  omega
/-- the law's divisor of a list is what has the same divisors -/
theorem dL_eq {ns : List Int} {g : Int} (hg : 0 ≤ g) (h1 : ∀ x, x ∈ ns → g ∣ x) (h2 : dL ns ∣ g) : dL ns = g := eq_of_dvd (dL_nn _) hg h2 (dL_dvd.mpr h1)
/-! members -/
def ks : List Int := [0, 1, -1, 2, -2, 3]
def mem (m r : Int) : List Int := if m > 0 then ks.map fun k => r + m * k else [r]
def off (some : List Int) (x0 : Int) : List Int := some.map fun n => n - x0
theorem off_mem {l : List Int} {x0 y : Int} : y ∈ off l x0 ↔ y + x0 ∈ l := by
  unfold off
  rw [List.mem_map]
  constructor
  · rintro ⟨n, h, rfl⟩; rw [Int.sub_add_cancel]; exact h
  · intro h; exact ⟨y + x0, h, by omega⟩
theorem off_dvd {l : List Int} {x0 d : Int} : (∀ y, y ∈ off l x0 → d ∣ y) ↔ ∀ x, x ∈ l → d ∣ x - x0 := by
  constructor
  · intro h x hx; exact h _ (off_mem.mpr (by rw [Int.sub_add_cancel]; exact hx))
  · intro h y hy; have := h _ (off_mem.mp hy); rwa [Int.add_sub_cancel] at this
theorem dL_off {l : List Int} {x0 x : Int} (h : x ∈ l) : dL (off l x0) ∣ x - x0 := off_dvd.mp (dL_dvd.mp (Int.dvd_refl _)) x h
/-! quotients of members -/
theorem dvd_q {m d : Int} (hd : d ≠ 0) (h : d ∣ m) : m = d * m.fdiv d := by
  have := Int.fdiv_mul_cancel h
  rw [Int.mul_comm]; exact this.symm
def restO (m n : Int) : IP := if m = 0 then (0, n) else (m, n.fmod m)
/-! Euclid's steps -/
theorem fm_lt {x m : Int} (h : 0 < m) : 0 ≤ x.fmod m ∧ x.fmod m < m := by
  rw [fe (by omega)]; exact ⟨Int.emod_nonneg x (by omega), Int.emod_lt_of_pos x h⟩
theorem g2_step {h l : Int} (h0 : 0 ≤ h) (l0 : 0 < l) : g2 l (h.fmod l) = g2 h l := by
  refine eq_of_dvd (Int.natCast_nonneg _) (Int.natCast_nonneg _) ?_ ?_
  · obtain ⟨a, b⟩ := g2_dvd.mp (Int.dvd_refl (g2 l (h.fmod l)))
    refine g2_dvd.mpr ⟨?_, a⟩
    have := Int.dvd_add b (Int.dvd_trans a (Int.dvd_mul_right l (h.fdiv l)))
    rwa [show h.fmod l + l * h.fdiv l = h by rw [Int.fmod_def]; omega] at this
  · obtain ⟨a, b⟩ := g2_dvd.mp (Int.dvd_refl (g2 h l))
    refine g2_dvd.mpr ⟨b, ?_⟩
    have : g2 h l ∣ h - l * h.fdiv l := Int.dvd_sub a (Int.dvd_trans b (Int.dvd_mul_right l (h.fdiv l)))
    rwa [← Int.fmod_def] at this
theorem g2_zero {h : Int} (h0 : 0 ≤ h) : g2 h 0 = h := by
  unfold g2
  rw [Int.natAbs_zero, Nat.gcd_zero_right]; omega
def ext (h l b w : Int) : Int := if hl : 0 < l then ext l (h.fmod l) w (b - h.fdiv l * w) else b
termination_by l.toNat
decreasing_by have := fm_lt (x := h) hl; omega
theorem ext_0 {h b w : Int} : ext h 0 b w = b := by rw [ext]; simp
theorem ext_s {h l b w : Int} (hl : 0 < l) : ext h l b w = ext l (h.fmod l) w (b - h.fdiv l * w) := by rw [ext, dif_pos hl]
theorem ext_spec {n m : Int} : ∀ (k : Nat) {h l b w : Int}, l.toNat ≤ k → 0 ≤ l → 0 ≤ h → m ∣ n * b - h → m ∣ n * w - l → m ∣ n * ext h l b w - g2 h l
  | k, h, l, b, w, hk, l0, h0, d1, d2 => by
    by_cases hl : l = 0
    · subst hl
      rw [ext_0, g2_zero h0]; exact d1
    · have lp : 0 < l := by omega
      have fl := fm_lt (x := h) lp
      rw [ext_s lp, ← g2_step h0 lp]
      cases k with
      | zero => omega
      | succ k =>
        refine ext_spec k (by omega) fl.1 l0 d2 ?_
        have e : n * (b - h.fdiv l * w) - h.fmod l = (n * b - h) - h.fdiv l * (n * w - l) := by
          rw [Int.fmod_def, Int.mul_sub, Int.mul_sub, Int.mul_left_comm n (h.fdiv l) w, Int.mul_comm (h.fdiv l) l]; omega
        rw [e]
        exact Int.dvd_sub d1 (Int.dvd_trans d2 (Int.dvd_mul_left _ _))
def invF (n m : Int) : Int := (ext m (n.fmod m) 0 1).fmod m
theorem dvd_mod {x m : Int} : m ∣ x - x.fmod m := ⟨x.fdiv m, by rw [Int.fmod_def]; omega⟩
theorem inv_spec {n m : Int} (hm : 0 < m) : m ∣ n * invF n m - g2 m n := by
  have fl := fm_lt (x := n) hm
  have a : m ∣ n * ext m (n.fmod m) 0 1 - g2 m (n.fmod m) := by
    refine ext_spec _ (Nat.le_refl _) fl.1 (by omega) ?_ ?_
    · rw [Int.mul_zero, Int.zero_sub]; exact Int.dvd_neg.mpr (Int.dvd_refl m)
    · rw [Int.mul_one]; exact dvd_mod
  have g : g2 m (n.fmod m) = g2 m n := by
    refine eq_of_dvd (Int.natCast_nonneg _) (Int.natCast_nonneg _) ?_ ?_
    · obtain ⟨x, y⟩ := g2_dvd.mp (Int.dvd_refl (g2 m (n.fmod m)))
      refine g2_dvd.mpr ⟨x, ?_⟩
      have := Int.dvd_add (Int.dvd_trans x (dvd_mod (x := n) (m := m))) y
      rwa [Int.sub_add_cancel] at this
    · obtain ⟨x, y⟩ := g2_dvd.mp (Int.dvd_refl (g2 m n))
      refine g2_dvd.mpr ⟨x, ?_⟩
      have := Int.dvd_sub y (Int.dvd_trans x (dvd_mod (x := n) (m := m)))
      rwa [show n - (n - n.fmod m) = n.fmod m by omega] at this
  rw [g] at a
  have b : m ∣ n * (ext m (n.fmod m) 0 1 - invF n m) := Int.dvd_trans dvd_mod (Int.dvd_mul_left _ _)
  rw [Int.mul_sub] at b
  have := Int.dvd_sub a b
  rwa [show n * ext m (n.fmod m) 0 1 - g2 m n - (n * ext m (n.fmod m) 0 1 - n * invF n m) = n * invF n m - g2 m n by omega] at this
/-! common members -/
/-- what the meet of two rests is, None if the flag is off -/
def meetP (m r n s : Int) : IP := restO (m.fdiv (g2 m n) * n) (r + m * ((s - r).fdiv (g2 m n) * invF (m.fdiv (g2 m n)) (n.fdiv (g2 m n))))
def meetO (m r n s : Int) : Option (IP) := if m = 0 then (if hasB n s r then some (0, r) else none) else if n = 0 then (if hasB m r s then some (0, s) else none)
  else if (s - r).fmod (g2 m n) = 0 then some (meetP m r n s) else none
section
variable {m r n s : Int} (hm : 0 < m) (hn : 0 < n)
include hm hn
theorem g_pos : 0 < g2 m n := by
  have : 0 ≤ g2 m n := Int.natCast_nonneg _
  rcases Int.lt_or_eq_of_le this with h | h
  · exact h
  · obtain ⟨a, _⟩ := g2_dvd.mp (Int.dvd_refl (g2 m n))
    rw [← h] at a
    have := Int.zero_dvd.mp a
    omega
theorem lcm_is : 0 < m.fdiv (g2 m n) * n ∧ m ∣ m.fdiv (g2 m n) * n ∧ n ∣ m.fdiv (g2 m n) * n ∧ (m * n).fdiv (g2 m n) = m.fdiv (g2 m n) * n ∧ ∀ z, m ∣ z → n ∣ z → m.fdiv (g2 m n) * n ∣ z := by
  have gp := g_pos hm hn
  obtain ⟨a, b⟩ := g2_dvd.mp (Int.dvd_refl (g2 m n))
  have ea := dvd_q (by omega) a
  have eb := dvd_q (by omega) b
  have sp := inv_spec (n := m.fdiv (g2 m n)) (m := n.fdiv (g2 m n)) (by
    rcases Int.lt_trichotomy (n.fdiv (g2 m n)) 0 with h | h | h
    · have := Int.mul_neg_of_pos_of_neg gp h; omega
    · rw [h, Int.mul_zero] at eb; omega
    · exact h)
  have mp : 0 < m.fdiv (g2 m n) := by
    rcases Int.lt_trichotomy (m.fdiv (g2 m n)) 0 with h | h | h
    · have := Int.mul_neg_of_pos_of_neg gp h; omega
    · rw [h, Int.mul_zero] at ea; omega
    · exact h
  have cop : g2 (n.fdiv (g2 m n)) (m.fdiv (g2 m n)) = 1 := by
    have h0 : 0 ≤ g2 (n.fdiv (g2 m n)) (m.fdiv (g2 m n)) := Int.natCast_nonneg _
    obtain ⟨x, y⟩ := g2_dvd.mp (Int.dvd_refl (g2 (n.fdiv (g2 m n)) (m.fdiv (g2 m n))))
    have : g2 m n * g2 (n.fdiv (g2 m n)) (m.fdiv (g2 m n)) ∣ g2 m n * 1 := by
      rw [Int.mul_one]
      refine g2_dvd.mpr ⟨?_, ?_⟩
      · conv => rhs; rw [ea]
        exact Int.mul_dvd_mul (Int.dvd_refl _) y
      · conv => rhs; rw [eb]
        exact Int.mul_dvd_mul (Int.dvd_refl _) x
    have := Int.dvd_of_mul_dvd_mul_left (by omega) this
    exact eq_of_dvd h0 (by decide) this (Int.one_dvd _)
  rw [cop] at sp
  generalize hg : g2 m n = g at *
  generalize hM : m.fdiv g = M at *
  generalize hN : n.fdiv g = N at *
  refine ⟨Int.mul_pos mp hn, ?_, Int.dvd_mul_left _ _, ?_, ?_⟩
  · rw [ea, eb]
    exact ⟨N, by rw [Int.mul_assoc, Int.mul_comm M, Int.mul_assoc]; congr 1; rw [Int.mul_comm]⟩
  · rw [ea, Int.mul_assoc]
    have := Int.add_mul_fdiv_left 0 (M * n) (b := g) (by omega)
    rw [Int.zero_add, Int.zero_fdiv, Int.zero_add] at this
    exact this
  · intro z h1 h2
    obtain ⟨u, rfl⟩ := h2
    have hh : M ∣ N * u := by
      rw [ea, eb, Int.mul_assoc] at h1
      exact Int.dvd_of_mul_dvd_mul_left (by omega) h1
    obtain ⟨v, hv⟩ := sp
    have : M ∣ u := by
      have e : u = M * (invF M N * u) - v * (N * u) := by
        have : M * invF M N = N * v + 1 := by omega
        rw [← Int.mul_assoc, this, Int.add_mul, Int.one_mul, Int.mul_comm N v, Int.mul_assoc]; omega
      rw [e]
      exact Int.dvd_sub (Int.dvd_mul_right _ _) (Int.dvd_trans hh (Int.dvd_mul_left _ _))
    rw [Int.mul_comm M n]
    exact Int.mul_dvd_mul (Int.dvd_refl n) this
theorem meet_in (h : (s - r).fmod (g2 m n) = 0) : m ∣ (r + m * ((s - r).fdiv (g2 m n) * invF (m.fdiv (g2 m n)) (n.fdiv (g2 m n)))) - r ∧ n ∣ (r + m * ((s - r).fdiv (g2 m n) * invF (m.fdiv (g2 m n)) (n.fdiv (g2 m n)))) - s := by
  have gp := g_pos hm hn
  obtain ⟨a, b⟩ := g2_dvd.mp (Int.dvd_refl (g2 m n))
  have ea := dvd_q (by omega) a
  have eb := dvd_q (by omega) b
  have es := dvd_q (by omega) (Int.dvd_of_fmod_eq_zero h)
  have np : 0 < n.fdiv (g2 m n) := by
    rcases Int.lt_trichotomy (n.fdiv (g2 m n)) 0 with h | h | h
    · have := Int.mul_neg_of_pos_of_neg gp h; omega
    · rw [h, Int.mul_zero] at eb; omega
    · exact h
  have sp := inv_spec (n := m.fdiv (g2 m n)) (m := n.fdiv (g2 m n)) np
  have cop : g2 (n.fdiv (g2 m n)) (m.fdiv (g2 m n)) = 1 := by
    have h0 : 0 ≤ g2 (n.fdiv (g2 m n)) (m.fdiv (g2 m n)) := Int.natCast_nonneg _
    obtain ⟨x, y⟩ := g2_dvd.mp (Int.dvd_refl (g2 (n.fdiv (g2 m n)) (m.fdiv (g2 m n))))
    have : g2 m n * g2 (n.fdiv (g2 m n)) (m.fdiv (g2 m n)) ∣ g2 m n * 1 := by
      rw [Int.mul_one]
      refine g2_dvd.mpr ⟨?_, ?_⟩
      · conv => rhs; rw [ea]
        exact Int.mul_dvd_mul (Int.dvd_refl _) y
      · conv => rhs; rw [eb]
        exact Int.mul_dvd_mul (Int.dvd_refl _) x
    have := Int.dvd_of_mul_dvd_mul_left (by omega) this
    exact eq_of_dvd h0 (by decide) this (Int.one_dvd _)
  rw [cop] at sp
  generalize hg : g2 m n = g at *
  generalize hM : m.fdiv g = M at *
  generalize hN : n.fdiv g = N at *
  generalize hS : (s - r).fdiv g = S at *
  generalize invF M N = v at *
  constructor
  · rw [show r + m * (S * v) - r = m * (S * v) by omega]; exact Int.dvd_mul_right _ _
  · have e : r + m * (S * v) - s = n * S * 0 + (g * S) * (M * v - 1) := by
      have e1 : m * (S * v) = (g * S) * (M * v) := by
        rw [ea, Int.mul_assoc, Int.mul_assoc]; congr 1; rw [Int.mul_left_comm]
      rw [e1, Int.mul_zero, Int.zero_add, Int.mul_sub, Int.mul_one, ← es]; omega
    rw [e, Int.mul_zero, Int.zero_add]
    obtain ⟨u, hu⟩ := sp
    rw [hu]
    refine ⟨S * u, ?_⟩
    rw [eb, Int.mul_assoc, Int.mul_assoc]; congr 1; rw [Int.mul_left_comm]
theorem meet_is (h : (s - r).fmod (g2 m n) = 0) : ∃ L x, meetP m r n s = (L, x) ∧ L = m.fdiv (g2 m n) * n ∧ 0 ≤ x ∧ x < L ∧ m ∣ x - r ∧ n ∣ x - s := by
  obtain ⟨l0, l1, l2, l3, l4⟩ := lcm_is hm hn
  obtain ⟨h1, h2⟩ := meet_in hm hn h
  unfold meetP restO
  generalize (r + m * ((s - r).fdiv (g2 m n) * invF (m.fdiv (g2 m n)) (n.fdiv (g2 m n)))) = y at *
  generalize m.fdiv (g2 m n) * n = L at *
  have f := fm_lt (x := y) l0
  refine ⟨L, y.fmod L, if_neg (by omega), rfl, f.1, f.2, ?_, ?_⟩
  · have := Int.dvd_sub h1 (Int.dvd_trans l1 (dvd_mod (x := y) (m := L)))
    rwa [show y - r - (y - y.fmod L) = y.fmod L - r by omega] at this
  · have := Int.dvd_sub h2 (Int.dvd_trans l2 (dvd_mod (x := y) (m := L)))
    rwa [show y - s - (y - y.fmod L) = y.fmod L - s by omega] at this
end
end Sh
set_option Elab.async false
set_option linter.all false
set_option maxRecDepth 100000
set_option maxHeartbeats 4000000
namespace Sh
open PySem PySem.Spec PyProof.Rows L2
/-! ascending lists by their ends -/
theorem last_max : ∀ {ns : List Int} {x : Int}, ns.Pairwise (· < ·) → ns.getLast? = some x → ∀ y, y ∈ ns → y ≤ x
  | [], _, _, h, _, _ => by cases h
  | [z], x, _, h, y, hy => by
    cases h
    rcases List.mem_cons.mp hy with rfl | hy
    · exact Int.le_refl _
    · cases hy
  | z :: w :: ns, x, pw, h, y, hy => by
    rw [List.getLast?_cons_cons] at h
    have pw2 := (List.pairwise_cons.mp pw)
    rcases List.mem_cons.mp hy with rfl | hy
    · have := last_max pw2.2 h w (List.mem_cons_self ..)
      have := pw2.1 w (List.mem_cons_self ..)
      omega
    · exact last_max pw2.2 h y hy
theorem last_in {ns : List Int} {x : Int} (h : ns.getLast? = some x) : x ∈ ns := List.mem_of_getLast? h
theorem last_of {ns : List Int} {z : Int} (pw : ns.Pairwise (· < ·)) (h1 : z ∈ ns) (h2 : ∀ y, y ∈ ns → y ≤ z) : ns.getLast? = some z := by
  cases h : ns.getLast? with
  | none => rw [List.getLast?_eq_none_iff.mp h] at h1; cases h1
  | some x =>
    have := last_max pw h z h1
    have := h2 x (last_in h)
    rw [show x = z by omega]
theorem head_of {ns : List Int} {z : Int} (pw : ns.Pairwise (· < ·)) (h1 : z ∈ ns) (h2 : ∀ y, y ∈ ns → z ≤ y) : ∃ t, ns = z :: t := by
  cases ns with
  | nil => cases h1
  | cons v t =>
    have := h2 v (List.mem_cons_self ..)
    rcases List.mem_cons.mp h1 with rfl | h
    · exact ⟨t, rfl⟩
    · have := (List.pairwise_cons.mp pw).1 z h
      omega
theorem fm_add {x L : Int} (hL : 1 ≤ L) : (x + L).fmod L = x.fmod L := by rw [fe hL, fe hL, Int.add_emod_right]
theorem seq_is {A B L r : Int} (hL : 1 ≤ L) {w : List Int} (pw : w.Pairwise (· < ·)) (hm : ∀ x, x ∈ w ↔ A ≤ x ∧ x ≤ B ∧ x.fmod L = r) (eA : A.fmod L = r) (eB : B.fmod L = r) :
    (B < A → w = []) ∧ (A = B → w = [A]) ∧ (A < B → ∃ u t, w = A :: u :: t ∧ u - A = L ∧ w.getLast? = some B) := by
  refine ⟨fun h => ?_, fun h => ?_, fun h => ?_⟩
  · cases w with
    | nil => rfl
    | cons v t =>
      have := (hm v).mp (List.mem_cons_self ..)
      omega
  · subst h
    obtain ⟨t, rfl⟩ := head_of pw ((hm A).mpr ⟨Int.le_refl _, Int.le_refl _, eA⟩) fun y hy => ((hm y).mp hy).1
    cases t with
    | nil => rfl
    | cons u t =>
      have := (hm u).mp (List.mem_cons_of_mem _ (List.mem_cons_self ..))
      have := (List.pairwise_cons.mp pw).1 u (List.mem_cons_self ..)
      omega
  · have ap := apart hL (eA.trans eB.symm) h
    obtain ⟨t, rfl⟩ := head_of pw ((hm A).mpr ⟨Int.le_refl _, by omega, eA⟩) fun y hy => ((hm y).mp hy).1
    have pw2 := List.pairwise_cons.mp pw
    have hu : A + L ∈ t := by
      rcases List.mem_cons.mp ((hm (A + L)).mpr ⟨by omega, by omega, by rw [fm_add hL]; exact eA⟩) with h | h
      · omega
      · exact h
    obtain ⟨t2, rfl⟩ := head_of (z := A + L) pw2.2 hu fun y hy => by
      have h1 := (hm y).mp (List.mem_cons_of_mem _ hy)
      have h2 := pw2.1 y hy
      exact apart hL (eA.trans h1.2.2.symm) h2
    exact ⟨A + L, t2, rfl, by omega, last_of pw ((hm B).mpr ⟨by omega, Int.le_refl _, eB⟩) fun y hy => ((hm y).mp hy).2.1⟩
/-! the value of a window -/
def near (o : Option Int) : Prop := ∀ x, o = some x → -48 ≤ x ∧ x ≤ 48
theorem lets_lo {lo hi : Option Int} {x : Int} (h : letsB lo hi x = true) : (∀ y, lo = some y → y ≤ x) ∧ ∀ y, hi = some y → x ≤ y := by
  unfold letsB at h
  rw [Bool.and_eq_true] at h
  exact ⟨fun y e => by subst e; exact lw_le h.1, fun y e => by subst e; exact hw_le h.2⟩
theorem lets_of {lo hi : Option Int} {x : Int} (h1 : ∀ y, lo = some y → y ≤ x) (h2 : ∀ y, hi = some y → x ≤ y) : letsB lo hi x = true := by
  unfold letsB
  rw [Bool.and_eq_true]
  constructor
  · cases lo with
    | none => rfl
    | some y => exact decide_eq_true (h1 y rfl)
  · cases hi with
    | none => rfl
    | some y => exact decide_eq_true (h2 y rfl)
def loW (L r : Int) : Option Int → Int
  | some x => upR r L x
  | none => upR r L (-160)
def hiW (L r : Int) : Option Int → Int
  | some x => dnR r L x
  | none => dnR r L 160
theorem val_is {lo hi : Option Int} {L r : Int} (hL : 1 ≤ L) (hL2 : L ≤ 56) (r0 : 0 ≤ r) (r1 : r < L) (bl : near lo) (bh : near hi) {w : List Int} (pw : w.Pairwise (· < ·))
    (hm : ∀ x, x ∈ w ↔ (-160 ≤ x ∧ x ≤ 160) ∧ letsB lo hi x = true ∧ x.fmod L = r) :
    (lo ≠ none ∧ hi ≠ none ∧ w = [] ∧ voD lo hi L r = .non) ∨ (∃ v, lo ≠ none ∧ hi ≠ none ∧ w = [v] ∧ letsB lo hi v = true ∧ v.fmod L = r ∧ voD lo hi L r = vD (some v) (some v) 0 v) ∨
    ∃ v u t z, w = v :: u :: t ∧ w.getLast? = some z ∧ u - v = L ∧ v.fmod L = r ∧ z.fmod L = r ∧ v < z ∧ v = loW L r lo ∧ z = hiW L r hi ∧ voD lo hi L r = vD (lo.map fun _ => v) (hi.map fun _ => z) L r := by
  have eA : (loW L r lo).fmod L = r := by cases lo <;> exact up_mod hL r0 r1
  have eB : (hiW L r hi).fmod L = r := by cases hi <;> exact dn_mod hL r0 r1
  have hw : ∀ x, x ∈ w ↔ loW L r lo ≤ x ∧ x ≤ hiW L r hi ∧ x.fmod L = r := by
    intro x
    rw [hm]
    constructor
    · rintro ⟨⟨h1, h2⟩, h3, h4⟩
      obtain ⟨l1, l2⟩ := lets_lo h3
      refine ⟨?_, ?_, h4⟩
      · cases lo with
        | none => exact up_le hL r0 r1 h1 h4
        | some y => exact up_le hL r0 r1 (l1 y rfl) h4
      · cases hi with
        | none => exact dn_ge hL r0 r1 h2 h4
        | some y => exact dn_ge hL r0 r1 (l2 y rfl) h4
    · rintro ⟨h1, h2, h3⟩
      have q1 : ∀ y, lo = some y → y ≤ x := fun y e => by
        subst e
        have h1' : upR r L y ≤ x := h1
        have := (up_b (x := y) (r := r) hL).1
        omega
      have q2 : ∀ y, hi = some y → x ≤ y := fun y e => by
        subst e
        have h2' : x ≤ dnR r L y := h2
        have := (dn_b (x := y) (r := r) hL).1
        omega
      refine ⟨⟨?_, ?_⟩, lets_of q1 q2, h3⟩
      · cases lo with
        | none =>
          have h1' : upR r L (-160) ≤ x := h1
          have := (up_b (x := -160) (r := r) hL).1
          omega
        | some y => have := q1 y rfl; have := bl y rfl; omega
      · cases hi with
        | none =>
          have h2' : x ≤ dnR r L 160 := h2
          have := (dn_b (x := 160) (r := r) hL).1
          omega
        | some y => have := q2 y rfl; have := bh y rfl; omega
  obtain ⟨s1, s2, s3⟩ := seq_is hL pw hw eA eB
  have hL0 : ¬ L = 0 := by omega
  rcases Int.lt_trichotomy (loW L r lo) (hiW L r hi) with h | h | h
  · obtain ⟨u, t, e, eu, el⟩ := s3 h
    refine .inr (.inr ⟨_, u, t, _, e, el, eu, eA, eB, h, rfl, rfl, ?_⟩)
    unfold voD
    rw [if_neg hL0]
    cases lo with
    | none => cases hi <;> rfl
    | some x => cases hi with
      | none => rfl
      | some y =>
        have h' : upR r L x < dnR r L y := h
        show (if dnR r L y ≤ upR r L x then _ else _) = _
        rw [if_neg (by omega)]; rfl
  · have hn : lo ≠ none ∧ hi ≠ none := by
      constructor
      · rintro rfl
        have h1 := (up_b (x := -160) (r := r) hL).2
        have h' : upR r L (-160) = hiW L r hi := h
        cases hi with
        | none => have := (dn_b (x := 160) (r := r) hL).2; have h2 : upR r L (-160) = dnR r L 160 := h'; omega
        | some y => have := (dn_b (x := y) (r := r) hL).2; have := bh y rfl; have h2 : upR r L (-160) = dnR r L y := h'; omega
      · rintro rfl
        have h1 := (dn_b (x := 160) (r := r) hL).2
        have h' : loW L r lo = dnR r L 160 := h
        cases lo with
        | none => have := (up_b (x := -160) (r := r) hL).2; have h2 : upR r L (-160) = dnR r L 160 := h'; omega
        | some y => have := (up_b (x := y) (r := r) hL).2; have := bl y rfl; have h2 : upR r L y = dnR r L 160 := h'; omega
    have hin : loW L r lo ∈ w := by rw [s2 h]; exact List.mem_cons_self ..
    refine .inr (.inl ⟨_, hn.1, hn.2, s2 h, ((hm _).mp hin).2.1, eA, ?_⟩)
    unfold voD
    rw [if_neg hL0]
    cases lo with
    | none => exact absurd rfl hn.1
    | some x => cases hi with
      | none => exact absurd rfl hn.2
      | some y =>
        have h' : upR r L x = dnR r L y := h
        show (if dnR r L y ≤ upR r L x then _ else _) = _
        rw [if_pos (by omega), if_pos h']; rfl
  · have hn : lo ≠ none ∧ hi ≠ none := by
      constructor
      · rintro rfl
        have h1 := (up_b (x := -160) (r := r) hL).2
        have h' : hiW L r hi < upR r L (-160) := h
        cases hi with
        | none => have := (dn_b (x := 160) (r := r) hL).2; have h2 : dnR r L 160 < upR r L (-160) := h'; omega
        | some y => have := (dn_b (x := y) (r := r) hL).2; have := bh y rfl; have h2 : dnR r L y < upR r L (-160) := h'; omega
      · rintro rfl
        have h1 := (dn_b (x := 160) (r := r) hL).2
        have h' : dnR r L 160 < loW L r lo := h
        cases lo with
        | none => have := (up_b (x := -160) (r := r) hL).2; have h2 : dnR r L 160 < upR r L (-160) := h'; omega
        | some y => have := (up_b (x := y) (r := r) hL).2; have := bl y rfl; have h2 : dnR r L 160 < upR r L y := h'; omega
    refine .inl ⟨hn.1, hn.2, s1 h, ?_⟩
    unfold voD
    rw [if_neg hL0]
    cases lo with
    | none => exact absurd rfl hn.1
    | some x => cases hi with
      | none => exact absurd rfl hn.2
      | some y =>
        have h' : dnR r L y < upR r L x := h
        show (if dnR r L y ≤ upR r L x then _ else _) = _
        rw [if_pos (by omega), if_neg (by omega)]
end Sh
set_option Elab.async false
set_option linter.all false
set_option maxRecDepth 100000
set_option maxHeartbeats 4000000
namespace Sh
open PySem PySem.Spec PyProof.Rows L2
/-! windows -/
def rgI : List Int := (List.range 321).map fun (i : Nat) => -160 + (i : Int)
theorem rgI_pw : rgI.Pairwise (· < ·) := by
  unfold rgI
  rw [List.pairwise_map]
  exact List.Pairwise.imp (fun h => by omega) List.pairwise_lt_range
theorem rgI_mem {x : Int} : x ∈ rgI ↔ -160 ≤ x ∧ x ≤ 160 := by
  unfold rgI
  rw [List.mem_map]
  constructor
  · rintro ⟨i, hi, rfl⟩
    have := List.mem_range.mp hi
    omega
  · rintro ⟨h1, h2⟩
    exact ⟨(x + 160).toNat, List.mem_range.mpr (by omega), by omega⟩
def inR (m r x : Int) : Bool := decide (x = r) || (decide (0 < m) && decide ((x - r).fmod m = 0))
def wn (lo hi : Option Int) (m r : Int) : List Int := ((rgI.filter (inR m r)).filter fun x => lwB (some x) lo).filter fun x => hwB (some x) hi
theorem wn_pw {lo hi : Option Int} {m r : Int} : (wn lo hi m r).Pairwise (· < ·) := ((rgI_pw.filter _).filter _).filter _
theorem wn_len {lo hi : Option Int} {m r : Int} : (wn lo hi m r).length ≤ 321 := by
  unfold wn
  refine Nat.le_trans (List.length_filter_le _ _) (Nat.le_trans (List.length_filter_le _ _) (Nat.le_trans (List.length_filter_le _ _) ?_))
  unfold rgI; rw [List.length_map, List.length_range]; exact Nat.le_refl _
theorem wn_mem {lo hi : Option Int} {m r x : Int} : x ∈ wn lo hi m r ↔ (-160 ≤ x ∧ x ≤ 160) ∧ letsB lo hi x = true ∧ inR m r x = true := by
  unfold wn letsB
  rw [List.mem_filter, List.mem_filter, List.mem_filter, rgI_mem, Bool.and_eq_true]
  constructor
  · rintro ⟨⟨⟨h1, h2⟩, h3⟩, h4⟩; exact ⟨h1, ⟨h3, h4⟩, h2⟩
  · rintro ⟨h1, ⟨h3, h4⟩, h2⟩; exact ⟨⟨⟨h1, h2⟩, h3⟩, h4⟩
theorem inR0 {r x : Int} : inR 0 r x = true ↔ x = r := by unfold inR; simp
theorem inRm {m r x : Int} (hm : 1 ≤ m) (r0 : 0 ≤ r) (r1 : r < m) : inR m r x = true ↔ x.fmod m = r := by
  unfold inR
  rw [Bool.or_eq_true, Bool.and_eq_true, decide_eq_true_eq, decide_eq_true_eq, decide_eq_true_eq]
  constructor
  · rintro (rfl | ⟨_, h⟩)
    · rw [fe hm]; exact Int.emod_eq_of_lt r0 r1
    · have := mod_eq hm (Int.dvd_of_fmod_eq_zero h)
      rw [this, fe hm]; exact Int.emod_eq_of_lt r0 r1
  · intro h
    exact .inr ⟨by omega, (fm_same hm h).2⟩
theorem single_of {w : List Int} {r : Int} (pw : w.Pairwise (· < ·)) (h : ∀ x, x ∈ w ↔ x = r) : w = [r] := by
  obtain ⟨t, rfl⟩ := head_of (z := r) pw ((h r).mpr rfl) fun y hy => by rw [(h y).mp hy]; exact Int.le_refl _
  cases t with
  | nil => rfl
  | cons u t =>
    have := (h u).mp (List.mem_cons_of_mem _ (List.mem_cons_self ..))
    have := (List.pairwise_cons.mp pw).1 u (List.mem_cons_self ..)
    omega
/-! drawn bounds and rests -/
structure Raw (lo hi : Option Int) (m r : Int) : Prop where
  l : ∀ x, lo = some x → -40 ≤ x ∧ x ≤ 40
  h : ∀ x, hi = some x → -40 ≤ x ∧ x ≤ 40
  m : (m = 0 ∧ -40 ≤ r ∧ r ≤ 40) ∨ (1 ≤ m ∧ m ≤ 8 ∧ 0 ≤ r ∧ r < m)
theorem Raw.nl {lo hi : Option Int} {m r : Int} (k : Raw lo hi m r) : near lo := fun x e => by have := k.l x e; omega
theorem Raw.nh {lo hi : Option Int} {m r : Int} (k : Raw lo hi m r) : near hi := fun x e => by have := k.h x e; omega
structure Vl (lo hi : Option Int) (m r : Int) : Prop where
  ok : Ok lo hi m r
  l : near lo
  h : near hi
  m : 0 ≤ m ∧ m ≤ 8
  r : -48 ≤ r ∧ r ≤ 48
/-- the law's value of drawn ones: what it sees -/
theorem raw_is {lo hi : Option Int} {m r : Int} (k : Raw lo hi m r) :
    (wn lo hi m r = [] ∧ voD lo hi m r = .non) ∨ (∃ v, wn lo hi m r = [v] ∧ Vl (some v) (some v) 0 v ∧ voD lo hi m r = vD (some v) (some v) 0 v) ∨
    ∃ v u t z, wn lo hi m r = v :: u :: t ∧ (wn lo hi m r).getLast? = some z ∧ v.fmod m = r ∧ 1 ≤ m ∧ Vl (lo.map fun _ => v) (hi.map fun _ => z) m r ∧ voD lo hi m r = vD (lo.map fun _ => v) (hi.map fun _ => z) m r := by
  rcases k.m with ⟨rfl, h1, h2⟩ | ⟨h1, h2, h3, h4⟩
  · cases hl : letsB lo hi r with
    | true =>
      refine .inr (.inl ⟨r, single_of wn_pw fun x => ?_, ⟨okS r, fun x e => by cases e; omega, fun x e => by cases e; omega, by omega, by omega⟩, by unfold voD; rw [if_pos rfl, if_pos hl]⟩)
      rw [wn_mem, inR0]
      constructor
      · rintro ⟨_, _, h⟩; exact h
      · rintro rfl; exact ⟨by omega, hl, rfl⟩
    | false =>
      refine .inl ⟨?_, by unfold voD; rw [if_pos rfl, if_neg (by rw [hl]; decide)]⟩
      cases hw : wn lo hi 0 r with
      | nil => rfl
      | cons v t =>
        have : v ∈ wn lo hi 0 r := by rw [hw]; exact List.mem_cons_self ..
        obtain ⟨_, q1, q2⟩ := wn_mem.mp this
        rw [inR0.mp q2, hl] at q1
        cases q1
  · have hm : ∀ x, x ∈ wn lo hi m r ↔ (-160 ≤ x ∧ x ≤ 160) ∧ letsB lo hi x = true ∧ x.fmod m = r := fun x => by rw [wn_mem, inRm h1 h3 h4]
    rcases val_is h1 (by omega) h3 h4 k.nl k.nh wn_pw hm with ⟨_, _, e, ev⟩ | ⟨v, n1, n2, e, hl, _, ev⟩ | ⟨v, u, t, z, e, el, eu, e1, e2, lt, eA, eB, ev⟩
    · exact .inl ⟨e, ev⟩
    · refine .inr (.inl ⟨v, e, ?_, ev⟩)
      obtain ⟨q1, q2⟩ := lets_lo hl
      obtain ⟨x, rfl⟩ := Option.ne_none_iff_exists'.mp n1
      obtain ⟨y, rfl⟩ := Option.ne_none_iff_exists'.mp n2
      have := q1 x rfl; have := q2 y rfl; have := k.l x rfl; have := k.h y rfl
      exact ⟨okS v, fun x e => by cases e; omega, fun x e => by cases e; omega, by omega, by omega⟩
    · refine .inr (.inr ⟨v, u, t, z, e, el, e1, h1, ⟨⟨.inr ⟨h1, h3, h4, ?_, ?_, ?_⟩⟩, ?_, ?_, by omega, by omega⟩, ev⟩)
      · intro x ex; obtain ⟨y, _, rfl⟩ := Option.map_eq_some_iff.mp ex; exact e1
      · intro x ex; obtain ⟨y, _, rfl⟩ := Option.map_eq_some_iff.mp ex; exact e2
      · intro x y ex ey; obtain ⟨_, _, rfl⟩ := Option.map_eq_some_iff.mp ex; obtain ⟨_, _, rfl⟩ := Option.map_eq_some_iff.mp ey; exact lt
      · intro x ex; obtain ⟨y, ey, rfl⟩ := Option.map_eq_some_iff.mp ex
        subst ey
        have b := up_b (x := y) (r := r) h1
        have := k.l y rfl
        have e : v = upR r m y := eA
        omega
      · intro x ex; obtain ⟨y, ey, rfl⟩ := Option.map_eq_some_iff.mp ex
        subst ey
        have b := dn_b (x := y) (r := r) h1
        have := k.h y rfl
        have e : z = dnR r m y := eB
        omega
/-- what is seen of a value -/
theorem win_is {a b : Option Int} {m r : Int} (k : Vl a b m r) :
    (m = 0 ∧ a = some r ∧ b = some r ∧ wn a b m r = [r]) ∨ ∃ v u t z, 1 ≤ m ∧ wn a b m r = v :: u :: t ∧ (wn a b m r).getLast? = some z ∧ u - v = m ∧ v.fmod m = r ∧ (∀ x, a = some x → v = x) ∧ (∀ y, b = some y → z = y) ∧ ∀ x, x ∈ wn a b m r → x.fmod m = r := by
  rcases k.ok.h with ⟨rfl, rfl, rfl⟩ | ⟨h1, h3, h4, hl, hh, lt⟩
  · refine .inl ⟨rfl, rfl, rfl, single_of wn_pw fun x => ?_⟩
    have := k.r
    rw [wn_mem, inR0]
    constructor
    · rintro ⟨_, _, h⟩; exact h
    · rintro rfl; exact ⟨by omega, lets_of (fun y e => by cases e; exact Int.le_refl _) (fun y e => by cases e; exact Int.le_refl _), rfl⟩
  · have hm : ∀ x, x ∈ wn a b m r ↔ (-160 ≤ x ∧ x ≤ 160) ∧ letsB a b x = true ∧ x.fmod m = r := fun x => by rw [wn_mem, inRm h1 h3 h4]
    have k8 := k.m
    rcases val_is h1 (by omega) h3 h4 k.l k.h wn_pw hm with ⟨n1, n2, e, ev⟩ | ⟨v, n1, n2, e, hl', _, ev⟩ | ⟨v, u, t, z, e, el, eu, e1, e2, lt', eA, eB, ev⟩
    · exfalso
      obtain ⟨x, rfl⟩ := Option.ne_none_iff_exists'.mp n1
      obtain ⟨y, rfl⟩ := Option.ne_none_iff_exists'.mp n2
      have := lt x y rfl rfl
      have := k.l x rfl
      have : x ∈ wn (some x) (some y) m r := (hm x).mpr ⟨by omega, lets_of (fun y e => by cases e; exact Int.le_refl _) (fun y e => by cases e; omega), hl x rfl⟩
      rw [e] at this
      cases this
    · exfalso
      obtain ⟨x, rfl⟩ := Option.ne_none_iff_exists'.mp n1
      obtain ⟨y, rfl⟩ := Option.ne_none_iff_exists'.mp n2
      have := lt x y rfl rfl
      have := k.l x rfl
      have := k.h y rfl
      have q1 : x ∈ wn (some x) (some y) m r := (hm x).mpr ⟨by omega, lets_of (fun y e => by cases e; exact Int.le_refl _) (fun y e => by cases e; omega), hl x rfl⟩
      have q2 : y ∈ wn (some x) (some y) m r := (hm y).mpr ⟨by omega, lets_of (fun y e => by cases e; omega) (fun y e => by cases e; exact Int.le_refl _), hh y rfl⟩
      rw [e] at q1 q2
      have := List.mem_singleton.mp q1
      have := List.mem_singleton.mp q2
      omega
    · refine .inr ⟨v, u, t, z, h1, e, el, eu, e1, fun x ex => ?_, fun y ey => ?_, fun x hx => ((hm x).mp hx).2.2⟩
      · subst ex; exact eA.trans (up_same h1 (hl x rfl))
      · subst ey; exact eB.trans (dn_same h1 (hh y rfl))
end Sh
set_option Elab.async false
set_option linter.all false
set_option maxRecDepth 100000
set_option maxHeartbeats 4000000
namespace Sh
open PySem PySem.Spec PyProof.Rows L2
theorem first_le {v : Int} {t : List Int} (pw : (v :: t).Pairwise (· < ·)) {y : Int} (h : y ∈ v :: t) : v ≤ y := by
  rcases List.mem_cons.mp h with rfl | h
  · exact Int.le_refl _
  · exact Int.le_of_lt ((List.pairwise_cons.mp pw).1 y h)
theorem dvd_of_mod {x m r : Int} (hm : 1 ≤ m) (h : x.fmod m = r) : m ∣ x - r := Int.dvd_of_fmod_eq_zero (fm_same hm h).2
section
variable {a b : Option Int} {m r : Int} (k : Vl a b m r)
include k
theorem win_ends : ∃ v z, v ∈ wn a b m r ∧ z ∈ wn a b m r ∧ (∀ y, y ∈ wn a b m r → v ≤ y ∧ y ≤ z) ∧ (∀ x, a = some x → v = x) ∧ ∀ y, b = some y → z = y := by
  rcases win_is k with ⟨rfl, rfl, rfl, e⟩ | ⟨v, u, t, z, h1, e, el, eu, ev, ha, hb, hc⟩
  · rw [e]
    exact ⟨r, r, List.mem_cons_self .., List.mem_cons_self .., fun y hy => by rw [List.mem_singleton.mp hy]; exact ⟨Int.le_refl _, Int.le_refl _⟩, fun x e => by cases e; rfl, fun x e => by cases e; rfl⟩
  · have pw := @wn_pw a b m r
    refine ⟨v, z, by rw [e]; exact List.mem_cons_self .., last_in el, fun y hy => ⟨?_, last_max pw el y hy⟩, ha, hb⟩
    rw [e] at pw hy
    exact first_le pw hy
theorem win_cong {x : Int} (h : x ∈ wn a b m r) : m ∣ x - r := by
  rcases win_is k with ⟨rfl, rfl, rfl, e⟩ | ⟨v, u, t, z, h1, e, el, eu, ev, ha, hb, hc⟩
  · rw [e] at h
    rw [List.mem_singleton.mp h, Int.sub_self]; exact Int.dvd_zero _
  · exact dvd_of_mod h1 (hc x h)
theorem win_two : ∃ x, x ∈ wn a b m r ∧ x + m ∈ wn a b m r := by
  rcases win_is k with ⟨rfl, rfl, rfl, e⟩ | ⟨v, u, t, z, h1, e, el, eu, ev, ha, hb, hc⟩
  · rw [e]; exact ⟨r, List.mem_cons_self .., by rw [Int.add_zero]; exact List.mem_cons_self ..⟩
  · rw [e]; exact ⟨v, List.mem_cons_self .., by rw [show v + m = u by omega]; exact List.mem_cons_of_mem _ (List.mem_cons_self ..)⟩
theorem win_lets {x : Int} (h : x ∈ wn a b m r) : letsB a b x = true := (wn_mem.mp h).2.1
end
theorem vo_joinV {a b c d : Option Int} {m r n s : Int} (k : Ok a b m r) (l : Ok c d n s) : voD (lowJ a c) (highJ b d) (restJ m r n s).1 (restJ m r n s).2 = vD (lowJ a c) (highJ b d) (restJ m r n s).1 (restJ m r n s).2 := by
  obtain ⟨m', r', e, o, sb⟩ := join_ok k l
  rw [e]
  have := (vo_d o lw_self hw_self).1
  rw [(dlo_self o).1, (dlo_self o).2] at this
  exact this
def noneB (a c : Option Int) : Bool := a.isNone || c.isNone
/-- the least value of two -/
theorem least_is {a b c d : Option Int} {m r n s : Int} (k : Vl a b m r) (l : Vl c d n s) {ms : List Int} (pw : ms.Pairwise (· < ·)) (hm : ∀ x, x ∈ ms ↔ x ∈ wn a b m r ∨ x ∈ wn c d n s) :
    ∃ x0 t z, ms = x0 :: t ∧ ms.getLast? = some z ∧
      (Dt.tup [if noneB a c then .non else .int x0, if noneB b d then .non else .int z, .int (dL (off ms x0)), .int (if 0 < dL (off ms x0) then x0.fmod (dL (off ms x0)) else x0)] = voD (lowJ a c) (highJ b d) (restJ m r n s).1 (restJ m r n s).2) := by
  obtain ⟨v1, z1, hv1, hz1, le1, ha, hb⟩ := win_ends k
  obtain ⟨v2, z2, hv2, hz2, le2, hc, hd⟩ := win_ends l
  have lo : ∃ x0, x0 ∈ ms ∧ x0 = if v2 < v1 then v2 else v1 := by
    refine ⟨_, (hm _).mpr ?_, rfl⟩
    split
    · exact .inr hv2
    · exact .inl hv1
  have hi : ∃ z, z ∈ ms ∧ z = if z2 > z1 then z2 else z1 := by
    refine ⟨_, (hm _).mpr ?_, rfl⟩
    split
    · exact .inr hz2
    · exact .inl hz1
  obtain ⟨x0, hx0, ex0⟩ := lo
  obtain ⟨z, hz, ez⟩ := hi
  have el := last_of pw hz fun y hy => by
    rcases (hm y).mp hy with h | h
    · have := le1 y h; split at ez <;> omega
    · have := le2 y h; split at ez <;> omega
  obtain ⟨t, et⟩ := head_of pw hx0 fun y hy => by
    rcases (hm y).mp hy with h | h
    · have := le1 y h; split at ex0 <;> omega
    · have := le2 y h; split at ex0 <;> omega
  refine ⟨x0, t, z, et, el, ?_⟩
  have hG : ∀ x, x ∈ ms → g3 m n (r - s) ∣ x - r := fun x hx => by
    obtain ⟨d1, d2, d3⟩ := g3_dvd m n (r - s)
    rcases (hm x).mp hx with h | h
    · exact Int.dvd_trans d1 (win_cong k h)
    · have := Int.dvd_sub (Int.dvd_trans d2 (win_cong l h)) d3
      rwa [show x - s - (r - s) = x - r by omega] at this
  have eD : dL (off ms x0) = g3 m n (r - s) := by
    refine dL_eq (Int.natCast_nonneg _) (off_dvd.mpr fun x hx => ?_) ?_
    · have := Int.dvd_sub (hG x hx) (hG x0 hx0)
      rwa [show x - r - (x0 - r) = x - x0 by omega] at this
    · have dd : ∀ x y, x ∈ ms → y ∈ ms → dL (off ms x0) ∣ x - y := fun x y hx hy => by
        have := Int.dvd_sub (dL_off (x0 := x0) hx) (dL_off (x0 := x0) hy)
        rwa [show x - x0 - (y - x0) = x - y by omega] at this
      obtain ⟨x, x1, x2⟩ := win_two k
      obtain ⟨y, y1, y2⟩ := win_two l
      have d1 := dd _ _ ((hm _).mpr (.inl x2)) ((hm _).mpr (.inl x1))
      rw [show x + m - x = m by omega] at d1
      have d2 := dd _ _ ((hm _).mpr (.inr y2)) ((hm _).mpr (.inr y1))
      rw [show y + n - y = n by omega] at d2
      have d3 := dd _ _ ((hm _).mpr (.inl x1)) ((hm _).mpr (.inr y1))
      refine g3_dvd'.mpr ⟨d1, d2, ?_⟩
      have e1 := Int.dvd_trans d1 (win_cong k x1)
      have e2 := Int.dvd_trans d2 (win_cong l y1)
      have := Int.dvd_add (Int.dvd_sub d3 e1) e2
      rwa [show x - y - (x - r) + (y - s) = r - s by omega] at this
  rw [vo_joinV k.ok l.ok, eD]
  have eR : restJ m r n s = (g3 m n (r - s), if 0 < g3 m n (r - s) then x0.fmod (g3 m n (r - s)) else x0) := by
    have g0 := g3_nn m n (r - s)
    have hx := hG x0 hx0
    unfold restJ restOf
    by_cases h0 : g3 m n (r - s) = 0
    · rw [h0] at hx
      have := Int.zero_dvd.mp hx
      rw [if_pos h0, if_neg (by omega), h0, show x0 = r by omega]
    · rw [if_neg h0, if_pos (by omega), mod_eq (x := x0) (y := r) (by omega) hx]
  rw [eR]
  have eL : (if noneB a c then Dt.non else .int x0) = oD (lowJ a c) := by
    cases a with
    | none => rfl
    | some x => cases c with
      | none => rfl
      | some y =>
        have := ha x rfl; have := hc y rfl
        subst v1 v2
        rw [ex0]; rfl
  have eH : (if noneB b d then Dt.non else .int z) = oD (highJ b d) := by
    cases b with
    | none => rfl
    | some x => cases d with
      | none => rfl
      | some y =>
        have := hb x rfl; have := hd y rfl
        subst z1 z2
        rw [ez]; rfl
  rw [eL, eH]
theorem inside_is {a b c d : Option Int} {m r n s : Int} (k : Vl a b m r) (l : Vl c d n s) :
    ((∀ x, x ∈ wn a b m r → x ∈ wn c d n s) ∧ (a ≠ none ∨ c = none) ∧ (b ≠ none ∨ d = none)) ↔ (lwB a c && (hwB b d && rwB m r n s)) = true := by
  rw [Bool.and_eq_true, Bool.and_eq_true]
  constructor
  · rintro ⟨h, h1, h2⟩
    obtain ⟨v1, z1, hv1, hz1, le1, ha, hb⟩ := win_ends k
    refine ⟨?_, ?_, ?_⟩
    · cases c with
      | none => rfl
      | some y => cases a with
        | none => rcases h1 with h1 | h1 <;> simp at h1
        | some x =>
          have := (lets_lo (win_lets l (h v1 hv1))).1 y rfl
          have := ha x rfl
          exact decide_eq_true (by omega)
    · cases d with
      | none => rfl
      | some y => cases b with
        | none => rcases h2 with h2 | h2 <;> simp at h2
        | some x =>
          have := (lets_lo (win_lets l (h z1 hz1))).2 y rfl
          have := hb x rfl
          exact decide_eq_true (by omega)
    · obtain ⟨x, x1, x2⟩ := win_two k
      have c1 := win_cong l (h _ x1)
      have c2 := win_cong l (h _ x2)
      have c3 := win_cong k x1
      have cm := Int.dvd_sub c2 c1
      rw [show x + m - s - (x - s) = m by omega] at cm
      have cr := Int.dvd_sub c1 (Int.dvd_trans cm c3)
      rw [show x - s - (x - r) = r - s by omega] at cr
      unfold rwB
      rcases l.ok.h with ⟨rfl, _, _⟩ | ⟨hn, s0, s1, _⟩
      · have := Int.zero_dvd.mp cm
        have := Int.zero_dvd.mp cr
        rw [if_pos rfl]; simp; omega
      · rw [if_neg (by omega), Bool.and_eq_true]
        refine ⟨decide_eq_true (Int.fmod_eq_zero_of_dvd cm), ?_⟩
        unfold hasB
        rw [if_neg (by omega)]
        refine decide_eq_true ((mod_eq hn cr).trans ?_)
        rw [fe hn]; exact Int.emod_eq_of_lt s0 s1
  · rintro ⟨h1, h2, h3⟩
    refine ⟨fun x hx => ?_, ?_, ?_⟩
    · have xl := lets_lo (win_lets k hx)
      have xc := win_cong k hx
      refine wn_mem.mpr ⟨(wn_mem.mp hx).1, lets_of (fun y e => ?_) (fun y e => ?_), ?_⟩
      · subst e
        cases a with
        | none => cases h1
        | some x' => have := lw_le h1; have := xl.1 x' rfl; omega
      · subst e
        cases b with
        | none => cases h2
        | some x' => have := hw_le h2; have := xl.2 x' rfl; omega
      · unfold rwB at h3
        rcases l.ok.h with ⟨rfl, _, _⟩ | ⟨hn, s0, s1, _⟩
        · rw [if_pos rfl, Bool.and_eq_true, decide_eq_true_eq, decide_eq_true_eq] at h3
          obtain ⟨rfl, rfl⟩ := h3
          have := Int.zero_dvd.mp xc
          exact inR0.mpr (by omega)
        · rw [if_neg (by omega), Bool.and_eq_true, decide_eq_true_eq] at h3
          unfold hasB at h3
          rw [if_neg (by omega), decide_eq_true_eq] at h3
          refine (inRm hn s0 s1).mpr ?_
          rw [← h3.2]
          exact mod_eq hn (Int.dvd_trans (Int.dvd_of_fmod_eq_zero h3.1) xc)
    · cases c with
      | none => exact .inr rfl
      | some y => cases a with
        | none => cases h1
        | some x => exact .inl (by simp)
    · cases d with
      | none => exact .inr rfl
      | some y => cases b with
        | none => cases h2
        | some x => exact .inl (by simp)
end Sh
set_option Elab.async false
set_option linter.all false
set_option maxRecDepth 100000
set_option maxHeartbeats 4000000
namespace Sh
open PySem PySem.Spec PyProof.Rows L2
def tightL : Option Int → Option Int → Option Int
  | none, c => c
  | some a, none => some a
  | some a, some c => some (if c > a then c else a)
def tightH : Option Int → Option Int → Option Int
  | none, c => c
  | some a, none => some a
  | some a, some c => some (if c < a then c else a)
def spanM (a b c d : Option Int) : Option (Option Int × Option Int) :=
  match tightL a c, tightH b d with
  | some x, some y => if y < x then none else some (some x, some y)
  | lo, hi => some (lo, hi)
def vmD (a b c d : Option Int) (m r n s : Int) : Dt :=
  match spanM a b c d, meetO m r n s with
  | some (lo, hi), some (L, x) => voD lo hi L x
  | _, _ => .non
theorem lets_tight {a b c d : Option Int} {x : Int} : (letsB a b x = true ∧ letsB c d x = true) ↔ letsB (tightL a c) (tightH b d) x = true := by
  constructor
  · rintro ⟨h1, h2⟩
    obtain ⟨p1, p2⟩ := lets_lo h1
    obtain ⟨q1, q2⟩ := lets_lo h2
    refine lets_of (fun y e => ?_) (fun y e => ?_)
    · cases a with
      | none => exact q1 y e
      | some a' => cases c with
        | none => exact p1 y e
        | some c' =>
          have := p1 a' rfl; have := q1 c' rfl
          have e : (if c' > a' then c' else a') = y := by injection e
          split at e <;> omega
    · cases b with
      | none => exact q2 y e
      | some a' => cases d with
        | none => exact p2 y e
        | some c' =>
          have := p2 a' rfl; have := q2 c' rfl
          have e : (if c' < a' then c' else a') = y := by injection e
          split at e <;> omega
  · intro h
    obtain ⟨p1, p2⟩ := lets_lo h
    refine ⟨lets_of (fun y e => ?_) (fun y e => ?_), lets_of (fun y e => ?_) (fun y e => ?_)⟩
    · subst e
      cases c with
      | none => exact p1 y rfl
      | some c' => have := p1 _ rfl; split at this <;> omega
    · subst e
      cases d with
      | none => exact p2 y rfl
      | some c' => have := p2 _ rfl; split at this <;> omega
    · subst e
      cases a with
      | none => exact p1 y rfl
      | some c' => have := p1 _ rfl; split at this <;> omega
    · subst e
      cases b with
      | none => exact p2 y rfl
      | some c' => have := p2 _ rfl; split at this <;> omega
theorem span_of {a b c d : Option Int} {x : Int} (h : letsB (tightL a c) (tightH b d) x = true) : spanM a b c d = some (tightL a c, tightH b d) := by
  obtain ⟨p1, p2⟩ := lets_lo h
  unfold spanM
  cases hl : tightL a c with
  | none => cases tightH b d <;> rfl
  | some y => cases hh : tightH b d with
    | none => rfl
    | some z =>
      have := p1 y hl; have := p2 z hh
      show (if z < y then none else _) = _
      rw [if_neg (by omega)]
theorem span_no {a b c d : Option Int} {p : Option Int × Option Int} (h : spanM a b c d = some p) : p = (tightL a c, tightH b d) := by
  unfold spanM at h
  cases hl : tightL a c with
  | none => rw [hl] at h; cases hh : tightH b d <;> (rw [hh] at h; cases h; rfl)
  | some y => cases hh : tightH b d with
    | none => rw [hl, hh] at h; cases h; rfl
    | some z =>
      rw [hl, hh] at h
      have h' : (if z < y then none else some (some y, some z)) = some p := h
      split at h'
      · cases h'
      · cases h'; rfl
theorem near_l {a c : Option Int} (h1 : near a) (h2 : near c) : near (tightL a c) := by
  intro x e
  cases a with
  | none => exact h2 x e
  | some a' => cases c with
    | none => exact h1 x e
    | some c' =>
      have := h1 a' rfl; have := h2 c' rfl
      have e : (if c' > a' then c' else a') = x := by injection e
      split at e <;> omega
theorem near_h {a c : Option Int} (h1 : near a) (h2 : near c) : near (tightH a c) := by
  intro x e
  cases a with
  | none => exact h2 x e
  | some a' => cases c with
    | none => exact h1 x e
    | some c' =>
      have := h1 a' rfl; have := h2 c' rfl
      have e : (if c' < a' then c' else a') = x := by injection e
      split at e <;> omega
theorem lcm56 : ∀ m, m < 9 → ∀ n, n < 9 → m / Nat.gcd m n * n ≤ 56 := by decide +kernel
theorem lcm_le {m n : Int} (m0 : 0 ≤ m) (m1 : m ≤ 8) (n0 : 0 ≤ n) (n1 : n ≤ 8) : m.fdiv (g2 m n) * n ≤ 56 := by
  obtain ⟨a, rfl⟩ := Int.eq_ofNat_of_zero_le m0
  obtain ⟨b, rfl⟩ := Int.eq_ofNat_of_zero_le n0
  have := lcm56 a (by omega) b (by omega)
  have e : (a : Int).fdiv (g2 a b) = ((a / Nat.gcd a b : Nat) : Int) := by
    unfold g2
    rw [Int.natAbs_natCast, Int.natAbs_natCast, Int.fdiv_eq_ediv_of_nonneg _ (Int.natCast_nonneg _)]; rfl
  rw [e, ← Int.natCast_mul]
  exact Int.ofNat_le.mpr this
theorem has_in {n s x : Int} (h : n = 0 ∨ (1 ≤ n ∧ 0 ≤ s ∧ s < n)) : inR n s x = true ↔ hasB n s x = true := by
  unfold hasB
  rcases h with rfl | ⟨h1, h2, h3⟩
  · rw [if_pos rfl, inR0, decide_eq_true_eq]
  · rw [if_neg (by omega), inRm h1 h2 h3, decide_eq_true_eq]
theorem Vl.rs {a b : Option Int} {m r : Int} (k : Vl a b m r) : m = 0 ∨ (1 ≤ m ∧ 0 ≤ r ∧ r < m) := by
  rcases k.ok.h with ⟨h, _⟩ | ⟨h1, h2, h3, _⟩
  · exact .inl h
  · exact .inr ⟨h1, h2, h3⟩
theorem cong_is {a b c d : Option Int} {m r n s : Int} (k : Vl a b m r) (l : Vl c d n s) :
    (meetO m r n s = none ∧ ∀ x, ¬ (inR m r x = true ∧ inR n s x = true)) ∨ (∃ x0, meetO m r n s = some (0, x0) ∧ -48 ≤ x0 ∧ x0 ≤ 48 ∧ ∀ x, (inR m r x = true ∧ inR n s x = true) ↔ x = x0) ∨
    ∃ L x0, 1 ≤ L ∧ L ≤ 56 ∧ 0 ≤ x0 ∧ x0 < L ∧ meetO m r n s = some (L, x0) ∧ ∀ x, (inR m r x = true ∧ inR n s x = true) ↔ x.fmod L = x0 := by
  have k1 := k.rs
  have l1 := l.rs
  have km := k.m; have lm := l.m; have kr := k.r; have lr := l.r
  unfold meetO
  by_cases hm : m = 0
  · subst hm
    rw [if_pos rfl]
    cases hb : hasB n s r with
    | true =>
      refine .inr (.inl ⟨r, by simp, kr.1, kr.2, fun x => ?_⟩)
      rw [inR0]
      constructor
      · rintro ⟨h, _⟩; exact h
      · rintro rfl; exact ⟨rfl, (has_in l1).mpr hb⟩
    | false =>
      refine .inl ⟨by simp, fun x => ?_⟩
      rw [inR0]
      rintro ⟨rfl, h⟩
      rw [(has_in l1).mp h] at hb
      cases hb
  · rw [if_neg hm]
    by_cases hn : n = 0
    · subst hn
      rw [if_pos rfl]
      cases hb : hasB m r s with
      | true =>
        refine .inr (.inl ⟨s, by simp, lr.1, lr.2, fun x => ?_⟩)
        rw [inR0]
        constructor
        · rintro ⟨_, h⟩; exact h
        · rintro rfl; exact ⟨(has_in k1).mpr hb, rfl⟩
      | false =>
        refine .inl ⟨by simp, fun x => ?_⟩
        rw [inR0]
        rintro ⟨h, rfl⟩
        rw [(has_in k1).mp h] at hb
        cases hb
    · rw [if_neg hn]
      have mp : 0 < m := by omega
      have np : 0 < n := by omega
      obtain ⟨l0, l1', l2, l3, l4⟩ := lcm_is mp np
      obtain ⟨_, r0, r1⟩ : 1 ≤ m ∧ 0 ≤ r ∧ r < m := by rcases k1 with h | h; exact absurd h hm; exact h
      obtain ⟨_, s0, s1⟩ : 1 ≤ n ∧ 0 ≤ s ∧ s < n := by rcases l1 with h | h; exact absurd h hn; exact h
      by_cases hg : (s - r).fmod (g2 m n) = 0
      · rw [if_pos hg]
        obtain ⟨L, x0, e, eL, x1, x2, d1, d2⟩ := meet_is mp np hg
        refine .inr (.inr ⟨L, x0, by omega, by rw [eL]; exact lcm_le km.1 km.2 lm.1 lm.2, x1, x2, by rw [e], fun x => ?_⟩)
        rw [inRm (by omega) r0 r1, inRm (by omega) s0 s1]
        subst eL
        constructor
        · rintro ⟨h1, h2⟩
          have q1 := Int.dvd_sub (dvd_of_mod (by omega) h1) d1
          have q2 := Int.dvd_sub (dvd_of_mod (by omega) h2) d2
          rw [show x - r - (x0 - r) = x - x0 by omega] at q1
          rw [show x - s - (x0 - s) = x - x0 by omega] at q2
          rw [mod_eq (by omega) (l4 _ q1 q2), fe (by omega)]
          exact Int.emod_eq_of_lt x1 x2
        · intro h
          have q := dvd_of_mod (by omega) h
          have q1 := Int.dvd_add (Int.dvd_trans l1' q) d1
          have q2 := Int.dvd_add (Int.dvd_trans l2 q) d2
          rw [show x - x0 + (x0 - r) = x - r by omega] at q1
          rw [show x - x0 + (x0 - s) = x - s by omega] at q2
          constructor
          · rw [mod_eq (by omega) q1, fe (by omega)]; exact Int.emod_eq_of_lt r0 r1
          · rw [mod_eq (by omega) q2, fe (by omega)]; exact Int.emod_eq_of_lt s0 s1
      · rw [if_neg hg]
        refine .inl ⟨rfl, fun x => ?_⟩
        rw [inRm (by omega) r0 r1, inRm (by omega) s0 s1]
        rintro ⟨h1, h2⟩
        refine hg (Int.fmod_eq_zero_of_dvd ?_)
        obtain ⟨ga, gb⟩ := g2_dvd.mp (Int.dvd_refl (g2 m n))
        have := Int.dvd_sub (Int.dvd_trans ga (dvd_of_mod (by omega) h1)) (Int.dvd_trans gb (dvd_of_mod (by omega) h2))
        rwa [show x - r - (x - s) = s - r by omega] at this
theorem met_is {a b c d : Option Int} {m r n s : Int} (k : Vl a b m r) (l : Vl c d n s) {w : List Int} (hw : w = (wn a b m r).filter fun x => decide (x ∈ wn c d n s)) :
    (w = [] ∧ vmD a b c d m r n s = .non) ∨ (∃ v, w = [v] ∧ vmD a b c d m r n s = vD (some v) (some v) 0 v) ∨
    ∃ v u t z, w = v :: u :: t ∧ w.getLast? = some z ∧ u - v ≠ 0 ∧ vmD a b c d m r n s = .tup [if a.isNone && c.isNone then .non else .int v, if b.isNone && d.isNone then .non else .int z, .int (u - v), .int (v.fmod (u - v))] := by
  have pw : w.Pairwise (· < ·) := by rw [hw]; exact wn_pw.filter _
  have hm : ∀ x, x ∈ w ↔ (-160 ≤ x ∧ x ≤ 160) ∧ letsB (tightL a c) (tightH b d) x = true ∧ inR m r x = true ∧ inR n s x = true := fun x => by
    rw [hw, List.mem_filter, decide_eq_true_eq, wn_mem, wn_mem, ← lets_tight]
    constructor
    · rintro ⟨⟨h1, h2, h3⟩, _, h4, h5⟩; exact ⟨h1, ⟨h2, h4⟩, h3, h5⟩
    · rintro ⟨h1, ⟨h2, h4⟩, h3, h5⟩; exact ⟨⟨h1, h2, h3⟩, h1, h4, h5⟩
  have empty : (∀ x, x ∉ w) → w = [] := fun h => by
    cases w with
    | nil => rfl
    | cons v t => exact absurd (List.mem_cons_self ..) (h v)
  rcases cong_is k l with ⟨e, no⟩ | ⟨x0, e, b1, b2, h⟩ | ⟨L, x0, L1, L2, x1, x2, e, h⟩
  · refine .inl ⟨empty fun x hx => no x ((hm x).mp hx).2.2, ?_⟩
    unfold vmD
    rw [e]
    cases spanM a b c d <;> rfl
  · cases hl : letsB (tightL a c) (tightH b d) x0 with
    | true =>
      refine .inr (.inl ⟨x0, single_of pw fun x => ?_, ?_⟩)
      · rw [hm, h]
        constructor
        · rintro ⟨_, _, q⟩; exact q
        · rintro rfl; exact ⟨by omega, hl, rfl⟩
      · unfold vmD
        rw [e, span_of hl]
        show voD _ _ 0 x0 = _
        unfold voD
        rw [if_pos rfl, if_pos hl]
    | false =>
      refine .inl ⟨empty fun x hx => ?_, ?_⟩
      · obtain ⟨_, q1, q2⟩ := (hm x).mp hx
        rw [(h x).mp q2, hl] at q1
        cases q1
      · unfold vmD
        rw [e]
        cases hs : spanM a b c d with
        | none => rfl
        | some p =>
          have := span_no hs
          subst this
          show voD _ _ 0 x0 = _
          unfold voD
          rw [if_pos rfl, if_neg (by rw [hl]; decide)]
  · have hm' : ∀ x, x ∈ w ↔ (-160 ≤ x ∧ x ≤ 160) ∧ letsB (tightL a c) (tightH b d) x = true ∧ x.fmod L = x0 := fun x => by rw [hm, h]
    have vm : ∀ x, letsB (tightL a c) (tightH b d) x = true → vmD a b c d m r n s = voD (tightL a c) (tightH b d) L x0 := fun x hl => by
      unfold vmD; rw [e, span_of hl]
    rcases val_is L1 L2 x1 x2 (near_l k.l l.l) (near_h k.h l.h) pw hm' with ⟨_, _, ew, ev⟩ | ⟨v, n1, n2, ew, hl, _, ev⟩ | ⟨v, u, t, z, ew, el, eu, e1, e2, lt, eA, eB, ev⟩
    · refine .inl ⟨ew, ?_⟩
      unfold vmD
      rw [e]
      cases hs : spanM a b c d with
      | none => rfl
      | some p =>
        have := span_no hs
        subst this
        exact ev
    · exact .inr (.inl ⟨v, ew, (vm v hl).trans ev⟩)
    · have hl : letsB (tightL a c) (tightH b d) v = true := ((hm' v).mp (by rw [ew]; exact List.mem_cons_self ..)).2.1
      refine .inr (.inr ⟨v, u, t, z, ew, el, by omega, ?_⟩)
      rw [vm v hl, ev, eu, e1]
      have q1 : oD ((tightL a c).map fun _ => v) = if a.isNone && c.isNone then Dt.non else .int v := by cases a <;> cases c <;> rfl
      have q2 : oD ((tightH b d).map fun _ => z) = if b.isNone && d.isNone then Dt.non else .int z := by cases b <;> cases d <;> rfl
      rw [← q1, ← q2]
end Sh
set_option Elab.async false
set_option linter.all false
set_option maxRecDepth 100000
set_option maxHeartbeats 4000000
namespace Sh
open PySem PySem.Spec PyProof.Rows L2
/-! sorted(set(xs)), ints, as many as a set's bound lets -/
section
variable {P : Program} {w : World} {A : Around} {E : Value → Shared → Prop} {s : Shared} {a : Addr}
theorem sorted_setB {S : Int → Bool} {n : Nat} {Q : Value → Shared → Prop} (R : SetR w s.heap a S n) (hh : A.handled = none) (hn : n ≤ sizeLine)
    (hQ : ∀ s' p (out : Array Value) (c : Nat) (ns : List Int), (∀ b o, s.heap.get? b = some o → s'.heap.get? b = some o) → s'.gens = s.gens → s'.os = s.os → s.heap.objs.size ≤ p →
      s'.heap.get? p = some (seqObj "list" out c) → IntsAre out.toList ns → ns.Pairwise (· < ·) → (∀ k, k ∈ ns ↔ S k = true) → ns.length = n → Q (.ref p) s') :
    wpAny (model P w) A (call (.builtin "sorted") [.ref a]) Q E s := by
  obtain ⟨o, es, ep, t, ho, hex, hd, g, nd, hm, hb, hf, hcount, hr, hl⟩ := R
  refine Calls.call_function_entry kind_sorted plain_sorted entry_sorted (args_sorted1 _) ?_
  unfold Builtin.«sorted»
  refine wpAny_bind (m := checkCount "sorted" 1 1 _) (wpAny_pure ?_)
  refine wpAny_bind (collect_set (A := A.in1) hh ⟨o, ho, hex.1, hd⟩ hf hb hr hl fun s1 vs old fresh g1 o1 perm => ?_)
  have len : vs.length = n := by
    rw [perm.length_eq, List.length_map, Array.length_toList]; exact hcount
  have areInts : IntsAre vs (vs.map Builtin.Re.reRawOf) := by
    refine ints_of vs fun v hv => ?_
    obtain ⟨e, he, rfl⟩ := List.mem_map.mp (perm.mem_iff.mp hv)
    obtain ⟨k, tk, h1, _⟩ := g e he
    exact ⟨k, tk, h1⟩
  have keys : (vs.map Builtin.Re.reRawOf).Perm (es.toList.map keyOf) := by
    have := perm.map Builtin.Re.reRawOf
    rwa [List.map_map] at this
  refine wpAny_bind (wpAny_newList ?_ (by rw [len]; exact hn))
  have made : (s1.heap.push (seqObj "list" vs.toArray 0)).get? s1.heap.objs.size = some (seqObj "list" vs.toArray 0) := Heap.get?_push_size _ rfl
  refine wpAny_bind (wpAny_holding (wpAny_call_entry slot_list_sort ⟨_, made, rfl⟩ entry_list_sort (list_sort_treeAny made areInts (by rw [len]; exact hn) fun out ns i1 i2 i3 => ⟨_, rfl, ?_⟩) (args_list_sort _)))
  obtain ⟨c, hc⟩ := sortedHeap_at (vs := vs) (out := out) made
  have all : ns.Perm (es.toList.map keyOf) := i2.trans keys
  have up : ns.Pairwise (· < ·) := lt_of_le_nodup ns i3 (all.nodup_iff.mpr nd)
  have mem : ∀ k, k ∈ ns ↔ S k = true := fun k => by rw [all.mem_iff, ← hm k]
  have num : ns.length = n := by rw [all.length_eq, List.length_map, Array.length_toList]; exact hcount
  refine wpAny_pure ⟨_, rfl, hQ _ s1.heap.objs.size out c ns (fun b u e => ?_) g1 o1 fresh hc i1 up mem num⟩
  have q := old b u e
  have lt := Heap.lt_size q
  show (sortedHeap (s1.heap.push (seqObj "list" vs.toArray 0)) s1.heap.objs.size vs out).get? b = some u
  rw [sortedHeap_old (Nat.ne_of_lt lt) (by rw [size_push']; exact Nat.lt_succ_of_lt lt)]
  exact Heap.get?_push_of_some _ q
end
section
variable {X : Cx}
def rSortedSetB (w : World) : List V → Hp → VK → Prop := fun vs H Q => ∃ (a : Addr) (S : Int → Bool) (n : Nat), vs = [V.ref a] ∧ H a = some (SetO w a S n) ∧ n ≤ 4096 ∧
  ∀ (ns : List Int) (p : Addr), ns.Pairwise (· < ·) → (∀ k : Int, k ∈ ns ↔ S k = true) → ns.length = n → H p = none → Q (.ref p) (upd H p (.lst (ns.map V.int)))
theorem cr_sortedSetB (hc : X.calm = true) : CallR X (.builtin "sorted") (rSortedSetB X.w) := by
  intro pins s σ H vs us Q I r h
  obtain ⟨a, S, n, rfl, ha, hn, q⟩ := h
  have R := setO_get I ha
  rw [Vals.ref1 r]
  refine sorted_setB R (I.ok.hd hc) (by rw [sizeLine_eq]; omega) fun s' p out c ns k g o hp hg hi hs hm hl => ?_
  have hlen : (ns.map V.int).length ≤ sizeLine := by rw [List.length_map, hl, sizeLine_eq]; omega
  have free : H p = none := I.hok.fresh hp
  have J : Inv X pins σ (upd H p (.lst (ns.map V.int))) { s with heap := s'.heap, gens := s'.gens, drawn := s'.drawn, toks := s'.toks } :=
    I.call (ch := []) (Un.laid k hp free) (I.hok.laid k hp ⟨hlen, out.toList, c, vals_of_ints hi, hg⟩) (by rw [g]; exact I.bare) (fun _ z => nomatch z)
  have e : s' = { s with heap := s'.heap, gens := s'.gens, drawn := s'.drawn, toks := s'.toks } := by
    cases s'; cases s; cases o; rfl
  rw [e]
  exact ⟨.ref p, _, J, rfl, q ns p hs hm hl free⟩
end
section
variable {K : PySem.W.Frag} {ρ : List En} {Ψ : Dt → List En → Prop}
theorem ae_sortedSetB {w : World} {ta : TA} (h : AA K ta ρ fun ds ρ1 => ∃ ns : List Int, ds = [.lst (ns.map Dt.int)] ∧ ns.length ≤ 4000 ∧ ∀ ms : List Int, ms.Pairwise (· < ·) → (∀ k, k ∈ ms ↔ k ∈ ns) → ms.length ≤ ns.length → Ψ (.lst (ms.map Dt.int)) ρ1) :
    AE K (tCB (rSortedSetB w) (tCons (tCB (rSetI K w) ta) tNil)) ρ Ψ := fun B σ G H m Q q =>
  h B σ G H m _ fun vs ds ρ1 G1 H1 m1 s1 t1 r1 ⟨ns, e, hn, p⟩ => by
    subst e
    obtain ⟨x, rfl, a, xs, rfl, ha, hx⟩ := r1.one
    cases hx.ints
    refine ⟨a, ns, rfl, SqL.of (m1.sub _ _ ha), Nat.lt_of_le_of_lt (Nat.succ_le_succ hn) (by decide), fun p' c np hc => ?_⟩
    have mg := (m1.guard (o := SetO w p' (fun j => decide (j ∈ ns)) c) np).less (B' := B) fun a b => .inl b
    refine ⟨p', _, c, rfl, upd_same, by omega, fun ms l hs hm hl nl => ?_⟩
    have nw := Nw.new (o := .lst (ms.map V.int)) mg.sub nl
    have rd : ∀ zs : List Int, RDs K (upd G1 l (.lst (ms.map V.int))) (zs.map Dt.int) (zs.map V.int) := fun zs => by
      induction zs with
      | nil => rfl
      | cons z zs ih => exact ⟨_, _, rfl, rfl, ih⟩
    exact q _ (.lst (ms.map Dt.int)) ρ1 _ _ (mg.nw nw) (s1.trans nw.g) ((t1.trans (Tr.same (same_up np))).trans (Tr.same nw.h)) ⟨l, _, rfl, upd_same, rd ms⟩ (p ms hs (fun k => by rw [hm k]; simp) (by omega))
theorem ar_catL {Φ : Dt → Prop} {l l' : List Dt} (hz : l.length + l'.length ≤ sizeLine) (h : Φ (.lst (l ++ l'))) : AR K rCat (.lst l) (.lst l') Φ := fun G H s x y r1 r2 Q q => by
  obtain ⟨a, xs, rfl, h1, h2⟩ := r1
  obtain ⟨b, ys, rfl, h3, h4⟩ := r2
  refine ⟨a, b, xs, ys, rfl, rfl, s _ _ h1, s _ _ h3, (by rw [h2.length, h4.length]; exact hz), fun p hp => ?_⟩
  have n := Nw.new (o := .lst (xs ++ ys)) s hp
  exact q _ (.lst (l ++ l')) _ _ n ⟨p, _, rfl, upd_same, (h2.same n.g).app (h4.same n.g)⟩ h
end
end Sh
set_option Elab.async false
set_option linter.all false
set_option maxRecDepth 100000
set_option maxHeartbeats 4000000
namespace Sh
open PySem PySem.Spec PyProof.Rows L2
def topS (i : Nat) : Stmt := PySem.Challenge.pw_shadowruns_k31_values_as_sets.main.body.getD i (.Pass ⟨0, 0, 0, 0⟩)
abbrev sBox : Stmt := topS 29
abbrev sTake : Stmt := topS 30
abbrev sCells : Stmt := topS 31
abbrev sOf : Stmt := topS 32
theorem scBox : FnScope ["_law_script", "_law_k", "_law_cell"] ["_law_script", "_law_k"] (defScope sBox) := ⟨rfl, rfl, rfl, by decide +kernel, rfl, by decide +kernel, by decide +kernel⟩
theorem scTake : FnScope ["_law_box_here", "_law_below", "_law_found", "_law_once", "_law_twice"] ["_law_box_here", "_law_below"] (defScope sTake) := ⟨rfl, rfl, rfl, by decide +kernel, rfl, by decide +kernel, by decide +kernel⟩
theorem scCells : FnScope ["_law_script", "_law_most", "_law_cells_here", "_law_k", "_law_cell"] ["_law_script", "_law_most"] (defScope sCells) := ⟨rfl, rfl, rfl, by decide +kernel, rfl, by decide +kernel, by decide +kernel⟩
/-! numbers -/
theorem fm0 {a b : Int} (h : 0 < b) : 0 ≤ a.fmod b := Int.fmod_nonneg_of_pos a h
theorem fm1 {a b : Int} (h : 0 < b) : a.fmod b < b := Int.fmod_lt_of_pos a h
theorem fd0 {a b : Int} (h : 0 ≤ a) (hb : 0 ≤ b) : 0 ≤ a.fdiv b := Int.fdiv_nonneg h hb
theorem fdle {a b : Int} (h : 0 ≤ a) (hb : 0 < b) : a.fdiv b ≤ a := by
  rw [Int.fdiv_eq_ediv_of_nonneg _ (by omega)]
  exact Int.ediv_le_self b h
theorem b01 (c : Bool) : (if c = true then (1 : Int) else 0) = 0 ∨ (if c = true then (1 : Int) else 0) = 1 := by cases c <;> simp
theorem b01s (c : Bool) : -(2 ^ 64) < (if c = true then (1 : Int) else 0) ∧ (if c = true then (1 : Int) else 0) < 2 ^ 64 := by cases c <;> decide
theorem nz (k : Int) (h : decide (k = 0) = false := by decide) : k ≠ 0 := of_decide_eq_false h
theorem But.of {b : Addr} {H H' : Hp} (h : Same H H') : But b H H' := fun a o _ e => h a o e
theorem But.refl {b : Addr} {H : Hp} : But b H H := fun _ _ _ e => e
theorem But.trans {b : Addr} {H H1 H2 : Hp} (x : But b H H1) (y : But b H1 H2) : But b H H2 := fun a o n e => y a o n (x a o n e)
section
variable {P : Program} {w : World} {K : PySem.W.Frag} {mg : Str → Option Value} {base : Heap}
/-! ### _law_box -/
def spBox (K : PySem.W.Frag) : Sp := fun vs H Q _ => ∃ (a : Addr) (ns : List Int) (k : Int), vs = [.ref a, .int k] ∧ SqL K H a (ns.map V.int) ∧ ns.length ≤ 1000 ∧ 0 ≤ k ∧ k ≤ 1000 ∧
  ∀ p x y, H p = none → 0 ≤ x → 0 ≤ y → y < 4611686018427387904 → Q (.ref p) (upd H p (.lst [.int x, .int y, .int 0]))
/-- what is left behind the cell z -/
theorem box_tail {H : Hp} {Q : VK} {k z : Int} (hq : ∀ p x y, H p = none → 0 ≤ x → 0 ≤ y → y < 4611686018427387904 → Q (.ref p) (upd H p (.lst [.int x, .int y, .int 0]))) (k0 : 0 ≤ k) (k1 : k ≤ 1000)
    {p : Addr} (hp : H p = none) (j : Int) (hj : j = 0 ∨ j = 1) : Q (.ref p) (upd H p (.lst [.int ((if z < 0 then -z else z) * j), .int (z.fmod 2305843009213693951 + 39373 * k + 71), .int 0])) := by
  have e0 : (0 : Int) ≤ z.fmod 2305843009213693951 := fm0 (by decide)
  have e1 : z.fmod 2305843009213693951 < 2305843009213693951 := fm1 (by decide)
  refine hq p _ _ hp ?_ (by omega) (by omega)
  have a0 : 0 ≤ (if z < 0 then -z else z) := by split <;> omega
  rcases hj with rfl | rfl
  · rw [Int.mul_zero] <;> decide
  · rw [Int.mul_one]; exact a0
theorem ok_box {f : Addr} {fd : FuncData} {n : Nat} (F : Fun K "_law_box" "_law_box" sBox f fd) (ml : mg "len" = none) (ma : mg "abs" = none) (mi : mg "int" = none) : FnOk P w K mg base CX0 (n + 1) f fd ["_law_script", "_law_k"] (spBox K) := by
  refine F.ok scBox (fun vs H Q E h => ?_) (fun cdv A outer s H vs Q E hr h => ?_)
  · obtain ⟨a, ns, k, rfl, _⟩ := h
    rfl
  obtain ⟨a, ns, k, rfl, hS, hlen, k0, k1, q⟩ := h
  refine ⟨_, pss_cons (ps_set (i := 2) scBox.nd rfl (Or.inl rfl) (pe_ifExp (pt_cmpR op_lt (pv 1) (pe_callB call_len_seq rfl ml PySem.boot_len (pa_cons (pv 0) pa_nil)) (nomark _)) (pe_ix ix_list (pv 0) (pv 1) (fun _ _ => rfl)) pe_int))
    (pss_one (ps_ret (pe_lst (pa_cons (pe_op op_mul (pe_callB call_abs rfl ma (by decide +kernel) (pa_cons (pv 2) pa_nil)) (pe_callTy call_int1 rfl mi (by decide +kernel) (pa_cons (pe_cmpR op_ge (pe_callB call_abs rfl ma (by decide +kernel) (pa_cons (pv 2) pa_nil)) (pe_op op_pow pe_int pe_int) (nomark _)) pa_nil)))
      (pa_cons (pe_op op_add (pe_op op_add (pe_op op_modN (pv 2) pe_int) (pe_op op_mul pe_int (pv 1))) pe_int) (pa_cons pe_int pa_nil)))))), ?_⟩
  have hl : (ns.map V.int).length = ns.length := List.length_map _
  refine ⟨_, rfl, _, rfl, a, _, rfl, .inl hS, _, _, rfl, rfl, _, rfl, ?_⟩
  have hr64 : (0 : Int) < 2305843009213693951 := by decide
  refine ite2 (fun c => ?_) (fun c => ?_)
  have c' : k < (((ns.map V.int).length : Nat) : Int) := of_decide_eq_true c
  rw [hl] at c'
  have hk : k.toNat < ns.length := by omega
  have ek : k = ((k.toNat : Nat) : Int) := by omega
  have g : atI (ns.map V.int) k = some (.int ns[k.toNat]) := at_of ek (by rw [List.getElem?_map, List.getElem?_eq_getElem hk] <;> rfl)
  refine ⟨_, rfl, _, rfl, a, _, _, _, rfl, rfl, hS, g, ?_⟩
  generalize ns[k.toNat] = z
  all_goals
    refine ⟨_, rfl, _, rfl, _, rfl, _, rfl, _, _, rfl, rfl, ⟨by decide, by decide, by decide⟩, _, _, rfl, rfl, .inr ⟨_, rfl, _, _, rfl, rfl, .inr (b01s _), ?_⟩⟩
    refine ⟨_, rfl, _, _, rfl, rfl, (nz _), _, rfl, _, _, rfl, rfl, .inl ⟨by decide, by decide⟩, _, _, rfl, rfl, _, _, rfl, rfl, (by show 3 ≤ sizeLine; decide), fun p hp => ?_⟩
    exact box_tail q k0 k1 hp _ (b01 _)
/-! ### _law_take -/
def spTake : Sp := fun vs H Q _ => ∃ (b : Addr) (m y c : Int), vs = [.ref b, .int m] ∧ Bx H b y c ∧ 0 ≤ c ∧ c < 1000000000000 ∧ 1 ≤ m ∧ m ≤ 10000000 ∧
  ∀ v c' H', 0 ≤ v → v < m → c ≤ c' → c' ≤ c + 1 → Bx H' b y c' → But b H H' → Q (.int v) H'
theorem bx_up {H : Hp} {b : Addr} {x y c : Int} {xs : List V} (e : xs = [.int x, .int y, .int c]) (h : 0 ≤ x) (h1 : 0 ≤ y) (h2 : y < 4611686018427387904) : Bx (upd H b (.lst xs)) b y c := ⟨x, by rw [e, upd_same], h, h1, h2⟩
theorem tw_ok {o c y : Int} (c0 : 0 ≤ c) (c1 : c < 1000000000000) (y0 : 0 ≤ y) (y1 : y < 4611686018427387904) : -(2 ^ 64) < o.fmod 2147483647 + (c + 1) + y.fdiv 1000003 ∧ o.fmod 2147483647 + (c + 1) + y.fdiv 1000003 < 2 ^ 64 := by
  have h0 : (0 : Int) ≤ o.fmod 2147483647 := fm0 (by decide)
  have h1 : o.fmod 2147483647 < 2147483647 := fm1 (by decide)
  have h2 : 0 ≤ y.fdiv 1000003 := fd0 y0 (by decide)
  have h3 : y.fdiv 1000003 ≤ y := fdle y0 (by decide)
  refine ⟨?_, ?_⟩ <;> omega
theorem tw_ok2 {o : Int} : -(2 ^ 64) < o.fmod 2147483629 ∧ o.fmod 2147483629 < 2 ^ 64 := by
  have h0 : (0 : Int) ≤ o.fmod 2147483629 := fm0 (by decide)
  have h1 : o.fmod 2147483629 < 2147483629 := fm1 (by decide)
  refine ⟨?_, ?_⟩ <;> omega
theorem ok_take {f : Addr} {fd : FuncData} {n : Nat} (F : Fun K "_law_take" "_law_take" sTake f fd) : FnOk P w K mg base CX0 (n + 1) f fd ["_law_box_here", "_law_below"] spTake := by
  refine F.ok scTake (fun vs H Q E h => ?_) (fun cdv A outer s H vs Q E hr h => ?_)
  · obtain ⟨b, m, y, c, rfl, _⟩ := h
    rfl
  obtain ⟨b, m, y, c, rfl, ⟨x, hB, x0, y0, y1⟩, c0, c1, m0, m1, q⟩ := h
  refine ⟨_, pss_cons (ps_if (pt_cmpR op_gt (pe_ix ix_list (pv 0) pe_int (fun _ _ => rfl)) pe_int (nomark _))
      (pss_cons (ps_set (i := 2) scTake.nd rfl (Or.inl rfl) (pe_op op_modN (pe_ix ix_list (pv 0) pe_int (fun _ _ => rfl)) (pv 1)))
      (pss_cons (ps_asg (pe_op op_fdivN (pe_ix ix_list (pv 0) pe_int (fun _ _ => rfl)) (pv 1)) (pg_sub (pv 0) pe_int set_list))
      (pss_one (ps_ret (pv 2))))) pss_nil)
    (pss_cons (ps_if (pt_cmpR op_gt (pv 1) (pe_op op_pow pe_int pe_int) (nomark _)) pss_never pss_nil)
    (pss_cons (ps_asg (pe_op op_add (pe_ix ix_list (pv 0) pe_int (fun _ _ => rfl)) pe_int) (pg_sub (pv 0) pe_int set_list))
    (pss_cons (ps_set (i := 3) scTake.nd rfl (Or.inl rfl) (pe_op op_modN (pe_op op_mul (pe_op op_add (pe_ix ix_list (pv 0) pe_int (fun _ _ => rfl)) (pe_op op_mul pe_int (pe_ix ix_list (pv 0) pe_int (fun _ _ => rfl)))) (pe_op op_add pe_int (pe_ix ix_list (pv 0) pe_int (fun _ _ => rfl)))) pe_int))
    (pss_cons (ps_set (i := 4) scTake.nd rfl (Or.inl rfl) (pe_op op_modN (pe_op op_mul (pe_op op_add (pe_op op_add (pv 3) (pe_ix ix_list (pv 0) pe_int (fun _ _ => rfl))) (pe_op op_fdivN (pe_ix ix_list (pv 0) pe_int (fun _ _ => rfl)) pe_int)) (pe_op op_add (pe_op op_modN (pv 3) pe_int) pe_int)) pe_int))
    (pss_one (ps_ret (pe_op op_modN (pe_op op_fdivN (pe_op op_modN (pe_op op_add (pe_op op_mul (pv 4) pe_int) (pv 3)) pe_int) pe_int) (pv 1)))))))), ?_⟩
  refine ⟨_, rfl, b, _, _, _, rfl, rfl, SqL.of hB, at_of (j := 0) rfl rfl, _, _, rfl, rfl, _, rfl, ?_⟩
  refine ite2 (fun t => ?_) (fun t => ?_)
  · have t' : x > 0 := of_decide_eq_true t
    refine ⟨_, rfl, b, _, _, _, rfl, rfl, SqL.of hB, at_of (j := 0) rfl rfl, _, rfl, _, _, rfl, rfl, (by omega), ?_⟩
    refine ⟨_, rfl, b, _, _, _, rfl, rfl, SqL.of hB, at_of (j := 0) rfl rfl, _, rfl, _, _, rfl, rfl, ⟨by omega, by omega⟩, ?_⟩
    refine ⟨_, rfl, b, _, _, 0, rfl, rfl, hB, rfl, _, rfl, ?_⟩
    exact q _ c _ (fm0 (by omega)) (fm1 (by omega)) (by omega) (by omega) (bx_up rfl (fd0 x0 (by omega)) y0 y1) but_upd
  · refine ⟨_, rfl, _, _, rfl, rfl, ⟨by decide, by decide, by decide⟩, _, _, rfl, rfl, _, rfl, ?_⟩
    refine ite2 (fun t2 => ?_) (fun t2 => ?_)
    · exfalso
      have t3 : m > 10 ^ 7 := of_decide_eq_true t2
      have t4 : (10 : Int) ^ 7 = 10000000 := by decide
      omega
    · have hB1 : (upd H b (.lst [.int x, .int y, .int (c + 1)])) b = some (.lst [.int x, .int y, .int (c + 1)]) := upd_same
      refine ⟨_, rfl, b, _, _, _, rfl, rfl, SqL.of hB, at_of (j := 2) rfl rfl, _, _, rfl, rfl, _, rfl, b, _, _, 2, rfl, rfl, hB, rfl, ?_⟩
      refine ⟨_, rfl, b, _, _, _, rfl, rfl, SqL.of hB1, at_of (j := 1) rfl rfl, _, rfl, b, _, _, _, rfl, rfl, SqL.of hB1, at_of (j := 2) rfl rfl, _, _, rfl, rfl, .inl ⟨by decide, by decide⟩, _, _, rfl, rfl,
        _, rfl, b, _, _, _, rfl, rfl, SqL.of hB1, at_of (j := 2) rfl rfl, _, _, rfl, rfl, _, _, rfl, rfl, .inl ⟨by omega, by omega⟩, _, _, rfl, rfl, (nz _), ?_⟩
      refine ⟨_, rfl, _, rfl, b, _, _, _, rfl, rfl, SqL.of hB1, at_of (j := 2) rfl rfl, _, _, rfl, rfl, _, rfl, b, _, _, _, rfl, rfl, SqL.of hB1, at_of (j := 1) rfl rfl, _, _, rfl, rfl, ⟨by decide, by decide⟩, _, _, rfl, rfl,
        _, rfl, _, _, rfl, rfl, (nz _), _, _, rfl, rfl, _, _, rfl, rfl, .inl (tw_ok c0 c1 y0 y1), _, _, rfl, rfl, (nz _), ?_⟩
      refine ⟨_, rfl, _, _, rfl, rfl, .inl tw_ok2, _, rfl, _, _, rfl, rfl, _, _, rfl, rfl, (nz _), _, _, rfl, rfl, ⟨by decide, by decide⟩, _, rfl, _, _, rfl, rfl, (by omega), ?_⟩
      exact q _ (c + 1) _ (fm0 (by omega)) (fm1 (by omega)) (by omega) (by omega) (bx_up rfl x0 y0 y1) but_upd
/-! ### _law_of -/
theorem But.seq {b a : Addr} {H H' : Hp} {xs : List V} (e : But b H H') (n : a ≠ b) (h : SqL K H a xs) : SqL K H' a xs := by
  rcases h with (h | ⟨o, h⟩) | h
  · exact .inl (.inl (e _ _ n h))
  · exact .inl (.inr ⟨o, e _ _ n h⟩)
  · exact .inr h
/-! ### _law_cells -/
theorem fm_nat (i m : Nat) : (i : Int).fmod (m : Int) = ((i % m : Nat) : Int) := by
  rw [Int.fmod_eq_emod_of_nonneg _ (Int.natCast_nonneg m)]; exact (Int.natCast_emod i m).symm
theorem cut_to (ns : List Int) (m : Nat) : cutV (ns.map V.int) none (some (m : Int)) = (ns.take m).map V.int := by
  unfold cutV
  rw [HT.sIx_none, HT.sIx_nat, List.length_map, List.drop_zero, Nat.sub_zero, List.map_take]
  by_cases h : m ≤ ns.length
  · rw [Nat.min_eq_left h]
  · rw [Nat.min_eq_right (by omega), List.take_of_length_le (by rw [List.length_map]; exact Nat.le_refl _), List.take_of_length_le (by rw [List.length_map]; omega)]
theorem cut_from (ns : List Int) (m : Nat) (h : ns.length ≤ 63) : cutV (ns.map V.int) (some (m : Int)) (some 63) = (ns.drop m).map V.int := by
  unfold cutV
  have e63 : HT.sIx (ns.map V.int).length (ns.map V.int).length (some 63) = min 63 (ns.map V.int).length := HT.sIx_nat _ _ 63
  rw [HT.sIx_nat, e63, List.length_map, Nat.min_eq_right h, List.map_drop]
  by_cases hm : m ≤ ns.length
  · rw [Nat.min_eq_left hm, List.take_of_length_le (by rw [List.length_drop, List.length_map]; exact Nat.le_refl _)]
  · rw [Nat.min_eq_right (by omega), List.drop_eq_nil_of_le (by rw [List.length_map]; exact Nat.le_refl _), List.drop_eq_nil_of_le (by rw [List.length_map]; omega), List.take_nil]
def cells0 (ns : List Int) (m : Nat) : List Int := if ns.take m = [] then [0] else ns.take m
theorem cells0_pos {ns : List Int} {m : Nat} : 1 ≤ (cells0 ns m).length := by
  unfold cells0
  split
  · exact Nat.le_refl _
  · rename_i h
    exact List.length_pos_iff.mpr h
theorem cells0_le {ns : List Int} {m : Nat} (hm : 1 ≤ m) : (cells0 ns m).length ≤ m := by
  unfold cells0
  split
  · exact hm
  · rw [List.length_take]; omega
theorem cells0_full {ns : List Int} {m : Nat} (hm : 1 ≤ m) (h : m ≤ ns.length) : (cells0 ns m).length = m := by
  unfold cells0
  have e : (ns.take m).length = m := by rw [List.length_take]; omega
  rw [if_neg (fun z => by rw [z] at e; simp at e; omega), e]
def spCells (K : PySem.W.Frag) : Sp := fun vs H Q _ => ∃ (a : Addr) (ns : List Int) (m : Nat), vs = [.ref a, .int (m : Int)] ∧ SqL K H a (ns.map V.int) ∧ ns.length ≤ 63 ∧ 1 ≤ m ∧ m ≤ 63 ∧
  ∀ p (ms : List Int) H', H p = none → Same H H' → H' p = some (.lst (ms.map V.int)) → 1 ≤ ms.length → ms.length ≤ m → Q (.ref p) H'
theorem ok_cells {f : Addr} {fd : FuncData} {n : Nat} (F : Fun K "_law_cells" "_law_cells" sCells f fd) (ml : mg "list" = none) (me : mg "enumerate" = none) : FnOk P w K mg base CX0 (n + 1) f fd ["_law_script", "_law_most"] (spCells K) := by
  refine F.ok scCells (fun vs H Q E h => ?_) (fun cdv A outer s H vs Q E hr h => ?_)
  · obtain ⟨a, ns, m, rfl, _⟩ := h
    rfl
  obtain ⟨a, ns, m, rfl, hS, hn, m1, m2, q⟩ := h
  refine ⟨_, pss_cons (ps_set (i := 2) scCells.nd rfl (Or.inl rfl) (pe_orT (pe_callTy call_list_of rfl ml (by decide +kernel) (pa_cons (pe_slice sl_list (pv 0) po_none (po_some (pv 1))) pa_nil)) (pe_one (pe_lst (pa_cons pe_int pa_nil)))))
    (pss_cons (ps_for PassesOwn.never rfl (pi_enum rfl me (pa_cons (pe_slice sl_list (pv 0) (po_some (pv 1)) (po_some pe_int)) pa_nil)) (pg_tup rfl (pgs_cons (pg_name (i := 3) scCells.nd rfl (Or.inl rfl)) (pgs_cons (pg_name (i := 4) scCells.nd rfl (Or.inl rfl)) pgs_nil)))
      (pss_one (ps_asg (pe_op op_add (pe_ix ix_list (pv 2) (pe_op op_modN (pv 3) (pv 1)) (fun _ _ => rfl)) (pe_op op_mul (pv 4) (pe_op op_add (pv 3) pe_int))) (pg_sub (pv 2) (pe_op op_modN (pv 3) (pv 1)) set_list))))
    (pss_one (ps_ret (pv 2)))), ?_⟩
  refine ⟨_, rfl, _, rfl, _, rfl, a, _, rfl, hS, fun c nc => ?_⟩
  rw [cut_to]
  refine ⟨c, _, rfl, .inl (SqL.of upd_same), fun l nl => ?_⟩
  have sc1 : Same H (upd H c (.lst ((ns.take m).map V.int))) := same_up nc
  have sl1 := sc1.trans (same_up (o := .lst ((ns.take m).map V.int)) nl)
  have nl0 : H l = none := sc1.free nl
  refine ⟨_, .inl ⟨_, SqL.of upd_same, rfl⟩, ?_⟩
  refine ite2 (fun t => ?_) (fun t => ?_)
  rotate_left
  have et : ns.take m = [] := by
    cases e : ns.take m with
    | nil => rfl
    | cons z r => rw [e] at t; exact absurd rfl t
  refine ⟨by show 1 ≤ sizeLine; decide, fun p np => ?_⟩
  have nl0 : H p = none := sl1.free np
  have sl1 := sl1.trans (same_up (o := .lst [.int 0]) np)
  have hp : (upd (upd (upd H c (.lst ((ns.take m).map V.int))) l (.lst ((ns.take m).map V.int))) p (.lst [.int 0])) p = some (.lst ((cells0 ns m).map V.int)) := by rw [upd_same, cells0, if_pos et]; rfl
  generalize upd (upd (upd H c (.lst ((ns.take m).map V.int))) l (.lst ((ns.take m).map V.int))) p (.lst [.int 0]) = H1 at hp sl1 ⊢
  rotate_left
  have et : ns.take m ≠ [] := fun e => by
    rw [e] at t
    exact absurd t (by decide)
  have hp : (upd (upd H c (.lst ((ns.take m).map V.int))) l (.lst ((ns.take m).map V.int))) l = some (.lst ((cells0 ns m).map V.int)) := by rw [upd_same, cells0, if_neg et]
  generalize upd (upd H c (.lst ((ns.take m).map V.int))) l (.lst ((ns.take m).map V.int)) = H1 at hp sl1 ⊢
  obtain ⟨p, ep⟩ : ∃ p, p = l := ⟨_, rfl⟩
  subst ep
  all_goals
    refine ⟨_, rfl, _, rfl, _, rfl, 63, rfl, a, _, rfl, sl1.seq hS, fun d nd => ?_⟩
    rw [cut_from ns m hn]
    have sd := sl1.trans (same_up (o := .lst ((ns.drop m).map V.int)) nd)
    have hd : (upd H1 d (.lst ((ns.drop m).map V.int))) d = some (.lst ((ns.drop m).map V.int)) := upd_same
    have hpd : (upd H1 d (.lst ((ns.drop m).map V.int))) p = some (.lst ((cells0 ns m).map V.int)) := by rw [upd_ne (ne_of_none hp nd)]; exact hp
    have ndp : d ≠ p := (ne_of_none hp nd).symm
    generalize upd H1 d (.lst ((ns.drop m).map V.int)) = H2 at sd hd hpd ⊢
    refine ⟨d, _, rfl, SqL.of hd, for_it walk_enum (fun i σ H3 => ∃ y3 y4, ∃ ms : List Int, σ = [some (.ref a), some (.int (m : Int)), some (.ref p), y3, y4] ∧ Same H H3 ∧ H3 d = some (.lst ((ns.drop m).map V.int)) ∧ H3 p = some (.lst (ms.map V.int)) ∧ ms.length = (cells0 ns m).length)
      ⟨none, none, _, rfl, sd, hd, hpd, rfl⟩ (fun i σ H3 _ ⟨_, _, _, _, _, e, _⟩ => SqL.of e) ?_ ?_⟩
    · rintro i x σ H3 H4 hi ⟨y3, y4, ms, rfl, s3, e3, ep, el⟩ ⟨T, v1, v2, rfl, nT, rfl, f1, f2⟩
      cases f1
      have hi' : i < (ns.drop m).length := by rw [List.length_map] at hi; exact hi
      have f2' : some (V.int (ns.drop m)[i]) = some v2 := by rw [← f2]; show _ = (List.map V.int (List.drop m ns))[i]?; rw [List.getElem?_map, List.getElem?_eq_getElem hi'] <;> rfl
      cases f2'
      rw [List.length_drop] at hi'
      have lm : ms.length = m := by rw [el]; exact cells0_full m1 (by omega)
      have hk : i % m < ms.length := by rw [lm]; exact Nat.mod_lt _ (by omega)
      have hA : atI (ms.map V.int) ((i : Int).fmod (m : Int)) = some (.int ms[i % m]) := at_of (fm_nat i m) (by rw [List.getElem?_map, List.getElem?_eq_getElem hk] <;> rfl)
      have hX : ixN (ms.map V.int).length ((i : Int).fmod (m : Int)) = some (i % m) := by
        rw [fm_nat]
        unfold ixN
        rw [if_pos (Int.natCast_nonneg _), if_pos (by rw [List.length_map]; exact Int.ofNat_lt.mpr hk), Int.toNat_natCast]
      have mz : (m : Int) ≠ 0 := by omega
      have sT : Same H3 (upd H3 T (.tup [.int (i : Int), .int (ns.drop m)[i]])) := same_up nT
      have eT := sT _ _ ep
      refine ⟨T, _, rfl, .inl (.inl upd_same), rfl, _, _, rfl, _, _, rfl, rfl, ?_⟩
      refine ⟨_, rfl, _, rfl, _, rfl, _, _, rfl, rfl, mz, p, _, _, _, rfl, rfl, SqL.of eT, hA, _, rfl, _, rfl, _, _, rfl, rfl, _, _, rfl, rfl, .inr ⟨by omega, by omega⟩, _, _, rfl, rfl, _, rfl, _, rfl, _, rfl, _, _, rfl, rfl, mz, p, _, _, _, rfl, rfl, eT, hX, ?_⟩
      refine ⟨_, _, ms.set (i % m) (ms[i % m] + (ns.drop m)[i] * ((i : Int) + 2)), rfl, fun b z e => ?_, ?_, ?_, ?_⟩
      rotate_left 2
      · rw [upd_same, List.map_set]
      · rw [List.length_set]; exact el
      · rw [upd_ne (ne_of_none e nl0)]; exact sT _ _ (s3 _ _ e)
      · rw [upd_ne ndp]; exact sT _ _ e3
    · rintro σ H3 ⟨y3, y4, ms, rfl, s3, e3, ep, el⟩
      exact ⟨_, rfl, q p ms H3 nl0 s3 ep (by rw [el]; exact cells0_pos) (by rw [el]; exact cells0_le m1)⟩
abbrev p_l_take : List Str := ["_law_box_here", "_law_below"]
/-! the layer's promises of them -/
def domT (ds : List Dt) : Prop := ∃ m : Int, ds = [.int m] ∧ 1 ≤ m ∧ m ≤ 10000000
def postT (ds : List Dt) (d : Dt) : Prop := ∃ m v : Int, ds = [.int m] ∧ d = .int v ∧ 0 ≤ v ∧ v < m
theorem take_B {f : Addr} {fd : FuncData} {n : Nat} {ps : List Str} (C : FnOk P w K mg base CX0 n f fd ps spTake) : FnOk P w K mg base CX0 n f fd ps (spB K 1 domT postT) := C.imp fun vs H Q E h => by
  obtain ⟨G, ds, b, us, y, c, F, rfl, sm, hb, c0, c1, gb, rd, ⟨m, rfl, m1, m2⟩, q⟩ := h
  obtain ⟨x, rfl, e⟩ := rd.one
  have c2 : c + ((F + 1 : Nat) : Int) ≤ 1000000000000 := c1
  refine ⟨b, m, y, c, by rw [show x = V.int m from e], hb, c0, by omega, m1, m2, fun v c' H' v0 v1 e0 e1 hb' bt => ?_⟩
  refine q (.int v) (.int v) G H' y c' ⟨Same.refl _, fun a o z => bt a o (fun w => by rw [w, gb] at z; cases z) (sm _ _ z), bt, fun a h1 h2 => h1⟩ hb' (by omega) ?_ rfl ⟨m, v, rfl, rfl, v0, v1⟩
  show c' + (F : Int) ≤ 1000000000000
  omega
theorem ae_take {ρ : List En} {Ψ : Dt → List En → Prop} {E : XK} {te : TE} {i : Nat} {b : Addr} {f0 : Nat} (e0 : ρ[i]? = some (.bx b f0))
    (h : AE K te ρ fun d ρ1 => ∃ m : Int, d = .int m ∧ 1 ≤ m ∧ m ≤ 10000000 ∧ ∃ F, ρ1[i]? = some (.bx b (F + 1)) ∧ ∀ v : Int, 0 ≤ v → v < m → Ψ (.int v) (ρ1.set i (.bx b F))) : AE K (tCall (spB K 1 domT postT) [] E (tCons (tVar i) (tCons te tNil))) ρ Ψ :=
  ae_draw e0 (aa_cons (ae_mono h fun d ρ1 ⟨m, e, m1, m2, F, e1, k⟩ => aa_nil ⟨⟨m, by rw [e], m1, m2⟩, F, e1, fun d' hp => by
    obtain ⟨m', v, z1, z2, z3, z4⟩ := hp
    rw [e] at z1
    cases z1
    rw [z2]; exact k v z3 z4⟩))
def domO (ds : List Dt) : Prop := ∃ k l, ds = [sq k l] ∧ 1 ≤ l.length ∧ l.length ≤ 1000
def postO (ds : List Dt) (d : Dt) : Prop := ∀ k l, ds = [sq k l] → d ∈ l
theorem sq_inj {k k' : Bool} {l l' : List Dt} (h : sq k l = sq k' l') : l = l' := by
  cases k <;> cases k' <;> first | (cases h; rfl) | (exact absurd h (fun z => nomatch z))
theorem ae_ofL {ρ : List En} {Ψ : Dt → List En → Prop} {E : XK} {te : TE} {i : Nat} {b : Addr} {f0 : Nat} (e0 : ρ[i]? = some (.bx b f0))
    (h : AE K te ρ fun d ρ1 => ∃ l, d = .lst l ∧ 1 ≤ l.length ∧ l.length ≤ 1000 ∧ ∃ F, ρ1[i]? = some (.bx b (F + 1)) ∧ ∀ d, d ∈ l → Ψ d (ρ1.set i (.bx b F))) : AE K (tCall (spB K 1 domO postO) [] E (tCons (tVar i) (tCons te tNil))) ρ Ψ :=
  ae_draw e0 (aa_cons (ae_mono h fun d ρ1 ⟨l, e, m1, m2, F, e1, k⟩ => aa_nil ⟨⟨false, l, by rw [e]; rfl, m1, m2⟩, F, e1, fun d' hp => k d' (hp false l (by rw [e]; rfl))⟩))
abbrev s_l_of : Stmt := topS 32
abbrev N_l_of : List Str := ["_law_box_here", "_law_some"]
abbrev p_l_of : List Str := ["_law_box_here", "_law_some"]
theorem sc_l_of : FnScope N_l_of p_l_of (defScope s_l_of) := ⟨rfl, rfl, rfl, by decide +kernel, rfl, by decide +kernel, by decide +kernel⟩
theorem ok_l_of (bl : Blts mg) {g_l_take : Addr} {d_l_take : FuncData} (c_l_take : Cal P w K mg base 2 "_law_take" p_l_take (spB K 1 domT postT) g_l_take d_l_take)  {f : Addr} {fd : FuncData} (F : Fun K "_law_of" "_law_of" s_l_of f fd) : FnOk P w K mg base CX0 3 f fd p_l_of (spB K 1 (domO) (postO)) := by
  refine okB F sc_l_of (fun ds h => ?_) (fun cdv A outer s H E hr ds h => ?_)
  · obtain ⟨k, l, rfl, l0, l1⟩ := h
    rfl
  obtain ⟨k, l, rfl, l0, l1⟩ := h
  refine ⟨_, (pss_one (ps_ret (pe_ix ix_seq (pv 1) (pe_call c_l_take.ok (hr.mono (by decide)) rfl c_l_take.mg c_l_take.kp c_l_take.bi .nil pass0 (pa_cons (pv 0) (pa_cons (pe_callB call_len_seq rfl bl.len (by decide +kernel) (pa_cons (pv 1) pa_nil)) pa_nil))) (fun _ _ => rfl)))), fun b F => ?_⟩
  change AS K _ [En.bx _ _, En.da _] _ _
  try simp only [cxOf_K, cxOf_w]
  repeat' (first
    | ((with_reducible apply ae_take); · rfl)
    | with_reducible apply ac_len
    | refine ⟨_, rfl, by omega, by omega, _, rfl, fun v v0 v1 => ?_⟩
    | with_reducible apply as_seq
    | with_reducible apply as_ret
    | with_reducible apply as_next
    | with_reducible apply as_if
    | with_reducible apply as_set
    | with_reducible apply as_par
    | with_reducible apply as_par3
    | with_reducible apply as_asg
    | ((with_reducible apply ae_var); · rfl)
    | with_reducible apply ae_int
    | with_reducible apply ae_non
    | with_reducible apply ae_bl
    | with_reducible apply ae_str
    | with_reducible apply ae_ty
    | with_reducible apply ae_isi2
    | with_reducible apply ae_op
    | with_reducible apply ae_un
    | with_reducible apply aa_nil
    | with_reducible apply aa_cons
    | with_reducible apply ae_cb
    | with_reducible apply ae_tup
    | with_reducible apply ae_lst
    | with_reducible apply ae_if
    | with_reducible apply at_test
    | with_reducible apply at_b
    | with_reducible apply at_and
    | with_reducible apply at_or
    | with_reducible apply at_not
    | with_reducible apply at_yes
    | with_reducible apply ae_andV
    | with_reducible apply ae_orV
    | with_reducible apply ae_notV
    | with_reducible apply ar_I0i
    | with_reducible apply ar_I0b
    | with_reducible apply ar_isN
    | with_reducible apply ar_notN
    | with_reducible apply au_Ui
    | ((with_reducible apply ar_ixTs); · rfl)
    | ((with_reducible apply ar_ixLs); · rfl)
    | ((with_reducible apply ar_ix); · rfl)
    | ((with_reducible apply ar_ixT); · rfl)
    | ((with_reducible apply ar_ixL); · rfl)
    | with_reducible apply ac_abs
    | with_reducible apply ac_max2
    | with_reducible apply ac_min2
    | with_reducible apply ac_lenT
    | with_reducible apply ac_lenL
    | with_reducible apply ac_listT
    | with_reducible apply ac_listL
    | with_reducible apply ac_tupL
    | with_reducible apply ac_tupT
    | with_reducible apply ac_int
    | with_reducible apply ac_intB
    | ((with_reducible apply ar_eq3); · exact ⟨rfl, rfl, rfl⟩)
    | ((with_reducible apply ar_ne3); · exact ⟨rfl, rfl, rfl⟩)
    | with_reducible apply ag_name
    | with_reducible apply ags_nil
    | with_reducible apply ags_cons
    | ((with_reducible apply ag_tup); · rfl)
    | refine ⟨sz60 (Nat.le_of_ble_eq_true rfl), ?_⟩
    | refine ⟨_, rfl, ?_⟩
    | refine ⟨_, _, rfl, ?_⟩
    | refine ⟨_, _, _, rfl, ?_⟩
    | (refine ⟨fun hc => ?_, fun hc => ?_⟩ <;> (first | (exfalso; exact absurd (show false = true from hc) (by decide)) | (exfalso; exact absurd (show true = false from hc) (by decide)) | (exfalso; simp at hc; done) | skip))
    | rfl
    | exact trivial
    | simp only [oD_some, oD_none])
  have hv : v.toNat < l.length := by omega
  have ev : v = ((v.toNat : Nat) : Int) := by omega
  refine ar_ix (d := l[v.toNat]) ?_ ?_
  · have e := atI_nat (List.getElem?_eq_getElem hv)
    rw [← ev] at e; exact e
  · refine ⟨fun k' l' z => ?_, _, rfl, Nat.le_refl _⟩
    rw [← sq_inj (List.cons.inj z).1]
    exact List.getElem_mem hv
end
end Sh
set_option Elab.async false
set_option linter.all false
set_option maxRecDepth 100000
set_option maxHeartbeats 4000000
namespace Sh
open PySem PySem.Spec PyProof.Rows L2
def S2 (g : Option Int → Option Int → Option Int) (ds : List Dt) (r : Dt) : Prop := ∃ a b, ds = [oD a, oD b] ∧ r = oD (g a b)
def S2b (g : Option Int → Option Int → Bool) (ds : List Dt) (r : Dt) : Prop := ∃ a b, ds = [oD a, oD b] ∧ r = .bl (g a b)
def S_lets (ds : List Dt) (r : Dt) : Prop := ∃ a b n, ds = [oD a, oD b, .int n] ∧ r = .bl (letsB a b n)
def S_sj (ds : List Dt) (r : Dt) : Prop := ∃ k k' a b c d, ds = [sq k [oD a, oD b], sq k' [oD c, oD d]] ∧ r = .tup [oD (lowJ a c), oD (highJ b d)]
def S_ro (ds : List Dt) (res : Dt) : Prop := ∃ m n : Int, ds = [.int m, .int n] ∧ res = pD (restOf m n)
def S_rj (ds : List Dt) (res : Dt) : Prop := ∃ k k', ∃ m r n s : Int, ds = [sq k [.int m, .int r], sq k' [.int n, .int s]] ∧ res = pD (restJ m r n s)
def S_has (ds : List Dt) (res : Dt) : Prop := ∃ k, ∃ m r n : Int, ds = [sq k [.int m, .int r], .int n] ∧ res = .bl (hasB m r n)
def S_rw (ds : List Dt) (res : Dt) : Prop := ∃ k k', ∃ m r n s : Int, ds = [sq k [.int m, .int r], sq k' [.int n, .int s]] ∧ res = .bl (rwB m r n s)
def S_sing (ds : List Dt) (res : Dt) : Prop := ∃ n : Int, ds = [.int n] ∧ res = vD (some n) (some n) 0 n
def S_vo (ds : List Dt) (res : Dt) : Prop := ∃ lo hi, ∃ m r : Int, ds = [oD lo, oD hi, .int m, .int r] ∧ res = voD lo hi m r
def S_con (ds : List Dt) (res : Dt) : Prop := ∃ k lo hi, ∃ m r n : Int, ds = [sq k [oD lo, oD hi, .int m, .int r], .int n] ∧ res = .bl (letsB lo hi n && hasB m r n)
def S_vw (ds : List Dt) (res : Dt) : Prop := ∃ k k' a b c d, ∃ m r n s : Int, ds = [sq k [oD a, oD b, .int m, .int r], sq k' [oD c, oD d, .int n, .int s]] ∧ res = .bl (lwB a c && (hwB b d && rwB m r n s))
def S_vf (ds : List Dt) (res : Dt) : Prop := ∃ k k' a b, ∃ m r : Int, ds = [sq k [oD a, oD b], sq k' [.int m, .int r]] ∧ res = voD a b m r
def S_vj (ds : List Dt) (res : Dt) : Prop := ∃ k k' a b c d, ∃ m r n s : Int, ds = [sq k [oD a, oD b, .int m, .int r], sq k' [oD c, oD d, .int n, .int s]] ∧ res = voD (lowJ a c) (highJ b d) (restJ m r n s).1 (restJ m r n s).2
abbrev s_loosest_low : Stmt := topS 2
abbrev N_loosest_low : List Str := ["one", "other"]
abbrev p_loosest_low : List Str := ["one", "other"]
theorem sc_loosest_low : FnScope N_loosest_low p_loosest_low (defScope s_loosest_low) := ⟨rfl, rfl, rfl, by decide +kernel, rfl, by decide +kernel, by decide +kernel⟩
abbrev s_loosest_high : Stmt := topS 4
abbrev N_loosest_high : List Str := ["one", "other"]
abbrev p_loosest_high : List Str := ["one", "other"]
theorem sc_loosest_high : FnScope N_loosest_high p_loosest_high (defScope s_loosest_high) := ⟨rfl, rfl, rfl, by decide +kernel, rfl, by decide +kernel, by decide +kernel⟩
abbrev s_low_within : Stmt := topS 6
abbrev N_low_within : List Str := ["one", "other"]
abbrev p_low_within : List Str := ["one", "other"]
theorem sc_low_within : FnScope N_low_within p_low_within (defScope s_low_within) := ⟨rfl, rfl, rfl, by decide +kernel, rfl, by decide +kernel, by decide +kernel⟩
abbrev s_high_within : Stmt := topS 7
abbrev N_high_within : List Str := ["one", "other"]
abbrev p_high_within : List Str := ["one", "other"]
theorem sc_high_within : FnScope N_high_within p_high_within (defScope s_high_within) := ⟨rfl, rfl, rfl, by decide +kernel, rfl, by decide +kernel, by decide +kernel⟩
abbrev s_lets_in : Stmt := topS 8
abbrev N_lets_in : List Str := ["low", "high", "n"]
abbrev p_lets_in : List Str := ["low", "high", "n"]
theorem sc_lets_in : FnScope N_lets_in p_lets_in (defScope s_lets_in) := ⟨rfl, rfl, rfl, by decide +kernel, rfl, by decide +kernel, by decide +kernel⟩
abbrev s_rest_of : Stmt := topS 12
abbrev N_rest_of : List Str := ["m", "n"]
abbrev p_rest_of : List Str := ["m", "n"]
theorem sc_rest_of : FnScope N_rest_of p_rest_of (defScope s_rest_of) := ⟨rfl, rfl, rfl, by decide +kernel, rfl, by decide +kernel, by decide +kernel⟩
abbrev s_rest_join : Stmt := topS 10
abbrev N_rest_join : List Str := ["one", "other", "m", "r", "n", "s"]
abbrev p_rest_join : List Str := ["one", "other"]
theorem sc_rest_join : FnScope N_rest_join p_rest_join (defScope s_rest_join) := ⟨rfl, rfl, rfl, by decide +kernel, rfl, by decide +kernel, by decide +kernel⟩
abbrev s_rest_has : Stmt := topS 13
abbrev N_rest_has : List Str := ["rest", "n", "m", "r"]
abbrev p_rest_has : List Str := ["rest", "n"]
theorem sc_rest_has : FnScope N_rest_has p_rest_has (defScope s_rest_has) := ⟨rfl, rfl, rfl, by decide +kernel, rfl, by decide +kernel, by decide +kernel⟩
abbrev s_rest_within : Stmt := topS 14
abbrev N_rest_within : List Str := ["one", "other"]
abbrev p_rest_within : List Str := ["one", "other"]
theorem sc_rest_within : FnScope N_rest_within p_rest_within (defScope s_rest_within) := ⟨rfl, rfl, rfl, by decide +kernel, rfl, by decide +kernel, by decide +kernel⟩
abbrev s_span_join : Stmt := topS 17
abbrev N_span_join : List Str := ["one", "other"]
abbrev p_span_join : List Str := ["one", "other"]
theorem sc_span_join : FnScope N_span_join p_span_join (defScope s_span_join) := ⟨rfl, rfl, rfl, by decide +kernel, rfl, by decide +kernel, by decide +kernel⟩
abbrev s_single : Stmt := topS 21
abbrev N_single : List Str := ["n"]
abbrev p_single : List Str := ["n"]
theorem sc_single : FnScope N_single p_single (defScope s_single) := ⟨rfl, rfl, rfl, by decide +kernel, rfl, by decide +kernel, by decide +kernel⟩
abbrev s_value_of : Stmt := topS 22
abbrev N_value_of : List Str := ["low", "high", "m", "r"]
abbrev p_value_of : List Str := ["low", "high", "m", "r"]
theorem sc_value_of : FnScope N_value_of p_value_of (defScope s_value_of) := ⟨rfl, rfl, rfl, by decide +kernel, rfl, by decide +kernel, by decide +kernel⟩
abbrev s_contains : Stmt := topS 23
abbrev N_contains : List Str := ["value", "n"]
abbrev p_contains : List Str := ["value", "n"]
theorem sc_contains : FnScope N_contains p_contains (defScope s_contains) := ⟨rfl, rfl, rfl, by decide +kernel, rfl, by decide +kernel, by decide +kernel⟩
abbrev s_value_within : Stmt := topS 24
abbrev N_value_within : List Str := ["one", "other"]
abbrev p_value_within : List Str := ["one", "other"]
theorem sc_value_within : FnScope N_value_within p_value_within (defScope s_value_within) := ⟨rfl, rfl, rfl, by decide +kernel, rfl, by decide +kernel, by decide +kernel⟩
abbrev s_value_from : Stmt := topS 27
abbrev N_value_from : List Str := ["span", "rest"]
abbrev p_value_from : List Str := ["span", "rest"]
theorem sc_value_from : FnScope N_value_from p_value_from (defScope s_value_from) := ⟨rfl, rfl, rfl, by decide +kernel, rfl, by decide +kernel, by decide +kernel⟩
abbrev s_value_join : Stmt := topS 25
abbrev N_value_join : List Str := ["one", "other"]
abbrev p_value_join : List Str := ["one", "other"]
theorem sc_value_join : FnScope N_value_join p_value_join (defScope s_value_join) := ⟨rfl, rfl, rfl, by decide +kernel, rfl, by decide +kernel, by decide +kernel⟩
section
variable {P : Program} {w : World} {K : PySem.W.Frag} {mg : Str → Option Value} {base : Heap}
theorem ok_loosest_low (bl : Blts mg)   {f : Addr} {fd : FuncData} (F : Fun K "loosest_low" "loosest_low" s_loosest_low f fd) : FnOk P w K mg base CX0 1 f fd p_loosest_low (spP K (S2 lowJ)) := by
  refine okP F sc_loosest_low (fun ds r h => ?_) (fun cdv A outer s H E hr ds r h => ?_)
  · obtain ⟨a, b, rfl, rfl⟩ := h
    rfl
  obtain ⟨a, b, rfl, rfl⟩ := h
  refine ⟨_, (pss_cons (ps_if (PW.pt (pw_or (pt_cmpR op_isN (pv 0) pe_non (nomark _)) (pw_or1 (pt_cmpR op_isN (pv 1) pe_non (nomark _))))) (pss_one (ps_ret pe_non)) pss_nil)
    (pss_one (ps_ret (pe_callB (call_min2 rfl) rfl bl.min (by decide +kernel) (pa_cons (pv 0) (pa_cons (pv 1) pa_nil)))))), ?_⟩
  change AS K _ [En.da _, En.da _] _ _
  try simp only [cxOf_K]
  cases a <;> cases b
  all_goals
    repeat' (first
      | with_reducible apply as_seq
      | with_reducible apply as_ret
      | with_reducible apply as_next
      | with_reducible apply as_if
      | ((with_reducible apply ae_var); · rfl)
      | with_reducible apply ae_non
      | with_reducible apply ae_op
      | with_reducible apply aa_nil
      | with_reducible apply aa_cons
      | with_reducible apply ae_cb
      | with_reducible apply at_test
      | with_reducible apply at_or
      | with_reducible apply ar_isN
      | with_reducible apply ac_min2
      | refine ⟨_, rfl, ?_⟩
      | (refine ⟨fun hc => ?_, fun hc => ?_⟩ <;> (first | (exfalso; exact absurd (show false = true from hc) (by decide)) | (exfalso; exact absurd (show true = false from hc) (by decide)) | (exfalso; simp at hc; done) | skip))
      | rfl
      | simp only [oD_some, oD_none]
      | fail)
theorem ok_loosest_high (bl : Blts mg)   {f : Addr} {fd : FuncData} (F : Fun K "loosest_high" "loosest_high" s_loosest_high f fd) : FnOk P w K mg base CX0 1 f fd p_loosest_high (spP K (S2 highJ)) := by
  refine okP F sc_loosest_high (fun ds r h => ?_) (fun cdv A outer s H E hr ds r h => ?_)
  · obtain ⟨a, b, rfl, rfl⟩ := h
    rfl
  obtain ⟨a, b, rfl, rfl⟩ := h
  refine ⟨_, (pss_cons (ps_if (PW.pt (pw_or (pt_cmpR op_isN (pv 0) pe_non (nomark _)) (pw_or1 (pt_cmpR op_isN (pv 1) pe_non (nomark _))))) (pss_one (ps_ret pe_non)) pss_nil)
    (pss_one (ps_ret (pe_callB (call_max2 rfl) rfl bl.max (by decide +kernel) (pa_cons (pv 0) (pa_cons (pv 1) pa_nil)))))), ?_⟩
  change AS K _ [En.da _, En.da _] _ _
  try simp only [cxOf_K]
  cases a <;> cases b
  all_goals
    repeat' (first
      | with_reducible apply as_seq
      | with_reducible apply as_ret
      | with_reducible apply as_next
      | with_reducible apply as_if
      | ((with_reducible apply ae_var); · rfl)
      | with_reducible apply ae_non
      | with_reducible apply ae_op
      | with_reducible apply aa_nil
      | with_reducible apply aa_cons
      | with_reducible apply ae_cb
      | with_reducible apply at_test
      | with_reducible apply at_or
      | with_reducible apply ar_isN
      | with_reducible apply ac_max2
      | refine ⟨_, rfl, ?_⟩
      | (refine ⟨fun hc => ?_, fun hc => ?_⟩ <;> (first | (exfalso; exact absurd (show false = true from hc) (by decide)) | (exfalso; exact absurd (show true = false from hc) (by decide)) | (exfalso; simp at hc; done) | skip))
      | rfl
      | simp only [oD_some, oD_none]
      | fail)
theorem ok_low_within (bl : Blts mg)   {f : Addr} {fd : FuncData} (F : Fun K "low_within" "low_within" s_low_within f fd) : FnOk P w K mg base CX0 1 f fd p_low_within (spP K (S2b lwB)) := by
  refine okP F sc_low_within (fun ds r h => ?_) (fun cdv A outer s H E hr ds r h => ?_)
  · obtain ⟨a, b, rfl, rfl⟩ := h
    rfl
  obtain ⟨a, b, rfl, rfl⟩ := h
  refine ⟨_, (pss_one (ps_ret (pe_or (pe_cmpR op_isN (pv 1) pe_non (nomark _)) (pe_one (pe_and (pe_cmpR op_notN (pv 0) pe_non (nomark _)) (pe_one (pe_cmpR op_ge (pv 0) (pv 1) (nomark _)))))))), ?_⟩
  change AS K _ [En.da _, En.da _] _ _
  try simp only [cxOf_K]
  cases a <;> cases b
  all_goals
    repeat' (first
      | with_reducible apply as_ret
      | ((with_reducible apply ae_var); · rfl)
      | with_reducible apply ae_non
      | with_reducible apply ae_op
      | with_reducible apply ae_andV
      | with_reducible apply ae_orV
      | with_reducible apply ar_I0b
      | with_reducible apply ar_isN
      | with_reducible apply ar_notN
      | refine ⟨_, rfl, ?_⟩
      | (refine ⟨fun hc => ?_, fun hc => ?_⟩ <;> (first | (exfalso; exact absurd (show false = true from hc) (by decide)) | (exfalso; exact absurd (show true = false from hc) (by decide)) | (exfalso; simp at hc; done) | skip))
      | rfl
      | simp only [oD_some, oD_none]
      | fail)
theorem ok_high_within (bl : Blts mg)   {f : Addr} {fd : FuncData} (F : Fun K "high_within" "high_within" s_high_within f fd) : FnOk P w K mg base CX0 1 f fd p_high_within (spP K (S2b hwB)) := by
  refine okP F sc_high_within (fun ds r h => ?_) (fun cdv A outer s H E hr ds r h => ?_)
  · obtain ⟨a, b, rfl, rfl⟩ := h
    rfl
  obtain ⟨a, b, rfl, rfl⟩ := h
  refine ⟨_, (pss_one (ps_ret (pe_or (pe_cmpR op_isN (pv 1) pe_non (nomark _)) (pe_one (pe_and (pe_cmpR op_notN (pv 0) pe_non (nomark _)) (pe_one (pe_cmpR op_le (pv 0) (pv 1) (nomark _)))))))), ?_⟩
  change AS K _ [En.da _, En.da _] _ _
  try simp only [cxOf_K]
  cases a <;> cases b
  all_goals
    repeat' (first
      | with_reducible apply as_ret
      | ((with_reducible apply ae_var); · rfl)
      | with_reducible apply ae_non
      | with_reducible apply ae_op
      | with_reducible apply ae_andV
      | with_reducible apply ae_orV
      | with_reducible apply ar_I0b
      | with_reducible apply ar_isN
      | with_reducible apply ar_notN
      | refine ⟨_, rfl, ?_⟩
      | (refine ⟨fun hc => ?_, fun hc => ?_⟩ <;> (first | (exfalso; exact absurd (show false = true from hc) (by decide)) | (exfalso; exact absurd (show true = false from hc) (by decide)) | (exfalso; simp at hc; done) | skip))
      | rfl
      | simp only [oD_some, oD_none]
      | fail)
theorem ok_span_join (bl : Blts mg) {g_loosest_low : Addr} {d_loosest_low : FuncData} (c_loosest_low : Cal P w K mg base 1 "loosest_low" p_loosest_low (spP K (S2 lowJ)) g_loosest_low d_loosest_low) {g_loosest_high : Addr} {d_loosest_high : FuncData} (c_loosest_high : Cal P w K mg base 1 "loosest_high" p_loosest_high (spP K (S2 highJ)) g_loosest_high d_loosest_high)  {f : Addr} {fd : FuncData} (F : Fun K "span_join" "span_join" s_span_join f fd) : FnOk P w K mg base CX0 2 f fd p_span_join (spP K (S_sj)) := by
  refine okP F sc_span_join (fun ds r h => ?_) (fun cdv A outer s H E hr ds r h => ?_)
  · obtain ⟨k, k', a, b, c, d, rfl, rfl⟩ := h
    rfl
  obtain ⟨k, k', a, b, c, d, rfl, rfl⟩ := h
  refine ⟨_, (pss_one (ps_ret (pe_tup (pa_cons (pe_call c_loosest_low.ok (hr.mono (by decide)) rfl c_loosest_low.mg c_loosest_low.kp c_loosest_low.bi .nil pass0 (pa_cons (pe_ix ix_seq (pv 0) pe_int (fun _ _ => rfl)) (pa_cons (pe_ix ix_seq (pv 1) pe_int (fun _ _ => rfl)) pa_nil))) (pa_cons (pe_call c_loosest_high.ok (hr.mono (by decide)) rfl c_loosest_high.mg c_loosest_high.kp c_loosest_high.bi .nil pass0 (pa_cons (pe_ix ix_seq (pv 0) pe_int (fun _ _ => rfl)) (pa_cons (pe_ix ix_seq (pv 1) pe_int (fun _ _ => rfl)) pa_nil))) pa_nil))))), ?_⟩
  change AS K _ [En.da _, En.da _] _ _
  try simp only [cxOf_K]
  repeat' (first
    | with_reducible apply ae_call
    | (refine ⟨_, ⟨_, _, rfl, rfl⟩, ?_⟩)
    | with_reducible apply as_ret
    | ((with_reducible apply ae_var); · rfl)
    | with_reducible apply ae_int
    | with_reducible apply ae_op
    | with_reducible apply aa_nil
    | with_reducible apply aa_cons
    | with_reducible apply ae_tup
    | ((with_reducible apply ar_ix); · rfl)
    | refine ⟨sz60 (Nat.le_of_ble_eq_true rfl), ?_⟩
    | rfl
    | fail)
theorem ok_lets_in (bl : Blts mg) {g_low_within : Addr} {d_low_within : FuncData} (c_low_within : Cal P w K mg base 1 "low_within" p_low_within (spP K (S2b lwB)) g_low_within d_low_within) {g_high_within : Addr} {d_high_within : FuncData} (c_high_within : Cal P w K mg base 1 "high_within" p_high_within (spP K (S2b hwB)) g_high_within d_high_within)  {f : Addr} {fd : FuncData} (F : Fun K "lets_in" "lets_in" s_lets_in f fd) : FnOk P w K mg base CX0 2 f fd p_lets_in (spP K (S_lets)) := by
  refine okP F sc_lets_in (fun ds r h => ?_) (fun cdv A outer s H E hr ds r h => ?_)
  · obtain ⟨a, b, n, rfl, rfl⟩ := h
    rfl
  obtain ⟨a, b, n, rfl, rfl⟩ := h
  refine ⟨_, (pss_one (ps_ret (pe_and (pe_call c_low_within.ok (hr.mono (by decide)) rfl c_low_within.mg c_low_within.kp c_low_within.bi .nil pass0 (pa_cons (pv 2) (pa_cons (pv 0) pa_nil))) (pe_one (pe_call c_high_within.ok (hr.mono (by decide)) rfl c_high_within.mg c_high_within.kp c_high_within.bi .nil pass0 (pa_cons (pv 2) (pa_cons (pv 1) pa_nil))))))), ?_⟩
  change AS K _ [En.da _, En.da _, En.da _] _ _
  try simp only [cxOf_K]
  repeat' (first
    | with_reducible apply ae_call
    | (refine ⟨_, ⟨some _, _, rfl, rfl⟩, ?_⟩)
    | with_reducible apply as_ret
    | ((with_reducible apply ae_var); · rfl)
    | with_reducible apply aa_nil
    | with_reducible apply aa_cons
    | with_reducible apply ae_andV
    | refine ⟨_, rfl, ?_⟩
    | (refine ⟨fun hc => ?_, fun hc => ?_⟩ <;> (first | (exfalso; exact absurd (show false = true from hc) (by decide)) | (exfalso; exact absurd (show true = false from hc) (by decide)) | (exfalso; simp at hc; done) | skip))
    | fail)
  all_goals (unfold letsB; first | (rw [show lwB (some n) a = true from hc]; rfl) | (rw [show lwB (some n) a = false from hc]; rfl) | trace_state)
theorem ok_rest_of (bl : Blts mg)   {f : Addr} {fd : FuncData} (F : Fun K "rest_of" "rest_of" s_rest_of f fd) : FnOk P w K mg base CX0 1 f fd p_rest_of (spP K (S_ro)) := by
  refine okP F sc_rest_of (fun ds r h => ?_) (fun cdv A outer s H E hr ds r h => ?_)
  · obtain ⟨m, n, rfl, rfl⟩ := h
    rfl
  obtain ⟨m, n, rfl, rfl⟩ := h
  refine ⟨_, (pss_cons (ps_if (pt_cmpR op_eq (pv 0) pe_int (nomark _)) (pss_one (ps_ret (pe_tup (pa_cons pe_int (pa_cons (pv 1) pa_nil))))) pss_nil)
    (pss_one (ps_ret (pe_tup (pa_cons (pv 0) (pa_cons (pe_op op_modN (pv 1) (pv 0)) pa_nil)))))), ?_⟩
  change AS K _ [En.da _, En.da _] _ _
  try simp only [cxOf_K]
  by_cases h0 : m = 0
  · subst h0
    repeat' (first
      | with_reducible apply as_seq
      | with_reducible apply as_ret
      | with_reducible apply as_if
      | ((with_reducible apply ae_var); · rfl)
      | with_reducible apply ae_int
      | with_reducible apply ae_op
      | with_reducible apply aa_nil
      | with_reducible apply aa_cons
      | with_reducible apply ae_tup
      | with_reducible apply at_test
      | ((with_reducible apply ar_eq3); · exact ⟨rfl, rfl, rfl⟩)
      | refine ⟨sz60 (Nat.le_of_ble_eq_true rfl), ?_⟩
      | refine ⟨_, rfl, ?_⟩
      | (refine ⟨fun hc => ?_, fun hc => ?_⟩ <;> (first | (exfalso; exact absurd (show false = true from hc) (by decide)) | (exfalso; exact absurd (show true = false from hc) (by decide)) | (exfalso; simp at hc; done) | skip))
      | rfl
      | fail)
  · have hd : decide (V.int m = V.int 0) = false := decide_eq_false (fun z => h0 (by cases z; rfl))
    repeat' (first
      | (refine ⟨_, rfl, ?_⟩; rw [hd]; refine ⟨fun hc => (nomatch hc), fun hc => ?_⟩)
      | refine ar_Ii (C := fun _ j => j ≠ 0) (by first | assumption | omega) ?_
      | with_reducible apply as_seq
      | with_reducible apply as_ret
      | with_reducible apply as_next
      | with_reducible apply as_if
      | ((with_reducible apply ae_var); · rfl)
      | with_reducible apply ae_int
      | with_reducible apply ae_op
      | with_reducible apply aa_nil
      | with_reducible apply aa_cons
      | with_reducible apply ae_tup
      | with_reducible apply at_test
      | ((with_reducible apply ar_eq3); · exact ⟨rfl, rfl, rfl⟩)
      | refine ⟨sz60 (Nat.le_of_ble_eq_true rfl), ?_⟩
      | fail)
    all_goals (show _ = pD (restOf m n); unfold restOf; rw [if_neg h0])
theorem ok_rest_join (bl : Blts mg) {g_rest_of : Addr} {d_rest_of : FuncData} (c_rest_of : Cal P w K mg base 1 "rest_of" p_rest_of (spP K S_ro) g_rest_of d_rest_of) (hgcd : mg "gcd" = some (.builtin "math.gcd")) {f : Addr} {fd : FuncData} (F : Fun K "rest_join" "rest_join" s_rest_join f fd) : FnOk P w K mg base CX0 2 f fd p_rest_join (spP K (S_rj)) := by
  refine okP F sc_rest_join (fun ds r h => ?_) (fun cdv A outer s H E hr ds r h => ?_)
  · obtain ⟨k, k', m, r, n, s, rfl, rfl⟩ := h
    rfl
  obtain ⟨k, k', m, r, n, s, rfl, rfl⟩ := h
  refine ⟨_, (pss_cons (ps_asg (pv 0) (pg_or (pg_tup rfl (pgs_cons (pg_name (i := 2) sc_rest_join.nd rfl (by first | exact Or.inl rfl | exact Or.inr rfl)) (pgs_cons (pg_name (i := 3) sc_rest_join.nd rfl (by first | exact Or.inl rfl | exact Or.inr rfl)) pgs_nil))) (pg_unl rfl (pgs_cons (pg_name (i := 2) sc_rest_join.nd rfl (by first | exact Or.inl rfl | exact Or.inr rfl)) (pgs_cons (pg_name (i := 3) sc_rest_join.nd rfl (by first | exact Or.inl rfl | exact Or.inr rfl)) pgs_nil)))))
    (pss_cons (ps_asg (pv 1) (pg_or (pg_tup rfl (pgs_cons (pg_name (i := 4) sc_rest_join.nd rfl (by first | exact Or.inl rfl | exact Or.inr rfl)) (pgs_cons (pg_name (i := 5) sc_rest_join.nd rfl (by first | exact Or.inl rfl | exact Or.inr rfl)) pgs_nil))) (pg_unl rfl (pgs_cons (pg_name (i := 4) sc_rest_join.nd rfl (by first | exact Or.inl rfl | exact Or.inr rfl)) (pgs_cons (pg_name (i := 5) sc_rest_join.nd rfl (by first | exact Or.inl rfl | exact Or.inr rfl)) pgs_nil)))))
    (pss_one (ps_ret (pe_call c_rest_of.ok (hr.mono (by decide)) rfl c_rest_of.mg c_rest_of.kp c_rest_of.bi .nil pass0 (pa_cons (pe_callBfun cr_gcd3 rfl hgcd (pa_cons (pv 2) (pa_cons (pv 4) (pa_cons (pe_op op_sub (pv 3) (pv 5)) pa_nil)))) (pa_cons (pv 3) pa_nil))))))), ?_⟩
  change AS K _ [En.da _, En.da _, En.no, En.no, En.no, En.no] _ _
  try simp only [cxOf_K]
  repeat' (first
    | ((with_reducible apply ag_seq); · rfl)
    | with_reducible apply ae_call
    | (refine ⟨_, ⟨_, _, rfl, rfl⟩, ?_⟩)
    | with_reducible apply ac_gcd3
    | with_reducible apply as_seq
    | with_reducible apply as_ret
    | with_reducible apply as_asg
    | ((with_reducible apply ae_var); · rfl)
    | with_reducible apply ae_op
    | with_reducible apply aa_nil
    | with_reducible apply aa_cons
    | with_reducible apply ae_cb
    | with_reducible apply ar_I0i
    | with_reducible apply ag_name
    | with_reducible apply ags_nil
    | with_reducible apply ags_cons
    | rfl
    | fail)
theorem ok_rest_has (bl : Blts mg)   {f : Addr} {fd : FuncData} (F : Fun K "rest_has" "rest_has" s_rest_has f fd) : FnOk P w K mg base CX0 1 f fd p_rest_has (spP K (S_has)) := by
  refine okP F sc_rest_has (fun ds r h => ?_) (fun cdv A outer s H E hr ds r h => ?_)
  · obtain ⟨k, m, r, n, rfl, rfl⟩ := h
    rfl
  obtain ⟨k, m, r, n, rfl, rfl⟩ := h
  refine ⟨_, (pss_cons (ps_asg (pv 0) (pg_or (pg_tup rfl (pgs_cons (pg_name (i := 2) sc_rest_has.nd rfl (by first | exact Or.inl rfl | exact Or.inr rfl)) (pgs_cons (pg_name (i := 3) sc_rest_has.nd rfl (by first | exact Or.inl rfl | exact Or.inr rfl)) pgs_nil))) (pg_unl rfl (pgs_cons (pg_name (i := 2) sc_rest_has.nd rfl (by first | exact Or.inl rfl | exact Or.inr rfl)) (pgs_cons (pg_name (i := 3) sc_rest_has.nd rfl (by first | exact Or.inl rfl | exact Or.inr rfl)) pgs_nil)))))
    (pss_cons (ps_if (pt_cmpR op_eq (pv 2) pe_int (nomark _)) (pss_one (ps_ret (pe_cmpR op_eq (pv 1) (pv 3) (nomark _)))) pss_nil)
    (pss_one (ps_ret (pe_cmpR op_eq (pe_op op_modN (pv 1) (pv 2)) (pv 3) (nomark _)))))), ?_⟩
  change AS K _ [En.da _, En.da _, En.no, En.no] _ _
  try simp only [cxOf_K]
  by_cases h0 : m = 0
  · subst h0
    repeat' (first
      | ((with_reducible apply ag_seq); · rfl)
      | with_reducible apply as_seq
      | with_reducible apply as_ret
      | with_reducible apply as_if
      | with_reducible apply as_asg
      | ((with_reducible apply ae_var); · rfl)
      | with_reducible apply ae_int
      | with_reducible apply ae_op
      | with_reducible apply at_test
      | ((with_reducible apply ar_eq3); · exact ⟨rfl, rfl, rfl⟩)
      | with_reducible apply ag_name
      | with_reducible apply ags_nil
      | with_reducible apply ags_cons
      | refine ⟨_, rfl, ?_⟩
      | (refine ⟨fun hc => ?_, fun hc => ?_⟩ <;> (first | (exfalso; exact absurd (show false = true from hc) (by decide)) | (exfalso; exact absurd (show true = false from hc) (by decide)) | (exfalso; simp at hc; done) | skip))
      | fail)
    all_goals simp [hasB]
  · have hd : decide (V.int m = V.int 0) = false := decide_eq_false (fun z => h0 (by cases z; rfl))
    repeat' (first
      | ((with_reducible apply ag_seq); · rfl)
      | (refine ⟨_, rfl, ?_⟩; rw [hd]; refine ⟨fun hc => (nomatch hc), fun hc => ?_⟩)
      | refine ar_Ii (C := fun _ j => j ≠ 0) (by first | assumption | omega) ?_
      | with_reducible apply as_seq
      | with_reducible apply as_ret
      | with_reducible apply as_next
      | with_reducible apply as_if
      | with_reducible apply as_asg
      | ((with_reducible apply ae_var); · rfl)
      | with_reducible apply ae_int
      | with_reducible apply ae_op
      | with_reducible apply at_test
      | ((with_reducible apply ar_eq3); · exact ⟨rfl, rfl, rfl⟩)
      | with_reducible apply ag_name
      | with_reducible apply ags_nil
      | with_reducible apply ags_cons
      | fail)
    all_goals simp [hasB, h0]
theorem ok_rest_within (bl : Blts mg) {g_rest_has : Addr} {d_rest_has : FuncData} (c_rest_has : Cal P w K mg base 1 "rest_has" p_rest_has (spP K S_has) g_rest_has d_rest_has)  {f : Addr} {fd : FuncData} (F : Fun K "rest_within" "rest_within" s_rest_within f fd) : FnOk P w K mg base CX0 2 f fd p_rest_within (spP K (S_rw)) := by
  refine okP F sc_rest_within (fun ds r h => ?_) (fun cdv A outer s H E hr ds r h => ?_)
  · obtain ⟨k, k', m, r, n, s, rfl, rfl⟩ := h
    rfl
  obtain ⟨k, k', m, r, n, s, rfl, rfl⟩ := h
  refine ⟨_, (pss_cons (ps_if (pt_cmpR op_eq (pe_ix ix_seq (pv 1) pe_int (fun _ _ => rfl)) pe_int (nomark _)) (pss_one (ps_ret (pe_and (pe_cmpR op_eq (pe_ix ix_seq (pv 0) pe_int (fun _ _ => rfl)) pe_int (nomark _)) (pe_one (pe_cmpR op_eq (pe_ix ix_seq (pv 0) pe_int (fun _ _ => rfl)) (pe_ix ix_seq (pv 1) pe_int (fun _ _ => rfl)) (nomark _)))))) pss_nil)
    (pss_one (ps_ret (pe_and (pe_cmpR op_eq (pe_op op_modN (pe_ix ix_seq (pv 0) pe_int (fun _ _ => rfl)) (pe_ix ix_seq (pv 1) pe_int (fun _ _ => rfl))) pe_int (nomark _)) (pe_one (pe_call c_rest_has.ok (hr.mono (by decide)) rfl c_rest_has.mg c_rest_has.kp c_rest_has.bi .nil pass0 (pa_cons (pv 1) (pa_cons (pe_ix ix_seq (pv 0) pe_int (fun _ _ => rfl)) pa_nil)))))))), ?_⟩
  change AS K _ [En.da _, En.da _] _ _
  try simp only [cxOf_K]
  by_cases h0 : n = 0
  · subst h0
    repeat' (first
      | with_reducible apply as_seq
      | with_reducible apply as_ret
      | with_reducible apply as_if
      | ((with_reducible apply ae_var); · rfl)
      | with_reducible apply ae_int
      | with_reducible apply ae_op
      | with_reducible apply at_test
      | with_reducible apply ae_andV
      | ((with_reducible apply ar_ix); · rfl)
      | ((with_reducible apply ar_eq3); · exact ⟨rfl, rfl, rfl⟩)
      | refine ⟨_, rfl, ?_⟩
      | (refine ⟨fun hc => ?_, fun hc => ?_⟩ <;> (first | (exfalso; exact absurd (show false = true from hc) (by decide)) | (exfalso; exact absurd (show true = false from hc) (by decide)) | (exfalso; simp at hc; done) | skip))
      | fail)
    all_goals simp_all [rwB]
  · have hd : decide (V.int n = V.int 0) = false := decide_eq_false (fun z => h0 (by cases z; rfl))
    repeat' (first
      | (refine ⟨_, rfl, ?_⟩; rw [hd]; refine ⟨fun hc => (nomatch hc), fun hc => ?_⟩)
      | refine ar_Ii (C := fun _ j => j ≠ 0) (by first | assumption | omega) ?_
      | with_reducible apply ae_call
      | (refine ⟨_, ⟨k', _, _, _, rfl, rfl⟩, ?_⟩)
      | with_reducible apply as_seq
      | with_reducible apply as_ret
      | with_reducible apply as_next
      | with_reducible apply as_if
      | ((with_reducible apply ae_var); · rfl)
      | with_reducible apply ae_int
      | with_reducible apply ae_op
      | with_reducible apply aa_nil
      | with_reducible apply aa_cons
      | with_reducible apply at_test
      | with_reducible apply ae_andV
      | ((with_reducible apply ar_ix); · rfl)
      | ((with_reducible apply ar_eq3); · exact ⟨rfl, rfl, rfl⟩)
      | refine ⟨_, rfl, ?_⟩
      | (refine ⟨fun hc => ?_, fun hc => ?_⟩ <;> (first | (exfalso; exact absurd (show false = true from hc) (by decide)) | (exfalso; exact absurd (show true = false from hc) (by decide)) | (exfalso; simp at hc; done) | skip))
      | fail)
    all_goals simp_all [rwB]
theorem ok_single (bl : Blts mg)   {f : Addr} {fd : FuncData} (F : Fun K "single" "single" s_single f fd) : FnOk P w K mg base CX0 1 f fd p_single (spP K (S_sing)) := by
  refine okP F sc_single (fun ds r h => ?_) (fun cdv A outer s H E hr ds r h => ?_)
  · obtain ⟨n, rfl, rfl⟩ := h
    rfl
  obtain ⟨n, rfl, rfl⟩ := h
  refine ⟨_, (pss_one (ps_ret (pe_tup (pa_cons (pv 0) (pa_cons (pv 0) (pa_cons pe_int (pa_cons (pv 0) pa_nil))))))), ?_⟩
  change AS K _ [En.da _] _ _
  try simp only [cxOf_K]
  repeat' (first
    | with_reducible apply as_ret
    | ((with_reducible apply ae_var); · rfl)
    | with_reducible apply ae_int
    | with_reducible apply aa_nil
    | with_reducible apply aa_cons
    | with_reducible apply ae_tup
    | refine ⟨sz60 (Nat.le_of_ble_eq_true rfl), ?_⟩
    | rfl
    | fail)
end
end Sh
set_option Elab.async false
set_option linter.all false
set_option maxRecDepth 100000
set_option maxHeartbeats 4000000
namespace Sh
open PySem PySem.Spec PyProof.Rows L2
section
variable {P : Program} {w : World} {K : PySem.W.Frag} {mg : Str → Option Value} {base : Heap}
theorem ok_value_of (bl : Blts mg) {g_lets_in : Addr} {d_lets_in : FuncData} (c_lets_in : Cal P w K mg base 2 "lets_in" p_lets_in (spP K S_lets) g_lets_in d_lets_in) {g_single : Addr} {d_single : FuncData} (c_single : Cal P w K mg base 1 "single" p_single (spP K S_sing) g_single d_single)  {f : Addr} {fd : FuncData} (F : Fun K "value_of" "value_of" s_value_of f fd) : FnOk P w K mg base CX0 3 f fd p_value_of (spP K (S_vo)) := by
  refine okP F sc_value_of (fun ds r h => ?_) (fun cdv A outer s H E hr ds r h => ?_)
  · obtain ⟨lo, hi, m, r, rfl, rfl⟩ := h
    rfl
  obtain ⟨lo, hi, m, r, rfl, rfl⟩ := h
  refine ⟨_, (pss_cons (ps_if (pt_cmpR op_eq (pv 2) pe_int (nomark _)) (pss_one (ps_ret (pe_ifExp (pt_val (pe_call c_lets_in.ok (hr.mono (by decide)) rfl c_lets_in.mg c_lets_in.kp c_lets_in.bi .nil pass0 (pa_cons (pv 0) (pa_cons (pv 1) (pa_cons (pv 3) pa_nil))))) (pe_call c_single.ok (hr.mono (by decide)) rfl c_single.mg c_single.kp c_single.bi .nil pass0 (pa_cons (pv 3) pa_nil)) pe_non))) pss_nil)
    (pss_cons (ps_if (pt_cmpR op_notN (pv 0) pe_non (nomark _)) (pss_one (ps_set (i := 0) sc_value_of.nd rfl (by first | exact Or.inl rfl | exact Or.inr rfl) (pe_op op_add (pv 0) (pe_op op_modN (pe_op op_sub (pv 3) (pv 0)) (pv 2))))) pss_nil)
    (pss_cons (ps_if (pt_cmpR op_notN (pv 1) pe_non (nomark _)) (pss_one (ps_set (i := 1) sc_value_of.nd rfl (by first | exact Or.inl rfl | exact Or.inr rfl) (pe_op op_sub (pv 1) (pe_op op_modN (pe_op op_sub (pv 1) (pv 3)) (pv 2))))) pss_nil)
    (pss_cons (ps_if (PW.pt (pw_and (pt_cmpR op_notN (pv 0) pe_non (nomark _)) (pw_and (pt_cmpR op_notN (pv 1) pe_non (nomark _)) (pw_and1 (pt_cmpR op_ge (pv 0) (pv 1) (nomark _)))))) (pss_one (ps_ret (pe_ifExp (pt_cmpR op_eq (pv 0) (pv 1) (nomark _)) (pe_call c_single.ok (hr.mono (by decide)) rfl c_single.mg c_single.kp c_single.bi .nil pass0 (pa_cons (pv 0) pa_nil)) pe_non))) pss_nil)
    (pss_one (ps_ret (pe_tup (pa_cons (pv 0) (pa_cons (pv 1) (pa_cons (pv 2) (pa_cons (pv 3) pa_nil))))))))))), ?_⟩
  change AS K _ [En.da _, En.da _, En.da _, En.da _] _ _
  try simp only [cxOf_K]
  by_cases h0 : m = 0
  · subst h0
    cases hl : letsB lo hi r
    all_goals
      repeat' (first
        | with_reducible apply ae_call
        | (refine ⟨.bl true, ⟨lo, hi, r, rfl, (congrArg Dt.bl hl.symm)⟩, ?_⟩)
        | (refine ⟨.bl false, ⟨lo, hi, r, rfl, (congrArg Dt.bl hl.symm)⟩, ?_⟩)
        | (refine ⟨_, ⟨_, rfl, rfl⟩, ?_⟩)
        | with_reducible apply as_seq
        | with_reducible apply as_ret
        | with_reducible apply as_if
        | ((with_reducible apply ae_var); · rfl)
        | with_reducible apply ae_int
        | with_reducible apply ae_non
        | with_reducible apply ae_op
        | with_reducible apply aa_nil
        | with_reducible apply aa_cons
        | with_reducible apply ae_if
        | with_reducible apply at_test
        | with_reducible apply at_b
        | ((with_reducible apply ar_eq3); · exact ⟨rfl, rfl, rfl⟩)
        | refine ⟨_, rfl, ?_⟩
        | (refine ⟨fun hc => ?_, fun hc => ?_⟩ <;> (first | (exfalso; exact absurd (show false = true from hc) (by decide)) | (exfalso; exact absurd (show true = false from hc) (by decide)) | (exfalso; simp at hc; done) | skip))
        | fail)
    all_goals simp [voD, hl]
  · have hd : decide (V.int m = V.int 0) = false := decide_eq_false (fun z => h0 (by cases z; rfl))
    cases lo with
    | none => cases hi with
      | none =>
        repeat' (first
          | (refine ⟨_, rfl, ?_⟩; rw [hd]; refine ⟨fun hc => (nomatch hc), fun hc => ?_⟩)
          | with_reducible apply as_seq
          | with_reducible apply as_ret
          | with_reducible apply as_next
          | with_reducible apply as_if
          | ((with_reducible apply ae_var); · rfl)
          | with_reducible apply ae_int
          | with_reducible apply ae_non
          | with_reducible apply ae_op
          | with_reducible apply aa_nil
          | with_reducible apply aa_cons
          | with_reducible apply ae_tup
          | with_reducible apply at_test
          | with_reducible apply at_and
          | with_reducible apply ar_notN
          | ((with_reducible apply ar_eq3); · exact ⟨rfl, rfl, rfl⟩)
          | refine ⟨sz60 (Nat.le_of_ble_eq_true rfl), ?_⟩
          | refine ⟨_, rfl, ?_⟩
          | (refine ⟨fun hc => ?_, fun hc => ?_⟩ <;> (first | (exfalso; exact absurd (show false = true from hc) (by decide)) | (exfalso; exact absurd (show true = false from hc) (by decide)) | (exfalso; simp at hc; done) | skip))
          | simp only [oD_some, oD_none]
          | fail)
        all_goals (simp [voD, h0, oD]; done)
      | some y =>
        repeat' (first
          | (refine ⟨_, rfl, ?_⟩; rw [hd]; refine ⟨fun hc => (nomatch hc), fun hc => ?_⟩)
          | refine ar_Ii (C := fun _ j => j ≠ 0) (by first | assumption | omega) ?_
          | with_reducible apply as_seq
          | with_reducible apply as_ret
          | with_reducible apply as_next
          | with_reducible apply as_if
          | with_reducible apply as_set
          | ((with_reducible apply ae_var); · rfl)
          | with_reducible apply ae_int
          | with_reducible apply ae_non
          | with_reducible apply ae_op
          | with_reducible apply aa_nil
          | with_reducible apply aa_cons
          | with_reducible apply ae_tup
          | with_reducible apply at_test
          | with_reducible apply at_and
          | with_reducible apply ar_I0i
          | with_reducible apply ar_notN
          | ((with_reducible apply ar_eq3); · exact ⟨rfl, rfl, rfl⟩)
          | refine ⟨sz60 (Nat.le_of_ble_eq_true rfl), ?_⟩
          | refine ⟨_, rfl, ?_⟩
          | (refine ⟨fun hc => ?_, fun hc => ?_⟩ <;> (first | (exfalso; exact absurd (show false = true from hc) (by decide)) | (exfalso; exact absurd (show true = false from hc) (by decide)) | (exfalso; simp at hc; done) | skip))
          | simp only [oD_some, oD_none]
          | fail)
        all_goals (simp [voD, h0, dnR, oD]; done)
    | some x => cases hi with
      | none =>
        repeat' (first
          | (refine ⟨_, rfl, ?_⟩; rw [hd]; refine ⟨fun hc => (nomatch hc), fun hc => ?_⟩)
          | refine ar_Ii (C := fun _ j => j ≠ 0) (by first | assumption | omega) ?_
          | with_reducible apply as_seq
          | with_reducible apply as_ret
          | with_reducible apply as_next
          | with_reducible apply as_if
          | with_reducible apply as_set
          | ((with_reducible apply ae_var); · rfl)
          | with_reducible apply ae_int
          | with_reducible apply ae_non
          | with_reducible apply ae_op
          | with_reducible apply aa_nil
          | with_reducible apply aa_cons
          | with_reducible apply ae_tup
          | with_reducible apply at_test
          | with_reducible apply at_and
          | with_reducible apply ar_I0i
          | with_reducible apply ar_notN
          | ((with_reducible apply ar_eq3); · exact ⟨rfl, rfl, rfl⟩)
          | refine ⟨sz60 (Nat.le_of_ble_eq_true rfl), ?_⟩
          | refine ⟨_, rfl, ?_⟩
          | (refine ⟨fun hc => ?_, fun hc => ?_⟩ <;> (first | (exfalso; exact absurd (show false = true from hc) (by decide)) | (exfalso; exact absurd (show true = false from hc) (by decide)) | (exfalso; simp at hc; done) | skip))
          | simp only [oD_some, oD_none]
          | fail)
        all_goals (simp [voD, h0, upR, oD]; done)
      | some y =>
        repeat' (first
          | (refine ⟨_, rfl, ?_⟩; rw [hd]; refine ⟨fun hc => (nomatch hc), fun hc => ?_⟩)
          | refine ar_Ii (C := fun _ j => j ≠ 0) (by first | assumption | omega) ?_
          | with_reducible apply ae_call
          | (refine ⟨_, ⟨_, rfl, rfl⟩, ?_⟩)
          | with_reducible apply as_seq
          | with_reducible apply as_ret
          | with_reducible apply as_next
          | with_reducible apply as_if
          | with_reducible apply as_set
          | ((with_reducible apply ae_var); · rfl)
          | with_reducible apply ae_int
          | with_reducible apply ae_non
          | with_reducible apply ae_op
          | with_reducible apply aa_nil
          | with_reducible apply aa_cons
          | with_reducible apply ae_tup
          | with_reducible apply ae_if
          | with_reducible apply at_test
          | with_reducible apply at_and
          | with_reducible apply ar_I0i
          | with_reducible apply ar_I0b
          | with_reducible apply ar_notN
          | ((with_reducible apply ar_eq3); · exact ⟨rfl, rfl, rfl⟩)
          | refine ⟨sz60 (Nat.le_of_ble_eq_true rfl), ?_⟩
          | refine ⟨_, rfl, ?_⟩
          | (refine ⟨fun hc => ?_, fun hc => ?_⟩ <;> (first | (exfalso; exact absurd (show false = true from hc) (by decide)) | (exfalso; exact absurd (show true = false from hc) (by decide)) | (exfalso; simp at hc; done) | skip))
          | simp only [oD_some, oD_none]
          | fail)
        all_goals (clear F hr c_lets_in c_single bl; unfold voD; rw [if_neg h0]; simp_all [upR, dnR, oD])
        all_goals (repeat (first | rw [if_neg (by omega)] | rw [if_pos (by omega)])); (try rfl)
theorem ok_contains (bl : Blts mg) {g_lets_in : Addr} {d_lets_in : FuncData} (c_lets_in : Cal P w K mg base 2 "lets_in" p_lets_in (spP K S_lets) g_lets_in d_lets_in) {g_rest_has : Addr} {d_rest_has : FuncData} (c_rest_has : Cal P w K mg base 1 "rest_has" p_rest_has (spP K S_has) g_rest_has d_rest_has)  {f : Addr} {fd : FuncData} (F : Fun K "contains" "contains" s_contains f fd) : FnOk P w K mg base CX0 3 f fd p_contains (spP K (S_con)) := by
  refine okP F sc_contains (fun ds r h => ?_) (fun cdv A outer s H E hr ds r h => ?_)
  · obtain ⟨k, lo, hi, m, r, n, rfl, rfl⟩ := h
    rfl
  obtain ⟨k, lo, hi, m, r, n, rfl, rfl⟩ := h
  refine ⟨_, (pss_one (ps_ret (pe_and (pe_call c_lets_in.ok (hr.mono (by decide)) rfl c_lets_in.mg c_lets_in.kp c_lets_in.bi .nil pass0 (pa_cons (pe_ix ix_seq (pv 0) pe_int (fun _ _ => rfl)) (pa_cons (pe_ix ix_seq (pv 0) pe_int (fun _ _ => rfl)) (pa_cons (pv 1) pa_nil)))) (pe_one (pe_call c_rest_has.ok (hr.mono (by decide)) rfl c_rest_has.mg c_rest_has.kp c_rest_has.bi .nil pass0 (pa_cons (pe_slice sl_seq (pv 0) (po_some pe_int) po_none) (pa_cons (pv 1) pa_nil))))))), ?_⟩
  change AS K _ [En.da _, En.da _] _ _
  try simp only [cxOf_K]
  cases hl : letsB lo hi n
  all_goals
    repeat' (first
      | with_reducible apply ae_call
      | with_reducible apply ae_slFrom
      | (refine ⟨_, _, _, _, _, rfl, ?_⟩)
      | (refine ⟨.bl true, ⟨lo, hi, n, rfl, (congrArg Dt.bl hl.symm)⟩, ?_⟩)
      | (refine ⟨.bl false, ⟨lo, hi, n, rfl, (congrArg Dt.bl hl.symm)⟩, ?_⟩)
      | (refine ⟨_, ⟨k, m, r, n, rfl, rfl⟩, ?_⟩)
      | with_reducible apply as_ret
      | ((with_reducible apply ae_var); · rfl)
      | with_reducible apply ae_int
      | with_reducible apply ae_op
      | with_reducible apply aa_nil
      | with_reducible apply aa_cons
      | with_reducible apply ae_andV
      | ((with_reducible apply ar_ix); · rfl)
      | refine ⟨_, rfl, ?_⟩
      | (refine ⟨fun hc => ?_, fun hc => ?_⟩ <;> (first | (exfalso; exact absurd (show false = true from hc) (by decide)) | (exfalso; exact absurd (show true = false from hc) (by decide)) | (exfalso; simp at hc; done) | skip))
      | rfl
      | fail)
theorem ok_value_within (bl : Blts mg) {g_low_within : Addr} {d_low_within : FuncData} (c_low_within : Cal P w K mg base 1 "low_within" p_low_within (spP K (S2b lwB)) g_low_within d_low_within) {g_high_within : Addr} {d_high_within : FuncData} (c_high_within : Cal P w K mg base 1 "high_within" p_high_within (spP K (S2b hwB)) g_high_within d_high_within) {g_rest_within : Addr} {d_rest_within : FuncData} (c_rest_within : Cal P w K mg base 2 "rest_within" p_rest_within (spP K S_rw) g_rest_within d_rest_within)  {f : Addr} {fd : FuncData} (F : Fun K "value_within" "value_within" s_value_within f fd) : FnOk P w K mg base CX0 3 f fd p_value_within (spP K (S_vw)) := by
  refine okP F sc_value_within (fun ds r h => ?_) (fun cdv A outer s H E hr ds r h => ?_)
  · obtain ⟨k, k', a, b, c, d, m, r, n, s, rfl, rfl⟩ := h
    rfl
  obtain ⟨k, k', a, b, c, d, m, r, n, s, rfl, rfl⟩ := h
  refine ⟨_, (pss_cons (ps_if (PW.pt (pw_or (pt_not (pt_val (pe_call c_low_within.ok (hr.mono (by decide)) rfl c_low_within.mg c_low_within.kp c_low_within.bi .nil pass0 (pa_cons (pe_ix ix_seq (pv 0) pe_int (fun _ _ => rfl)) (pa_cons (pe_ix ix_seq (pv 1) pe_int (fun _ _ => rfl)) pa_nil))))) (pw_or1 (pt_not (pt_val (pe_call c_high_within.ok (hr.mono (by decide)) rfl c_high_within.mg c_high_within.kp c_high_within.bi .nil pass0 (pa_cons (pe_ix ix_seq (pv 0) pe_int (fun _ _ => rfl)) (pa_cons (pe_ix ix_seq (pv 1) pe_int (fun _ _ => rfl)) pa_nil)))))))) (pss_one (ps_ret pe_bl)) pss_nil)
    (pss_one (ps_ret (pe_call c_rest_within.ok (hr.mono (by decide)) rfl c_rest_within.mg c_rest_within.kp c_rest_within.bi .nil pass0 (pa_cons (pe_slice sl_seq (pv 0) (po_some pe_int) po_none) (pa_cons (pe_slice sl_seq (pv 1) (po_some pe_int) po_none) pa_nil)))))), ?_⟩
  change AS K _ [En.da _, En.da _] _ _
  try simp only [cxOf_K]
  cases hl : lwB a c <;> cases hh : hwB b d
  all_goals
    repeat' (first
      | with_reducible apply ae_call
      | with_reducible apply ae_slFrom
      | (refine ⟨_, _, _, _, _, rfl, ?_⟩)
      | (refine ⟨.bl true, ⟨a, c, rfl, (congrArg Dt.bl hl.symm)⟩, ?_⟩)
      | (refine ⟨.bl false, ⟨a, c, rfl, (congrArg Dt.bl hl.symm)⟩, ?_⟩)
      | (refine ⟨.bl true, ⟨b, d, rfl, (congrArg Dt.bl hh.symm)⟩, ?_⟩)
      | (refine ⟨.bl false, ⟨b, d, rfl, (congrArg Dt.bl hh.symm)⟩, ?_⟩)
      | (refine ⟨_, ⟨k, k', m, r, n, s, rfl, rfl⟩, ?_⟩)
      | with_reducible apply as_seq
      | with_reducible apply as_ret
      | with_reducible apply as_next
      | with_reducible apply as_if
      | ((with_reducible apply ae_var); · rfl)
      | with_reducible apply ae_int
      | with_reducible apply ae_bl
      | with_reducible apply ae_op
      | with_reducible apply aa_nil
      | with_reducible apply aa_cons
      | with_reducible apply at_b
      | with_reducible apply at_or
      | with_reducible apply at_not
      | ((with_reducible apply ar_ix); · rfl)
      | refine ⟨_, rfl, ?_⟩
      | (refine ⟨fun hc => ?_, fun hc => ?_⟩ <;> (first | (exfalso; exact absurd (show false = true from hc) (by decide)) | (exfalso; exact absurd (show true = false from hc) (by decide)) | (exfalso; simp at hc; done) | skip))
      | rfl
      | fail)
theorem ok_value_from (bl : Blts mg) {g_value_of : Addr} {d_value_of : FuncData} (c_value_of : Cal P w K mg base 3 "value_of" p_value_of (spP K S_vo) g_value_of d_value_of)  {f : Addr} {fd : FuncData} (F : Fun K "value_from" "value_from" s_value_from f fd) : FnOk P w K mg base CX0 4 f fd p_value_from (spP K (S_vf)) := by
  refine okP F sc_value_from (fun ds r h => ?_) (fun cdv A outer s H E hr ds r h => ?_)
  · obtain ⟨k, k', a, b, m, r, rfl, rfl⟩ := h
    rfl
  obtain ⟨k, k', a, b, m, r, rfl, rfl⟩ := h
  refine ⟨_, (pss_cons (ps_if (PW.pt (pw_or (pt_cmpR op_isN (pv 0) pe_non (nomark _)) (pw_or1 (pt_cmpR op_isN (pv 1) pe_non (nomark _))))) (pss_one (ps_ret pe_non)) pss_nil)
    (pss_one (ps_ret (pe_call c_value_of.ok (hr.mono (by decide)) rfl c_value_of.mg c_value_of.kp c_value_of.bi .nil pass0 (pa_cons (pe_ix ix_seq (pv 0) pe_int (fun _ _ => rfl)) (pa_cons (pe_ix ix_seq (pv 0) pe_int (fun _ _ => rfl)) (pa_cons (pe_ix ix_seq (pv 1) pe_int (fun _ _ => rfl)) (pa_cons (pe_ix ix_seq (pv 1) pe_int (fun _ _ => rfl)) pa_nil)))))))), ?_⟩
  change AS K _ [En.da _, En.da _] _ _
  try simp only [cxOf_K]
  cases k <;> cases k'
  all_goals
    repeat' (first
      | with_reducible apply ae_call
      | (refine ⟨_, ⟨a, b, m, r, rfl, rfl⟩, ?_⟩)
      | with_reducible apply as_seq
      | with_reducible apply as_ret
      | with_reducible apply as_next
      | with_reducible apply as_if
      | ((with_reducible apply ae_var); · rfl)
      | with_reducible apply ae_int
      | with_reducible apply ae_non
      | with_reducible apply ae_op
      | with_reducible apply aa_nil
      | with_reducible apply aa_cons
      | with_reducible apply at_test
      | with_reducible apply at_or
      | with_reducible apply ar_isN
      | ((with_reducible apply ar_ix); · rfl)
      | refine ⟨_, rfl, ?_⟩
      | (refine ⟨fun hc => ?_, fun hc => ?_⟩ <;> (first | (exfalso; exact absurd (show false = true from hc) (by decide)) | (exfalso; exact absurd (show true = false from hc) (by decide)) | (exfalso; simp at hc; done) | skip))
      | rfl
      | fail)
theorem ok_value_join (bl : Blts mg) {g_span_join : Addr} {d_span_join : FuncData} (c_span_join : Cal P w K mg base 2 "span_join" p_span_join (spP K S_sj) g_span_join d_span_join) {g_rest_join : Addr} {d_rest_join : FuncData} (c_rest_join : Cal P w K mg base 2 "rest_join" p_rest_join (spP K S_rj) g_rest_join d_rest_join) {g_value_from : Addr} {d_value_from : FuncData} (c_value_from : Cal P w K mg base 4 "value_from" p_value_from (spP K S_vf) g_value_from d_value_from)  {f : Addr} {fd : FuncData} (F : Fun K "value_join" "value_join" s_value_join f fd) : FnOk P w K mg base CX0 5 f fd p_value_join (spP K (S_vj)) := by
  refine okP F sc_value_join (fun ds r h => ?_) (fun cdv A outer s H E hr ds r h => ?_)
  · obtain ⟨k, k', a, b, c, d, m, r, n, s, rfl, rfl⟩ := h
    rfl
  obtain ⟨k, k', a, b, c, d, m, r, n, s, rfl, rfl⟩ := h
  refine ⟨_, (pss_one (ps_ret (pe_call c_value_from.ok (hr.mono (by decide)) rfl c_value_from.mg c_value_from.kp c_value_from.bi .nil pass0 (pa_cons (pe_call c_span_join.ok (hr.mono (by decide)) rfl c_span_join.mg c_span_join.kp c_span_join.bi .nil pass0 (pa_cons (pe_slice sl_seq (pv 0) po_none (po_some pe_int)) (pa_cons (pe_slice sl_seq (pv 1) po_none (po_some pe_int)) pa_nil))) (pa_cons (pe_call c_rest_join.ok (hr.mono (by decide)) rfl c_rest_join.mg c_rest_join.kp c_rest_join.bi .nil pass0 (pa_cons (pe_slice sl_seq (pv 0) (po_some pe_int) po_none) (pa_cons (pe_slice sl_seq (pv 1) (po_some pe_int) po_none) pa_nil))) pa_nil))))), ?_⟩
  change AS K _ [En.da _, En.da _] _ _
  try simp only [cxOf_K]
  repeat' (first
    | with_reducible apply ae_call
    | with_reducible apply ae_slFrom
    | with_reducible apply ae_slTo
    | (refine ⟨_, _, _, _, _, rfl, ?_⟩)
    | (refine ⟨_, ⟨k, k', a, b, c, d, rfl, rfl⟩, ?_⟩)
    | (refine ⟨_, ⟨k, k', m, r, n, s, rfl, rfl⟩, ?_⟩)
    | (refine ⟨_, ⟨true, true, _, _, _, _, rfl, rfl⟩, ?_⟩)
    | with_reducible apply as_ret
    | ((with_reducible apply ae_var); · rfl)
    | with_reducible apply aa_nil
    | with_reducible apply aa_cons
    | rfl
    | fail)
end
end Sh
set_option Elab.async false
set_option linter.all false
set_option maxRecDepth 100000
set_option maxHeartbeats 4000000
namespace Sh
open PySem PySem.Spec PyProof.Rows L2
def big (x : Int) : Prop := -(10 ^ 16) ≤ x ∧ x ≤ 10 ^ 16
def Vd (m r : Int) : Prop := (m = 0 ∧ big r) ∨ (1 ≤ m ∧ m ≤ 10 ^ 16 ∧ 0 ≤ r ∧ r < m)
theorem Vd.b {m r : Int} (h : Vd m r) : 0 ≤ m ∧ m ≤ 10 ^ 16 ∧ -(10 ^ 16) ≤ r ∧ r ≤ 10 ^ 16 := by
  unfold Vd big at h
  rcases h with ⟨h1, h2, h3⟩ | ⟨h1, h2, h3, h4⟩ <;> omega
def pO : Option IP → Dt
  | none => .non
  | some p => pD p
def S2r (f : Int → Int → Int → Int → Option IP) (ds : List Dt) (res : Dt) : Prop := ∃ k k', ∃ m r n s : Int, ds = [sq k [.int m, .int r], sq k' [.int n, .int s]] ∧ Vd m r ∧ Vd n s ∧ res = pO (f m r n s)
def S_inv (ds : List Dt) (res : Dt) : Prop := ∃ n m : Int, ds = [.int n, .int m] ∧ (1 ≤ m ∧ m ≤ 10 ^ 16) ∧ res = .int (invF n m)
theorem vne {x y : Int} (h : x ≠ y) : decide (V.int x = V.int y) = false := decide_eq_false (fun z => h (V.int.inj z))
theorem vnn {x y : Int} (h : x ≠ y) : (!decide (V.int x = V.int y)) = true := by rw [vne h]; rfl
theorem vee {x y : Int} (h : x = y) : (!decide (V.int x = V.int y)) = false := by rw [h]; simp
theorem fd_b {h l : Int} (h0 : 0 ≤ h) (l0 : 0 < l) : 0 ≤ h.fdiv l ∧ h.fdiv l ≤ h := by
  rw [Int.fdiv_eq_ediv_of_nonneg _ (by omega)]
  exact ⟨Int.ediv_nonneg h0 (by omega), Int.ediv_le_self l h0⟩
theorem invF_b {n m : Int} (hm : 0 < m) : 0 ≤ invF n m ∧ invF n m < m := fm_lt hm
theorem g2_le {m n : Int} (hm : 0 < m) : g2 m n ≤ m ∧ 0 ≤ g2 m n := by
  obtain ⟨a, _⟩ := g2_dvd.mp (Int.dvd_refl (g2 m n))
  exact ⟨Int.le_of_dvd hm a, Int.natCast_nonneg _⟩
theorem q_b {m n : Int} (hm : 0 < m) (hn : 0 < n) : 1 ≤ m.fdiv (g2 m n) ∧ m.fdiv (g2 m n) ≤ m ∧ 1 ≤ n.fdiv (g2 m n) ∧ n.fdiv (g2 m n) ≤ n := by
  have gp := g_pos hm hn
  obtain ⟨a, b⟩ := g2_dvd.mp (Int.dvd_refl (g2 m n))
  have ea := dvd_q (by omega) a
  have eb := dvd_q (by omega) b
  have fa := fd_b (h := m) (by omega) gp
  have fb := fd_b (h := n) (by omega) gp
  refine ⟨?_, fa.2, ?_, fb.2⟩
  · rcases Int.lt_or_eq_of_le fa.1 with h | h
    · omega
    · rw [← h, Int.mul_zero] at ea; omega
  · rcases Int.lt_or_eq_of_le fb.1 with h | h
    · omega
    · rw [← h, Int.mul_zero] at eb; omega
theorem ac_g2 {K : PySem.W.Frag} {Φ : Dt → Prop} {a b : Int} (h : Φ (.int (g2 a b))) : AC K rGcd [.int a, .int b] Φ := ac_gcd2 h
def fMeet (m r n s : Int) : Option IP := meetO m r n s
abbrev s_tightest_low : Stmt := topS 3
abbrev N_tightest_low : List Str := ["one", "other"]
abbrev p_tightest_low : List Str := ["one", "other"]
theorem sc_tightest_low : FnScope N_tightest_low p_tightest_low (defScope s_tightest_low) := ⟨rfl, rfl, rfl, by decide +kernel, rfl, by decide +kernel, by decide +kernel⟩
abbrev s_tightest_high : Stmt := topS 5
abbrev N_tightest_high : List Str := ["one", "other"]
abbrev p_tightest_high : List Str := ["one", "other"]
theorem sc_tightest_high : FnScope N_tightest_high p_tightest_high (defScope s_tightest_high) := ⟨rfl, rfl, rfl, by decide +kernel, rfl, by decide +kernel, by decide +kernel⟩
abbrev s_span_meet : Stmt := topS 18
abbrev N_span_meet : List Str := ["one", "other", "low", "high"]
abbrev p_span_meet : List Str := ["one", "other"]
theorem sc_span_meet : FnScope N_span_meet p_span_meet (defScope s_span_meet) := ⟨rfl, rfl, rfl, by decide +kernel, rfl, by decide +kernel, by decide +kernel⟩
abbrev s_inverse : Stmt := topS 15
abbrev N_inverse : List Str := ["n", "m", "high", "low", "before", "now", "times"]
abbrev p_inverse : List Str := ["n", "m"]
theorem sc_inverse : FnScope N_inverse p_inverse (defScope s_inverse) := ⟨rfl, rfl, rfl, by decide +kernel, rfl, by decide +kernel, by decide +kernel⟩
abbrev s_rest_meet : Stmt := topS 11
abbrev N_rest_meet : List Str := ["one", "other", "g", "times", "m", "r", "n", "s"]
abbrev p_rest_meet : List Str := ["one", "other"]
theorem sc_rest_meet : FnScope N_rest_meet p_rest_meet (defScope s_rest_meet) := ⟨rfl, rfl, rfl, by decide +kernel, rfl, by decide +kernel, by decide +kernel⟩
abbrev s_value_meet : Stmt := topS 26
abbrev N_value_meet : List Str := ["one", "other"]
abbrev p_value_meet : List Str := ["one", "other"]
theorem sc_value_meet : FnScope N_value_meet p_value_meet (defScope s_value_meet) := ⟨rfl, rfl, rfl, by decide +kernel, rfl, by decide +kernel, by decide +kernel⟩
def soD : Option (Option Int × Option Int) → Dt
  | none => .non
  | some (a, b) => .tup [oD a, oD b]
def vfD : Option (Option Int × Option Int) → Option IP → Dt
  | some (a, b), some (m, r) => voD a b m r
  | _, _ => .non
theorem vm_is {a b c d : Option Int} {m r n s : Int} : vfD (spanM a b c d) (meetO m r n s) = vmD a b c d m r n s := by
  unfold vmD vfD; cases spanM a b c d <;> cases meetO m r n s <;> rfl
def S_sm (ds : List Dt) (res : Dt) : Prop := ∃ k k' a b c d, ds = [sq k [oD a, oD b], sq k' [oD c, oD d]] ∧ res = soD (spanM a b c d)
def S_vf2 (ds : List Dt) (res : Dt) : Prop := ∃ p q, ds = [soD p, pO q] ∧ res = vfD p q
def S_vm (ds : List Dt) (res : Dt) : Prop := ∃ k k' a b c d, ∃ m r n s : Int, ds = [sq k [oD a, oD b, .int m, .int r], sq k' [oD c, oD d, .int n, .int s]] ∧ Vl a b m r ∧ Vl c d n s ∧ res = vmD a b c d m r n s
theorem Vl.vd {a b : Option Int} {m r : Int} (k : Vl a b m r) : Vd m r := by
  have := k.m; have := k.r
  rcases k.ok.h with ⟨h, _⟩ | ⟨h1, h2, h3, _⟩
  · exact .inl ⟨h, by unfold big; omega⟩
  · exact .inr ⟨h1, by omega, h2, h3⟩
section
variable {P : Program} {w : World} {K : PySem.W.Frag} {mg : Str → Option Value} {base : Heap}
theorem ok_tightest_low (bl : Blts mg)   {f : Addr} {fd : FuncData} (F : Fun K "tightest_low" "tightest_low" s_tightest_low f fd) : FnOk P w K mg base CX0 1 f fd p_tightest_low (spP K (S2 tightL)) := by
  refine okP F sc_tightest_low (fun ds r h => ?_) (fun cdv A outer s H E hr ds r h => ?_)
  · obtain ⟨a, b, rfl, rfl⟩ := h
    rfl
  obtain ⟨a, b, rfl, rfl⟩ := h
  refine ⟨_, (pss_cons (ps_if (pt_cmpR op_isN (pv 0) pe_non (nomark _)) (pss_one (ps_ret (pv 1))) pss_nil)
    (pss_cons (ps_if (pt_cmpR op_isN (pv 1) pe_non (nomark _)) (pss_one (ps_ret (pv 0))) pss_nil)
    (pss_one (ps_ret (pe_callB (call_max2 rfl) rfl bl.max (by decide +kernel) (pa_cons (pv 0) (pa_cons (pv 1) pa_nil))))))), ?_⟩
  change AS K _ [En.da _, En.da _] _ _
  try simp only [cxOf_K]
  cases a <;> cases b
  all_goals
    repeat' (first
      | with_reducible apply as_seq
      | with_reducible apply as_ret
      | with_reducible apply as_next
      | with_reducible apply as_if
      | ((with_reducible apply ae_var); · rfl)
      | with_reducible apply ae_non
      | with_reducible apply ae_op
      | with_reducible apply aa_nil
      | with_reducible apply aa_cons
      | with_reducible apply ae_cb
      | with_reducible apply at_test
      | with_reducible apply ar_isN
      | with_reducible apply ac_max2
      | refine ⟨_, rfl, ?_⟩
      | (refine ⟨fun hc => ?_, fun hc => ?_⟩ <;> (first | (exfalso; exact absurd (show false = true from hc) (by decide)) | (exfalso; exact absurd (show true = false from hc) (by decide)) | (exfalso; simp at hc; done) | skip))
      | rfl
      | simp only [oD_some, oD_none]
      | fail)
theorem ok_tightest_high (bl : Blts mg)   {f : Addr} {fd : FuncData} (F : Fun K "tightest_high" "tightest_high" s_tightest_high f fd) : FnOk P w K mg base CX0 1 f fd p_tightest_high (spP K (S2 tightH)) := by
  refine okP F sc_tightest_high (fun ds r h => ?_) (fun cdv A outer s H E hr ds r h => ?_)
  · obtain ⟨a, b, rfl, rfl⟩ := h
    rfl
  obtain ⟨a, b, rfl, rfl⟩ := h
  refine ⟨_, (pss_cons (ps_if (pt_cmpR op_isN (pv 0) pe_non (nomark _)) (pss_one (ps_ret (pv 1))) pss_nil)
    (pss_cons (ps_if (pt_cmpR op_isN (pv 1) pe_non (nomark _)) (pss_one (ps_ret (pv 0))) pss_nil)
    (pss_one (ps_ret (pe_callB (call_min2 rfl) rfl bl.min (by decide +kernel) (pa_cons (pv 0) (pa_cons (pv 1) pa_nil))))))), ?_⟩
  change AS K _ [En.da _, En.da _] _ _
  try simp only [cxOf_K]
  cases a <;> cases b
  all_goals
    repeat' (first
      | with_reducible apply as_seq
      | with_reducible apply as_ret
      | with_reducible apply as_next
      | with_reducible apply as_if
      | ((with_reducible apply ae_var); · rfl)
      | with_reducible apply ae_non
      | with_reducible apply ae_op
      | with_reducible apply aa_nil
      | with_reducible apply aa_cons
      | with_reducible apply ae_cb
      | with_reducible apply at_test
      | with_reducible apply ar_isN
      | with_reducible apply ac_min2
      | refine ⟨_, rfl, ?_⟩
      | (refine ⟨fun hc => ?_, fun hc => ?_⟩ <;> (first | (exfalso; exact absurd (show false = true from hc) (by decide)) | (exfalso; exact absurd (show true = false from hc) (by decide)) | (exfalso; simp at hc; done) | skip))
      | rfl
      | simp only [oD_some, oD_none]
      | fail)
theorem ok_span_meet (bl : Blts mg) {g_tightest_low : Addr} {d_tightest_low : FuncData} (c_tightest_low : Cal P w K mg base 1 "tightest_low" p_tightest_low (spP K (S2 tightL)) g_tightest_low d_tightest_low) {g_tightest_high : Addr} {d_tightest_high : FuncData} (c_tightest_high : Cal P w K mg base 1 "tightest_high" p_tightest_high (spP K (S2 tightH)) g_tightest_high d_tightest_high)  {f : Addr} {fd : FuncData} (F : Fun K "span_meet" "span_meet" s_span_meet f fd) : FnOk P w K mg base CX0 2 f fd p_span_meet (spP K (S_sm)) := by
  refine okP F sc_span_meet (fun ds r h => ?_) (fun cdv A outer s H E hr ds r h => ?_)
  · obtain ⟨k, k', a, b, c, d, rfl, rfl⟩ := h
    rfl
  obtain ⟨k, k', a, b, c, d, rfl, rfl⟩ := h
  refine ⟨_, (pss_cons (ps_set (i := 2) sc_span_meet.nd rfl (by first | exact Or.inl rfl | exact Or.inr rfl) (pe_call c_tightest_low.ok (hr.mono (by decide)) rfl c_tightest_low.mg c_tightest_low.kp c_tightest_low.bi .nil pass0 (pa_cons (pe_ix ix_seq (pv 0) pe_int (fun _ _ => rfl)) (pa_cons (pe_ix ix_seq (pv 1) pe_int (fun _ _ => rfl)) pa_nil))))
    (pss_cons (ps_set (i := 3) sc_span_meet.nd rfl (by first | exact Or.inl rfl | exact Or.inr rfl) (pe_call c_tightest_high.ok (hr.mono (by decide)) rfl c_tightest_high.mg c_tightest_high.kp c_tightest_high.bi .nil pass0 (pa_cons (pe_ix ix_seq (pv 0) pe_int (fun _ _ => rfl)) (pa_cons (pe_ix ix_seq (pv 1) pe_int (fun _ _ => rfl)) pa_nil))))
    (pss_cons (ps_if (PW.pt (pw_and (pt_cmpR op_notN (pv 2) pe_non (nomark _)) (pw_and (pt_cmpR op_notN (pv 3) pe_non (nomark _)) (pw_and1 (pt_cmpR op_gt (pv 2) (pv 3) (nomark _)))))) (pss_one (ps_ret pe_non)) pss_nil)
    (pss_one (ps_ret (pe_tup (pa_cons (pv 2) (pa_cons (pv 3) pa_nil)))))))), ?_⟩
  change AS K _ [En.da _, En.da _, En.no, En.no] _ _
  try simp only [cxOf_K]
  obtain ⟨lo, el⟩ : ∃ lo, lo = tightL a c := ⟨_, rfl⟩
  obtain ⟨hi, eh⟩ : ∃ hi, hi = tightH b d := ⟨_, rfl⟩
  unfold spanM
  rw [← el, ← eh]
  cases lo with
  | none =>
    cases hi with
    | none =>
      repeat' (first
        | with_reducible apply ae_call
        | (refine ⟨.non, ⟨a, c, rfl, congrArg oD el⟩, ?_⟩)
        | (refine ⟨.non, ⟨b, d, rfl, congrArg oD eh⟩, ?_⟩)
        | with_reducible apply as_seq
        | with_reducible apply as_ret
        | with_reducible apply as_next
        | with_reducible apply as_if
        | with_reducible apply as_set
        | ((with_reducible apply ae_var); · rfl)
        | with_reducible apply ae_int
        | with_reducible apply ae_non
        | with_reducible apply ae_op
        | with_reducible apply aa_nil
        | with_reducible apply aa_cons
        | with_reducible apply ae_tup
        | with_reducible apply at_test
        | with_reducible apply at_and
        | with_reducible apply ar_notN
        | ((with_reducible apply ar_ix); · rfl)
        | refine ⟨sz60 (Nat.le_of_ble_eq_true rfl), ?_⟩
        | refine ⟨_, rfl, ?_⟩
        | (refine ⟨fun hc => ?_, fun hc => ?_⟩ <;> (first | (exfalso; exact absurd (show false = true from hc) (by decide)) | (exfalso; exact absurd (show true = false from hc) (by decide)) | (exfalso; simp at hc; done) | skip))
        | rfl
        | fail)
    | some y =>
      repeat' (first
        | with_reducible apply ae_call
        | (refine ⟨.non, ⟨a, c, rfl, congrArg oD el⟩, ?_⟩)
        | (refine ⟨.int y, ⟨b, d, rfl, congrArg oD eh⟩, ?_⟩)
        | with_reducible apply as_seq
        | with_reducible apply as_ret
        | with_reducible apply as_next
        | with_reducible apply as_if
        | with_reducible apply as_set
        | ((with_reducible apply ae_var); · rfl)
        | with_reducible apply ae_int
        | with_reducible apply ae_non
        | with_reducible apply ae_op
        | with_reducible apply aa_nil
        | with_reducible apply aa_cons
        | with_reducible apply ae_tup
        | with_reducible apply at_test
        | with_reducible apply at_and
        | with_reducible apply ar_notN
        | ((with_reducible apply ar_ix); · rfl)
        | refine ⟨sz60 (Nat.le_of_ble_eq_true rfl), ?_⟩
        | refine ⟨_, rfl, ?_⟩
        | (refine ⟨fun hc => ?_, fun hc => ?_⟩ <;> (first | (exfalso; exact absurd (show false = true from hc) (by decide)) | (exfalso; exact absurd (show true = false from hc) (by decide)) | (exfalso; simp at hc; done) | skip))
        | rfl
        | fail)
  | some x =>
    cases hi with
    | none =>
      repeat' (first
        | with_reducible apply ae_call
        | (refine ⟨.int x, ⟨a, c, rfl, congrArg oD el⟩, ?_⟩)
        | (refine ⟨.non, ⟨b, d, rfl, congrArg oD eh⟩, ?_⟩)
        | with_reducible apply as_seq
        | with_reducible apply as_ret
        | with_reducible apply as_next
        | with_reducible apply as_if
        | with_reducible apply as_set
        | ((with_reducible apply ae_var); · rfl)
        | with_reducible apply ae_int
        | with_reducible apply ae_non
        | with_reducible apply ae_op
        | with_reducible apply aa_nil
        | with_reducible apply aa_cons
        | with_reducible apply ae_tup
        | with_reducible apply at_test
        | with_reducible apply at_and
        | with_reducible apply ar_notN
        | ((with_reducible apply ar_ix); · rfl)
        | refine ⟨sz60 (Nat.le_of_ble_eq_true rfl), ?_⟩
        | refine ⟨_, rfl, ?_⟩
        | (refine ⟨fun hc => ?_, fun hc => ?_⟩ <;> (first | (exfalso; exact absurd (show false = true from hc) (by decide)) | (exfalso; exact absurd (show true = false from hc) (by decide)) | (exfalso; simp at hc; done) | skip))
        | rfl
        | fail)
    | some y =>
      by_cases hlt : y < x
      · have hd : decide (y < x) = true := decide_eq_true hlt
        repeat' (first
          | (refine ⟨_, rfl, ?_⟩; rw [hd]; refine ⟨fun hc => ?_, fun hc => (nomatch hc)⟩)
          | with_reducible apply ae_call
          | (refine ⟨.int x, ⟨a, c, rfl, congrArg oD el⟩, ?_⟩)
          | (refine ⟨.int y, ⟨b, d, rfl, congrArg oD eh⟩, ?_⟩)
          | with_reducible apply as_seq
          | with_reducible apply as_ret
          | with_reducible apply as_if
          | with_reducible apply as_set
          | ((with_reducible apply ae_var); · rfl)
          | with_reducible apply ae_int
          | with_reducible apply ae_non
          | with_reducible apply ae_op
          | with_reducible apply aa_nil
          | with_reducible apply aa_cons
          | with_reducible apply at_test
          | with_reducible apply at_and
          | with_reducible apply ar_I0b
          | with_reducible apply ar_notN
          | ((with_reducible apply ar_ix); · rfl)
          | refine ⟨_, rfl, ?_⟩
          | (refine ⟨fun hc => ?_, fun hc => ?_⟩ <;> (first | (exfalso; exact absurd (show false = true from hc) (by decide)) | (exfalso; exact absurd (show true = false from hc) (by decide)) | (exfalso; simp at hc; done) | skip))
          | simp only [oD_some, oD_none]
          | fail)
        all_goals (show _ = soD (if y < x then none else _); rw [if_pos hlt]; rfl)
      · have hd : decide (y < x) = false := decide_eq_false hlt
        repeat' (first
          | (refine ⟨_, rfl, ?_⟩; rw [hd]; refine ⟨fun hc => (nomatch hc), fun hc => ?_⟩)
          | with_reducible apply ae_call
          | (refine ⟨.int x, ⟨a, c, rfl, congrArg oD el⟩, ?_⟩)
          | (refine ⟨.int y, ⟨b, d, rfl, congrArg oD eh⟩, ?_⟩)
          | with_reducible apply as_seq
          | with_reducible apply as_ret
          | with_reducible apply as_next
          | with_reducible apply as_if
          | with_reducible apply as_set
          | ((with_reducible apply ae_var); · rfl)
          | with_reducible apply ae_int
          | with_reducible apply ae_non
          | with_reducible apply ae_op
          | with_reducible apply aa_nil
          | with_reducible apply aa_cons
          | with_reducible apply ae_tup
          | with_reducible apply at_test
          | with_reducible apply at_and
          | with_reducible apply ar_I0b
          | with_reducible apply ar_notN
          | ((with_reducible apply ar_ix); · rfl)
          | refine ⟨sz60 (Nat.le_of_ble_eq_true rfl), ?_⟩
          | refine ⟨_, rfl, ?_⟩
          | (refine ⟨fun hc => ?_, fun hc => ?_⟩ <;> (first | (exfalso; exact absurd (show false = true from hc) (by decide)) | (exfalso; exact absurd (show true = false from hc) (by decide)) | (exfalso; simp at hc; done) | skip))
          | simp only [oD_some, oD_none]
          | fail)
        all_goals (show _ = soD (if y < x then none else _); rw [if_neg hlt]; rfl)
theorem ok_inverse (bl : Blts mg)   {f : Addr} {fd : FuncData} (F : Fun K "inverse" "inverse" s_inverse f fd) : FnOk P w K mg base CX0 1 f fd p_inverse (spP K (S_inv)) := by
  refine okP F sc_inverse (fun ds r h => ?_) (fun cdv A outer s H E hr ds r h => ?_)
  · obtain ⟨n, m, rfl, hm, rfl⟩ := h
    rfl
  obtain ⟨n, m, rfl, hm, rfl⟩ := h
  refine ⟨_, (pss_cons (ps_par (i := 2) (j := 3) (by rfl) sc_inverse.nd rfl rfl (by decide) rfl rfl (pa_cons (pv 1) (pa_cons (pe_op op_modN (pv 0) (pv 1)) pa_nil)) (by rfl))
    (pss_cons (ps_asg (pe_tup (pa_cons pe_int (pa_cons pe_int pa_nil))) (pg_tup rfl (pgs_cons (pg_name (i := 4) sc_inverse.nd rfl (by first | exact Or.inl rfl | exact Or.inr rfl)) (pgs_cons (pg_name (i := 5) sc_inverse.nd rfl (by first | exact Or.inl rfl | exact Or.inr rfl)) pgs_nil))))
    (pss_cons (ps_while PassesOwn.never (pt_cmpR op_ne (pv 3) pe_int (nomark _)) (pss_cons (ps_set (i := 6) sc_inverse.nd rfl (by first | exact Or.inl rfl | exact Or.inr rfl) (pe_op op_fdivB (pv 2) (pv 3)))
    (pss_cons (ps_par (i := 2) (j := 3) (by rfl) sc_inverse.nd rfl rfl (by decide) rfl rfl (pa_cons (pv 3) (pa_cons (pe_op op_sub (pv 2) (pe_op op_mul (pv 6) (pv 3))) pa_nil)) (by rfl))
    (pss_one (ps_par (i := 4) (j := 5) (by rfl) sc_inverse.nd rfl rfl (by decide) rfl rfl (pa_cons (pv 5) (pa_cons (pe_op op_sub (pv 4) (pe_op op_mul (pv 6) (pv 5))) pa_nil)) (by rfl))))))
    (pss_one (ps_ret (pe_op op_modN (pv 4) (pv 1))))))), ?_⟩
  change AS K _ [En.da _, En.da _, En.no, En.no, En.no, En.no, En.no] _ _
  try simp only [cxOf_K]
  have f0 := fm_lt (x := n) (m := m) (by omega)
  repeat' (first
    | refine ar_Ii (C := fun _ j => j ≠ 0) (by first | assumption | omega) ?_
    | with_reducible apply as_seq
    | with_reducible apply as_par
    | with_reducible apply as_asg
    | ((with_reducible apply ae_var); · rfl)
    | with_reducible apply ae_int
    | with_reducible apply ae_op
    | with_reducible apply aa_nil
    | with_reducible apply aa_cons
    | with_reducible apply ae_tup
    | with_reducible apply ag_name
    | with_reducible apply ags_nil
    | with_reducible apply ags_cons
    | ((with_reducible apply ag_tup); · rfl)
    | refine ⟨sz60 (Nat.le_of_ble_eq_true rfl), ?_⟩
    | refine ⟨_, _, rfl, ?_⟩
    | fail)
  refine as_while ⟨fun k ρ => ∃ (h l b w : Int) (e6 : En), k = l.toNat ∧ (0 ≤ h ∧ h ≤ 10 ^ 16) ∧ (0 ≤ l ∧ l ≤ 10 ^ 16) ∧ ext h l b w = ext m (n.fmod m) 0 1 ∧ ρ = [.da (.int n), .da (.int m), .da (.int h), .da (.int l), .da (.int b), .da (.int w), e6], ⟨_, m, n.fmod m, 0, 1, _, rfl, ⟨by omega, by omega⟩, ⟨by omega, by omega⟩, rfl, rfl⟩, ?_⟩
  rintro k ρ ⟨h, l, b, w', e6, rfl, hb, lb, he, rfl⟩
  by_cases hl : l = 0
  · subst hl
    rw [ext_0] at he
    subst he
    repeat' (first
      | refine ar_Ii (C := fun _ j => j ≠ 0) (by first | assumption | omega) ?_
      | with_reducible apply as_ret
      | ((with_reducible apply ae_var); · rfl)
      | with_reducible apply ae_int
      | with_reducible apply ae_op
      | with_reducible apply at_test
      | ((with_reducible apply ar_ne3); · exact ⟨rfl, rfl, rfl⟩)
      | refine ⟨_, rfl, ?_⟩
      | (refine ⟨fun hc => ?_, fun hc => ?_⟩ <;> (first | (exfalso; exact absurd (show false = true from hc) (by decide)) | (exfalso; exact absurd (show true = false from hc) (by decide)) | (exfalso; simp at hc; done) | skip))
      | rfl
      | fail)
    all_goals rfl
  · have yl : (!decide (V.int l = V.int 0)) = true := vnn hl
    have fq := fd_b (h := h) (l := l) hb.1 (by omega)
    have fl := fm_lt (x := h) (m := l) (by omega)
    have em : h - h.fdiv l * l = h.fmod l := by rw [Int.fmod_def, Int.mul_comm]
    rw [ext_s (by omega)] at he
    repeat' (first
      | (refine ⟨_, rfl, ?_⟩; rw [yl]; refine ⟨fun hc => ?_, fun hc => (nomatch hc)⟩)
      | refine ar_Ii (C := CDivB) (divB (by first | assumption | omega) (by omega) (by omega)) ?_
      | refine ar_Ii (C := CMul) (.inr ⟨by omega, by omega⟩) ?_
      | refine ar_Ii (C := CMul) (.inl ⟨by omega, by omega⟩) ?_
      | exact ⟨(h.fmod l).toNat, by omega, l, h.fmod l, w', b - h.fdiv l * w', .da (.int (h.fdiv l)), rfl, ⟨by omega, by omega⟩, ⟨by omega, by omega⟩, he, by rw [em]; rfl⟩
      | with_reducible apply as_seq
      | with_reducible apply as_set
      | with_reducible apply as_par
      | ((with_reducible apply ae_var); · rfl)
      | with_reducible apply ae_int
      | with_reducible apply ae_op
      | with_reducible apply aa_nil
      | with_reducible apply aa_cons
      | with_reducible apply at_test
      | with_reducible apply ar_I0i
      | ((with_reducible apply ar_ne3); · exact ⟨rfl, rfl, rfl⟩)
      | refine ⟨_, _, rfl, ?_⟩
      | fail)
theorem ok_rest_meet (bl : Blts mg) {g_rest_has : Addr} {d_rest_has : FuncData} (c_rest_has : Cal P w K mg base 1 "rest_has" p_rest_has (spP K S_has) g_rest_has d_rest_has) {g_rest_of : Addr} {d_rest_of : FuncData} (c_rest_of : Cal P w K mg base 1 "rest_of" p_rest_of (spP K S_ro) g_rest_of d_rest_of) {g_inverse : Addr} {d_inverse : FuncData} (c_inverse : Cal P w K mg base 1 "inverse" p_inverse (spP K S_inv) g_inverse d_inverse) (hgcd : mg "gcd" = some (.builtin "math.gcd")) {f : Addr} {fd : FuncData} (F : Fun K "rest_meet" "rest_meet" s_rest_meet f fd) : FnOk P w K mg base CX0 2 f fd p_rest_meet (spP K (S2r fMeet)) := by
  refine okP F sc_rest_meet (fun ds r h => ?_) (fun cdv A outer s H E hr ds r h => ?_)
  · obtain ⟨k, k', m, r, n, s, rfl, v1, v2, rfl⟩ := h
    rfl
  obtain ⟨k, k', m, r, n, s, rfl, v1, v2, rfl⟩ := h
  refine ⟨_, (pss_cons (ps_asg (pv 0) (pg_or (pg_tup rfl (pgs_cons (pg_name (i := 4) sc_rest_meet.nd rfl (by first | exact Or.inl rfl | exact Or.inr rfl)) (pgs_cons (pg_name (i := 5) sc_rest_meet.nd rfl (by first | exact Or.inl rfl | exact Or.inr rfl)) pgs_nil))) (pg_unl rfl (pgs_cons (pg_name (i := 4) sc_rest_meet.nd rfl (by first | exact Or.inl rfl | exact Or.inr rfl)) (pgs_cons (pg_name (i := 5) sc_rest_meet.nd rfl (by first | exact Or.inl rfl | exact Or.inr rfl)) pgs_nil)))))
    (pss_cons (ps_asg (pv 1) (pg_or (pg_tup rfl (pgs_cons (pg_name (i := 6) sc_rest_meet.nd rfl (by first | exact Or.inl rfl | exact Or.inr rfl)) (pgs_cons (pg_name (i := 7) sc_rest_meet.nd rfl (by first | exact Or.inl rfl | exact Or.inr rfl)) pgs_nil))) (pg_unl rfl (pgs_cons (pg_name (i := 6) sc_rest_meet.nd rfl (by first | exact Or.inl rfl | exact Or.inr rfl)) (pgs_cons (pg_name (i := 7) sc_rest_meet.nd rfl (by first | exact Or.inl rfl | exact Or.inr rfl)) pgs_nil)))))
    (pss_cons (ps_if (pt_cmpR op_eq (pv 4) pe_int (nomark _)) (pss_one (ps_ret (pe_ifExp (pt_val (pe_call c_rest_has.ok (hr.mono (by decide)) rfl c_rest_has.mg c_rest_has.kp c_rest_has.bi .nil pass0 (pa_cons (pv 1) (pa_cons (pv 5) pa_nil)))) (pe_tup (pa_cons pe_int (pa_cons (pv 5) pa_nil))) pe_non))) pss_nil)
    (pss_cons (ps_if (pt_cmpR op_eq (pv 6) pe_int (nomark _)) (pss_one (ps_ret (pe_ifExp (pt_val (pe_call c_rest_has.ok (hr.mono (by decide)) rfl c_rest_has.mg c_rest_has.kp c_rest_has.bi .nil pass0 (pa_cons (pv 0) (pa_cons (pv 7) pa_nil)))) (pe_tup (pa_cons pe_int (pa_cons (pv 7) pa_nil))) pe_non))) pss_nil)
    (pss_cons (ps_set (i := 2) sc_rest_meet.nd rfl (by first | exact Or.inl rfl | exact Or.inr rfl) (pe_callBfun cr_gcd rfl hgcd (pa_cons (pv 4) (pa_cons (pv 6) pa_nil))))
    (pss_cons (ps_if (pt_cmpR op_ne (pe_op op_modN (pe_op op_sub (pv 7) (pv 5)) (pv 2)) pe_int (nomark _)) (pss_one (ps_ret pe_non)) pss_nil)
    (pss_cons (ps_set (i := 3) sc_rest_meet.nd rfl (by first | exact Or.inl rfl | exact Or.inr rfl) (pe_op op_mul (pe_op op_fdivB (pe_op op_sub (pv 7) (pv 5)) (pv 2)) (pe_call c_inverse.ok (hr.mono (by decide)) rfl c_inverse.mg c_inverse.kp c_inverse.bi .nil pass0 (pa_cons (pe_op op_fdivB (pv 4) (pv 2)) (pa_cons (pe_op op_fdivB (pv 6) (pv 2)) pa_nil)))))
    (pss_one (ps_ret (pe_call c_rest_of.ok (hr.mono (by decide)) rfl c_rest_of.mg c_rest_of.kp c_rest_of.bi .nil pass0 (pa_cons (pe_op op_mul (pe_op op_fdivB (pv 4) (pv 2)) (pv 6)) (pa_cons (pe_op op_add (pv 5) (pe_op op_mul (pv 4) (pv 3))) pa_nil)))))))))))), ?_⟩
  change AS K _ [En.da _, En.da _, En.no, En.no, En.no, En.no, En.no, En.no] _ _
  try simp only [cxOf_K]
  have b1 := v1.b
  have b2 := v2.b
  by_cases hm : m = 0
  · subst hm
    cases hb : hasB n s r
    all_goals
      repeat' (first
        | ((with_reducible apply ag_seq); · rfl)
        | with_reducible apply ae_call
        | (refine ⟨.bl true, ⟨k', n, s, r, rfl, (congrArg Dt.bl hb.symm)⟩, ?_⟩)
        | (refine ⟨.bl false, ⟨k', n, s, r, rfl, (congrArg Dt.bl hb.symm)⟩, ?_⟩)
        | with_reducible apply as_seq
        | with_reducible apply as_ret
        | with_reducible apply as_if
        | with_reducible apply as_asg
        | ((with_reducible apply ae_var); · rfl)
        | with_reducible apply ae_int
        | with_reducible apply ae_non
        | with_reducible apply ae_op
        | with_reducible apply aa_nil
        | with_reducible apply aa_cons
        | with_reducible apply ae_tup
        | with_reducible apply ae_if
        | with_reducible apply at_test
        | with_reducible apply at_b
        | ((with_reducible apply ar_eq3); · exact ⟨rfl, rfl, rfl⟩)
        | with_reducible apply ag_name
        | with_reducible apply ags_nil
        | with_reducible apply ags_cons
        | refine ⟨sz60 (Nat.le_of_ble_eq_true rfl), ?_⟩
        | refine ⟨_, rfl, ?_⟩
        | (refine ⟨fun hc => ?_, fun hc => ?_⟩ <;> (first | (exfalso; exact absurd (show false = true from hc) (by decide)) | (exfalso; exact absurd (show true = false from hc) (by decide)) | (exfalso; simp at hc; done) | skip))
        | fail)
    all_goals (show _ = pO (meetO 0 r n s); unfold meetO; rw [if_pos rfl, hb]; rfl)
  · have zm : decide (V.int m = V.int 0) = false := vne hm
    have ym : (!decide (V.int m = V.int 0)) = true := vnn hm
    by_cases hn : n = 0
    · subst hn
      cases hb : hasB m r s
      all_goals
        repeat' (first
          | ((with_reducible apply ag_seq); · rfl)
          | (refine ⟨_, rfl, ?_⟩; rw [zm]; refine ⟨fun hc => (nomatch hc), fun hc => ?_⟩)
          | with_reducible apply ae_call
          | (refine ⟨.bl true, ⟨k, m, r, s, rfl, (congrArg Dt.bl hb.symm)⟩, ?_⟩)
          | (refine ⟨.bl false, ⟨k, m, r, s, rfl, (congrArg Dt.bl hb.symm)⟩, ?_⟩)
          | with_reducible apply as_seq
          | with_reducible apply as_ret
          | with_reducible apply as_next
          | with_reducible apply as_if
          | with_reducible apply as_asg
          | ((with_reducible apply ae_var); · rfl)
          | with_reducible apply ae_int
          | with_reducible apply ae_non
          | with_reducible apply ae_op
          | with_reducible apply aa_nil
          | with_reducible apply aa_cons
          | with_reducible apply ae_tup
          | with_reducible apply ae_if
          | with_reducible apply at_test
          | with_reducible apply at_b
          | ((with_reducible apply ar_eq3); · exact ⟨rfl, rfl, rfl⟩)
          | with_reducible apply ag_name
          | with_reducible apply ags_nil
          | with_reducible apply ags_cons
          | refine ⟨sz60 (Nat.le_of_ble_eq_true rfl), ?_⟩
          | refine ⟨_, rfl, ?_⟩
          | (refine ⟨fun hc => ?_, fun hc => ?_⟩ <;> (first | (exfalso; exact absurd (show false = true from hc) (by decide)) | (exfalso; exact absurd (show true = false from hc) (by decide)) | (exfalso; simp at hc; done) | skip))
          | fail)
      all_goals (show _ = pO (meetO m r 0 s); unfold meetO; rw [if_neg hm, if_pos rfl, hb]; rfl)
    · have zn : decide (V.int n = V.int 0) = false := vne hn
      have yn : (!decide (V.int n = V.int 0)) = true := vnn hn
      have gp := g_pos (m := m) (n := n) (by omega) (by omega)
      have gl := g2_le (m := m) (n := n) (by omega)
      have qb := q_b (m := m) (n := n) (by omega) (by omega)
      have ib := invF_b (n := m.fdiv (g2 m n)) (m := n.fdiv (g2 m n)) (by omega)
      have gne : g2 m n ≠ 0 := by omega
      by_cases hg : (s - r).fmod (g2 m n) = 0
      · have yg : (!decide (V.int ((s - r).fmod (g2 m n)) = V.int 0)) = false := vee hg
        repeat' (first
          | ((with_reducible apply ag_seq); · rfl)
          | (refine ac_g2 ?_)
          | (refine ⟨_, rfl, ?_⟩; rw [yg]; refine ⟨fun hc => (nomatch hc), fun hc => ?_⟩)
          | (refine ⟨_, rfl, ?_⟩; rw [zm]; refine ⟨fun hc => (nomatch hc), fun hc => ?_⟩)
          | (refine ⟨_, rfl, ?_⟩; rw [zn]; refine ⟨fun hc => (nomatch hc), fun hc => ?_⟩)
          | with_reducible apply ae_call
          | (refine ⟨_, ⟨_, _, rfl, rfl⟩, ?_⟩)
          | refine ar_Ii (C := fun _ j => j ≠ 0) gne ?_
          | refine ar_Ii (C := CDivB) (divB gne (by omega) (by omega)) ?_
          | (refine ⟨_, ⟨_, _, rfl, ⟨by omega, by omega⟩, rfl⟩, ?_⟩)
          | refine ar_Ii (C := CMul) (.inr ⟨by omega, by omega⟩) ?_
          | refine ar_Ii (C := CMul) (.inl ⟨by omega, by omega⟩) ?_
          | with_reducible apply as_seq
          | with_reducible apply as_ret
          | with_reducible apply as_next
          | with_reducible apply as_if
          | with_reducible apply as_set
          | with_reducible apply as_asg
          | ((with_reducible apply ae_var); · rfl)
          | with_reducible apply ae_int
          | with_reducible apply ae_op
          | with_reducible apply aa_nil
          | with_reducible apply aa_cons
          | with_reducible apply ae_cb
          | with_reducible apply at_test
          | with_reducible apply ar_I0i
          | ((with_reducible apply ar_eq3); · exact ⟨rfl, rfl, rfl⟩)
          | ((with_reducible apply ar_ne3); · exact ⟨rfl, rfl, rfl⟩)
          | with_reducible apply ag_name
          | with_reducible apply ags_nil
          | with_reducible apply ags_cons
          | fail)
        all_goals (show _ = pO (meetO m r n s); unfold meetO; rw [if_neg hm, if_neg hn, if_pos hg]; rfl)
      · have yg : (!decide (V.int ((s - r).fmod (g2 m n)) = V.int 0)) = true := vnn hg
        repeat' (first
          | ((with_reducible apply ag_seq); · rfl)
          | (refine ac_g2 ?_)
          | (refine ⟨_, rfl, ?_⟩; rw [yg]; refine ⟨fun hc => ?_, fun hc => (nomatch hc)⟩)
          | (refine ⟨_, rfl, ?_⟩; rw [zm]; refine ⟨fun hc => (nomatch hc), fun hc => ?_⟩)
          | (refine ⟨_, rfl, ?_⟩; rw [zn]; refine ⟨fun hc => (nomatch hc), fun hc => ?_⟩)
          | refine ar_Ii (C := fun _ j => j ≠ 0) gne ?_
          | with_reducible apply as_seq
          | with_reducible apply as_ret
          | with_reducible apply as_next
          | with_reducible apply as_if
          | with_reducible apply as_set
          | with_reducible apply as_asg
          | ((with_reducible apply ae_var); · rfl)
          | with_reducible apply ae_int
          | with_reducible apply ae_non
          | with_reducible apply ae_op
          | with_reducible apply aa_nil
          | with_reducible apply aa_cons
          | with_reducible apply ae_cb
          | with_reducible apply at_test
          | with_reducible apply ar_I0i
          | ((with_reducible apply ar_eq3); · exact ⟨rfl, rfl, rfl⟩)
          | ((with_reducible apply ar_ne3); · exact ⟨rfl, rfl, rfl⟩)
          | with_reducible apply ag_name
          | with_reducible apply ags_nil
          | with_reducible apply ags_cons
          | fail)
        all_goals (show _ = pO (meetO m r n s); unfold meetO; rw [if_neg hm, if_neg hn, if_neg hg]; rfl)
theorem ok_value_from2 (bl : Blts mg) {g_value_of : Addr} {d_value_of : FuncData} (c_value_of : Cal P w K mg base 3 "value_of" p_value_of (spP K S_vo) g_value_of d_value_of)  {f : Addr} {fd : FuncData} (F : Fun K "value_from" "value_from" s_value_from f fd) : FnOk P w K mg base CX0 4 f fd p_value_from (spP K (S_vf2)) := by
  refine okP F sc_value_from (fun ds r h => ?_) (fun cdv A outer s H E hr ds r h => ?_)
  · obtain ⟨p, q, rfl, rfl⟩ := h
    rfl
  obtain ⟨p, q, rfl, rfl⟩ := h
  refine ⟨_, (pss_cons (ps_if (PW.pt (pw_or (pt_cmpR op_isN (pv 0) pe_non (nomark _)) (pw_or1 (pt_cmpR op_isN (pv 1) pe_non (nomark _))))) (pss_one (ps_ret pe_non)) pss_nil)
    (pss_one (ps_ret (pe_call c_value_of.ok (hr.mono (by decide)) rfl c_value_of.mg c_value_of.kp c_value_of.bi .nil pass0 (pa_cons (pe_ix ix_seq (pv 0) pe_int (fun _ _ => rfl)) (pa_cons (pe_ix ix_seq (pv 0) pe_int (fun _ _ => rfl)) (pa_cons (pe_ix ix_seq (pv 1) pe_int (fun _ _ => rfl)) (pa_cons (pe_ix ix_seq (pv 1) pe_int (fun _ _ => rfl)) pa_nil)))))))), ?_⟩
  change AS K _ [En.da _, En.da _] _ _
  try simp only [cxOf_K]
  cases p with
  | none => cases q
            all_goals
              repeat' (first
                | with_reducible apply as_seq
                | with_reducible apply as_ret
                | with_reducible apply as_if
                | ((with_reducible apply ae_var); · rfl)
                | with_reducible apply ae_non
                | with_reducible apply ae_op
                | with_reducible apply at_test
                | with_reducible apply at_or
                | with_reducible apply ar_isN
                | refine ⟨_, rfl, ?_⟩
                | (refine ⟨fun hc => ?_, fun hc => ?_⟩ <;> (first | (exfalso; exact absurd (show false = true from hc) (by decide)) | (exfalso; exact absurd (show true = false from hc) (by decide)) | (exfalso; simp at hc; done) | skip))
                | rfl
                | fail)
  | some p => cases q with
    | none =>
      repeat' (first
        | with_reducible apply as_seq
        | with_reducible apply as_ret
        | with_reducible apply as_if
        | ((with_reducible apply ae_var); · rfl)
        | with_reducible apply ae_non
        | with_reducible apply ae_op
        | with_reducible apply at_test
        | with_reducible apply at_or
        | with_reducible apply ar_isN
        | refine ⟨_, rfl, ?_⟩
        | (refine ⟨fun hc => ?_, fun hc => ?_⟩ <;> (first | (exfalso; exact absurd (show false = true from hc) (by decide)) | (exfalso; exact absurd (show true = false from hc) (by decide)) | (exfalso; simp at hc; done) | skip))
        | rfl
        | fail)
    | some q =>
      obtain ⟨a, b⟩ := p
      obtain ⟨m, r⟩ := q
      change AS K _ [En.da (sq true [oD a, oD b]), En.da (sq true [.int m, .int r])] _ _
      repeat' (first
        | with_reducible apply ae_call
        | (refine ⟨_, ⟨a, b, m, r, rfl, rfl⟩, ?_⟩)
        | with_reducible apply as_seq
        | with_reducible apply as_ret
        | with_reducible apply as_next
        | with_reducible apply as_if
        | ((with_reducible apply ae_var); · rfl)
        | with_reducible apply ae_int
        | with_reducible apply ae_non
        | with_reducible apply ae_op
        | with_reducible apply aa_nil
        | with_reducible apply aa_cons
        | with_reducible apply at_test
        | with_reducible apply at_or
        | with_reducible apply ar_isN
        | ((with_reducible apply ar_ix); · rfl)
        | refine ⟨_, rfl, ?_⟩
        | (refine ⟨fun hc => ?_, fun hc => ?_⟩ <;> (first | (exfalso; exact absurd (show false = true from hc) (by decide)) | (exfalso; exact absurd (show true = false from hc) (by decide)) | (exfalso; simp at hc; done) | skip))
        | rfl
        | fail)
theorem ok_value_meet (bl : Blts mg) {g_span_meet : Addr} {d_span_meet : FuncData} (c_span_meet : Cal P w K mg base 2 "span_meet" p_span_meet (spP K S_sm) g_span_meet d_span_meet) {g_rest_meet : Addr} {d_rest_meet : FuncData} (c_rest_meet : Cal P w K mg base 2 "rest_meet" p_rest_meet (spP K (S2r fMeet)) g_rest_meet d_rest_meet) {g_value_from : Addr} {d_value_from : FuncData} (c_value_from : Cal P w K mg base 4 "value_from" p_value_from (spP K S_vf2) g_value_from d_value_from)  {f : Addr} {fd : FuncData} (F : Fun K "value_meet" "value_meet" s_value_meet f fd) : FnOk P w K mg base CX0 5 f fd p_value_meet (spP K (S_vm)) := by
  refine okP F sc_value_meet (fun ds r h => ?_) (fun cdv A outer s H E hr ds r h => ?_)
  · obtain ⟨k, k', a, b, c, d, m, r, n, s, rfl, v1, v2, rfl⟩ := h
    rfl
  obtain ⟨k, k', a, b, c, d, m, r, n, s, rfl, v1, v2, rfl⟩ := h
  refine ⟨_, (pss_one (ps_ret (pe_call c_value_from.ok (hr.mono (by decide)) rfl c_value_from.mg c_value_from.kp c_value_from.bi .nil pass0 (pa_cons (pe_call c_span_meet.ok (hr.mono (by decide)) rfl c_span_meet.mg c_span_meet.kp c_span_meet.bi .nil pass0 (pa_cons (pe_slice sl_seq (pv 0) po_none (po_some pe_int)) (pa_cons (pe_slice sl_seq (pv 1) po_none (po_some pe_int)) pa_nil))) (pa_cons (pe_call c_rest_meet.ok (hr.mono (by decide)) rfl c_rest_meet.mg c_rest_meet.kp c_rest_meet.bi .nil pass0 (pa_cons (pe_slice sl_seq (pv 0) (po_some pe_int) po_none) (pa_cons (pe_slice sl_seq (pv 1) (po_some pe_int) po_none) pa_nil))) pa_nil))))), ?_⟩
  change AS K _ [En.da _, En.da _] _ _
  try simp only [cxOf_K]
  repeat' (first
    | with_reducible apply ae_call
    | with_reducible apply ae_slFrom
    | with_reducible apply ae_slTo
    | (refine ⟨_, _, _, _, _, rfl, ?_⟩)
    | (refine ⟨_, ⟨k, k', a, b, c, d, rfl, rfl⟩, ?_⟩)
    | (refine ⟨_, ⟨k, k', m, r, n, s, rfl, v1.vd, v2.vd, rfl⟩, ?_⟩)
    | (refine ⟨_, ⟨spanM a b c d, meetO m r n s, rfl, rfl⟩, ?_⟩)
    | exact vm_is
    | with_reducible apply as_ret
    | ((with_reducible apply ae_var); · rfl)
    | with_reducible apply aa_nil
    | with_reducible apply aa_cons
    | fail)
end
end Sh
set_option Elab.async false
set_option linter.all false
set_option maxRecDepth 100000
set_option maxHeartbeats 4000000
namespace Sh
open PySem PySem.Spec PyProof.Rows L2
section
variable {P : Program} {w : World} {K : PySem.W.Frag} {mg : Str → Option Value} {base : Heap}
mutual
def Dt.dep : Dt → Nat
  | .tup l => deps l + 1 | .lst l => deps l + 1 | _ => 1
def deps : List Dt → Nat
  | [] => 0
  | d :: l => max d.dep (deps l)
end
mutual
/-- no classes, short -/
def Dt.fit : Dt → Bool
  | .ty _ => false
  | .tup l => decide (l.length ≤ 9000) && fits l
  | .lst l => decide (l.length ≤ 9000) && fits l
  | _ => true
def fits : List Dt → Bool
  | [] => true
  | d :: l => d.fit && fits l
end
theorem deps_mem : ∀ {l : List Dt} {d : Dt}, d ∈ l → d.dep ≤ deps l
  | e :: l, d, h => by
    unfold deps
    rcases List.mem_cons.mp h with rfl | h
    · omega
    · have := deps_mem h; omega
theorem fits_mem : ∀ {l : List Dt} {d : Dt}, fits l = true → d ∈ l → d.fit = true
  | e :: l, d, f, h => by
    unfold fits at f
    rw [Bool.and_eq_true] at f
    rcases List.mem_cons.mp h with rfl | h
    · exact f.1
    · exact fits_mem f.2 h
def S_same (n : Nat) (ds : List Dt) (r : Dt) : Prop := ∃ d, ds = [d, d] ∧ d.dep ≤ n ∧ d.fit = true ∧ r = .bl true
theorem zp_self : ∀ {l : List Dt} {d : Dt}, d ∈ zpD l l → ∃ e, e ∈ l ∧ d = .tup [e, e]
  | [], d, h => by simp [zpD] at h
  | a :: l, d, h => by
    rcases List.mem_cons.mp (show d ∈ Dt.tup [a, a] :: zpD l l from h) with rfl | h
    · exact ⟨a, List.mem_cons_self, rfl⟩
    · obtain ⟨e, h1, h2⟩ := zp_self h
      exact ⟨e, List.mem_cons_of_mem _ h1, h2⟩
theorem none0 {ps : List Str} {f : Addr} {fd : FuncData} {sp : Sp} (no : ∀ vs H Q E, ¬ sp vs H Q E) : FnOk P w K mg base CX0 0 f fd ps sp :=
  ⟨fun vs H Q E h => absurd h (no vs H Q E), fun A outer s H args us vs Q E _ _ _ _ h => absurd h (no vs H Q E)⟩
theorem dep_pos (d : Dt) : 1 ≤ d.dep := by cases d <;> simp [Dt.dep]
theorem map_true {l : List Dt} : (l.map fun _ => Dt.bl true) = (List.replicate l.length true).map Dt.bl := by rw [List.map_const', List.map_replicate]
theorem all_true (n : Nat) : (List.replicate n true).all id = true := by simp
abbrev s_l_same : Stmt := topS 33
abbrev N_l_same : List Str := ["_law_found", "_law_due", "_law_mine", "_law_its"]
abbrev p_l_same : List Str := ["_law_found", "_law_due"]
theorem sc_l_same : FnScope N_l_same p_l_same (defScope s_l_same) := ⟨rfl, rfl, rfl, by decide +kernel, rfl, by decide +kernel, by decide +kernel⟩
theorem ok_l_same (bl : Blts mg) {n : Nat} {g_l_same : Addr} {d_l_same : FuncData} (c_l_same : Cal P w K mg base n "_law_same" p_l_same (spP K (S_same n)) g_l_same d_l_same) {f : Addr} {fd : FuncData} (F : Fun K "_law_same" "_law_same" s_l_same f fd) : FnOk P w K mg base CX0 (n + 1) f fd p_l_same (spP K (S_same (n + 1))) := by
  refine okP F sc_l_same (fun ds r h => ?_) (fun cdv A outer s H E hr ds r h => ?_)
  · obtain ⟨d, rfl, n1, f1, rfl⟩ := h
    rfl
  obtain ⟨d, rfl, n1, f1, rfl⟩ := h
  refine ⟨_, (pss_cons (ps_if (pt_val (pe_callB call_isiT rfl bl.isinstance (by decide +kernel) (pa_cons (pv 1) (pa_cons (pe_tup (pa_cons (pe_bltn (v := .ty "list") rfl bl.list (by decide +kernel) rfl) (pa_cons (pe_bltn (v := .ty "tuple") rfl bl.tuple (by decide +kernel) rfl) pa_nil))) pa_nil)))) (pss_cons (ps_if (PW.pt (pw_or (pt_cmpR op_ne (pe_callB call_isi rfl bl.isinstance (by decide +kernel) (pa_cons (pv 0) (pa_cons (pe_bltn (v := .ty "list") rfl bl.list (by decide +kernel) rfl) pa_nil))) (pe_callB call_isi rfl bl.isinstance (by decide +kernel) (pa_cons (pv 1) (pa_cons (pe_bltn (v := .ty "list") rfl bl.list (by decide +kernel) rfl) pa_nil))) (nomark _)) (pw_or1 (pt_cmpR op_ne (pe_callB call_isi rfl bl.isinstance (by decide +kernel) (pa_cons (pv 0) (pa_cons (pe_bltn (v := .ty "tuple") rfl bl.tuple (by decide +kernel) rfl) pa_nil))) (pe_callB call_isi rfl bl.isinstance (by decide +kernel) (pa_cons (pv 1) (pa_cons (pe_bltn (v := .ty "tuple") rfl bl.tuple (by decide +kernel) rfl) pa_nil))) (nomark _))))) (pss_one (ps_ret pe_bl)) pss_nil)
    (pss_one (ps_ret (pe_and (pe_cmpR op_eq (pe_callB call_len_seq rfl bl.len (by decide +kernel) (pa_cons (pv 0) pa_nil)) (pe_callB call_len_seq rfl bl.len (by decide +kernel) (pa_cons (pv 1) pa_nil)) (nomark _)) (pe_one (pe_callB (cr_all rfl) rfl bl.all (by decide +kernel) (pa_cons (pe_lc (own := [("_law_mine", 2), ("_law_its", 3)]) (g := (gTup K 2 (gCons (gName 2) (gCons (gName 3) gNil)))) (tt := tYes) rfl sc_l_same.nd (RZ.pi_zipA rfl bl.zip (pa_cons (pv 0) (pa_cons (pv 1) pa_nil))) (blkOk_by (N := N_l_same) (sc := defScope s_l_same) (by decide +kernel)) (fun _ _ _ _ _ => (pg_tup rfl (pgs_cons (pg_name (i := 2) sc_l_same.nd rfl (by first | exact Or.inl rfl | exact Or.inr rfl)) (pgs_cons (pg_name (i := 3) sc_l_same.nd rfl (by first | exact Or.inl rfl | exact Or.inr rfl)) pgs_nil)))) (fun _ _ _ _ _ => pts_nil) (fun _ _ _ _ _ => (pe_call c_l_same.ok hr rfl c_l_same.mg c_l_same.kp c_l_same.bi .nil pass0 (pa_cons (pv 2) (pa_cons (pv 3) pa_nil))))) pa_nil))))))) pss_nil)
    (pss_cons (ps_if (PW.pt (pw_or (pt_cmpR op_isN (pv 1) pe_non (nomark _)) (pw_or1 (pt_val (pe_callB call_isiT rfl bl.isinstance (by decide +kernel) (pa_cons (pv 1) (pa_cons (pe_tup (pa_cons (pe_bltn (v := .ty "bool") rfl bl.bool (by decide +kernel) rfl) (pa_cons (pe_bltn (v := .ty "str") rfl bl.str (by decide +kernel) rfl) pa_nil))) pa_nil))))))) (pss_one (ps_ret (pe_and (pe_cmpR op_eq (pv 0) (pv 1) (nomark _)) (pe_and (pe_cmpR op_eq (pe_callB call_isi rfl bl.isinstance (by decide +kernel) (pa_cons (pv 0) (pa_cons (pe_bltn (v := .ty "bool") rfl bl.bool (by decide +kernel) rfl) pa_nil))) (pe_callB call_isi rfl bl.isinstance (by decide +kernel) (pa_cons (pv 1) (pa_cons (pe_bltn (v := .ty "bool") rfl bl.bool (by decide +kernel) rfl) pa_nil))) (nomark _)) (pe_one (pe_cmpR op_eq (pe_cmpR op_isN (pv 0) pe_non (nomark _)) (pe_cmpR op_isN (pv 1) pe_non (nomark _)) (nomark _))))))) pss_nil)
    (pss_one (ps_ret (pe_and (pe_callB call_isi rfl bl.isinstance (by decide +kernel) (pa_cons (pv 0) (pa_cons (pe_bltn (v := .ty "int") rfl bl.int (by decide +kernel) rfl) pa_nil))) (pe_and (pe_not (pe_callB call_isi rfl bl.isinstance (by decide +kernel) (pa_cons (pv 0) (pa_cons (pe_bltn (v := .ty "bool") rfl bl.bool (by decide +kernel) rfl) pa_nil)))) (pe_one (pe_cmpR op_eq (pv 0) (pv 1) (nomark _))))))))), ?_⟩
  change AS K _ [En.da _, En.da _, En.no, En.no] _ _
  try simp only [cxOf_K]
  cases d with
  | non =>
    repeat' (first
      | ((with_reducible apply ac_isi1); · first | exact ⟨rfl, kb_NoneType_list⟩ | exact ⟨rfl, kb_NoneType_tuple⟩ | exact ⟨rfl, kb_NoneType_bool⟩ | exact ⟨rfl, kb_NoneType_int⟩ | exact ⟨rfl, kb_NoneType_str⟩)
      | (first | refine ⟨rfl, false, .inr ⟨kb_NoneType_list, kb_NoneType_tuple⟩, ?_⟩ | refine ⟨rfl, false, .inr ⟨kb_NoneType_bool, kb_NoneType_str⟩, ?_⟩)
      | with_reducible apply as_seq
      | with_reducible apply as_ret
      | with_reducible apply as_next
      | with_reducible apply as_if
      | with_reducible apply as_set
      | with_reducible apply as_par
      | with_reducible apply as_par3
      | with_reducible apply as_asg
      | ((with_reducible apply ae_var); · rfl)
      | with_reducible apply ae_int
      | with_reducible apply ae_non
      | with_reducible apply ae_bl
      | with_reducible apply ae_str
      | with_reducible apply ae_ty
      | with_reducible apply ae_isi2
      | with_reducible apply ae_op
      | with_reducible apply ae_un
      | with_reducible apply aa_nil
      | with_reducible apply aa_cons
      | with_reducible apply ae_cb
      | with_reducible apply ae_tup
      | with_reducible apply ae_lst
      | with_reducible apply ae_if
      | with_reducible apply at_test
      | with_reducible apply at_b
      | with_reducible apply at_and
      | with_reducible apply at_or
      | with_reducible apply at_not
      | with_reducible apply at_yes
      | with_reducible apply ae_andV
      | with_reducible apply ae_orV
      | with_reducible apply ae_notV
      | with_reducible apply ar_I0i
      | with_reducible apply ar_I0b
      | with_reducible apply ar_isN
      | with_reducible apply ar_notN
      | with_reducible apply au_Ui
      | ((with_reducible apply ar_ixTs); · rfl)
      | ((with_reducible apply ar_ixLs); · rfl)
      | ((with_reducible apply ar_ix); · rfl)
      | ((with_reducible apply ar_ixT); · rfl)
      | ((with_reducible apply ar_ixL); · rfl)
      | with_reducible apply ac_abs
      | with_reducible apply ac_max2
      | with_reducible apply ac_min2
      | with_reducible apply ac_lenT
      | with_reducible apply ac_lenL
      | with_reducible apply ac_listT
      | with_reducible apply ac_listL
      | with_reducible apply ac_tupL
      | with_reducible apply ac_tupT
      | with_reducible apply ac_int
      | with_reducible apply ac_intB
      | ((with_reducible apply ar_eq3); · exact ⟨rfl, rfl, rfl⟩)
      | ((with_reducible apply ar_ne3); · exact ⟨rfl, rfl, rfl⟩)
      | with_reducible apply ag_name
      | with_reducible apply ags_nil
      | with_reducible apply ags_cons
      | ((with_reducible apply ag_tup); · rfl)
      | refine ⟨sz60 (Nat.le_of_ble_eq_true rfl), ?_⟩
      | refine ⟨_, rfl, ?_⟩
      | refine ⟨_, _, rfl, ?_⟩
      | refine ⟨_, _, _, rfl, ?_⟩
      | (refine ⟨fun hc => ?_, fun hc => ?_⟩ <;> (first | (exfalso; exact absurd (show false = true from hc) (by decide)) | (exfalso; exact absurd (show true = false from hc) (by decide)) | (exfalso; simp at hc; done) | skip))
      | rfl
      | exact trivial
      | simp only [oD_some, oD_none])
  | bl b =>
    repeat' (first
      | ((with_reducible apply ac_isi1); · first | exact ⟨rfl, kb_bool_list⟩ | exact ⟨rfl, kb_bool_tuple⟩ | exact ⟨rfl, kb_bool_bool⟩ | exact ⟨rfl, kb_bool_int⟩ | exact ⟨rfl, kb_bool_str⟩)
      | (first | refine ⟨rfl, false, .inr ⟨kb_bool_list, kb_bool_tuple⟩, ?_⟩ | refine ⟨rfl, true, .inl ⟨kb_bool_bool, rfl⟩, ?_⟩)
      | with_reducible apply as_seq
      | with_reducible apply as_ret
      | with_reducible apply as_next
      | with_reducible apply as_if
      | with_reducible apply as_set
      | with_reducible apply as_par
      | with_reducible apply as_par3
      | with_reducible apply as_asg
      | ((with_reducible apply ae_var); · rfl)
      | with_reducible apply ae_int
      | with_reducible apply ae_non
      | with_reducible apply ae_bl
      | with_reducible apply ae_str
      | with_reducible apply ae_ty
      | with_reducible apply ae_isi2
      | with_reducible apply ae_op
      | with_reducible apply ae_un
      | with_reducible apply aa_nil
      | with_reducible apply aa_cons
      | with_reducible apply ae_cb
      | with_reducible apply ae_tup
      | with_reducible apply ae_lst
      | with_reducible apply ae_if
      | with_reducible apply at_test
      | with_reducible apply at_b
      | with_reducible apply at_and
      | with_reducible apply at_or
      | with_reducible apply at_not
      | with_reducible apply at_yes
      | with_reducible apply ae_andV
      | with_reducible apply ae_orV
      | with_reducible apply ae_notV
      | with_reducible apply ar_I0i
      | with_reducible apply ar_I0b
      | with_reducible apply ar_isN
      | with_reducible apply ar_notN
      | with_reducible apply au_Ui
      | ((with_reducible apply ar_ixTs); · rfl)
      | ((with_reducible apply ar_ixLs); · rfl)
      | ((with_reducible apply ar_ix); · rfl)
      | ((with_reducible apply ar_ixT); · rfl)
      | ((with_reducible apply ar_ixL); · rfl)
      | with_reducible apply ac_abs
      | with_reducible apply ac_max2
      | with_reducible apply ac_min2
      | with_reducible apply ac_lenT
      | with_reducible apply ac_lenL
      | with_reducible apply ac_listT
      | with_reducible apply ac_listL
      | with_reducible apply ac_tupL
      | with_reducible apply ac_tupT
      | with_reducible apply ac_int
      | with_reducible apply ac_intB
      | ((with_reducible apply ar_eq3); · exact ⟨rfl, rfl, rfl⟩)
      | ((with_reducible apply ar_ne3); · exact ⟨rfl, rfl, rfl⟩)
      | with_reducible apply ag_name
      | with_reducible apply ags_nil
      | with_reducible apply ags_cons
      | ((with_reducible apply ag_tup); · rfl)
      | refine ⟨sz60 (Nat.le_of_ble_eq_true rfl), ?_⟩
      | refine ⟨_, rfl, ?_⟩
      | refine ⟨_, _, rfl, ?_⟩
      | refine ⟨_, _, _, rfl, ?_⟩
      | (refine ⟨fun hc => ?_, fun hc => ?_⟩ <;> (first | (exfalso; exact absurd (show false = true from hc) (by decide)) | (exfalso; exact absurd (show true = false from hc) (by decide)) | (exfalso; simp at hc; done) | skip))
      | rfl
      | exact trivial
      | simp only [oD_some, oD_none])
  | int i =>
    repeat' (first
      | ((with_reducible apply ac_isi1); · first | exact ⟨rfl, kb_int_list⟩ | exact ⟨rfl, kb_int_tuple⟩ | exact ⟨rfl, kb_int_bool⟩ | exact ⟨rfl, kb_int_int⟩ | exact ⟨rfl, kb_int_str⟩)
      | (first | refine ⟨rfl, false, .inr ⟨kb_int_list, kb_int_tuple⟩, ?_⟩ | refine ⟨rfl, false, .inr ⟨kb_int_bool, kb_int_str⟩, ?_⟩)
      | with_reducible apply as_seq
      | with_reducible apply as_ret
      | with_reducible apply as_next
      | with_reducible apply as_if
      | with_reducible apply as_set
      | with_reducible apply as_par
      | with_reducible apply as_par3
      | with_reducible apply as_asg
      | ((with_reducible apply ae_var); · rfl)
      | with_reducible apply ae_int
      | with_reducible apply ae_non
      | with_reducible apply ae_bl
      | with_reducible apply ae_str
      | with_reducible apply ae_ty
      | with_reducible apply ae_isi2
      | with_reducible apply ae_op
      | with_reducible apply ae_un
      | with_reducible apply aa_nil
      | with_reducible apply aa_cons
      | with_reducible apply ae_cb
      | with_reducible apply ae_tup
      | with_reducible apply ae_lst
      | with_reducible apply ae_if
      | with_reducible apply at_test
      | with_reducible apply at_b
      | with_reducible apply at_and
      | with_reducible apply at_or
      | with_reducible apply at_not
      | with_reducible apply at_yes
      | with_reducible apply ae_andV
      | with_reducible apply ae_orV
      | with_reducible apply ae_notV
      | with_reducible apply ar_I0i
      | with_reducible apply ar_I0b
      | with_reducible apply ar_isN
      | with_reducible apply ar_notN
      | with_reducible apply au_Ui
      | ((with_reducible apply ar_ixTs); · rfl)
      | ((with_reducible apply ar_ixLs); · rfl)
      | ((with_reducible apply ar_ix); · rfl)
      | ((with_reducible apply ar_ixT); · rfl)
      | ((with_reducible apply ar_ixL); · rfl)
      | with_reducible apply ac_abs
      | with_reducible apply ac_max2
      | with_reducible apply ac_min2
      | with_reducible apply ac_lenT
      | with_reducible apply ac_lenL
      | with_reducible apply ac_listT
      | with_reducible apply ac_listL
      | with_reducible apply ac_tupL
      | with_reducible apply ac_tupT
      | with_reducible apply ac_int
      | with_reducible apply ac_intB
      | ((with_reducible apply ar_eq3); · exact ⟨rfl, rfl, rfl⟩)
      | ((with_reducible apply ar_ne3); · exact ⟨rfl, rfl, rfl⟩)
      | with_reducible apply ag_name
      | with_reducible apply ags_nil
      | with_reducible apply ags_cons
      | ((with_reducible apply ag_tup); · rfl)
      | refine ⟨sz60 (Nat.le_of_ble_eq_true rfl), ?_⟩
      | refine ⟨_, rfl, ?_⟩
      | refine ⟨_, _, rfl, ?_⟩
      | refine ⟨_, _, _, rfl, ?_⟩
      | (refine ⟨fun hc => ?_, fun hc => ?_⟩ <;> (first | (exfalso; exact absurd (show false = true from hc) (by decide)) | (exfalso; exact absurd (show true = false from hc) (by decide)) | (exfalso; simp at hc; done) | skip))
      | rfl
      | exact trivial
      | simp only [oD_some, oD_none])
  | str z =>
    repeat' (first
      | ((with_reducible apply ac_isi1); · first | exact ⟨rfl, kb_str_list⟩ | exact ⟨rfl, kb_str_tuple⟩ | exact ⟨rfl, kb_str_bool⟩ | exact ⟨rfl, kb_str_int⟩ | exact ⟨rfl, kb_str_str⟩)
      | (first | refine ⟨rfl, false, .inr ⟨kb_str_list, kb_str_tuple⟩, ?_⟩ | refine ⟨rfl, true, .inr ⟨kb_str_bool, kb_str_str⟩, ?_⟩)
      | with_reducible apply as_seq
      | with_reducible apply as_ret
      | with_reducible apply as_next
      | with_reducible apply as_if
      | with_reducible apply as_set
      | with_reducible apply as_par
      | with_reducible apply as_par3
      | with_reducible apply as_asg
      | ((with_reducible apply ae_var); · rfl)
      | with_reducible apply ae_int
      | with_reducible apply ae_non
      | with_reducible apply ae_bl
      | with_reducible apply ae_str
      | with_reducible apply ae_ty
      | with_reducible apply ae_isi2
      | with_reducible apply ae_op
      | with_reducible apply ae_un
      | with_reducible apply aa_nil
      | with_reducible apply aa_cons
      | with_reducible apply ae_cb
      | with_reducible apply ae_tup
      | with_reducible apply ae_lst
      | with_reducible apply ae_if
      | with_reducible apply at_test
      | with_reducible apply at_b
      | with_reducible apply at_and
      | with_reducible apply at_or
      | with_reducible apply at_not
      | with_reducible apply at_yes
      | with_reducible apply ae_andV
      | with_reducible apply ae_orV
      | with_reducible apply ae_notV
      | with_reducible apply ar_I0i
      | with_reducible apply ar_I0b
      | with_reducible apply ar_isN
      | with_reducible apply ar_notN
      | with_reducible apply au_Ui
      | ((with_reducible apply ar_ixTs); · rfl)
      | ((with_reducible apply ar_ixLs); · rfl)
      | ((with_reducible apply ar_ix); · rfl)
      | ((with_reducible apply ar_ixT); · rfl)
      | ((with_reducible apply ar_ixL); · rfl)
      | with_reducible apply ac_abs
      | with_reducible apply ac_max2
      | with_reducible apply ac_min2
      | with_reducible apply ac_lenT
      | with_reducible apply ac_lenL
      | with_reducible apply ac_listT
      | with_reducible apply ac_listL
      | with_reducible apply ac_tupL
      | with_reducible apply ac_tupT
      | with_reducible apply ac_int
      | with_reducible apply ac_intB
      | ((with_reducible apply ar_eq3); · exact ⟨rfl, rfl, rfl⟩)
      | ((with_reducible apply ar_ne3); · exact ⟨rfl, rfl, rfl⟩)
      | with_reducible apply ag_name
      | with_reducible apply ags_nil
      | with_reducible apply ags_cons
      | ((with_reducible apply ag_tup); · rfl)
      | refine ⟨sz60 (Nat.le_of_ble_eq_true rfl), ?_⟩
      | refine ⟨_, rfl, ?_⟩
      | refine ⟨_, _, rfl, ?_⟩
      | refine ⟨_, _, _, rfl, ?_⟩
      | (refine ⟨fun hc => ?_, fun hc => ?_⟩ <;> (first | (exfalso; exact absurd (show false = true from hc) (by decide)) | (exfalso; exact absurd (show true = false from hc) (by decide)) | (exfalso; simp at hc; done) | skip))
      | rfl
      | exact trivial
      | simp only [oD_some, oD_none])
  | ty T => exact absurd f1 (fun z => nomatch z)
  | tup l =>
    have hl : l.length ≤ 9000 := by
      have f2 : (decide (l.length ≤ 9000) && fits l) = true := f1
      rw [Bool.and_eq_true] at f2; exact of_decide_eq_true f2.1
    have hf : fits l = true := by
      have f2 : (decide (l.length ≤ 9000) && fits l) = true := f1
      rw [Bool.and_eq_true] at f2; exact f2.2
    have hd : deps l ≤ n := Nat.le_of_succ_le_succ (show deps l + 1 ≤ n + 1 from n1)
    repeat' (first
      | ((with_reducible apply ac_isi1); · first | exact ⟨rfl, kb_tuple_list⟩ | exact ⟨rfl, kb_tuple_tuple⟩ | exact ⟨rfl, kb_tuple_bool⟩ | exact ⟨rfl, kb_tuple_int⟩ | exact ⟨rfl, kb_tuple_str⟩)
      | (first | refine ⟨rfl, true, .inr ⟨kb_tuple_list, kb_tuple_tuple⟩, ?_⟩ | refine ⟨rfl, false, .inr ⟨kb_tuple_bool, kb_tuple_str⟩, ?_⟩)
      | with_reducible apply as_seq
      | with_reducible apply as_ret
      | with_reducible apply as_next
      | with_reducible apply as_if
      | with_reducible apply as_set
      | with_reducible apply as_par
      | with_reducible apply as_par3
      | with_reducible apply as_asg
      | ((with_reducible apply ae_var); · rfl)
      | with_reducible apply ae_int
      | with_reducible apply ae_non
      | with_reducible apply ae_bl
      | with_reducible apply ae_str
      | with_reducible apply ae_ty
      | with_reducible apply ae_isi2
      | with_reducible apply ae_op
      | with_reducible apply ae_un
      | with_reducible apply aa_nil
      | with_reducible apply aa_cons
      | with_reducible apply ae_cb
      | with_reducible apply ae_tup
      | with_reducible apply ae_lst
      | with_reducible apply ae_if
      | with_reducible apply at_test
      | with_reducible apply at_b
      | with_reducible apply at_and
      | with_reducible apply at_or
      | with_reducible apply at_not
      | with_reducible apply at_yes
      | with_reducible apply ae_andV
      | with_reducible apply ae_orV
      | with_reducible apply ae_notV
      | with_reducible apply ar_I0i
      | with_reducible apply ar_I0b
      | with_reducible apply ar_isN
      | with_reducible apply ar_notN
      | with_reducible apply au_Ui
      | ((with_reducible apply ar_ixTs); · rfl)
      | ((with_reducible apply ar_ixLs); · rfl)
      | ((with_reducible apply ar_ix); · rfl)
      | ((with_reducible apply ar_ixT); · rfl)
      | ((with_reducible apply ar_ixL); · rfl)
      | with_reducible apply ac_abs
      | with_reducible apply ac_max2
      | with_reducible apply ac_min2
      | with_reducible apply ac_lenT
      | with_reducible apply ac_lenL
      | with_reducible apply ac_listT
      | with_reducible apply ac_listL
      | with_reducible apply ac_tupL
      | with_reducible apply ac_tupT
      | with_reducible apply ac_int
      | with_reducible apply ac_intB
      | ((with_reducible apply ar_eq3); · exact ⟨rfl, rfl, rfl⟩)
      | ((with_reducible apply ar_ne3); · exact ⟨rfl, rfl, rfl⟩)
      | with_reducible apply ag_name
      | with_reducible apply ags_nil
      | with_reducible apply ags_cons
      | ((with_reducible apply ag_tup); · rfl)
      | refine ⟨sz60 (Nat.le_of_ble_eq_true rfl), ?_⟩
      | refine ⟨_, rfl, ?_⟩
      | refine ⟨_, _, rfl, ?_⟩
      | refine ⟨_, _, _, rfl, ?_⟩
      | (refine ⟨fun hc => ?_, fun hc => ?_⟩ <;> (first | (exfalso; exact absurd (show false = true from hc) (by decide)) | (exfalso; exact absurd (show true = false from hc) (by decide)) | (exfalso; simp at hc; done) | skip))
      | rfl
      | exact trivial
      | simp only [oD_some, oD_none])
    refine ae_lcMap (fun _ => .bl true) ?_
    refine ai_zipT ?_
    repeat' (first | (with_reducible apply aa_cons) | ((with_reducible apply ae_var); · rfl) | (with_reducible apply aa_nil))
    refine ⟨l, l, rfl, ?_, fun d hm => ?_, ?_⟩
    · rw [zpD_len, Nat.min_self]; exact Nat.lt_of_le_of_lt hl (by decide)
    · obtain ⟨e, he, rfl⟩ := zp_self hm
      refine agv_tup rfl (agvs_cons (agv_name (by decide) (agvs_cons (agv_name (by decide) (agvs_nil ?_)))))
      refine ae_call ?_
      repeat' (first | (with_reducible apply aa_cons) | ((with_reducible apply ae_var); · rfl) | (with_reducible apply aa_nil))
      exact ⟨.bl true, ⟨e, rfl, Nat.le_trans (deps_mem he) hd, fits_mem hf he, rfl⟩, rfl, rfl⟩
    · refine aa_nil ?_
      rw [map_true]
      refine ac_all ?_
      rw [all_true]
  | lst l =>
    have hl : l.length ≤ 9000 := by
      have f2 : (decide (l.length ≤ 9000) && fits l) = true := f1
      rw [Bool.and_eq_true] at f2; exact of_decide_eq_true f2.1
    have hf : fits l = true := by
      have f2 : (decide (l.length ≤ 9000) && fits l) = true := f1
      rw [Bool.and_eq_true] at f2; exact f2.2
    have hd : deps l ≤ n := Nat.le_of_succ_le_succ (show deps l + 1 ≤ n + 1 from n1)
    repeat' (first
      | ((with_reducible apply ac_isi1); · first | exact ⟨rfl, kb_list_list⟩ | exact ⟨rfl, kb_list_tuple⟩ | exact ⟨rfl, kb_list_bool⟩ | exact ⟨rfl, kb_list_int⟩ | exact ⟨rfl, kb_list_str⟩)
      | (first | refine ⟨rfl, true, .inl ⟨kb_list_list, rfl⟩, ?_⟩ | refine ⟨rfl, false, .inr ⟨kb_list_bool, kb_list_str⟩, ?_⟩)
      | with_reducible apply as_seq
      | with_reducible apply as_ret
      | with_reducible apply as_next
      | with_reducible apply as_if
      | with_reducible apply as_set
      | with_reducible apply as_par
      | with_reducible apply as_par3
      | with_reducible apply as_asg
      | ((with_reducible apply ae_var); · rfl)
      | with_reducible apply ae_int
      | with_reducible apply ae_non
      | with_reducible apply ae_bl
      | with_reducible apply ae_str
      | with_reducible apply ae_ty
      | with_reducible apply ae_isi2
      | with_reducible apply ae_op
      | with_reducible apply ae_un
      | with_reducible apply aa_nil
      | with_reducible apply aa_cons
      | with_reducible apply ae_cb
      | with_reducible apply ae_tup
      | with_reducible apply ae_lst
      | with_reducible apply ae_if
      | with_reducible apply at_test
      | with_reducible apply at_b
      | with_reducible apply at_and
      | with_reducible apply at_or
      | with_reducible apply at_not
      | with_reducible apply at_yes
      | with_reducible apply ae_andV
      | with_reducible apply ae_orV
      | with_reducible apply ae_notV
      | with_reducible apply ar_I0i
      | with_reducible apply ar_I0b
      | with_reducible apply ar_isN
      | with_reducible apply ar_notN
      | with_reducible apply au_Ui
      | ((with_reducible apply ar_ixTs); · rfl)
      | ((with_reducible apply ar_ixLs); · rfl)
      | ((with_reducible apply ar_ix); · rfl)
      | ((with_reducible apply ar_ixT); · rfl)
      | ((with_reducible apply ar_ixL); · rfl)
      | with_reducible apply ac_abs
      | with_reducible apply ac_max2
      | with_reducible apply ac_min2
      | with_reducible apply ac_lenT
      | with_reducible apply ac_lenL
      | with_reducible apply ac_listT
      | with_reducible apply ac_listL
      | with_reducible apply ac_tupL
      | with_reducible apply ac_tupT
      | with_reducible apply ac_int
      | with_reducible apply ac_intB
      | ((with_reducible apply ar_eq3); · exact ⟨rfl, rfl, rfl⟩)
      | ((with_reducible apply ar_ne3); · exact ⟨rfl, rfl, rfl⟩)
      | with_reducible apply ag_name
      | with_reducible apply ags_nil
      | with_reducible apply ags_cons
      | ((with_reducible apply ag_tup); · rfl)
      | refine ⟨sz60 (Nat.le_of_ble_eq_true rfl), ?_⟩
      | refine ⟨_, rfl, ?_⟩
      | refine ⟨_, _, rfl, ?_⟩
      | refine ⟨_, _, _, rfl, ?_⟩
      | (refine ⟨fun hc => ?_, fun hc => ?_⟩ <;> (first | (exfalso; exact absurd (show false = true from hc) (by decide)) | (exfalso; exact absurd (show true = false from hc) (by decide)) | (exfalso; simp at hc; done) | skip))
      | rfl
      | exact trivial
      | simp only [oD_some, oD_none])
    refine ae_lcMap (fun _ => .bl true) ?_
    refine ai_zipL ?_
    repeat' (first | (with_reducible apply aa_cons) | ((with_reducible apply ae_var); · rfl) | (with_reducible apply aa_nil))
    refine ⟨l, l, rfl, ?_, fun d hm => ?_, ?_⟩
    · rw [zpD_len, Nat.min_self]; exact Nat.lt_of_le_of_lt hl (by decide)
    · obtain ⟨e, he, rfl⟩ := zp_self hm
      refine agv_tup rfl (agvs_cons (agv_name (by decide) (agvs_cons (agv_name (by decide) (agvs_nil ?_)))))
      refine ae_call ?_
      repeat' (first | (with_reducible apply aa_cons) | ((with_reducible apply ae_var); · rfl) | (with_reducible apply aa_nil))
      exact ⟨.bl true, ⟨e, rfl, Nat.le_trans (deps_mem he) hd, fits_mem hf he, rfl⟩, rfl, rfl⟩
    · refine aa_nil ?_
      rw [map_true]
      refine ac_all ?_
      rw [all_true]
theorem all_same (bl : Blts mg) {f : Addr} {fd : FuncData} (F : Fun K "_law_same" "_law_same" s_l_same f fd) (bG : Binds K fd p_l_same []) (mG : mg "_law_same" = some (.ref f)) : ∀ n : Nat, FnOk P w K mg base CX0 n f fd p_l_same (spP K (S_same n))
  | 0 => none0 fun vs H Q E h => by
    obtain ⟨G, ds, r, _, _, ⟨d, _, h1, _⟩, _⟩ := h
    have := dep_pos d
    omega
  | n + 1 => ok_l_same bl ⟨all_same bl F bG mG n, bG, F.kp, mG⟩ F
end
end Sh
set_option Elab.async false
set_option linter.all false
set_option maxRecDepth 100000
set_option maxHeartbeats 4000000
namespace Sh
open PySem PySem.Spec PyProof.Rows L2
abbrev s_l_window : Stmt := topS 35
abbrev N_l_window : List Str := ["_law_some", "_law_found", "_law_bottom", "_law_upper", "_law_size", "_law_base", "_law_spot"]
abbrev p_l_window : List Str := ["_law_some"]
theorem sc_l_window : FnScope N_l_window p_l_window (defScope s_l_window) := ⟨rfl, rfl, rfl, by decide +kernel, rfl, by decide +kernel, by decide +kernel⟩
def S_win (ds : List Dt) (res : Dt) : Prop := ∃ lo hi, ∃ m r : Int, ds = [vD lo hi m r] ∧ res = .lst ((wn lo hi m r).map Dt.int)
theorem vs_ints : ∀ {ns : List Int}, vs? (ns.map Dt.int) = some (ns.map V.int)
  | [] => rfl
  | n :: ns => by
    show (match (Dt.int n).v?, vs? (ns.map Dt.int) with | some a, some b => some (a :: b) | _, _ => none) = _
    rw [vs_ints]; rfl
theorem inV_ints {x : Int} : ∀ {ns : List Int}, inV (.int x) (ns.map V.int) = decide (x ∈ ns)
  | [] => by simp [inV]
  | n :: ns => by
    have := @inV_ints x ns
    unfold inV at this ⊢
    rw [List.map_cons, List.any_cons, this]
    show (n == x || decide (x ∈ ns)) = decide (x ∈ n :: ns)
    by_cases h : x = n
    · subst h; simp
    · have : (n == x) = false := by simp [Ne.symm h]
      rw [this]; simp [h]
theorem flat_ints {ns : List Int} : (ns.map V.int).all flatV = true := by
  rw [List.all_map]; simp [flatV]
theorem ar_inI {K : PySem.W.Frag} {Φ : Dt → Prop} {x : Int} {ns : List Int} (h : Φ (.bl (decide (x ∈ ns)))) : AR K (rIn K false) (.int x) (.lst (ns.map Dt.int)) Φ := by
  refine ar_inL (d := .int x) (x := .int x) rfl vs_ints rfl flat_ints ?_
  rw [inV_ints]; exact h
theorem rg_is : rgD (-160) 321 = rgI.map Dt.int := by unfold rgD rgI; rw [List.map_map]; rfl
theorem rgI_len : rgI.length = 321 := by unfold rgI; rw [List.length_map, List.length_range]
section
variable {P : Program} {w : World} {K : PySem.W.Frag} {mg : Str → Option Value} {base : Heap}
theorem ok_l_window (bl : Blts mg)   {f : Addr} {fd : FuncData} (F : Fun K "_law_window" "_law_window" s_l_window f fd) : FnOk P w K mg base CX0 1 f fd p_l_window (spP K (S_win)) := by
  refine okP F sc_l_window (fun ds r h => ?_) (fun cdv A outer s H E hr ds r h => ?_)
  · obtain ⟨lo, hi, m, r, rfl, rfl⟩ := h
    rfl
  obtain ⟨lo, hi, m, r, rfl, rfl⟩ := h
  refine ⟨_, (pss_cons (ps_asg (pv 0) (pg_tup rfl (pgs_cons (pg_name (i := 2) sc_l_window.nd rfl (by first | exact Or.inl rfl | exact Or.inr rfl)) (pgs_cons (pg_name (i := 3) sc_l_window.nd rfl (by first | exact Or.inl rfl | exact Or.inr rfl)) (pgs_cons (pg_name (i := 4) sc_l_window.nd rfl (by first | exact Or.inl rfl | exact Or.inr rfl)) (pgs_cons (pg_name (i := 5) sc_l_window.nd rfl (by first | exact Or.inl rfl | exact Or.inr rfl)) pgs_nil))))))
    (pss_cons (ps_setLc (i := 1) (own := [("_law_spot", 6)]) (g := (gName 6)) (te := (tVar 6)) (tt := (tOr (tTest (tOp rEq (tVar 6) (tVar 5))) (tAnd (tTest (tOp (rI0 fun i j => .bl (decide (j < i))) (tVar 4) (tC (.int 0)))) (tTest (tOp rEq (tOp (rI (fun _ j => j ≠ 0) fun i j => .int (i.fmod j)) (tOp (rI0 fun i j => .int (i - j)) (tVar 6) (tVar 5)) (tVar 4)) (tC (.int 0))))))) rfl sc_l_window.nd rfl rfl (sw_true rfl rfl rfl (by decide +kernel)) (pi_range2 rfl bl.range (pa_cons (pe_un un_neg pe_int) (pa_cons pe_int pa_nil))) (blkOk_by (N := N_l_window) (sc := defScope s_l_window) (by decide +kernel)) (fun _ _ _ _ _ => (pg_name (i := 6) sc_l_window.nd rfl (by first | exact Or.inl rfl | exact Or.inr rfl))) (fun _ _ _ _ _ => (pts_one (PW.pt (pw_or (pt_cmpR op_eq (pv 6) (pv 5) (nomark _)) (pw_or1 (PW.pt (pw_and (pt_cmpR op_gt (pv 4) pe_int (nomark _)) (pw_and1 (pt_cmpR op_eq (pe_op op_modN (pe_op op_sub (pv 6) (pv 5)) (pv 4)) pe_int (nomark _)))))))))) (fun _ _ _ _ _ => (pv 6)))
    (pss_cons (ps_setLc (i := 1) (own := [("_law_spot", 6)]) (g := (gName 6)) (te := (tVar 6)) (tt := (tOr (tTest (tOp (fun x y H Q => y = .non ∧ Q (.bl (decide (x = .non))) H) (tVar 2) (tC .non))) (tTest (tOp (rI0 fun i j => .bl (decide (j ≤ i))) (tVar 6) (tVar 2))))) rfl sc_l_window.nd rfl rfl (sw_true rfl rfl rfl (by decide +kernel)) (pi_list (pv 1)) (blkOk_by (N := N_l_window) (sc := defScope s_l_window) (by decide +kernel)) (fun _ _ _ _ _ => (pg_name (i := 6) sc_l_window.nd rfl (by first | exact Or.inl rfl | exact Or.inr rfl))) (fun _ _ _ _ _ => (pts_one (PW.pt (pw_or (pt_cmpR op_isN (pv 2) pe_non (nomark _)) (pw_or1 (pt_cmpR op_ge (pv 6) (pv 2) (nomark _))))))) (fun _ _ _ _ _ => (pv 6)))
    (pss_one (ps_ret (pe_lc (own := [("_law_spot", 6)]) (g := (gName 6)) (te := (tVar 6)) (tt := (tOr (tTest (tOp (fun x y H Q => y = .non ∧ Q (.bl (decide (x = .non))) H) (tVar 3) (tC .non))) (tTest (tOp (rI0 fun i j => .bl (decide (i ≤ j))) (tVar 6) (tVar 3))))) rfl sc_l_window.nd (pi_list (pv 1)) (blkOk_by (N := N_l_window) (sc := defScope s_l_window) (by decide +kernel)) (fun _ _ _ _ _ => (pg_name (i := 6) sc_l_window.nd rfl (by first | exact Or.inl rfl | exact Or.inr rfl))) (fun _ _ _ _ _ => (pts_one (PW.pt (pw_or (pt_cmpR op_isN (pv 3) pe_non (nomark _)) (pw_or1 (pt_cmpR op_le (pv 6) (pv 3) (nomark _))))))) (fun _ _ _ _ _ => (pv 6)))))))), ?_⟩
  change AS K _ [En.da _, En.no, En.no, En.no, En.no, En.no, En.no] _ _
  try simp only [cxOf_K]
  rcases lo with _ | xl <;> rcases hi with _ | xh
  ·
    repeat' (first
      | with_reducible apply as_seq
      | with_reducible apply as_set
      | with_reducible apply as_asg
      | ((with_reducible apply ae_var); · rfl)
      | with_reducible apply ag_name
      | with_reducible apply ags_nil
      | with_reducible apply ags_cons
      | ((with_reducible apply ag_tup); · rfl)
      | simp only [oD_some, oD_none]
      | fail)
    refine ae_lcFil (fI (inR m r)) ?_
    refine ai_rng2 ?_
    repeat' (first
      | (refine ⟨-160, 161, rfl, by decide, ?_⟩)
      | with_reducible apply ae_int
      | with_reducible apply ae_un
      | with_reducible apply aa_nil
      | with_reducible apply aa_cons
      | with_reducible apply au_Ui
      | fail)
    rw [show ((161 : Int) - -160).toNat = 321 from rfl, rg_is]
    refine ⟨(by rw [List.length_map, sizeLine_eq]; first | (rw [rgI_len]; omega) | (have := @wn_len lo hi m r; omega) | (refine Nat.lt_of_le_of_lt (List.length_filter_le _ _) ?_; rw [rgI_len]; omega) | (refine Nat.lt_of_le_of_lt (List.length_filter_le _ _) (Nat.lt_of_le_of_lt (List.length_filter_le _ _) ?_); rw [rgI_len]; omega)), fun d hd => ?_, ?_⟩
    ·
      obtain ⟨x, hx, rfl⟩ := List.mem_map.mp hd
      refine agv_name (by decide) ?_
      repeat' (first
        | refine ar_Ii (C := fun _ j => j ≠ 0) (by have h := of_decide_eq_true ‹decide (0 < m) = true›; omega) ?_
        | exact ⟨by (simp_all [fI, inR, lwB, hwB, Dt.isNon, oD]) <;> (intros; omega), rfl⟩
        | ((with_reducible apply ae_var); · rfl)
        | with_reducible apply ae_int
        | with_reducible apply ae_op
        | with_reducible apply at_test
        | with_reducible apply at_and
        | with_reducible apply at_or
        | with_reducible apply ar_I0i
        | with_reducible apply ar_I0b
        | ((with_reducible apply ar_eq3); · exact ⟨rfl, rfl, rfl⟩)
        | refine ⟨_, rfl, ?_⟩
        | (refine ⟨fun hc => ?_, fun hc => ?_⟩ <;> (first | (exfalso; exact absurd (show false = true from hc) (by decide)) | (exfalso; exact absurd (show true = false from hc) (by decide)) | (exfalso; simp at hc; done) | skip))
        | fail)
    rw [fI_map]
    repeat' (first
      | with_reducible apply as_seq
      | with_reducible apply as_set
      | fail)
    refine ae_lcFil (fI (fun x => lwB (some x) none)) ?_
    refine ai_list ?_
    repeat' (first
      | ((with_reducible apply ae_var); · rfl)
      | refine ⟨_, rfl, ?_⟩
      | fail)
    refine ⟨(by rw [List.length_map, sizeLine_eq]; first | (rw [rgI_len]; omega) | (have := @wn_len lo hi m r; omega) | (refine Nat.lt_of_le_of_lt (List.length_filter_le _ _) ?_; rw [rgI_len]; omega) | (refine Nat.lt_of_le_of_lt (List.length_filter_le _ _) (Nat.lt_of_le_of_lt (List.length_filter_le _ _) ?_); rw [rgI_len]; omega)), fun d hd => ?_, ?_⟩
    ·
      obtain ⟨x, hx, rfl⟩ := List.mem_map.mp hd
      refine agv_name (by decide) ?_
      repeat' (first
        | exact ⟨by (simp_all [fI, inR, lwB, hwB, Dt.isNon, oD]) <;> (intros; omega), rfl⟩
        | ((with_reducible apply ae_var); · rfl)
        | with_reducible apply ae_non
        | with_reducible apply ae_op
        | with_reducible apply at_test
        | with_reducible apply at_or
        | with_reducible apply ar_isN
        | refine ⟨_, rfl, ?_⟩
        | (refine ⟨fun hc => ?_, fun hc => ?_⟩ <;> (first | (exfalso; exact absurd (show false = true from hc) (by decide)) | (exfalso; exact absurd (show true = false from hc) (by decide)) | (exfalso; simp at hc; done) | skip))
        | fail)
    rw [fI_map]
    repeat' (first
      | with_reducible apply as_ret
      | fail)
    refine ae_lcFil (fI (fun x => hwB (some x) none)) ?_
    refine ai_list ?_
    repeat' (first
      | ((with_reducible apply ae_var); · rfl)
      | refine ⟨_, rfl, ?_⟩
      | fail)
    refine ⟨(by rw [List.length_map, sizeLine_eq]; first | (rw [rgI_len]; omega) | (have := @wn_len lo hi m r; omega) | (refine Nat.lt_of_le_of_lt (List.length_filter_le _ _) ?_; rw [rgI_len]; omega) | (refine Nat.lt_of_le_of_lt (List.length_filter_le _ _) (Nat.lt_of_le_of_lt (List.length_filter_le _ _) ?_); rw [rgI_len]; omega)), fun d hd => ?_, ?_⟩
    ·
      obtain ⟨x, hx, rfl⟩ := List.mem_map.mp hd
      refine agv_name (by decide) ?_
      repeat' (first
        | exact ⟨by (simp_all [fI, inR, lwB, hwB, Dt.isNon, oD]) <;> (intros; omega), rfl⟩
        | ((with_reducible apply ae_var); · rfl)
        | with_reducible apply ae_non
        | with_reducible apply ae_op
        | with_reducible apply at_test
        | with_reducible apply at_or
        | with_reducible apply ar_isN
        | refine ⟨_, rfl, ?_⟩
        | (refine ⟨fun hc => ?_, fun hc => ?_⟩ <;> (first | (exfalso; exact absurd (show false = true from hc) (by decide)) | (exfalso; exact absurd (show true = false from hc) (by decide)) | (exfalso; simp at hc; done) | skip))
        | fail)
    rw [fI_map]
    rfl
  ·
    repeat' (first
      | with_reducible apply as_seq
      | with_reducible apply as_set
      | with_reducible apply as_asg
      | ((with_reducible apply ae_var); · rfl)
      | with_reducible apply ag_name
      | with_reducible apply ags_nil
      | with_reducible apply ags_cons
      | ((with_reducible apply ag_tup); · rfl)
      | simp only [oD_some, oD_none]
      | fail)
    refine ae_lcFil (fI (inR m r)) ?_
    refine ai_rng2 ?_
    repeat' (first
      | (refine ⟨-160, 161, rfl, by decide, ?_⟩)
      | with_reducible apply ae_int
      | with_reducible apply ae_un
      | with_reducible apply aa_nil
      | with_reducible apply aa_cons
      | with_reducible apply au_Ui
      | fail)
    rw [show ((161 : Int) - -160).toNat = 321 from rfl, rg_is]
    refine ⟨(by rw [List.length_map, sizeLine_eq]; first | (rw [rgI_len]; omega) | (have := @wn_len lo hi m r; omega) | (refine Nat.lt_of_le_of_lt (List.length_filter_le _ _) ?_; rw [rgI_len]; omega) | (refine Nat.lt_of_le_of_lt (List.length_filter_le _ _) (Nat.lt_of_le_of_lt (List.length_filter_le _ _) ?_); rw [rgI_len]; omega)), fun d hd => ?_, ?_⟩
    ·
      obtain ⟨x, hx, rfl⟩ := List.mem_map.mp hd
      refine agv_name (by decide) ?_
      repeat' (first
        | refine ar_Ii (C := fun _ j => j ≠ 0) (by have h := of_decide_eq_true ‹decide (0 < m) = true›; omega) ?_
        | exact ⟨by (simp_all [fI, inR, lwB, hwB, Dt.isNon, oD]) <;> (intros; omega), rfl⟩
        | ((with_reducible apply ae_var); · rfl)
        | with_reducible apply ae_int
        | with_reducible apply ae_op
        | with_reducible apply at_test
        | with_reducible apply at_and
        | with_reducible apply at_or
        | with_reducible apply ar_I0i
        | with_reducible apply ar_I0b
        | ((with_reducible apply ar_eq3); · exact ⟨rfl, rfl, rfl⟩)
        | refine ⟨_, rfl, ?_⟩
        | (refine ⟨fun hc => ?_, fun hc => ?_⟩ <;> (first | (exfalso; exact absurd (show false = true from hc) (by decide)) | (exfalso; exact absurd (show true = false from hc) (by decide)) | (exfalso; simp at hc; done) | skip))
        | fail)
    rw [fI_map]
    repeat' (first
      | with_reducible apply as_seq
      | with_reducible apply as_set
      | fail)
    refine ae_lcFil (fI (fun x => lwB (some x) none)) ?_
    refine ai_list ?_
    repeat' (first
      | ((with_reducible apply ae_var); · rfl)
      | refine ⟨_, rfl, ?_⟩
      | fail)
    refine ⟨(by rw [List.length_map, sizeLine_eq]; first | (rw [rgI_len]; omega) | (have := @wn_len lo hi m r; omega) | (refine Nat.lt_of_le_of_lt (List.length_filter_le _ _) ?_; rw [rgI_len]; omega) | (refine Nat.lt_of_le_of_lt (List.length_filter_le _ _) (Nat.lt_of_le_of_lt (List.length_filter_le _ _) ?_); rw [rgI_len]; omega)), fun d hd => ?_, ?_⟩
    ·
      obtain ⟨x, hx, rfl⟩ := List.mem_map.mp hd
      refine agv_name (by decide) ?_
      repeat' (first
        | exact ⟨by (simp_all [fI, inR, lwB, hwB, Dt.isNon, oD]) <;> (intros; omega), rfl⟩
        | ((with_reducible apply ae_var); · rfl)
        | with_reducible apply ae_non
        | with_reducible apply ae_op
        | with_reducible apply at_test
        | with_reducible apply at_or
        | with_reducible apply ar_isN
        | refine ⟨_, rfl, ?_⟩
        | (refine ⟨fun hc => ?_, fun hc => ?_⟩ <;> (first | (exfalso; exact absurd (show false = true from hc) (by decide)) | (exfalso; exact absurd (show true = false from hc) (by decide)) | (exfalso; simp at hc; done) | skip))
        | fail)
    rw [fI_map]
    repeat' (first
      | with_reducible apply as_ret
      | fail)
    refine ae_lcFil (fI (fun x => hwB (some x) (some xh))) ?_
    refine ai_list ?_
    repeat' (first
      | ((with_reducible apply ae_var); · rfl)
      | refine ⟨_, rfl, ?_⟩
      | fail)
    refine ⟨(by rw [List.length_map, sizeLine_eq]; first | (rw [rgI_len]; omega) | (have := @wn_len lo hi m r; omega) | (refine Nat.lt_of_le_of_lt (List.length_filter_le _ _) ?_; rw [rgI_len]; omega) | (refine Nat.lt_of_le_of_lt (List.length_filter_le _ _) (Nat.lt_of_le_of_lt (List.length_filter_le _ _) ?_); rw [rgI_len]; omega)), fun d hd => ?_, ?_⟩
    ·
      obtain ⟨x, hx, rfl⟩ := List.mem_map.mp hd
      refine agv_name (by decide) ?_
      repeat' (first
        | exact ⟨by (simp_all [fI, inR, lwB, hwB, Dt.isNon, oD]) <;> (intros; omega), rfl⟩
        | ((with_reducible apply ae_var); · rfl)
        | with_reducible apply ae_non
        | with_reducible apply ae_op
        | with_reducible apply at_test
        | with_reducible apply at_or
        | with_reducible apply ar_I0b
        | with_reducible apply ar_isN
        | refine ⟨_, rfl, ?_⟩
        | (refine ⟨fun hc => ?_, fun hc => ?_⟩ <;> (first | (exfalso; exact absurd (show false = true from hc) (by decide)) | (exfalso; exact absurd (show true = false from hc) (by decide)) | (exfalso; simp at hc; done) | skip))
        | fail)
    rw [fI_map]
    rfl
  ·
    repeat' (first
      | with_reducible apply as_seq
      | with_reducible apply as_set
      | with_reducible apply as_asg
      | ((with_reducible apply ae_var); · rfl)
      | with_reducible apply ag_name
      | with_reducible apply ags_nil
      | with_reducible apply ags_cons
      | ((with_reducible apply ag_tup); · rfl)
      | simp only [oD_some, oD_none]
      | fail)
    refine ae_lcFil (fI (inR m r)) ?_
    refine ai_rng2 ?_
    repeat' (first
      | (refine ⟨-160, 161, rfl, by decide, ?_⟩)
      | with_reducible apply ae_int
      | with_reducible apply ae_un
      | with_reducible apply aa_nil
      | with_reducible apply aa_cons
      | with_reducible apply au_Ui
      | fail)
    rw [show ((161 : Int) - -160).toNat = 321 from rfl, rg_is]
    refine ⟨(by rw [List.length_map, sizeLine_eq]; first | (rw [rgI_len]; omega) | (have := @wn_len lo hi m r; omega) | (refine Nat.lt_of_le_of_lt (List.length_filter_le _ _) ?_; rw [rgI_len]; omega) | (refine Nat.lt_of_le_of_lt (List.length_filter_le _ _) (Nat.lt_of_le_of_lt (List.length_filter_le _ _) ?_); rw [rgI_len]; omega)), fun d hd => ?_, ?_⟩
    ·
      obtain ⟨x, hx, rfl⟩ := List.mem_map.mp hd
      refine agv_name (by decide) ?_
      repeat' (first
        | refine ar_Ii (C := fun _ j => j ≠ 0) (by have h := of_decide_eq_true ‹decide (0 < m) = true›; omega) ?_
        | exact ⟨by (simp_all [fI, inR, lwB, hwB, Dt.isNon, oD]) <;> (intros; omega), rfl⟩
        | ((with_reducible apply ae_var); · rfl)
        | with_reducible apply ae_int
        | with_reducible apply ae_op
        | with_reducible apply at_test
        | with_reducible apply at_and
        | with_reducible apply at_or
        | with_reducible apply ar_I0i
        | with_reducible apply ar_I0b
        | ((with_reducible apply ar_eq3); · exact ⟨rfl, rfl, rfl⟩)
        | refine ⟨_, rfl, ?_⟩
        | (refine ⟨fun hc => ?_, fun hc => ?_⟩ <;> (first | (exfalso; exact absurd (show false = true from hc) (by decide)) | (exfalso; exact absurd (show true = false from hc) (by decide)) | (exfalso; simp at hc; done) | skip))
        | fail)
    rw [fI_map]
    repeat' (first
      | with_reducible apply as_seq
      | with_reducible apply as_set
      | fail)
    refine ae_lcFil (fI (fun x => lwB (some x) (some xl))) ?_
    refine ai_list ?_
    repeat' (first
      | ((with_reducible apply ae_var); · rfl)
      | refine ⟨_, rfl, ?_⟩
      | fail)
    refine ⟨(by rw [List.length_map, sizeLine_eq]; first | (rw [rgI_len]; omega) | (have := @wn_len lo hi m r; omega) | (refine Nat.lt_of_le_of_lt (List.length_filter_le _ _) ?_; rw [rgI_len]; omega) | (refine Nat.lt_of_le_of_lt (List.length_filter_le _ _) (Nat.lt_of_le_of_lt (List.length_filter_le _ _) ?_); rw [rgI_len]; omega)), fun d hd => ?_, ?_⟩
    ·
      obtain ⟨x, hx, rfl⟩ := List.mem_map.mp hd
      refine agv_name (by decide) ?_
      repeat' (first
        | exact ⟨by (simp_all [fI, inR, lwB, hwB, Dt.isNon, oD]) <;> (intros; omega), rfl⟩
        | ((with_reducible apply ae_var); · rfl)
        | with_reducible apply ae_non
        | with_reducible apply ae_op
        | with_reducible apply at_test
        | with_reducible apply at_or
        | with_reducible apply ar_I0b
        | with_reducible apply ar_isN
        | refine ⟨_, rfl, ?_⟩
        | (refine ⟨fun hc => ?_, fun hc => ?_⟩ <;> (first | (exfalso; exact absurd (show false = true from hc) (by decide)) | (exfalso; exact absurd (show true = false from hc) (by decide)) | (exfalso; simp at hc; done) | skip))
        | fail)
    rw [fI_map]
    repeat' (first
      | with_reducible apply as_ret
      | fail)
    refine ae_lcFil (fI (fun x => hwB (some x) none)) ?_
    refine ai_list ?_
    repeat' (first
      | ((with_reducible apply ae_var); · rfl)
      | refine ⟨_, rfl, ?_⟩
      | fail)
    refine ⟨(by rw [List.length_map, sizeLine_eq]; first | (rw [rgI_len]; omega) | (have := @wn_len lo hi m r; omega) | (refine Nat.lt_of_le_of_lt (List.length_filter_le _ _) ?_; rw [rgI_len]; omega) | (refine Nat.lt_of_le_of_lt (List.length_filter_le _ _) (Nat.lt_of_le_of_lt (List.length_filter_le _ _) ?_); rw [rgI_len]; omega)), fun d hd => ?_, ?_⟩
    ·
      obtain ⟨x, hx, rfl⟩ := List.mem_map.mp hd
      refine agv_name (by decide) ?_
      repeat' (first
        | exact ⟨by (simp_all [fI, inR, lwB, hwB, Dt.isNon, oD]) <;> (intros; omega), rfl⟩
        | ((with_reducible apply ae_var); · rfl)
        | with_reducible apply ae_non
        | with_reducible apply ae_op
        | with_reducible apply at_test
        | with_reducible apply at_or
        | with_reducible apply ar_isN
        | refine ⟨_, rfl, ?_⟩
        | (refine ⟨fun hc => ?_, fun hc => ?_⟩ <;> (first | (exfalso; exact absurd (show false = true from hc) (by decide)) | (exfalso; exact absurd (show true = false from hc) (by decide)) | (exfalso; simp at hc; done) | skip))
        | fail)
    rw [fI_map]
    rfl
  ·
    repeat' (first
      | with_reducible apply as_seq
      | with_reducible apply as_set
      | with_reducible apply as_asg
      | ((with_reducible apply ae_var); · rfl)
      | with_reducible apply ag_name
      | with_reducible apply ags_nil
      | with_reducible apply ags_cons
      | ((with_reducible apply ag_tup); · rfl)
      | simp only [oD_some, oD_none]
      | fail)
    refine ae_lcFil (fI (inR m r)) ?_
    refine ai_rng2 ?_
    repeat' (first
      | (refine ⟨-160, 161, rfl, by decide, ?_⟩)
      | with_reducible apply ae_int
      | with_reducible apply ae_un
      | with_reducible apply aa_nil
      | with_reducible apply aa_cons
      | with_reducible apply au_Ui
      | fail)
    rw [show ((161 : Int) - -160).toNat = 321 from rfl, rg_is]
    refine ⟨(by rw [List.length_map, sizeLine_eq]; first | (rw [rgI_len]; omega) | (have := @wn_len lo hi m r; omega) | (refine Nat.lt_of_le_of_lt (List.length_filter_le _ _) ?_; rw [rgI_len]; omega) | (refine Nat.lt_of_le_of_lt (List.length_filter_le _ _) (Nat.lt_of_le_of_lt (List.length_filter_le _ _) ?_); rw [rgI_len]; omega)), fun d hd => ?_, ?_⟩
    ·
      obtain ⟨x, hx, rfl⟩ := List.mem_map.mp hd
      refine agv_name (by decide) ?_
      repeat' (first
        | refine ar_Ii (C := fun _ j => j ≠ 0) (by have h := of_decide_eq_true ‹decide (0 < m) = true›; omega) ?_
        | exact ⟨by (simp_all [fI, inR, lwB, hwB, Dt.isNon, oD]) <;> (intros; omega), rfl⟩
        | ((with_reducible apply ae_var); · rfl)
        | with_reducible apply ae_int
        | with_reducible apply ae_op
        | with_reducible apply at_test
        | with_reducible apply at_and
        | with_reducible apply at_or
        | with_reducible apply ar_I0i
        | with_reducible apply ar_I0b
        | ((with_reducible apply ar_eq3); · exact ⟨rfl, rfl, rfl⟩)
        | refine ⟨_, rfl, ?_⟩
        | (refine ⟨fun hc => ?_, fun hc => ?_⟩ <;> (first | (exfalso; exact absurd (show false = true from hc) (by decide)) | (exfalso; exact absurd (show true = false from hc) (by decide)) | (exfalso; simp at hc; done) | skip))
        | fail)
    rw [fI_map]
    repeat' (first
      | with_reducible apply as_seq
      | with_reducible apply as_set
      | fail)
    refine ae_lcFil (fI (fun x => lwB (some x) (some xl))) ?_
    refine ai_list ?_
    repeat' (first
      | ((with_reducible apply ae_var); · rfl)
      | refine ⟨_, rfl, ?_⟩
      | fail)
    refine ⟨(by rw [List.length_map, sizeLine_eq]; first | (rw [rgI_len]; omega) | (have := @wn_len lo hi m r; omega) | (refine Nat.lt_of_le_of_lt (List.length_filter_le _ _) ?_; rw [rgI_len]; omega) | (refine Nat.lt_of_le_of_lt (List.length_filter_le _ _) (Nat.lt_of_le_of_lt (List.length_filter_le _ _) ?_); rw [rgI_len]; omega)), fun d hd => ?_, ?_⟩
    ·
      obtain ⟨x, hx, rfl⟩ := List.mem_map.mp hd
      refine agv_name (by decide) ?_
      repeat' (first
        | exact ⟨by (simp_all [fI, inR, lwB, hwB, Dt.isNon, oD]) <;> (intros; omega), rfl⟩
        | ((with_reducible apply ae_var); · rfl)
        | with_reducible apply ae_non
        | with_reducible apply ae_op
        | with_reducible apply at_test
        | with_reducible apply at_or
        | with_reducible apply ar_I0b
        | with_reducible apply ar_isN
        | refine ⟨_, rfl, ?_⟩
        | (refine ⟨fun hc => ?_, fun hc => ?_⟩ <;> (first | (exfalso; exact absurd (show false = true from hc) (by decide)) | (exfalso; exact absurd (show true = false from hc) (by decide)) | (exfalso; simp at hc; done) | skip))
        | fail)
    rw [fI_map]
    repeat' (first
      | with_reducible apply as_ret
      | fail)
    refine ae_lcFil (fI (fun x => hwB (some x) (some xh))) ?_
    refine ai_list ?_
    repeat' (first
      | ((with_reducible apply ae_var); · rfl)
      | refine ⟨_, rfl, ?_⟩
      | fail)
    refine ⟨(by rw [List.length_map, sizeLine_eq]; first | (rw [rgI_len]; omega) | (have := @wn_len lo hi m r; omega) | (refine Nat.lt_of_le_of_lt (List.length_filter_le _ _) ?_; rw [rgI_len]; omega) | (refine Nat.lt_of_le_of_lt (List.length_filter_le _ _) (Nat.lt_of_le_of_lt (List.length_filter_le _ _) ?_); rw [rgI_len]; omega)), fun d hd => ?_, ?_⟩
    ·
      obtain ⟨x, hx, rfl⟩ := List.mem_map.mp hd
      refine agv_name (by decide) ?_
      repeat' (first
        | exact ⟨by (simp_all [fI, inR, lwB, hwB, Dt.isNon, oD]) <;> (intros; omega), rfl⟩
        | ((with_reducible apply ae_var); · rfl)
        | with_reducible apply ae_non
        | with_reducible apply ae_op
        | with_reducible apply at_test
        | with_reducible apply at_or
        | with_reducible apply ar_I0b
        | with_reducible apply ar_isN
        | refine ⟨_, rfl, ?_⟩
        | (refine ⟨fun hc => ?_, fun hc => ?_⟩ <;> (first | (exfalso; exact absurd (show false = true from hc) (by decide)) | (exfalso; exact absurd (show true = false from hc) (by decide)) | (exfalso; simp at hc; done) | skip))
        | fail)
    rw [fI_map]
    rfl
end
end Sh
set_option Elab.async false
set_option linter.all false
set_option maxRecDepth 100000
set_option maxHeartbeats 4000000
namespace Sh
open PySem PySem.Spec PyProof.Rows L2
abbrev s_l_value : Stmt := topS 36
abbrev N_l_value : List Str := ["_law_some", "_law_seen"]
abbrev p_l_value : List Str := ["_law_some"]
theorem sc_l_value : FnScope N_l_value p_l_value (defScope s_l_value) := ⟨rfl, rfl, rfl, by decide +kernel, rfl, by decide +kernel, by decide +kernel⟩
abbrev s_l_met : Stmt := topS 39
abbrev N_l_met : List Str := ["_law_mine", "_law_its", "_law_others", "_law_seen", "_law_bottom", "_law_upper", "_law_spot"]
abbrev p_l_met : List Str := ["_law_mine", "_law_its"]
theorem sc_l_met : FnScope N_l_met p_l_met (defScope s_l_met) := ⟨rfl, rfl, rfl, by decide +kernel, rfl, by decide +kernel, by decide +kernel⟩
abbrev s_l_inside : Stmt := topS 38
abbrev N_l_inside : List Str := ["_law_mine", "_law_its", "_law_others", "_law_fine", "_law_spot"]
abbrev p_l_inside : List Str := ["_law_mine", "_law_its"]
theorem sc_l_inside : FnScope N_l_inside p_l_inside (defScope s_l_inside) := ⟨rfl, rfl, rfl, by decide +kernel, rfl, by decide +kernel, by decide +kernel⟩
abbrev s_l_least : Stmt := topS 37
abbrev N_l_least : List Str := ["_law_mine", "_law_its", "_law_spot", "_law_bottom", "_law_upper", "_law_seen", "_law_size", "_law_left"]
abbrev p_l_least : List Str := ["_law_mine", "_law_its"]
theorem sc_l_least : FnScope N_l_least p_l_least (defScope s_l_least) := ⟨rfl, rfl, rfl, by decide +kernel, rfl, by decide +kernel, by decide +kernel⟩
def S_lv (ds : List Dt) (res : Dt) : Prop := ∃ lo hi, ∃ m r : Int, ds = [vD lo hi m r] ∧ Raw lo hi m r ∧ res = voD lo hi m r
def S2v (f : Option Int → Option Int → Option Int → Option Int → Int → Int → Int → Int → Dt) (ds : List Dt) (res : Dt) : Prop := ∃ a b c d, ∃ m r n s : Int, ds = [vD a b m r, vD c d n s] ∧ Vl a b m r ∧ Vl c d n s ∧ res = f a b c d m r n s
def fLe (a b c d : Option Int) (m r n s : Int) : Dt := voD (lowJ a c) (highJ b d) (restJ m r n s).1 (restJ m r n s).2
def fIn (a b c d : Option Int) (m r n s : Int) : Dt := .bl (lwB a c && (hwB b d && rwB m r n s))
theorem at0 {x : Int} {ns : List Int} : atI ((x :: ns).map Dt.int) 0 = some (.int x) := atI_nat (j := 0) rfl
theorem at1 {x y : Int} {ns : List Int} : atI ((x :: y :: ns).map Dt.int) 1 = some (.int y) := atI_nat (j := 1) rfl
theorem atl {z : Int} {ns : List Int} (h : ns.getLast? = some z) : atI (ns.map Dt.int) (-1) = some (.int z) := by
  have h0 : 0 < ns.length := by cases ns; cases h; simp
  rw [List.getLast?_eq_getElem?] at h
  have e3 : ixN (ns.map Dt.int).length (-1) = some (ns.length - 1) := by
    rw [List.length_map]
    unfold ixN
    rw [if_neg (by omega), if_pos (by omega)]
    congr 1; omega
  unfold atI
  rw [e3]
  show (ns.map Dt.int)[ns.length - 1]? = _
  rw [List.getElem?_map, h]; rfl
theorem two_f {v u : Int} {t : List Int} : decide ((((v :: u :: t).map Dt.int).length : Int) < 2) = false := decide_eq_false (by simp only [List.map_cons, List.length_cons]; omega)
def fB (ns : List Int) : Dt → Dt
  | .int x => .bl (decide (x ∈ ns))
  | d => d
theorem map_fB {ns ms : List Int} : (ms.map Dt.int).map (fB ns) = (ms.map fun x => decide (x ∈ ns)).map Dt.bl := by rw [List.map_map, List.map_map]; rfl
theorem dL_snoc {ns : List Int} {x : Int} : dL (ns ++ [x]) = g2 (dL ns) x := by
  unfold dL dN g2
  rw [List.foldl_append]; rfl
theorem g2_comm {a b : Int} : g2 a b = g2 b a := by unfold g2; rw [Nat.gcd_comm]
theorem all_iff {ms ns : List Int} : ((ms.map fun x => decide (x ∈ ns)).all id = true) ↔ ∀ x, x ∈ ms → x ∈ ns := by
  rw [List.all_map, List.all_eq_true]; simp
section
variable {P : Program} {w : World} {K : PySem.W.Frag} {mg : Str → Option Value} {base : Heap}
theorem ok_l_value (bl : Blts mg) {g_l_window : Addr} {d_l_window : FuncData} (c_l_window : Cal P w K mg base 1 "_law_window" p_l_window (spP K S_win) g_l_window d_l_window)  {f : Addr} {fd : FuncData} (F : Fun K "_law_value" "_law_value" s_l_value f fd) : FnOk P w K mg base CX0 2 f fd p_l_value (spP K (S_lv)) := by
  refine okP F sc_l_value (fun ds r h => ?_) (fun cdv A outer s H E hr ds r h => ?_)
  · obtain ⟨lo, hi, m, r, rfl, k, rfl⟩ := h
    rfl
  obtain ⟨lo, hi, m, r, rfl, k, rfl⟩ := h
  refine ⟨_, (pss_cons (ps_set (i := 1) sc_l_value.nd rfl (by first | exact Or.inl rfl | exact Or.inr rfl) (pe_call c_l_window.ok (hr.mono (by decide)) rfl c_l_window.mg c_l_window.kp c_l_window.bi .nil pass0 (pa_cons (pv 0) pa_nil)))
    (pss_cons (ps_if (pt_cmpR op_lt (pe_callB call_len_seq rfl bl.len (by decide +kernel) (pa_cons (pv 1) pa_nil)) pe_int (nomark _)) (pss_one (ps_ret (pe_ifExp (pt_cmpR (op_neD hr.units) (pv 1) (pe_lst pa_nil) (nomark _)) (pe_tup (pa_cons (pe_ix ix_list (pv 1) pe_int (fun _ _ => rfl)) (pa_cons (pe_ix ix_list (pv 1) pe_int (fun _ _ => rfl)) (pa_cons pe_int (pa_cons (pe_ix ix_list (pv 1) pe_int (fun _ _ => rfl)) pa_nil))))) pe_non))) pss_nil)
    (pss_one (ps_ret (pe_tup (pa_cons (pe_ifExp (pt_cmpR op_isN (pe_ix ix_tup (pv 0) pe_int (fun _ _ => rfl)) pe_non (nomark _)) pe_non (pe_ix ix_list (pv 1) pe_int (fun _ _ => rfl))) (pa_cons (pe_ifExp (pt_cmpR op_isN (pe_ix ix_tup (pv 0) pe_int (fun _ _ => rfl)) pe_non (nomark _)) pe_non (pe_ix ix_list (pv 1) (pe_un un_neg pe_int) (fun _ _ => rfl))) (pa_cons (pe_ix ix_tup (pv 0) pe_int (fun _ _ => rfl)) (pa_cons (pe_op op_modN (pe_ix ix_list (pv 1) pe_int (fun _ _ => rfl)) (pe_ix ix_tup (pv 0) pe_int (fun _ _ => rfl))) pa_nil))))))))), ?_⟩
  change AS K _ [En.da _, En.no] _ _
  try simp only [cxOf_K]
  rcases raw_is k with ⟨e, ev⟩ | ⟨v, e, _, ev⟩ | ⟨v, u, t, z, e, el, e1, h1, _, ev⟩
  · rw [ev]
    repeat' (first
      | with_reducible apply ae_call
      | (refine ⟨_, ⟨lo, hi, m, r, rfl, rfl⟩, ?_⟩; rw [e])
      | with_reducible apply ar_neNil
      | with_reducible apply as_seq
      | with_reducible apply as_ret
      | with_reducible apply as_if
      | with_reducible apply as_set
      | ((with_reducible apply ae_var); · rfl)
      | with_reducible apply ae_int
      | with_reducible apply ae_non
      | with_reducible apply ae_op
      | with_reducible apply aa_nil
      | with_reducible apply aa_cons
      | with_reducible apply ae_cb
      | with_reducible apply ae_lst
      | with_reducible apply ae_if
      | with_reducible apply at_test
      | with_reducible apply ar_I0b
      | with_reducible apply ac_lenL
      | refine ⟨sz60 (Nat.le_of_ble_eq_true rfl), ?_⟩
      | refine ⟨_, rfl, ?_⟩
      | (refine ⟨fun hc => ?_, fun hc => ?_⟩ <;> (first | (exfalso; exact absurd (show false = true from hc) (by decide)) | (exfalso; exact absurd (show true = false from hc) (by decide)) | (exfalso; simp at hc; done) | skip))
      | rfl
      | fail)
  · rw [ev]
    repeat' (first
      | with_reducible apply ae_call
      | (refine ⟨_, ⟨lo, hi, m, r, rfl, rfl⟩, ?_⟩; rw [e])
      | (refine ar_ixL at0 ?_)
      | with_reducible apply ar_neNil
      | with_reducible apply as_seq
      | with_reducible apply as_ret
      | with_reducible apply as_if
      | with_reducible apply as_set
      | ((with_reducible apply ae_var); · rfl)
      | with_reducible apply ae_int
      | with_reducible apply ae_op
      | with_reducible apply aa_nil
      | with_reducible apply aa_cons
      | with_reducible apply ae_cb
      | with_reducible apply ae_tup
      | with_reducible apply ae_lst
      | with_reducible apply ae_if
      | with_reducible apply at_test
      | with_reducible apply ar_I0b
      | with_reducible apply ac_lenL
      | refine ⟨sz60 (Nat.le_of_ble_eq_true rfl), ?_⟩
      | refine ⟨_, rfl, ?_⟩
      | (refine ⟨fun hc => ?_, fun hc => ?_⟩ <;> (first | (exfalso; exact absurd (show false = true from hc) (by decide)) | (exfalso; exact absurd (show true = false from hc) (by decide)) | (exfalso; simp at hc; done) | skip))
      | rfl
      | fail)
  · rw [ev]
    rw [e] at el
    rcases lo with _ | xl <;> rcases hi with _ | xh
    ·
      repeat' (first
        | (refine ⟨_, rfl, ?_⟩; rw [two_f]; refine ⟨fun hc => (nomatch hc), fun hc => ?_⟩)
        | with_reducible apply ae_call
        | (refine ⟨_, ⟨none, none, m, r, rfl, rfl⟩, ?_⟩; rw [e])
        | (refine ar_ixL at0 ?_)
        | refine ar_Ii (C := fun _ j => j ≠ 0) (by omega) ?_
        | with_reducible apply as_seq
        | with_reducible apply as_ret
        | with_reducible apply as_next
        | with_reducible apply as_if
        | with_reducible apply as_set
        | ((with_reducible apply ae_var); · rfl)
        | with_reducible apply ae_int
        | with_reducible apply ae_non
        | with_reducible apply ae_op
        | with_reducible apply aa_nil
        | with_reducible apply aa_cons
        | with_reducible apply ae_cb
        | with_reducible apply ae_tup
        | with_reducible apply ae_if
        | with_reducible apply at_test
        | with_reducible apply ar_I0b
        | with_reducible apply ar_isN
        | ((with_reducible apply ar_ixT); · rfl)
        | with_reducible apply ac_lenL
        | refine ⟨sz60 (Nat.le_of_ble_eq_true rfl), ?_⟩
        | refine ⟨_, rfl, ?_⟩
        | (refine ⟨fun hc => ?_, fun hc => ?_⟩ <;> (first | (exfalso; exact absurd (show false = true from hc) (by decide)) | (exfalso; exact absurd (show true = false from hc) (by decide)) | (exfalso; simp at hc; done) | skip))
        | fail)
      all_goals (rw [e1]; rfl)
    ·
      repeat' (first
        | (refine ⟨_, rfl, ?_⟩; rw [two_f]; refine ⟨fun hc => (nomatch hc), fun hc => ?_⟩)
        | with_reducible apply ae_call
        | (refine ⟨_, ⟨none, (some xh), m, r, rfl, rfl⟩, ?_⟩; rw [e])
        | (refine ar_ixL at0 ?_)
        | (refine ar_ixL (atl (by first | exact el | rfl)) ?_)
        | refine ar_Ii (C := fun _ j => j ≠ 0) (by omega) ?_
        | with_reducible apply as_seq
        | with_reducible apply as_ret
        | with_reducible apply as_next
        | with_reducible apply as_if
        | with_reducible apply as_set
        | ((with_reducible apply ae_var); · rfl)
        | with_reducible apply ae_int
        | with_reducible apply ae_non
        | with_reducible apply ae_op
        | with_reducible apply ae_un
        | with_reducible apply aa_nil
        | with_reducible apply aa_cons
        | with_reducible apply ae_cb
        | with_reducible apply ae_tup
        | with_reducible apply ae_if
        | with_reducible apply at_test
        | with_reducible apply ar_I0b
        | with_reducible apply ar_isN
        | with_reducible apply au_Ui
        | ((with_reducible apply ar_ixT); · rfl)
        | with_reducible apply ac_lenL
        | refine ⟨sz60 (Nat.le_of_ble_eq_true rfl), ?_⟩
        | refine ⟨_, rfl, ?_⟩
        | (refine ⟨fun hc => ?_, fun hc => ?_⟩ <;> (first | (exfalso; exact absurd (show false = true from hc) (by decide)) | (exfalso; exact absurd (show true = false from hc) (by decide)) | (exfalso; simp at hc; done) | skip))
        | fail)
      all_goals (rw [e1]; rfl)
    ·
      repeat' (first
        | (refine ⟨_, rfl, ?_⟩; rw [two_f]; refine ⟨fun hc => (nomatch hc), fun hc => ?_⟩)
        | with_reducible apply ae_call
        | (refine ⟨_, ⟨(some xl), none, m, r, rfl, rfl⟩, ?_⟩; rw [e])
        | (refine ar_ixL at0 ?_)
        | refine ar_Ii (C := fun _ j => j ≠ 0) (by omega) ?_
        | with_reducible apply as_seq
        | with_reducible apply as_ret
        | with_reducible apply as_next
        | with_reducible apply as_if
        | with_reducible apply as_set
        | ((with_reducible apply ae_var); · rfl)
        | with_reducible apply ae_int
        | with_reducible apply ae_non
        | with_reducible apply ae_op
        | with_reducible apply aa_nil
        | with_reducible apply aa_cons
        | with_reducible apply ae_cb
        | with_reducible apply ae_tup
        | with_reducible apply ae_if
        | with_reducible apply at_test
        | with_reducible apply ar_I0b
        | with_reducible apply ar_isN
        | ((with_reducible apply ar_ixT); · rfl)
        | with_reducible apply ac_lenL
        | refine ⟨sz60 (Nat.le_of_ble_eq_true rfl), ?_⟩
        | refine ⟨_, rfl, ?_⟩
        | (refine ⟨fun hc => ?_, fun hc => ?_⟩ <;> (first | (exfalso; exact absurd (show false = true from hc) (by decide)) | (exfalso; exact absurd (show true = false from hc) (by decide)) | (exfalso; simp at hc; done) | skip))
        | fail)
      all_goals (rw [e1]; rfl)
    ·
      repeat' (first
        | (refine ⟨_, rfl, ?_⟩; rw [two_f]; refine ⟨fun hc => (nomatch hc), fun hc => ?_⟩)
        | with_reducible apply ae_call
        | (refine ⟨_, ⟨(some xl), (some xh), m, r, rfl, rfl⟩, ?_⟩; rw [e])
        | (refine ar_ixL at0 ?_)
        | (refine ar_ixL (atl (by first | exact el | rfl)) ?_)
        | refine ar_Ii (C := fun _ j => j ≠ 0) (by omega) ?_
        | with_reducible apply as_seq
        | with_reducible apply as_ret
        | with_reducible apply as_next
        | with_reducible apply as_if
        | with_reducible apply as_set
        | ((with_reducible apply ae_var); · rfl)
        | with_reducible apply ae_int
        | with_reducible apply ae_non
        | with_reducible apply ae_op
        | with_reducible apply ae_un
        | with_reducible apply aa_nil
        | with_reducible apply aa_cons
        | with_reducible apply ae_cb
        | with_reducible apply ae_tup
        | with_reducible apply ae_if
        | with_reducible apply at_test
        | with_reducible apply ar_I0b
        | with_reducible apply ar_isN
        | with_reducible apply au_Ui
        | ((with_reducible apply ar_ixT); · rfl)
        | with_reducible apply ac_lenL
        | refine ⟨sz60 (Nat.le_of_ble_eq_true rfl), ?_⟩
        | refine ⟨_, rfl, ?_⟩
        | (refine ⟨fun hc => ?_, fun hc => ?_⟩ <;> (first | (exfalso; exact absurd (show false = true from hc) (by decide)) | (exfalso; exact absurd (show true = false from hc) (by decide)) | (exfalso; simp at hc; done) | skip))
        | fail)
      all_goals (rw [e1]; rfl)
theorem ok_l_met (bl : Blts mg) {g_l_window : Addr} {d_l_window : FuncData} (c_l_window : Cal P w K mg base 1 "_law_window" p_l_window (spP K S_win) g_l_window d_l_window)  {f : Addr} {fd : FuncData} (F : Fun K "_law_met" "_law_met" s_l_met f fd) : FnOk P w K mg base CX0 2 f fd p_l_met (spP K (S2v vmD)) := by
  refine okP F sc_l_met (fun ds r h => ?_) (fun cdv A outer s H E hr ds r h => ?_)
  · obtain ⟨a, b, c, d, m, r, n, s, rfl, k, l, rfl⟩ := h
    rfl
  obtain ⟨a, b, c, d, m, r, n, s, rfl, k, l, rfl⟩ := h
  refine ⟨_, (pss_cons (ps_set (i := 2) sc_l_met.nd rfl (by first | exact Or.inl rfl | exact Or.inr rfl) (pe_call c_l_window.ok (hr.mono (by decide)) rfl c_l_window.mg c_l_window.kp c_l_window.bi .nil pass0 (pa_cons (pv 1) pa_nil)))
    (pss_cons (ps_setLc (i := 3) (own := [("_law_spot", 6)]) (g := (gName 6)) (te := (tVar 6)) (tt := (tTest (tOp (rIn K false) (tVar 6) (tVar 2)))) rfl sc_l_met.nd rfl rfl (sw_true rfl rfl rfl (by decide +kernel)) (pi_list (pe_call c_l_window.ok (hr.mono (by decide)) rfl c_l_window.mg c_l_window.kp c_l_window.bi .nil pass0 (pa_cons (pv 0) pa_nil))) (blkOk_by (N := N_l_met) (sc := defScope s_l_met) (by decide +kernel)) (fun _ _ _ _ _ => (pg_name (i := 6) sc_l_met.nd rfl (by first | exact Or.inl rfl | exact Or.inr rfl))) (fun _ _ _ _ _ => (pts_one (pt_cmpR op_in_seq (pv 6) (pv 2) rfl))) (fun _ _ _ _ _ => (pv 6)))
    (pss_cons (ps_if (pt_cmpR op_lt (pe_callB call_len_seq rfl bl.len (by decide +kernel) (pa_cons (pv 3) pa_nil)) pe_int (nomark _)) (pss_one (ps_ret (pe_ifExp (pt_cmpR (op_neD hr.units) (pv 3) (pe_lst pa_nil) (nomark _)) (pe_tup (pa_cons (pe_ix ix_list (pv 3) pe_int (fun _ _ => rfl)) (pa_cons (pe_ix ix_list (pv 3) pe_int (fun _ _ => rfl)) (pa_cons pe_int (pa_cons (pe_ix ix_list (pv 3) pe_int (fun _ _ => rfl)) pa_nil))))) pe_non))) pss_nil)
    (pss_cons (ps_set (i := 4) sc_l_met.nd rfl (by first | exact Or.inl rfl | exact Or.inr rfl) (pe_ifExp (PW.pt (pw_and (pt_cmpR op_isN (pe_ix ix_tup (pv 0) pe_int (fun _ _ => rfl)) pe_non (nomark _)) (pw_and1 (pt_cmpR op_isN (pe_ix ix_tup (pv 1) pe_int (fun _ _ => rfl)) pe_non (nomark _))))) pe_non (pe_ix ix_list (pv 3) pe_int (fun _ _ => rfl))))
    (pss_cons (ps_set (i := 5) sc_l_met.nd rfl (by first | exact Or.inl rfl | exact Or.inr rfl) (pe_ifExp (PW.pt (pw_and (pt_cmpR op_isN (pe_ix ix_tup (pv 0) pe_int (fun _ _ => rfl)) pe_non (nomark _)) (pw_and1 (pt_cmpR op_isN (pe_ix ix_tup (pv 1) pe_int (fun _ _ => rfl)) pe_non (nomark _))))) pe_non (pe_ix ix_list (pv 3) (pe_un un_neg pe_int) (fun _ _ => rfl))))
    (pss_one (ps_ret (pe_tup (pa_cons (pv 4) (pa_cons (pv 5) (pa_cons (pe_op op_sub (pe_ix ix_list (pv 3) pe_int (fun _ _ => rfl)) (pe_ix ix_list (pv 3) pe_int (fun _ _ => rfl))) (pa_cons (pe_op op_modN (pe_ix ix_list (pv 3) pe_int (fun _ _ => rfl)) (pe_op op_sub (pe_ix ix_list (pv 3) pe_int (fun _ _ => rfl)) (pe_ix ix_list (pv 3) pe_int (fun _ _ => rfl)))) pa_nil)))))))))))), ?_⟩
  change AS K _ [En.da _, En.da _, En.no, En.no, En.no, En.no, En.no] _ _
  try simp only [cxOf_K]
  rcases met_is k l rfl with ⟨e, ev⟩ | ⟨v, e, ev⟩ | ⟨v, u, t, z, e, el, hu, ev⟩
  · rw [ev]
    repeat' (first
      | with_reducible apply ae_call
      | (refine ⟨_, ⟨a, b, m, r, rfl, rfl⟩, ?_⟩)
      | (refine ⟨_, ⟨c, d, n, s, rfl, rfl⟩, ?_⟩)
      | (with_reducible refine ae_lcFil (fI (fun x => decide (x ∈ wn c d n s))) ?_)
      | with_reducible apply ai_list
      | (refine ⟨_, rfl, (by rw [List.length_map, sizeLine_eq]; have := @wn_len a b m r; omega), fun d hd => ?_, ?_⟩)
      | (obtain ⟨x, hx, rfl⟩ := List.mem_map.mp hd)
      | ((with_reducible apply agv_name); · decide)
      | (refine ar_inI ?_)
      | ((refine ⟨?_, rfl⟩); (simp_all [fI]; done))
      | (rw [fI_map, e])
      | with_reducible apply ar_neNil
      | with_reducible apply as_seq
      | with_reducible apply as_ret
      | with_reducible apply as_if
      | with_reducible apply as_set
      | ((with_reducible apply ae_var); · rfl)
      | with_reducible apply ae_int
      | with_reducible apply ae_non
      | with_reducible apply ae_op
      | with_reducible apply aa_nil
      | with_reducible apply aa_cons
      | with_reducible apply ae_cb
      | with_reducible apply ae_lst
      | with_reducible apply ae_if
      | with_reducible apply at_test
      | with_reducible apply ar_I0b
      | with_reducible apply ac_lenL
      | refine ⟨sz60 (Nat.le_of_ble_eq_true rfl), ?_⟩
      | refine ⟨_, rfl, ?_⟩
      | (refine ⟨fun hc => ?_, fun hc => ?_⟩ <;> (first | (exfalso; exact absurd (show false = true from hc) (by decide)) | (exfalso; exact absurd (show true = false from hc) (by decide)) | (exfalso; simp at hc; done) | skip))
      | rfl
      | fail)
  · rw [ev]
    repeat' (first
      | with_reducible apply ae_call
      | (refine ⟨_, ⟨a, b, m, r, rfl, rfl⟩, ?_⟩)
      | (refine ⟨_, ⟨c, d, n, s, rfl, rfl⟩, ?_⟩)
      | (with_reducible refine ae_lcFil (fI (fun x => decide (x ∈ wn c d n s))) ?_)
      | with_reducible apply ai_list
      | (refine ⟨_, rfl, (by rw [List.length_map, sizeLine_eq]; have := @wn_len a b m r; omega), fun d hd => ?_, ?_⟩)
      | (obtain ⟨x, hx, rfl⟩ := List.mem_map.mp hd)
      | ((with_reducible apply agv_name); · decide)
      | (refine ar_inI ?_)
      | ((refine ⟨?_, rfl⟩); (simp_all [fI]; done))
      | (rw [fI_map, e])
      | (refine ar_ixL at0 ?_)
      | with_reducible apply ar_neNil
      | with_reducible apply as_seq
      | with_reducible apply as_ret
      | with_reducible apply as_if
      | with_reducible apply as_set
      | ((with_reducible apply ae_var); · rfl)
      | with_reducible apply ae_int
      | with_reducible apply ae_op
      | with_reducible apply aa_nil
      | with_reducible apply aa_cons
      | with_reducible apply ae_cb
      | with_reducible apply ae_tup
      | with_reducible apply ae_lst
      | with_reducible apply ae_if
      | with_reducible apply at_test
      | with_reducible apply ar_I0b
      | with_reducible apply ac_lenL
      | refine ⟨sz60 (Nat.le_of_ble_eq_true rfl), ?_⟩
      | refine ⟨_, rfl, ?_⟩
      | (refine ⟨fun hc => ?_, fun hc => ?_⟩ <;> (first | (exfalso; exact absurd (show false = true from hc) (by decide)) | (exfalso; exact absurd (show true = false from hc) (by decide)) | (exfalso; simp at hc; done) | skip))
      | rfl
      | fail)
  · rw [ev]
    rw [e] at el
    rcases a with _ | xa <;> rcases b with _ | xb <;> rcases c with _ | xc <;> rcases d with _ | xd
    ·
      repeat' (first
        | (refine ⟨_, rfl, ?_⟩; rw [two_f]; refine ⟨fun hc => (nomatch hc), fun hc => ?_⟩)
        | with_reducible apply ae_call
        | (refine ⟨_, ⟨none, none, m, r, rfl, rfl⟩, ?_⟩)
        | (refine ⟨_, ⟨none, none, n, s, rfl, rfl⟩, ?_⟩)
        | (with_reducible refine ae_lcFil (fI (fun x => decide (x ∈ wn none none n s))) ?_)
        | with_reducible apply ai_list
        | (refine ⟨_, rfl, (by rw [List.length_map, sizeLine_eq]; have := @wn_len none none m r; omega), fun d hd => ?_, ?_⟩)
        | (obtain ⟨x, hx, rfl⟩ := List.mem_map.mp hd)
        | ((with_reducible apply agv_name); · decide)
        | (refine ar_inI ?_)
        | ((refine ⟨?_, rfl⟩); (simp_all [fI]; done))
        | (rw [fI_map, e])
        | (refine ar_ixL at0 ?_)
        | (refine ar_ixL at1 ?_)
        | refine ar_Ii (C := fun _ j => j ≠ 0) (by omega) ?_
        | with_reducible apply as_seq
        | with_reducible apply as_ret
        | with_reducible apply as_next
        | with_reducible apply as_if
        | with_reducible apply as_set
        | ((with_reducible apply ae_var); · rfl)
        | with_reducible apply ae_int
        | with_reducible apply ae_non
        | with_reducible apply ae_op
        | with_reducible apply aa_nil
        | with_reducible apply aa_cons
        | with_reducible apply ae_cb
        | with_reducible apply ae_tup
        | with_reducible apply ae_if
        | with_reducible apply at_test
        | with_reducible apply at_and
        | with_reducible apply ar_I0i
        | with_reducible apply ar_I0b
        | with_reducible apply ar_isN
        | ((with_reducible apply ar_ixT); · rfl)
        | with_reducible apply ac_lenL
        | refine ⟨sz60 (Nat.le_of_ble_eq_true rfl), ?_⟩
        | refine ⟨_, rfl, ?_⟩
        | (refine ⟨fun hc => ?_, fun hc => ?_⟩ <;> (first | (exfalso; exact absurd (show false = true from hc) (by decide)) | (exfalso; exact absurd (show true = false from hc) (by decide)) | (exfalso; simp at hc; done) | skip))
        | rfl
        | fail)
    ·
      repeat' (first
        | (refine ⟨_, rfl, ?_⟩; rw [two_f]; refine ⟨fun hc => (nomatch hc), fun hc => ?_⟩)
        | with_reducible apply ae_call
        | (refine ⟨_, ⟨none, none, m, r, rfl, rfl⟩, ?_⟩)
        | (refine ⟨_, ⟨none, (some xd), n, s, rfl, rfl⟩, ?_⟩)
        | (with_reducible refine ae_lcFil (fI (fun x => decide (x ∈ wn none (some xd) n s))) ?_)
        | with_reducible apply ai_list
        | (refine ⟨_, rfl, (by rw [List.length_map, sizeLine_eq]; have := @wn_len none none m r; omega), fun d hd => ?_, ?_⟩)
        | (obtain ⟨x, hx, rfl⟩ := List.mem_map.mp hd)
        | ((with_reducible apply agv_name); · decide)
        | (refine ar_inI ?_)
        | ((refine ⟨?_, rfl⟩); (simp_all [fI]; done))
        | (rw [fI_map, e])
        | (refine ar_ixL at0 ?_)
        | (refine ar_ixL at1 ?_)
        | (refine ar_ixL (atl (by first | exact el | rfl)) ?_)
        | refine ar_Ii (C := fun _ j => j ≠ 0) (by omega) ?_
        | with_reducible apply as_seq
        | with_reducible apply as_ret
        | with_reducible apply as_next
        | with_reducible apply as_if
        | with_reducible apply as_set
        | ((with_reducible apply ae_var); · rfl)
        | with_reducible apply ae_int
        | with_reducible apply ae_non
        | with_reducible apply ae_op
        | with_reducible apply ae_un
        | with_reducible apply aa_nil
        | with_reducible apply aa_cons
        | with_reducible apply ae_cb
        | with_reducible apply ae_tup
        | with_reducible apply ae_if
        | with_reducible apply at_test
        | with_reducible apply at_and
        | with_reducible apply ar_I0i
        | with_reducible apply ar_I0b
        | with_reducible apply ar_isN
        | with_reducible apply au_Ui
        | ((with_reducible apply ar_ixT); · rfl)
        | with_reducible apply ac_lenL
        | refine ⟨sz60 (Nat.le_of_ble_eq_true rfl), ?_⟩
        | refine ⟨_, rfl, ?_⟩
        | (refine ⟨fun hc => ?_, fun hc => ?_⟩ <;> (first | (exfalso; exact absurd (show false = true from hc) (by decide)) | (exfalso; exact absurd (show true = false from hc) (by decide)) | (exfalso; simp at hc; done) | skip))
        | rfl
        | fail)
    ·
      repeat' (first
        | (refine ⟨_, rfl, ?_⟩; rw [two_f]; refine ⟨fun hc => (nomatch hc), fun hc => ?_⟩)
        | with_reducible apply ae_call
        | (refine ⟨_, ⟨none, none, m, r, rfl, rfl⟩, ?_⟩)
        | (refine ⟨_, ⟨(some xc), none, n, s, rfl, rfl⟩, ?_⟩)
        | (with_reducible refine ae_lcFil (fI (fun x => decide (x ∈ wn (some xc) none n s))) ?_)
        | with_reducible apply ai_list
        | (refine ⟨_, rfl, (by rw [List.length_map, sizeLine_eq]; have := @wn_len none none m r; omega), fun d hd => ?_, ?_⟩)
        | (obtain ⟨x, hx, rfl⟩ := List.mem_map.mp hd)
        | ((with_reducible apply agv_name); · decide)
        | (refine ar_inI ?_)
        | ((refine ⟨?_, rfl⟩); (simp_all [fI]; done))
        | (rw [fI_map, e])
        | (refine ar_ixL at0 ?_)
        | (refine ar_ixL at1 ?_)
        | refine ar_Ii (C := fun _ j => j ≠ 0) (by omega) ?_
        | with_reducible apply as_seq
        | with_reducible apply as_ret
        | with_reducible apply as_next
        | with_reducible apply as_if
        | with_reducible apply as_set
        | ((with_reducible apply ae_var); · rfl)
        | with_reducible apply ae_int
        | with_reducible apply ae_non
        | with_reducible apply ae_op
        | with_reducible apply aa_nil
        | with_reducible apply aa_cons
        | with_reducible apply ae_cb
        | with_reducible apply ae_tup
        | with_reducible apply ae_if
        | with_reducible apply at_test
        | with_reducible apply at_and
        | with_reducible apply ar_I0i
        | with_reducible apply ar_I0b
        | with_reducible apply ar_isN
        | ((with_reducible apply ar_ixT); · rfl)
        | with_reducible apply ac_lenL
        | refine ⟨sz60 (Nat.le_of_ble_eq_true rfl), ?_⟩
        | refine ⟨_, rfl, ?_⟩
        | (refine ⟨fun hc => ?_, fun hc => ?_⟩ <;> (first | (exfalso; exact absurd (show false = true from hc) (by decide)) | (exfalso; exact absurd (show true = false from hc) (by decide)) | (exfalso; simp at hc; done) | skip))
        | rfl
        | fail)
    ·
      repeat' (first
        | (refine ⟨_, rfl, ?_⟩; rw [two_f]; refine ⟨fun hc => (nomatch hc), fun hc => ?_⟩)
        | with_reducible apply ae_call
        | (refine ⟨_, ⟨none, none, m, r, rfl, rfl⟩, ?_⟩)
        | (refine ⟨_, ⟨(some xc), (some xd), n, s, rfl, rfl⟩, ?_⟩)
        | (with_reducible refine ae_lcFil (fI (fun x => decide (x ∈ wn (some xc) (some xd) n s))) ?_)
        | with_reducible apply ai_list
        | (refine ⟨_, rfl, (by rw [List.length_map, sizeLine_eq]; have := @wn_len none none m r; omega), fun d hd => ?_, ?_⟩)
        | (obtain ⟨x, hx, rfl⟩ := List.mem_map.mp hd)
        | ((with_reducible apply agv_name); · decide)
        | (refine ar_inI ?_)
        | ((refine ⟨?_, rfl⟩); (simp_all [fI]; done))
        | (rw [fI_map, e])
        | (refine ar_ixL at0 ?_)
        | (refine ar_ixL at1 ?_)
        | (refine ar_ixL (atl (by first | exact el | rfl)) ?_)
        | refine ar_Ii (C := fun _ j => j ≠ 0) (by omega) ?_
        | with_reducible apply as_seq
        | with_reducible apply as_ret
        | with_reducible apply as_next
        | with_reducible apply as_if
        | with_reducible apply as_set
        | ((with_reducible apply ae_var); · rfl)
        | with_reducible apply ae_int
        | with_reducible apply ae_non
        | with_reducible apply ae_op
        | with_reducible apply ae_un
        | with_reducible apply aa_nil
        | with_reducible apply aa_cons
        | with_reducible apply ae_cb
        | with_reducible apply ae_tup
        | with_reducible apply ae_if
        | with_reducible apply at_test
        | with_reducible apply at_and
        | with_reducible apply ar_I0i
        | with_reducible apply ar_I0b
        | with_reducible apply ar_isN
        | with_reducible apply au_Ui
        | ((with_reducible apply ar_ixT); · rfl)
        | with_reducible apply ac_lenL
        | refine ⟨sz60 (Nat.le_of_ble_eq_true rfl), ?_⟩
        | refine ⟨_, rfl, ?_⟩
        | (refine ⟨fun hc => ?_, fun hc => ?_⟩ <;> (first | (exfalso; exact absurd (show false = true from hc) (by decide)) | (exfalso; exact absurd (show true = false from hc) (by decide)) | (exfalso; simp at hc; done) | skip))
        | rfl
        | fail)
    ·
      repeat' (first
        | (refine ⟨_, rfl, ?_⟩; rw [two_f]; refine ⟨fun hc => (nomatch hc), fun hc => ?_⟩)
        | with_reducible apply ae_call
        | (refine ⟨_, ⟨none, (some xb), m, r, rfl, rfl⟩, ?_⟩)
        | (refine ⟨_, ⟨none, none, n, s, rfl, rfl⟩, ?_⟩)
        | (with_reducible refine ae_lcFil (fI (fun x => decide (x ∈ wn none none n s))) ?_)
        | with_reducible apply ai_list
        | (refine ⟨_, rfl, (by rw [List.length_map, sizeLine_eq]; have := @wn_len none (some xb) m r; omega), fun d hd => ?_, ?_⟩)
        | (obtain ⟨x, hx, rfl⟩ := List.mem_map.mp hd)
        | ((with_reducible apply agv_name); · decide)
        | (refine ar_inI ?_)
        | ((refine ⟨?_, rfl⟩); (simp_all [fI]; done))
        | (rw [fI_map, e])
        | (refine ar_ixL at0 ?_)
        | (refine ar_ixL at1 ?_)
        | (refine ar_ixL (atl (by first | exact el | rfl)) ?_)
        | refine ar_Ii (C := fun _ j => j ≠ 0) (by omega) ?_
        | with_reducible apply as_seq
        | with_reducible apply as_ret
        | with_reducible apply as_next
        | with_reducible apply as_if
        | with_reducible apply as_set
        | ((with_reducible apply ae_var); · rfl)
        | with_reducible apply ae_int
        | with_reducible apply ae_non
        | with_reducible apply ae_op
        | with_reducible apply ae_un
        | with_reducible apply aa_nil
        | with_reducible apply aa_cons
        | with_reducible apply ae_cb
        | with_reducible apply ae_tup
        | with_reducible apply ae_if
        | with_reducible apply at_test
        | with_reducible apply at_and
        | with_reducible apply ar_I0i
        | with_reducible apply ar_I0b
        | with_reducible apply ar_isN
        | with_reducible apply au_Ui
        | ((with_reducible apply ar_ixT); · rfl)
        | with_reducible apply ac_lenL
        | refine ⟨sz60 (Nat.le_of_ble_eq_true rfl), ?_⟩
        | refine ⟨_, rfl, ?_⟩
        | (refine ⟨fun hc => ?_, fun hc => ?_⟩ <;> (first | (exfalso; exact absurd (show false = true from hc) (by decide)) | (exfalso; exact absurd (show true = false from hc) (by decide)) | (exfalso; simp at hc; done) | skip))
        | rfl
        | fail)
    ·
      repeat' (first
        | (refine ⟨_, rfl, ?_⟩; rw [two_f]; refine ⟨fun hc => (nomatch hc), fun hc => ?_⟩)
        | with_reducible apply ae_call
        | (refine ⟨_, ⟨none, (some xb), m, r, rfl, rfl⟩, ?_⟩)
        | (refine ⟨_, ⟨none, (some xd), n, s, rfl, rfl⟩, ?_⟩)
        | (with_reducible refine ae_lcFil (fI (fun x => decide (x ∈ wn none (some xd) n s))) ?_)
        | with_reducible apply ai_list
        | (refine ⟨_, rfl, (by rw [List.length_map, sizeLine_eq]; have := @wn_len none (some xb) m r; omega), fun d hd => ?_, ?_⟩)
        | (obtain ⟨x, hx, rfl⟩ := List.mem_map.mp hd)
        | ((with_reducible apply agv_name); · decide)
        | (refine ar_inI ?_)
        | ((refine ⟨?_, rfl⟩); (simp_all [fI]; done))
        | (rw [fI_map, e])
        | (refine ar_ixL at0 ?_)
        | (refine ar_ixL at1 ?_)
        | (refine ar_ixL (atl (by first | exact el | rfl)) ?_)
        | refine ar_Ii (C := fun _ j => j ≠ 0) (by omega) ?_
        | with_reducible apply as_seq
        | with_reducible apply as_ret
        | with_reducible apply as_next
        | with_reducible apply as_if
        | with_reducible apply as_set
        | ((with_reducible apply ae_var); · rfl)
        | with_reducible apply ae_int
        | with_reducible apply ae_non
        | with_reducible apply ae_op
        | with_reducible apply ae_un
        | with_reducible apply aa_nil
        | with_reducible apply aa_cons
        | with_reducible apply ae_cb
        | with_reducible apply ae_tup
        | with_reducible apply ae_if
        | with_reducible apply at_test
        | with_reducible apply at_and
        | with_reducible apply ar_I0i
        | with_reducible apply ar_I0b
        | with_reducible apply ar_isN
        | with_reducible apply au_Ui
        | ((with_reducible apply ar_ixT); · rfl)
        | with_reducible apply ac_lenL
        | refine ⟨sz60 (Nat.le_of_ble_eq_true rfl), ?_⟩
        | refine ⟨_, rfl, ?_⟩
        | (refine ⟨fun hc => ?_, fun hc => ?_⟩ <;> (first | (exfalso; exact absurd (show false = true from hc) (by decide)) | (exfalso; exact absurd (show true = false from hc) (by decide)) | (exfalso; simp at hc; done) | skip))
        | rfl
        | fail)
    ·
      repeat' (first
        | (refine ⟨_, rfl, ?_⟩; rw [two_f]; refine ⟨fun hc => (nomatch hc), fun hc => ?_⟩)
        | with_reducible apply ae_call
        | (refine ⟨_, ⟨none, (some xb), m, r, rfl, rfl⟩, ?_⟩)
        | (refine ⟨_, ⟨(some xc), none, n, s, rfl, rfl⟩, ?_⟩)
        | (with_reducible refine ae_lcFil (fI (fun x => decide (x ∈ wn (some xc) none n s))) ?_)
        | with_reducible apply ai_list
        | (refine ⟨_, rfl, (by rw [List.length_map, sizeLine_eq]; have := @wn_len none (some xb) m r; omega), fun d hd => ?_, ?_⟩)
        | (obtain ⟨x, hx, rfl⟩ := List.mem_map.mp hd)
        | ((with_reducible apply agv_name); · decide)
        | (refine ar_inI ?_)
        | ((refine ⟨?_, rfl⟩); (simp_all [fI]; done))
        | (rw [fI_map, e])
        | (refine ar_ixL at0 ?_)
        | (refine ar_ixL at1 ?_)
        | (refine ar_ixL (atl (by first | exact el | rfl)) ?_)
        | refine ar_Ii (C := fun _ j => j ≠ 0) (by omega) ?_
        | with_reducible apply as_seq
        | with_reducible apply as_ret
        | with_reducible apply as_next
        | with_reducible apply as_if
        | with_reducible apply as_set
        | ((with_reducible apply ae_var); · rfl)
        | with_reducible apply ae_int
        | with_reducible apply ae_non
        | with_reducible apply ae_op
        | with_reducible apply ae_un
        | with_reducible apply aa_nil
        | with_reducible apply aa_cons
        | with_reducible apply ae_cb
        | with_reducible apply ae_tup
        | with_reducible apply ae_if
        | with_reducible apply at_test
        | with_reducible apply at_and
        | with_reducible apply ar_I0i
        | with_reducible apply ar_I0b
        | with_reducible apply ar_isN
        | with_reducible apply au_Ui
        | ((with_reducible apply ar_ixT); · rfl)
        | with_reducible apply ac_lenL
        | refine ⟨sz60 (Nat.le_of_ble_eq_true rfl), ?_⟩
        | refine ⟨_, rfl, ?_⟩
        | (refine ⟨fun hc => ?_, fun hc => ?_⟩ <;> (first | (exfalso; exact absurd (show false = true from hc) (by decide)) | (exfalso; exact absurd (show true = false from hc) (by decide)) | (exfalso; simp at hc; done) | skip))
        | rfl
        | fail)
    ·
      repeat' (first
        | (refine ⟨_, rfl, ?_⟩; rw [two_f]; refine ⟨fun hc => (nomatch hc), fun hc => ?_⟩)
        | with_reducible apply ae_call
        | (refine ⟨_, ⟨none, (some xb), m, r, rfl, rfl⟩, ?_⟩)
        | (refine ⟨_, ⟨(some xc), (some xd), n, s, rfl, rfl⟩, ?_⟩)
        | (with_reducible refine ae_lcFil (fI (fun x => decide (x ∈ wn (some xc) (some xd) n s))) ?_)
        | with_reducible apply ai_list
        | (refine ⟨_, rfl, (by rw [List.length_map, sizeLine_eq]; have := @wn_len none (some xb) m r; omega), fun d hd => ?_, ?_⟩)
        | (obtain ⟨x, hx, rfl⟩ := List.mem_map.mp hd)
        | ((with_reducible apply agv_name); · decide)
        | (refine ar_inI ?_)
        | ((refine ⟨?_, rfl⟩); (simp_all [fI]; done))
        | (rw [fI_map, e])
        | (refine ar_ixL at0 ?_)
        | (refine ar_ixL at1 ?_)
        | (refine ar_ixL (atl (by first | exact el | rfl)) ?_)
        | refine ar_Ii (C := fun _ j => j ≠ 0) (by omega) ?_
        | with_reducible apply as_seq
        | with_reducible apply as_ret
        | with_reducible apply as_next
        | with_reducible apply as_if
        | with_reducible apply as_set
        | ((with_reducible apply ae_var); · rfl)
        | with_reducible apply ae_int
        | with_reducible apply ae_non
        | with_reducible apply ae_op
        | with_reducible apply ae_un
        | with_reducible apply aa_nil
        | with_reducible apply aa_cons
        | with_reducible apply ae_cb
        | with_reducible apply ae_tup
        | with_reducible apply ae_if
        | with_reducible apply at_test
        | with_reducible apply at_and
        | with_reducible apply ar_I0i
        | with_reducible apply ar_I0b
        | with_reducible apply ar_isN
        | with_reducible apply au_Ui
        | ((with_reducible apply ar_ixT); · rfl)
        | with_reducible apply ac_lenL
        | refine ⟨sz60 (Nat.le_of_ble_eq_true rfl), ?_⟩
        | refine ⟨_, rfl, ?_⟩
        | (refine ⟨fun hc => ?_, fun hc => ?_⟩ <;> (first | (exfalso; exact absurd (show false = true from hc) (by decide)) | (exfalso; exact absurd (show true = false from hc) (by decide)) | (exfalso; simp at hc; done) | skip))
        | rfl
        | fail)
    ·
      repeat' (first
        | (refine ⟨_, rfl, ?_⟩; rw [two_f]; refine ⟨fun hc => (nomatch hc), fun hc => ?_⟩)
        | with_reducible apply ae_call
        | (refine ⟨_, ⟨(some xa), none, m, r, rfl, rfl⟩, ?_⟩)
        | (refine ⟨_, ⟨none, none, n, s, rfl, rfl⟩, ?_⟩)
        | (with_reducible refine ae_lcFil (fI (fun x => decide (x ∈ wn none none n s))) ?_)
        | with_reducible apply ai_list
        | (refine ⟨_, rfl, (by rw [List.length_map, sizeLine_eq]; have := @wn_len (some xa) none m r; omega), fun d hd => ?_, ?_⟩)
        | (obtain ⟨x, hx, rfl⟩ := List.mem_map.mp hd)
        | ((with_reducible apply agv_name); · decide)
        | (refine ar_inI ?_)
        | ((refine ⟨?_, rfl⟩); (simp_all [fI]; done))
        | (rw [fI_map, e])
        | (refine ar_ixL at0 ?_)
        | (refine ar_ixL at1 ?_)
        | refine ar_Ii (C := fun _ j => j ≠ 0) (by omega) ?_
        | with_reducible apply as_seq
        | with_reducible apply as_ret
        | with_reducible apply as_next
        | with_reducible apply as_if
        | with_reducible apply as_set
        | ((with_reducible apply ae_var); · rfl)
        | with_reducible apply ae_int
        | with_reducible apply ae_non
        | with_reducible apply ae_op
        | with_reducible apply aa_nil
        | with_reducible apply aa_cons
        | with_reducible apply ae_cb
        | with_reducible apply ae_tup
        | with_reducible apply ae_if
        | with_reducible apply at_test
        | with_reducible apply at_and
        | with_reducible apply ar_I0i
        | with_reducible apply ar_I0b
        | with_reducible apply ar_isN
        | ((with_reducible apply ar_ixT); · rfl)
        | with_reducible apply ac_lenL
        | refine ⟨sz60 (Nat.le_of_ble_eq_true rfl), ?_⟩
        | refine ⟨_, rfl, ?_⟩
        | (refine ⟨fun hc => ?_, fun hc => ?_⟩ <;> (first | (exfalso; exact absurd (show false = true from hc) (by decide)) | (exfalso; exact absurd (show true = false from hc) (by decide)) | (exfalso; simp at hc; done) | skip))
        | rfl
        | fail)
    ·
      repeat' (first
        | (refine ⟨_, rfl, ?_⟩; rw [two_f]; refine ⟨fun hc => (nomatch hc), fun hc => ?_⟩)
        | with_reducible apply ae_call
        | (refine ⟨_, ⟨(some xa), none, m, r, rfl, rfl⟩, ?_⟩)
        | (refine ⟨_, ⟨none, (some xd), n, s, rfl, rfl⟩, ?_⟩)
        | (with_reducible refine ae_lcFil (fI (fun x => decide (x ∈ wn none (some xd) n s))) ?_)
        | with_reducible apply ai_list
        | (refine ⟨_, rfl, (by rw [List.length_map, sizeLine_eq]; have := @wn_len (some xa) none m r; omega), fun d hd => ?_, ?_⟩)
        | (obtain ⟨x, hx, rfl⟩ := List.mem_map.mp hd)
        | ((with_reducible apply agv_name); · decide)
        | (refine ar_inI ?_)
        | ((refine ⟨?_, rfl⟩); (simp_all [fI]; done))
        | (rw [fI_map, e])
        | (refine ar_ixL at0 ?_)
        | (refine ar_ixL at1 ?_)
        | (refine ar_ixL (atl (by first | exact el | rfl)) ?_)
        | refine ar_Ii (C := fun _ j => j ≠ 0) (by omega) ?_
        | with_reducible apply as_seq
        | with_reducible apply as_ret
        | with_reducible apply as_next
        | with_reducible apply as_if
        | with_reducible apply as_set
        | ((with_reducible apply ae_var); · rfl)
        | with_reducible apply ae_int
        | with_reducible apply ae_non
        | with_reducible apply ae_op
        | with_reducible apply ae_un
        | with_reducible apply aa_nil
        | with_reducible apply aa_cons
        | with_reducible apply ae_cb
        | with_reducible apply ae_tup
        | with_reducible apply ae_if
        | with_reducible apply at_test
        | with_reducible apply at_and
        | with_reducible apply ar_I0i
        | with_reducible apply ar_I0b
        | with_reducible apply ar_isN
        | with_reducible apply au_Ui
        | ((with_reducible apply ar_ixT); · rfl)
        | with_reducible apply ac_lenL
        | refine ⟨sz60 (Nat.le_of_ble_eq_true rfl), ?_⟩
        | refine ⟨_, rfl, ?_⟩
        | (refine ⟨fun hc => ?_, fun hc => ?_⟩ <;> (first | (exfalso; exact absurd (show false = true from hc) (by decide)) | (exfalso; exact absurd (show true = false from hc) (by decide)) | (exfalso; simp at hc; done) | skip))
        | rfl
        | fail)
    ·
      repeat' (first
        | (refine ⟨_, rfl, ?_⟩; rw [two_f]; refine ⟨fun hc => (nomatch hc), fun hc => ?_⟩)
        | with_reducible apply ae_call
        | (refine ⟨_, ⟨(some xa), none, m, r, rfl, rfl⟩, ?_⟩)
        | (refine ⟨_, ⟨(some xc), none, n, s, rfl, rfl⟩, ?_⟩)
        | (with_reducible refine ae_lcFil (fI (fun x => decide (x ∈ wn (some xc) none n s))) ?_)
        | with_reducible apply ai_list
        | (refine ⟨_, rfl, (by rw [List.length_map, sizeLine_eq]; have := @wn_len (some xa) none m r; omega), fun d hd => ?_, ?_⟩)
        | (obtain ⟨x, hx, rfl⟩ := List.mem_map.mp hd)
        | ((with_reducible apply agv_name); · decide)
        | (refine ar_inI ?_)
        | ((refine ⟨?_, rfl⟩); (simp_all [fI]; done))
        | (rw [fI_map, e])
        | (refine ar_ixL at0 ?_)
        | (refine ar_ixL at1 ?_)
        | refine ar_Ii (C := fun _ j => j ≠ 0) (by omega) ?_
        | with_reducible apply as_seq
        | with_reducible apply as_ret
        | with_reducible apply as_next
        | with_reducible apply as_if
        | with_reducible apply as_set
        | ((with_reducible apply ae_var); · rfl)
        | with_reducible apply ae_int
        | with_reducible apply ae_non
        | with_reducible apply ae_op
        | with_reducible apply aa_nil
        | with_reducible apply aa_cons
        | with_reducible apply ae_cb
        | with_reducible apply ae_tup
        | with_reducible apply ae_if
        | with_reducible apply at_test
        | with_reducible apply at_and
        | with_reducible apply ar_I0i
        | with_reducible apply ar_I0b
        | with_reducible apply ar_isN
        | ((with_reducible apply ar_ixT); · rfl)
        | with_reducible apply ac_lenL
        | refine ⟨sz60 (Nat.le_of_ble_eq_true rfl), ?_⟩
        | refine ⟨_, rfl, ?_⟩
        | (refine ⟨fun hc => ?_, fun hc => ?_⟩ <;> (first | (exfalso; exact absurd (show false = true from hc) (by decide)) | (exfalso; exact absurd (show true = false from hc) (by decide)) | (exfalso; simp at hc; done) | skip))
        | rfl
        | fail)
    ·
      repeat' (first
        | (refine ⟨_, rfl, ?_⟩; rw [two_f]; refine ⟨fun hc => (nomatch hc), fun hc => ?_⟩)
        | with_reducible apply ae_call
        | (refine ⟨_, ⟨(some xa), none, m, r, rfl, rfl⟩, ?_⟩)
        | (refine ⟨_, ⟨(some xc), (some xd), n, s, rfl, rfl⟩, ?_⟩)
        | (with_reducible refine ae_lcFil (fI (fun x => decide (x ∈ wn (some xc) (some xd) n s))) ?_)
        | with_reducible apply ai_list
        | (refine ⟨_, rfl, (by rw [List.length_map, sizeLine_eq]; have := @wn_len (some xa) none m r; omega), fun d hd => ?_, ?_⟩)
        | (obtain ⟨x, hx, rfl⟩ := List.mem_map.mp hd)
        | ((with_reducible apply agv_name); · decide)
        | (refine ar_inI ?_)
        | ((refine ⟨?_, rfl⟩); (simp_all [fI]; done))
        | (rw [fI_map, e])
        | (refine ar_ixL at0 ?_)
        | (refine ar_ixL at1 ?_)
        | (refine ar_ixL (atl (by first | exact el | rfl)) ?_)
        | refine ar_Ii (C := fun _ j => j ≠ 0) (by omega) ?_
        | with_reducible apply as_seq
        | with_reducible apply as_ret
        | with_reducible apply as_next
        | with_reducible apply as_if
        | with_reducible apply as_set
        | ((with_reducible apply ae_var); · rfl)
        | with_reducible apply ae_int
        | with_reducible apply ae_non
        | with_reducible apply ae_op
        | with_reducible apply ae_un
        | with_reducible apply aa_nil
        | with_reducible apply aa_cons
        | with_reducible apply ae_cb
        | with_reducible apply ae_tup
        | with_reducible apply ae_if
        | with_reducible apply at_test
        | with_reducible apply at_and
        | with_reducible apply ar_I0i
        | with_reducible apply ar_I0b
        | with_reducible apply ar_isN
        | with_reducible apply au_Ui
        | ((with_reducible apply ar_ixT); · rfl)
        | with_reducible apply ac_lenL
        | refine ⟨sz60 (Nat.le_of_ble_eq_true rfl), ?_⟩
        | refine ⟨_, rfl, ?_⟩
        | (refine ⟨fun hc => ?_, fun hc => ?_⟩ <;> (first | (exfalso; exact absurd (show false = true from hc) (by decide)) | (exfalso; exact absurd (show true = false from hc) (by decide)) | (exfalso; simp at hc; done) | skip))
        | rfl
        | fail)
    ·
      repeat' (first
        | (refine ⟨_, rfl, ?_⟩; rw [two_f]; refine ⟨fun hc => (nomatch hc), fun hc => ?_⟩)
        | with_reducible apply ae_call
        | (refine ⟨_, ⟨(some xa), (some xb), m, r, rfl, rfl⟩, ?_⟩)
        | (refine ⟨_, ⟨none, none, n, s, rfl, rfl⟩, ?_⟩)
        | (with_reducible refine ae_lcFil (fI (fun x => decide (x ∈ wn none none n s))) ?_)
        | with_reducible apply ai_list
        | (refine ⟨_, rfl, (by rw [List.length_map, sizeLine_eq]; have := @wn_len (some xa) (some xb) m r; omega), fun d hd => ?_, ?_⟩)
        | (obtain ⟨x, hx, rfl⟩ := List.mem_map.mp hd)
        | ((with_reducible apply agv_name); · decide)
        | (refine ar_inI ?_)
        | ((refine ⟨?_, rfl⟩); (simp_all [fI]; done))
        | (rw [fI_map, e])
        | (refine ar_ixL at0 ?_)
        | (refine ar_ixL at1 ?_)
        | (refine ar_ixL (atl (by first | exact el | rfl)) ?_)
        | refine ar_Ii (C := fun _ j => j ≠ 0) (by omega) ?_
        | with_reducible apply as_seq
        | with_reducible apply as_ret
        | with_reducible apply as_next
        | with_reducible apply as_if
        | with_reducible apply as_set
        | ((with_reducible apply ae_var); · rfl)
        | with_reducible apply ae_int
        | with_reducible apply ae_non
        | with_reducible apply ae_op
        | with_reducible apply ae_un
        | with_reducible apply aa_nil
        | with_reducible apply aa_cons
        | with_reducible apply ae_cb
        | with_reducible apply ae_tup
        | with_reducible apply ae_if
        | with_reducible apply at_test
        | with_reducible apply at_and
        | with_reducible apply ar_I0i
        | with_reducible apply ar_I0b
        | with_reducible apply ar_isN
        | with_reducible apply au_Ui
        | ((with_reducible apply ar_ixT); · rfl)
        | with_reducible apply ac_lenL
        | refine ⟨sz60 (Nat.le_of_ble_eq_true rfl), ?_⟩
        | refine ⟨_, rfl, ?_⟩
        | (refine ⟨fun hc => ?_, fun hc => ?_⟩ <;> (first | (exfalso; exact absurd (show false = true from hc) (by decide)) | (exfalso; exact absurd (show true = false from hc) (by decide)) | (exfalso; simp at hc; done) | skip))
        | rfl
        | fail)
    ·
      repeat' (first
        | (refine ⟨_, rfl, ?_⟩; rw [two_f]; refine ⟨fun hc => (nomatch hc), fun hc => ?_⟩)
        | with_reducible apply ae_call
        | (refine ⟨_, ⟨(some xa), (some xb), m, r, rfl, rfl⟩, ?_⟩)
        | (refine ⟨_, ⟨none, (some xd), n, s, rfl, rfl⟩, ?_⟩)
        | (with_reducible refine ae_lcFil (fI (fun x => decide (x ∈ wn none (some xd) n s))) ?_)
        | with_reducible apply ai_list
        | (refine ⟨_, rfl, (by rw [List.length_map, sizeLine_eq]; have := @wn_len (some xa) (some xb) m r; omega), fun d hd => ?_, ?_⟩)
        | (obtain ⟨x, hx, rfl⟩ := List.mem_map.mp hd)
        | ((with_reducible apply agv_name); · decide)
        | (refine ar_inI ?_)
        | ((refine ⟨?_, rfl⟩); (simp_all [fI]; done))
        | (rw [fI_map, e])
        | (refine ar_ixL at0 ?_)
        | (refine ar_ixL at1 ?_)
        | (refine ar_ixL (atl (by first | exact el | rfl)) ?_)
        | refine ar_Ii (C := fun _ j => j ≠ 0) (by omega) ?_
        | with_reducible apply as_seq
        | with_reducible apply as_ret
        | with_reducible apply as_next
        | with_reducible apply as_if
        | with_reducible apply as_set
        | ((with_reducible apply ae_var); · rfl)
        | with_reducible apply ae_int
        | with_reducible apply ae_non
        | with_reducible apply ae_op
        | with_reducible apply ae_un
        | with_reducible apply aa_nil
        | with_reducible apply aa_cons
        | with_reducible apply ae_cb
        | with_reducible apply ae_tup
        | with_reducible apply ae_if
        | with_reducible apply at_test
        | with_reducible apply at_and
        | with_reducible apply ar_I0i
        | with_reducible apply ar_I0b
        | with_reducible apply ar_isN
        | with_reducible apply au_Ui
        | ((with_reducible apply ar_ixT); · rfl)
        | with_reducible apply ac_lenL
        | refine ⟨sz60 (Nat.le_of_ble_eq_true rfl), ?_⟩
        | refine ⟨_, rfl, ?_⟩
        | (refine ⟨fun hc => ?_, fun hc => ?_⟩ <;> (first | (exfalso; exact absurd (show false = true from hc) (by decide)) | (exfalso; exact absurd (show true = false from hc) (by decide)) | (exfalso; simp at hc; done) | skip))
        | rfl
        | fail)
    ·
      repeat' (first
        | (refine ⟨_, rfl, ?_⟩; rw [two_f]; refine ⟨fun hc => (nomatch hc), fun hc => ?_⟩)
        | with_reducible apply ae_call
        | (refine ⟨_, ⟨(some xa), (some xb), m, r, rfl, rfl⟩, ?_⟩)
        | (refine ⟨_, ⟨(some xc), none, n, s, rfl, rfl⟩, ?_⟩)
        | (with_reducible refine ae_lcFil (fI (fun x => decide (x ∈ wn (some xc) none n s))) ?_)
        | with_reducible apply ai_list
        | (refine ⟨_, rfl, (by rw [List.length_map, sizeLine_eq]; have := @wn_len (some xa) (some xb) m r; omega), fun d hd => ?_, ?_⟩)
        | (obtain ⟨x, hx, rfl⟩ := List.mem_map.mp hd)
        | ((with_reducible apply agv_name); · decide)
        | (refine ar_inI ?_)
        | ((refine ⟨?_, rfl⟩); (simp_all [fI]; done))
        | (rw [fI_map, e])
        | (refine ar_ixL at0 ?_)
        | (refine ar_ixL at1 ?_)
        | (refine ar_ixL (atl (by first | exact el | rfl)) ?_)
        | refine ar_Ii (C := fun _ j => j ≠ 0) (by omega) ?_
        | with_reducible apply as_seq
        | with_reducible apply as_ret
        | with_reducible apply as_next
        | with_reducible apply as_if
        | with_reducible apply as_set
        | ((with_reducible apply ae_var); · rfl)
        | with_reducible apply ae_int
        | with_reducible apply ae_non
        | with_reducible apply ae_op
        | with_reducible apply ae_un
        | with_reducible apply aa_nil
        | with_reducible apply aa_cons
        | with_reducible apply ae_cb
        | with_reducible apply ae_tup
        | with_reducible apply ae_if
        | with_reducible apply at_test
        | with_reducible apply at_and
        | with_reducible apply ar_I0i
        | with_reducible apply ar_I0b
        | with_reducible apply ar_isN
        | with_reducible apply au_Ui
        | ((with_reducible apply ar_ixT); · rfl)
        | with_reducible apply ac_lenL
        | refine ⟨sz60 (Nat.le_of_ble_eq_true rfl), ?_⟩
        | refine ⟨_, rfl, ?_⟩
        | (refine ⟨fun hc => ?_, fun hc => ?_⟩ <;> (first | (exfalso; exact absurd (show false = true from hc) (by decide)) | (exfalso; exact absurd (show true = false from hc) (by decide)) | (exfalso; simp at hc; done) | skip))
        | rfl
        | fail)
    ·
      repeat' (first
        | (refine ⟨_, rfl, ?_⟩; rw [two_f]; refine ⟨fun hc => (nomatch hc), fun hc => ?_⟩)
        | with_reducible apply ae_call
        | (refine ⟨_, ⟨(some xa), (some xb), m, r, rfl, rfl⟩, ?_⟩)
        | (refine ⟨_, ⟨(some xc), (some xd), n, s, rfl, rfl⟩, ?_⟩)
        | (with_reducible refine ae_lcFil (fI (fun x => decide (x ∈ wn (some xc) (some xd) n s))) ?_)
        | with_reducible apply ai_list
        | (refine ⟨_, rfl, (by rw [List.length_map, sizeLine_eq]; have := @wn_len (some xa) (some xb) m r; omega), fun d hd => ?_, ?_⟩)
        | (obtain ⟨x, hx, rfl⟩ := List.mem_map.mp hd)
        | ((with_reducible apply agv_name); · decide)
        | (refine ar_inI ?_)
        | ((refine ⟨?_, rfl⟩); (simp_all [fI]; done))
        | (rw [fI_map, e])
        | (refine ar_ixL at0 ?_)
        | (refine ar_ixL at1 ?_)
        | (refine ar_ixL (atl (by first | exact el | rfl)) ?_)
        | refine ar_Ii (C := fun _ j => j ≠ 0) (by omega) ?_
        | with_reducible apply as_seq
        | with_reducible apply as_ret
        | with_reducible apply as_next
        | with_reducible apply as_if
        | with_reducible apply as_set
        | ((with_reducible apply ae_var); · rfl)
        | with_reducible apply ae_int
        | with_reducible apply ae_non
        | with_reducible apply ae_op
        | with_reducible apply ae_un
        | with_reducible apply aa_nil
        | with_reducible apply aa_cons
        | with_reducible apply ae_cb
        | with_reducible apply ae_tup
        | with_reducible apply ae_if
        | with_reducible apply at_test
        | with_reducible apply at_and
        | with_reducible apply ar_I0i
        | with_reducible apply ar_I0b
        | with_reducible apply ar_isN
        | with_reducible apply au_Ui
        | ((with_reducible apply ar_ixT); · rfl)
        | with_reducible apply ac_lenL
        | refine ⟨sz60 (Nat.le_of_ble_eq_true rfl), ?_⟩
        | refine ⟨_, rfl, ?_⟩
        | (refine ⟨fun hc => ?_, fun hc => ?_⟩ <;> (first | (exfalso; exact absurd (show false = true from hc) (by decide)) | (exfalso; exact absurd (show true = false from hc) (by decide)) | (exfalso; simp at hc; done) | skip))
        | rfl
        | fail)
end
end Sh
set_option Elab.async false
set_option linter.all false
set_option maxRecDepth 100000
set_option maxHeartbeats 4000000
namespace Sh
open PySem PySem.Spec PyProof.Rows L2
section
variable {P : Program} {w : World} {K : PySem.W.Frag} {mg : Str → Option Value} {base : Heap}
theorem ok_l_inside (bl : Blts mg) {g_l_window : Addr} {d_l_window : FuncData} (c_l_window : Cal P w K mg base 1 "_law_window" p_l_window (spP K S_win) g_l_window d_l_window)  {f : Addr} {fd : FuncData} (F : Fun K "_law_inside" "_law_inside" s_l_inside f fd) : FnOk P w K mg base CX0 2 f fd p_l_inside (spP K (S2v fIn)) := by
  refine okP F sc_l_inside (fun ds r h => ?_) (fun cdv A outer s H E hr ds r h => ?_)
  · obtain ⟨a, b, c, d, m, r, n, s, rfl, k, l, rfl⟩ := h
    rfl
  obtain ⟨a, b, c, d, m, r, n, s, rfl, k, l, rfl⟩ := h
  refine ⟨_, (pss_cons (ps_set (i := 2) sc_l_inside.nd rfl (by first | exact Or.inl rfl | exact Or.inr rfl) (pe_call c_l_window.ok (hr.mono (by decide)) rfl c_l_window.mg c_l_window.kp c_l_window.bi .nil pass0 (pa_cons (pv 1) pa_nil)))
    (pss_cons (ps_set (i := 3) sc_l_inside.nd rfl (by first | exact Or.inl rfl | exact Or.inr rfl) (pe_callB (cr_all rfl) rfl bl.all (by decide +kernel) (pa_cons (pe_lc (own := [("_law_spot", 4)]) (g := (gName 4)) (te := (tOp (rIn K false) (tVar 4) (tVar 2))) (tt := tYes) rfl sc_l_inside.nd (pi_list (pe_call c_l_window.ok (hr.mono (by decide)) rfl c_l_window.mg c_l_window.kp c_l_window.bi .nil pass0 (pa_cons (pv 0) pa_nil))) (blkOk_by (N := N_l_inside) (sc := defScope s_l_inside) (by decide +kernel)) (fun _ _ _ _ _ => (pg_name (i := 4) sc_l_inside.nd rfl (by first | exact Or.inl rfl | exact Or.inr rfl))) (fun _ _ _ _ _ => pts_nil) (fun _ _ _ _ _ => (pe_cmpR op_in_seq (pv 4) (pv 2) rfl))) pa_nil)))
    (pss_one (ps_ret (pe_and (pv 3) (pe_and (pe_or (pe_cmpR op_notN (pe_ix ix_tup (pv 0) pe_int (fun _ _ => rfl)) pe_non (nomark _)) (pe_one (pe_cmpR op_isN (pe_ix ix_tup (pv 1) pe_int (fun _ _ => rfl)) pe_non (nomark _)))) (pe_one (pe_or (pe_cmpR op_notN (pe_ix ix_tup (pv 0) pe_int (fun _ _ => rfl)) pe_non (nomark _)) (pe_one (pe_cmpR op_isN (pe_ix ix_tup (pv 1) pe_int (fun _ _ => rfl)) pe_non (nomark _))))))))))), ?_⟩
  change AS K _ [En.da _, En.da _, En.no, En.no, En.no] _ _
  try simp only [cxOf_K]
  show AS K _ _ _ fun d' _ => d' = fIn a b c d m r n s
  have hres : fIn a b c d m r n s = .bl (((wn a b m r).map fun x => decide (x ∈ wn c d n s)).all id && ((a.isSome || c.isNone) && (b.isSome || d.isNone))) := by
    unfold fIn
    congr 1
    rw [Bool.eq_iff_iff, ← inside_is k l, Bool.and_eq_true, Bool.and_eq_true, all_iff]
    cases a <;> cases b <;> cases c <;> cases d <;> simp
  rw [hres]
  generalize hF : ((wn a b m r).map fun x => decide (x ∈ wn c d n s)).all id = fine
  rcases a with _ | xa <;> rcases b with _ | xb <;> rcases c with _ | xc <;> rcases d with _ | xd
  ·
    repeat' (first
      | with_reducible apply ae_call
      | (refine ⟨_, ⟨none, none, m, r, rfl, rfl⟩, ?_⟩)
      | (refine ⟨_, ⟨none, none, n, s, rfl, rfl⟩, ?_⟩)
      | (with_reducible refine ae_lcMap (fB (wn none none n s)) ?_)
      | with_reducible apply ai_list
      | (refine ⟨_, rfl, (by rw [List.length_map, sizeLine_eq]; have := @wn_len none none m r; omega), fun d hd => ?_, ?_⟩)
      | (obtain ⟨x, hx, rfl⟩ := List.mem_map.mp hd)
      | ((with_reducible apply agv_name); · decide)
      | (refine ar_inI ?_)
      | exact ⟨rfl, rfl⟩
      | (rw [map_fB]; refine ac_all ?_; rw [hF])
      | with_reducible apply as_seq
      | with_reducible apply as_ret
      | with_reducible apply as_set
      | ((with_reducible apply ae_var); · rfl)
      | with_reducible apply ae_int
      | with_reducible apply ae_non
      | with_reducible apply ae_op
      | with_reducible apply aa_nil
      | with_reducible apply aa_cons
      | with_reducible apply ae_cb
      | with_reducible apply ae_andV
      | with_reducible apply ae_orV
      | with_reducible apply ar_isN
      | with_reducible apply ar_notN
      | ((with_reducible apply ar_ixT); · rfl)
      | refine ⟨_, rfl, ?_⟩
      | (refine ⟨fun hc => ?_, fun hc => ?_⟩ <;> (first | (exfalso; exact absurd (show false = true from hc) (by decide)) | (exfalso; exact absurd (show true = false from hc) (by decide)) | (exfalso; simp at hc; done) | skip))
      | simp only [oD_some, oD_none]
      | fail)
    all_goals (cases fine <;> first | rfl | (exfalso; exact absurd (by assumption) (by decide)) | simp_all)
  ·
    repeat' (first
      | with_reducible apply ae_call
      | (refine ⟨_, ⟨none, none, m, r, rfl, rfl⟩, ?_⟩)
      | (refine ⟨_, ⟨none, (some xd), n, s, rfl, rfl⟩, ?_⟩)
      | (with_reducible refine ae_lcMap (fB (wn none (some xd) n s)) ?_)
      | with_reducible apply ai_list
      | (refine ⟨_, rfl, (by rw [List.length_map, sizeLine_eq]; have := @wn_len none none m r; omega), fun d hd => ?_, ?_⟩)
      | (obtain ⟨x, hx, rfl⟩ := List.mem_map.mp hd)
      | ((with_reducible apply agv_name); · decide)
      | (refine ar_inI ?_)
      | exact ⟨rfl, rfl⟩
      | (rw [map_fB]; refine ac_all ?_; rw [hF])
      | with_reducible apply as_seq
      | with_reducible apply as_ret
      | with_reducible apply as_set
      | ((with_reducible apply ae_var); · rfl)
      | with_reducible apply ae_int
      | with_reducible apply ae_non
      | with_reducible apply ae_op
      | with_reducible apply aa_nil
      | with_reducible apply aa_cons
      | with_reducible apply ae_cb
      | with_reducible apply ae_andV
      | with_reducible apply ae_orV
      | with_reducible apply ar_isN
      | with_reducible apply ar_notN
      | ((with_reducible apply ar_ixT); · rfl)
      | refine ⟨_, rfl, ?_⟩
      | (refine ⟨fun hc => ?_, fun hc => ?_⟩ <;> (first | (exfalso; exact absurd (show false = true from hc) (by decide)) | (exfalso; exact absurd (show true = false from hc) (by decide)) | (exfalso; simp at hc; done) | skip))
      | simp only [oD_some, oD_none]
      | fail)
    all_goals (cases fine <;> first | rfl | (exfalso; exact absurd (by assumption) (by decide)) | simp_all)
  ·
    repeat' (first
      | with_reducible apply ae_call
      | (refine ⟨_, ⟨none, none, m, r, rfl, rfl⟩, ?_⟩)
      | (refine ⟨_, ⟨(some xc), none, n, s, rfl, rfl⟩, ?_⟩)
      | (with_reducible refine ae_lcMap (fB (wn (some xc) none n s)) ?_)
      | with_reducible apply ai_list
      | (refine ⟨_, rfl, (by rw [List.length_map, sizeLine_eq]; have := @wn_len none none m r; omega), fun d hd => ?_, ?_⟩)
      | (obtain ⟨x, hx, rfl⟩ := List.mem_map.mp hd)
      | ((with_reducible apply agv_name); · decide)
      | (refine ar_inI ?_)
      | exact ⟨rfl, rfl⟩
      | (rw [map_fB]; refine ac_all ?_; rw [hF])
      | with_reducible apply as_seq
      | with_reducible apply as_ret
      | with_reducible apply as_set
      | ((with_reducible apply ae_var); · rfl)
      | with_reducible apply ae_int
      | with_reducible apply ae_non
      | with_reducible apply ae_op
      | with_reducible apply aa_nil
      | with_reducible apply aa_cons
      | with_reducible apply ae_cb
      | with_reducible apply ae_andV
      | with_reducible apply ae_orV
      | with_reducible apply ar_isN
      | with_reducible apply ar_notN
      | ((with_reducible apply ar_ixT); · rfl)
      | refine ⟨_, rfl, ?_⟩
      | (refine ⟨fun hc => ?_, fun hc => ?_⟩ <;> (first | (exfalso; exact absurd (show false = true from hc) (by decide)) | (exfalso; exact absurd (show true = false from hc) (by decide)) | (exfalso; simp at hc; done) | skip))
      | fail)
    all_goals (cases fine <;> first | rfl | (exfalso; exact absurd (by assumption) (by decide)) | simp_all)
  ·
    repeat' (first
      | with_reducible apply ae_call
      | (refine ⟨_, ⟨none, none, m, r, rfl, rfl⟩, ?_⟩)
      | (refine ⟨_, ⟨(some xc), (some xd), n, s, rfl, rfl⟩, ?_⟩)
      | (with_reducible refine ae_lcMap (fB (wn (some xc) (some xd) n s)) ?_)
      | with_reducible apply ai_list
      | (refine ⟨_, rfl, (by rw [List.length_map, sizeLine_eq]; have := @wn_len none none m r; omega), fun d hd => ?_, ?_⟩)
      | (obtain ⟨x, hx, rfl⟩ := List.mem_map.mp hd)
      | ((with_reducible apply agv_name); · decide)
      | (refine ar_inI ?_)
      | exact ⟨rfl, rfl⟩
      | (rw [map_fB]; refine ac_all ?_; rw [hF])
      | with_reducible apply as_seq
      | with_reducible apply as_ret
      | with_reducible apply as_set
      | ((with_reducible apply ae_var); · rfl)
      | with_reducible apply ae_int
      | with_reducible apply ae_non
      | with_reducible apply ae_op
      | with_reducible apply aa_nil
      | with_reducible apply aa_cons
      | with_reducible apply ae_cb
      | with_reducible apply ae_andV
      | with_reducible apply ae_orV
      | with_reducible apply ar_isN
      | with_reducible apply ar_notN
      | ((with_reducible apply ar_ixT); · rfl)
      | refine ⟨_, rfl, ?_⟩
      | (refine ⟨fun hc => ?_, fun hc => ?_⟩ <;> (first | (exfalso; exact absurd (show false = true from hc) (by decide)) | (exfalso; exact absurd (show true = false from hc) (by decide)) | (exfalso; simp at hc; done) | skip))
      | fail)
    all_goals (cases fine <;> first | rfl | (exfalso; exact absurd (by assumption) (by decide)) | simp_all)
  ·
    repeat' (first
      | with_reducible apply ae_call
      | (refine ⟨_, ⟨none, (some xb), m, r, rfl, rfl⟩, ?_⟩)
      | (refine ⟨_, ⟨none, none, n, s, rfl, rfl⟩, ?_⟩)
      | (with_reducible refine ae_lcMap (fB (wn none none n s)) ?_)
      | with_reducible apply ai_list
      | (refine ⟨_, rfl, (by rw [List.length_map, sizeLine_eq]; have := @wn_len none (some xb) m r; omega), fun d hd => ?_, ?_⟩)
      | (obtain ⟨x, hx, rfl⟩ := List.mem_map.mp hd)
      | ((with_reducible apply agv_name); · decide)
      | (refine ar_inI ?_)
      | exact ⟨rfl, rfl⟩
      | (rw [map_fB]; refine ac_all ?_; rw [hF])
      | with_reducible apply as_seq
      | with_reducible apply as_ret
      | with_reducible apply as_set
      | ((with_reducible apply ae_var); · rfl)
      | with_reducible apply ae_int
      | with_reducible apply ae_non
      | with_reducible apply ae_op
      | with_reducible apply aa_nil
      | with_reducible apply aa_cons
      | with_reducible apply ae_cb
      | with_reducible apply ae_andV
      | with_reducible apply ae_orV
      | with_reducible apply ar_isN
      | with_reducible apply ar_notN
      | ((with_reducible apply ar_ixT); · rfl)
      | refine ⟨_, rfl, ?_⟩
      | (refine ⟨fun hc => ?_, fun hc => ?_⟩ <;> (first | (exfalso; exact absurd (show false = true from hc) (by decide)) | (exfalso; exact absurd (show true = false from hc) (by decide)) | (exfalso; simp at hc; done) | skip))
      | fail)
    all_goals (cases fine <;> first | rfl | (exfalso; exact absurd (by assumption) (by decide)) | simp_all)
  ·
    repeat' (first
      | with_reducible apply ae_call
      | (refine ⟨_, ⟨none, (some xb), m, r, rfl, rfl⟩, ?_⟩)
      | (refine ⟨_, ⟨none, (some xd), n, s, rfl, rfl⟩, ?_⟩)
      | (with_reducible refine ae_lcMap (fB (wn none (some xd) n s)) ?_)
      | with_reducible apply ai_list
      | (refine ⟨_, rfl, (by rw [List.length_map, sizeLine_eq]; have := @wn_len none (some xb) m r; omega), fun d hd => ?_, ?_⟩)
      | (obtain ⟨x, hx, rfl⟩ := List.mem_map.mp hd)
      | ((with_reducible apply agv_name); · decide)
      | (refine ar_inI ?_)
      | exact ⟨rfl, rfl⟩
      | (rw [map_fB]; refine ac_all ?_; rw [hF])
      | with_reducible apply as_seq
      | with_reducible apply as_ret
      | with_reducible apply as_set
      | ((with_reducible apply ae_var); · rfl)
      | with_reducible apply ae_int
      | with_reducible apply ae_non
      | with_reducible apply ae_op
      | with_reducible apply aa_nil
      | with_reducible apply aa_cons
      | with_reducible apply ae_cb
      | with_reducible apply ae_andV
      | with_reducible apply ae_orV
      | with_reducible apply ar_isN
      | with_reducible apply ar_notN
      | ((with_reducible apply ar_ixT); · rfl)
      | refine ⟨_, rfl, ?_⟩
      | (refine ⟨fun hc => ?_, fun hc => ?_⟩ <;> (first | (exfalso; exact absurd (show false = true from hc) (by decide)) | (exfalso; exact absurd (show true = false from hc) (by decide)) | (exfalso; simp at hc; done) | skip))
      | fail)
    all_goals (cases fine <;> first | rfl | (exfalso; exact absurd (by assumption) (by decide)) | simp_all)
  ·
    repeat' (first
      | with_reducible apply ae_call
      | (refine ⟨_, ⟨none, (some xb), m, r, rfl, rfl⟩, ?_⟩)
      | (refine ⟨_, ⟨(some xc), none, n, s, rfl, rfl⟩, ?_⟩)
      | (with_reducible refine ae_lcMap (fB (wn (some xc) none n s)) ?_)
      | with_reducible apply ai_list
      | (refine ⟨_, rfl, (by rw [List.length_map, sizeLine_eq]; have := @wn_len none (some xb) m r; omega), fun d hd => ?_, ?_⟩)
      | (obtain ⟨x, hx, rfl⟩ := List.mem_map.mp hd)
      | ((with_reducible apply agv_name); · decide)
      | (refine ar_inI ?_)
      | exact ⟨rfl, rfl⟩
      | (rw [map_fB]; refine ac_all ?_; rw [hF])
      | with_reducible apply as_seq
      | with_reducible apply as_ret
      | with_reducible apply as_set
      | ((with_reducible apply ae_var); · rfl)
      | with_reducible apply ae_int
      | with_reducible apply ae_non
      | with_reducible apply ae_op
      | with_reducible apply aa_nil
      | with_reducible apply aa_cons
      | with_reducible apply ae_cb
      | with_reducible apply ae_andV
      | with_reducible apply ae_orV
      | with_reducible apply ar_isN
      | with_reducible apply ar_notN
      | ((with_reducible apply ar_ixT); · rfl)
      | refine ⟨_, rfl, ?_⟩
      | (refine ⟨fun hc => ?_, fun hc => ?_⟩ <;> (first | (exfalso; exact absurd (show false = true from hc) (by decide)) | (exfalso; exact absurd (show true = false from hc) (by decide)) | (exfalso; simp at hc; done) | skip))
      | fail)
    all_goals (cases fine <;> first | rfl | (exfalso; exact absurd (by assumption) (by decide)) | simp_all)
  ·
    repeat' (first
      | with_reducible apply ae_call
      | (refine ⟨_, ⟨none, (some xb), m, r, rfl, rfl⟩, ?_⟩)
      | (refine ⟨_, ⟨(some xc), (some xd), n, s, rfl, rfl⟩, ?_⟩)
      | (with_reducible refine ae_lcMap (fB (wn (some xc) (some xd) n s)) ?_)
      | with_reducible apply ai_list
      | (refine ⟨_, rfl, (by rw [List.length_map, sizeLine_eq]; have := @wn_len none (some xb) m r; omega), fun d hd => ?_, ?_⟩)
      | (obtain ⟨x, hx, rfl⟩ := List.mem_map.mp hd)
      | ((with_reducible apply agv_name); · decide)
      | (refine ar_inI ?_)
      | exact ⟨rfl, rfl⟩
      | (rw [map_fB]; refine ac_all ?_; rw [hF])
      | with_reducible apply as_seq
      | with_reducible apply as_ret
      | with_reducible apply as_set
      | ((with_reducible apply ae_var); · rfl)
      | with_reducible apply ae_int
      | with_reducible apply ae_non
      | with_reducible apply ae_op
      | with_reducible apply aa_nil
      | with_reducible apply aa_cons
      | with_reducible apply ae_cb
      | with_reducible apply ae_andV
      | with_reducible apply ae_orV
      | with_reducible apply ar_isN
      | with_reducible apply ar_notN
      | ((with_reducible apply ar_ixT); · rfl)
      | refine ⟨_, rfl, ?_⟩
      | (refine ⟨fun hc => ?_, fun hc => ?_⟩ <;> (first | (exfalso; exact absurd (show false = true from hc) (by decide)) | (exfalso; exact absurd (show true = false from hc) (by decide)) | (exfalso; simp at hc; done) | skip))
      | fail)
    all_goals (cases fine <;> first | rfl | (exfalso; exact absurd (by assumption) (by decide)) | simp_all)
  ·
    repeat' (first
      | with_reducible apply ae_call
      | (refine ⟨_, ⟨(some xa), none, m, r, rfl, rfl⟩, ?_⟩)
      | (refine ⟨_, ⟨none, none, n, s, rfl, rfl⟩, ?_⟩)
      | (with_reducible refine ae_lcMap (fB (wn none none n s)) ?_)
      | with_reducible apply ai_list
      | (refine ⟨_, rfl, (by rw [List.length_map, sizeLine_eq]; have := @wn_len (some xa) none m r; omega), fun d hd => ?_, ?_⟩)
      | (obtain ⟨x, hx, rfl⟩ := List.mem_map.mp hd)
      | ((with_reducible apply agv_name); · decide)
      | (refine ar_inI ?_)
      | exact ⟨rfl, rfl⟩
      | (rw [map_fB]; refine ac_all ?_; rw [hF])
      | with_reducible apply as_seq
      | with_reducible apply as_ret
      | with_reducible apply as_set
      | ((with_reducible apply ae_var); · rfl)
      | with_reducible apply ae_int
      | with_reducible apply ae_non
      | with_reducible apply ae_op
      | with_reducible apply aa_nil
      | with_reducible apply aa_cons
      | with_reducible apply ae_cb
      | with_reducible apply ae_andV
      | with_reducible apply ae_orV
      | with_reducible apply ar_isN
      | with_reducible apply ar_notN
      | ((with_reducible apply ar_ixT); · rfl)
      | refine ⟨_, rfl, ?_⟩
      | (refine ⟨fun hc => ?_, fun hc => ?_⟩ <;> (first | (exfalso; exact absurd (show false = true from hc) (by decide)) | (exfalso; exact absurd (show true = false from hc) (by decide)) | (exfalso; simp at hc; done) | skip))
      | simp only [oD_some, oD_none]
      | fail)
    all_goals (cases fine <;> first | rfl | (exfalso; exact absurd (by assumption) (by decide)) | simp_all)
  ·
    repeat' (first
      | with_reducible apply ae_call
      | (refine ⟨_, ⟨(some xa), none, m, r, rfl, rfl⟩, ?_⟩)
      | (refine ⟨_, ⟨none, (some xd), n, s, rfl, rfl⟩, ?_⟩)
      | (with_reducible refine ae_lcMap (fB (wn none (some xd) n s)) ?_)
      | with_reducible apply ai_list
      | (refine ⟨_, rfl, (by rw [List.length_map, sizeLine_eq]; have := @wn_len (some xa) none m r; omega), fun d hd => ?_, ?_⟩)
      | (obtain ⟨x, hx, rfl⟩ := List.mem_map.mp hd)
      | ((with_reducible apply agv_name); · decide)
      | (refine ar_inI ?_)
      | exact ⟨rfl, rfl⟩
      | (rw [map_fB]; refine ac_all ?_; rw [hF])
      | with_reducible apply as_seq
      | with_reducible apply as_ret
      | with_reducible apply as_set
      | ((with_reducible apply ae_var); · rfl)
      | with_reducible apply ae_int
      | with_reducible apply ae_non
      | with_reducible apply ae_op
      | with_reducible apply aa_nil
      | with_reducible apply aa_cons
      | with_reducible apply ae_cb
      | with_reducible apply ae_andV
      | with_reducible apply ae_orV
      | with_reducible apply ar_isN
      | with_reducible apply ar_notN
      | ((with_reducible apply ar_ixT); · rfl)
      | refine ⟨_, rfl, ?_⟩
      | (refine ⟨fun hc => ?_, fun hc => ?_⟩ <;> (first | (exfalso; exact absurd (show false = true from hc) (by decide)) | (exfalso; exact absurd (show true = false from hc) (by decide)) | (exfalso; simp at hc; done) | skip))
      | simp only [oD_some, oD_none]
      | fail)
    all_goals (cases fine <;> first | rfl | (exfalso; exact absurd (by assumption) (by decide)) | simp_all)
  ·
    repeat' (first
      | with_reducible apply ae_call
      | (refine ⟨_, ⟨(some xa), none, m, r, rfl, rfl⟩, ?_⟩)
      | (refine ⟨_, ⟨(some xc), none, n, s, rfl, rfl⟩, ?_⟩)
      | (with_reducible refine ae_lcMap (fB (wn (some xc) none n s)) ?_)
      | with_reducible apply ai_list
      | (refine ⟨_, rfl, (by rw [List.length_map, sizeLine_eq]; have := @wn_len (some xa) none m r; omega), fun d hd => ?_, ?_⟩)
      | (obtain ⟨x, hx, rfl⟩ := List.mem_map.mp hd)
      | ((with_reducible apply agv_name); · decide)
      | (refine ar_inI ?_)
      | exact ⟨rfl, rfl⟩
      | (rw [map_fB]; refine ac_all ?_; rw [hF])
      | with_reducible apply as_seq
      | with_reducible apply as_ret
      | with_reducible apply as_set
      | ((with_reducible apply ae_var); · rfl)
      | with_reducible apply ae_int
      | with_reducible apply ae_non
      | with_reducible apply ae_op
      | with_reducible apply aa_nil
      | with_reducible apply aa_cons
      | with_reducible apply ae_cb
      | with_reducible apply ae_andV
      | with_reducible apply ae_orV
      | with_reducible apply ar_isN
      | with_reducible apply ar_notN
      | ((with_reducible apply ar_ixT); · rfl)
      | refine ⟨_, rfl, ?_⟩
      | (refine ⟨fun hc => ?_, fun hc => ?_⟩ <;> (first | (exfalso; exact absurd (show false = true from hc) (by decide)) | (exfalso; exact absurd (show true = false from hc) (by decide)) | (exfalso; simp at hc; done) | skip))
      | simp only [oD_some, oD_none]
      | fail)
    all_goals (cases fine <;> first | rfl | (exfalso; exact absurd (by assumption) (by decide)) | simp_all)
  ·
    repeat' (first
      | with_reducible apply ae_call
      | (refine ⟨_, ⟨(some xa), none, m, r, rfl, rfl⟩, ?_⟩)
      | (refine ⟨_, ⟨(some xc), (some xd), n, s, rfl, rfl⟩, ?_⟩)
      | (with_reducible refine ae_lcMap (fB (wn (some xc) (some xd) n s)) ?_)
      | with_reducible apply ai_list
      | (refine ⟨_, rfl, (by rw [List.length_map, sizeLine_eq]; have := @wn_len (some xa) none m r; omega), fun d hd => ?_, ?_⟩)
      | (obtain ⟨x, hx, rfl⟩ := List.mem_map.mp hd)
      | ((with_reducible apply agv_name); · decide)
      | (refine ar_inI ?_)
      | exact ⟨rfl, rfl⟩
      | (rw [map_fB]; refine ac_all ?_; rw [hF])
      | with_reducible apply as_seq
      | with_reducible apply as_ret
      | with_reducible apply as_set
      | ((with_reducible apply ae_var); · rfl)
      | with_reducible apply ae_int
      | with_reducible apply ae_non
      | with_reducible apply ae_op
      | with_reducible apply aa_nil
      | with_reducible apply aa_cons
      | with_reducible apply ae_cb
      | with_reducible apply ae_andV
      | with_reducible apply ae_orV
      | with_reducible apply ar_isN
      | with_reducible apply ar_notN
      | ((with_reducible apply ar_ixT); · rfl)
      | refine ⟨_, rfl, ?_⟩
      | (refine ⟨fun hc => ?_, fun hc => ?_⟩ <;> (first | (exfalso; exact absurd (show false = true from hc) (by decide)) | (exfalso; exact absurd (show true = false from hc) (by decide)) | (exfalso; simp at hc; done) | skip))
      | simp only [oD_some, oD_none]
      | fail)
    all_goals (cases fine <;> first | rfl | (exfalso; exact absurd (by assumption) (by decide)) | simp_all)
  ·
    repeat' (first
      | with_reducible apply ae_call
      | (refine ⟨_, ⟨(some xa), (some xb), m, r, rfl, rfl⟩, ?_⟩)
      | (refine ⟨_, ⟨none, none, n, s, rfl, rfl⟩, ?_⟩)
      | (with_reducible refine ae_lcMap (fB (wn none none n s)) ?_)
      | with_reducible apply ai_list
      | (refine ⟨_, rfl, (by rw [List.length_map, sizeLine_eq]; have := @wn_len (some xa) (some xb) m r; omega), fun d hd => ?_, ?_⟩)
      | (obtain ⟨x, hx, rfl⟩ := List.mem_map.mp hd)
      | ((with_reducible apply agv_name); · decide)
      | (refine ar_inI ?_)
      | exact ⟨rfl, rfl⟩
      | (rw [map_fB]; refine ac_all ?_; rw [hF])
      | with_reducible apply as_seq
      | with_reducible apply as_ret
      | with_reducible apply as_set
      | ((with_reducible apply ae_var); · rfl)
      | with_reducible apply ae_int
      | with_reducible apply ae_non
      | with_reducible apply ae_op
      | with_reducible apply aa_nil
      | with_reducible apply aa_cons
      | with_reducible apply ae_cb
      | with_reducible apply ae_andV
      | with_reducible apply ae_orV
      | with_reducible apply ar_notN
      | ((with_reducible apply ar_ixT); · rfl)
      | refine ⟨_, rfl, ?_⟩
      | (refine ⟨fun hc => ?_, fun hc => ?_⟩ <;> (first | (exfalso; exact absurd (show false = true from hc) (by decide)) | (exfalso; exact absurd (show true = false from hc) (by decide)) | (exfalso; simp at hc; done) | skip))
      | fail)
    all_goals (cases fine <;> first | rfl | (exfalso; exact absurd (by assumption) (by decide)) | simp_all)
  ·
    repeat' (first
      | with_reducible apply ae_call
      | (refine ⟨_, ⟨(some xa), (some xb), m, r, rfl, rfl⟩, ?_⟩)
      | (refine ⟨_, ⟨none, (some xd), n, s, rfl, rfl⟩, ?_⟩)
      | (with_reducible refine ae_lcMap (fB (wn none (some xd) n s)) ?_)
      | with_reducible apply ai_list
      | (refine ⟨_, rfl, (by rw [List.length_map, sizeLine_eq]; have := @wn_len (some xa) (some xb) m r; omega), fun d hd => ?_, ?_⟩)
      | (obtain ⟨x, hx, rfl⟩ := List.mem_map.mp hd)
      | ((with_reducible apply agv_name); · decide)
      | (refine ar_inI ?_)
      | exact ⟨rfl, rfl⟩
      | (rw [map_fB]; refine ac_all ?_; rw [hF])
      | with_reducible apply as_seq
      | with_reducible apply as_ret
      | with_reducible apply as_set
      | ((with_reducible apply ae_var); · rfl)
      | with_reducible apply ae_int
      | with_reducible apply ae_non
      | with_reducible apply ae_op
      | with_reducible apply aa_nil
      | with_reducible apply aa_cons
      | with_reducible apply ae_cb
      | with_reducible apply ae_andV
      | with_reducible apply ae_orV
      | with_reducible apply ar_notN
      | ((with_reducible apply ar_ixT); · rfl)
      | refine ⟨_, rfl, ?_⟩
      | (refine ⟨fun hc => ?_, fun hc => ?_⟩ <;> (first | (exfalso; exact absurd (show false = true from hc) (by decide)) | (exfalso; exact absurd (show true = false from hc) (by decide)) | (exfalso; simp at hc; done) | skip))
      | fail)
    all_goals (cases fine <;> first | rfl | (exfalso; exact absurd (by assumption) (by decide)) | simp_all)
  ·
    repeat' (first
      | with_reducible apply ae_call
      | (refine ⟨_, ⟨(some xa), (some xb), m, r, rfl, rfl⟩, ?_⟩)
      | (refine ⟨_, ⟨(some xc), none, n, s, rfl, rfl⟩, ?_⟩)
      | (with_reducible refine ae_lcMap (fB (wn (some xc) none n s)) ?_)
      | with_reducible apply ai_list
      | (refine ⟨_, rfl, (by rw [List.length_map, sizeLine_eq]; have := @wn_len (some xa) (some xb) m r; omega), fun d hd => ?_, ?_⟩)
      | (obtain ⟨x, hx, rfl⟩ := List.mem_map.mp hd)
      | ((with_reducible apply agv_name); · decide)
      | (refine ar_inI ?_)
      | exact ⟨rfl, rfl⟩
      | (rw [map_fB]; refine ac_all ?_; rw [hF])
      | with_reducible apply as_seq
      | with_reducible apply as_ret
      | with_reducible apply as_set
      | ((with_reducible apply ae_var); · rfl)
      | with_reducible apply ae_int
      | with_reducible apply ae_non
      | with_reducible apply ae_op
      | with_reducible apply aa_nil
      | with_reducible apply aa_cons
      | with_reducible apply ae_cb
      | with_reducible apply ae_andV
      | with_reducible apply ae_orV
      | with_reducible apply ar_notN
      | ((with_reducible apply ar_ixT); · rfl)
      | refine ⟨_, rfl, ?_⟩
      | (refine ⟨fun hc => ?_, fun hc => ?_⟩ <;> (first | (exfalso; exact absurd (show false = true from hc) (by decide)) | (exfalso; exact absurd (show true = false from hc) (by decide)) | (exfalso; simp at hc; done) | skip))
      | fail)
    all_goals (cases fine <;> first | rfl | (exfalso; exact absurd (by assumption) (by decide)) | simp_all)
  ·
    repeat' (first
      | with_reducible apply ae_call
      | (refine ⟨_, ⟨(some xa), (some xb), m, r, rfl, rfl⟩, ?_⟩)
      | (refine ⟨_, ⟨(some xc), (some xd), n, s, rfl, rfl⟩, ?_⟩)
      | (with_reducible refine ae_lcMap (fB (wn (some xc) (some xd) n s)) ?_)
      | with_reducible apply ai_list
      | (refine ⟨_, rfl, (by rw [List.length_map, sizeLine_eq]; have := @wn_len (some xa) (some xb) m r; omega), fun d hd => ?_, ?_⟩)
      | (obtain ⟨x, hx, rfl⟩ := List.mem_map.mp hd)
      | ((with_reducible apply agv_name); · decide)
      | (refine ar_inI ?_)
      | exact ⟨rfl, rfl⟩
      | (rw [map_fB]; refine ac_all ?_; rw [hF])
      | with_reducible apply as_seq
      | with_reducible apply as_ret
      | with_reducible apply as_set
      | ((with_reducible apply ae_var); · rfl)
      | with_reducible apply ae_int
      | with_reducible apply ae_non
      | with_reducible apply ae_op
      | with_reducible apply aa_nil
      | with_reducible apply aa_cons
      | with_reducible apply ae_cb
      | with_reducible apply ae_andV
      | with_reducible apply ae_orV
      | with_reducible apply ar_notN
      | ((with_reducible apply ar_ixT); · rfl)
      | refine ⟨_, rfl, ?_⟩
      | (refine ⟨fun hc => ?_, fun hc => ?_⟩ <;> (first | (exfalso; exact absurd (show false = true from hc) (by decide)) | (exfalso; exact absurd (show true = false from hc) (by decide)) | (exfalso; simp at hc; done) | skip))
      | fail)
    all_goals (cases fine <;> first | rfl | (exfalso; exact absurd (by assumption) (by decide)) | simp_all)
end
end Sh
set_option Elab.async false
set_option linter.all false
set_option maxRecDepth 100000
set_option maxHeartbeats 4000000
namespace Sh
open PySem PySem.Spec PyProof.Rows L2
theorem off_snoc {ns : List Int} {x x0 : Int} : off (ns ++ [x]) x0 = off ns x0 ++ [x - x0] := by unfold off; rw [List.map_append]; rfl
section
variable {P : Program} {w : World} {K : PySem.W.Frag} {mg : Str → Option Value} {base : Heap}
theorem ok_l_least (bl : Blts mg) {g_l_window : Addr} {d_l_window : FuncData} (c_l_window : Cal P w K mg base 1 "_law_window" p_l_window (spP K S_win) g_l_window d_l_window)  {f : Addr} {fd : FuncData} (F : Fun K "_law_least" "_law_least" s_l_least f fd) : FnOk P w K mg base CX0 2 f fd p_l_least (spP K (S2v fLe)) := by
  refine okP F sc_l_least (fun ds r h => ?_) (fun cdv A outer s H E hr ds r h => ?_)
  · obtain ⟨a, b, c, d, m, r, n, s, rfl, k, l, rfl⟩ := h
    rfl
  obtain ⟨a, b, c, d, m, r, n, s, rfl, k, l, rfl⟩ := h
  refine ⟨_, (pss_cons (ps_par (i := 5) (j := 6) (by rfl) sc_l_least.nd rfl rfl (by decide) rfl rfl (pa_cons (pe_callB (cr_sortedSetB rfl) rfl bl.sorted (by decide +kernel) (pa_cons (pe_callTy (cr_setI rfl) rfl bl.set (by decide +kernel) (pa_cons (pe_op op_cat (pe_call c_l_window.ok (hr.mono (by decide)) rfl c_l_window.mg c_l_window.kp c_l_window.bi .nil pass0 (pa_cons (pv 0) pa_nil)) (pe_call c_l_window.ok (hr.mono (by decide)) rfl c_l_window.mg c_l_window.kp c_l_window.bi .nil pass0 (pa_cons (pv 1) pa_nil))) pa_nil)) pa_nil)) (pa_cons pe_int pa_nil)) (by rfl))
    (pss_cons (ps_for PassesOwn.never rfl (pi_list (pv 5)) (pg_name (i := 2) sc_l_least.nd rfl (by first | exact Or.inl rfl | exact Or.inr rfl)) (pss_cons (ps_par (i := 6) (j := 7) (by rfl) sc_l_least.nd rfl rfl (by decide) rfl rfl (pa_cons (pe_op op_sub (pv 2) (pe_ix ix_list (pv 5) pe_int (fun _ _ => rfl))) (pa_cons (pv 6) pa_nil)) (by rfl))
    (pss_one (ps_while PassesOwn.never (pt_cmpR op_gt (pv 7) pe_int (nomark _)) (pss_one (ps_par (i := 6) (j := 7) (by rfl) sc_l_least.nd rfl rfl (by decide) rfl rfl (pa_cons (pv 7) (pa_cons (pe_op op_modN (pv 6) (pv 7)) pa_nil)) (by rfl)))))))
    (pss_cons (ps_set (i := 3) sc_l_least.nd rfl (by first | exact Or.inl rfl | exact Or.inr rfl) (pe_ifExp (PW.pt (pw_or (pt_cmpR op_isN (pe_ix ix_tup (pv 0) pe_int (fun _ _ => rfl)) pe_non (nomark _)) (pw_or1 (pt_cmpR op_isN (pe_ix ix_tup (pv 1) pe_int (fun _ _ => rfl)) pe_non (nomark _))))) pe_non (pe_ix ix_list (pv 5) pe_int (fun _ _ => rfl))))
    (pss_cons (ps_set (i := 4) sc_l_least.nd rfl (by first | exact Or.inl rfl | exact Or.inr rfl) (pe_ifExp (PW.pt (pw_or (pt_cmpR op_isN (pe_ix ix_tup (pv 0) pe_int (fun _ _ => rfl)) pe_non (nomark _)) (pw_or1 (pt_cmpR op_isN (pe_ix ix_tup (pv 1) pe_int (fun _ _ => rfl)) pe_non (nomark _))))) pe_non (pe_ix ix_list (pv 5) (pe_un un_neg pe_int) (fun _ _ => rfl))))
    (pss_one (ps_ret (pe_tup (pa_cons (pv 3) (pa_cons (pv 4) (pa_cons (pv 6) (pa_cons (pe_ifExp (pt_cmpR op_gt (pv 6) pe_int (nomark _)) (pe_op op_modN (pe_ix ix_list (pv 5) pe_int (fun _ _ => rfl)) (pv 6)) (pe_ix ix_list (pv 5) pe_int (fun _ _ => rfl))) pa_nil))))))))))), ?_⟩
  change AS K _ [En.da _, En.da _, En.no, En.no, En.no, En.no, En.no, En.no] _ _
  try simp only [cxOf_K]
  repeat' (first
    | with_reducible apply ae_call
    | (refine ⟨_, ⟨a, b, m, r, rfl, rfl⟩, ?_⟩)
    | (refine ⟨_, ⟨c, d, n, s, rfl, rfl⟩, ?_⟩)
    | with_reducible apply ae_sortedSetB
    | (refine ar_catL (by rw [List.length_map, List.length_map, sizeLine_eq]; have := @wn_len a b m r; have := @wn_len c d n s; omega) ?_)
    | (refine ⟨_, by rw [← List.map_append], (by rw [List.length_append]; have := @wn_len a b m r; have := @wn_len c d n s; omega), fun ms pw mem hl => ?_⟩)
    | with_reducible apply as_seq
    | with_reducible apply as_par
    | ((with_reducible apply ae_var); · rfl)
    | with_reducible apply ae_int
    | with_reducible apply ae_op
    | with_reducible apply aa_nil
    | with_reducible apply aa_cons
    | refine ⟨_, _, rfl, ?_⟩
    | fail)
  obtain ⟨x0, t, z, e, el, evq⟩ := least_is k l pw (fun x => (mem x).trans List.mem_append)
  rw [show fLe a b c d m r n s = _ from evq.symm]
  subst e
  refine as_for ?_
  refine ai_list ?_
  repeat' (first
    | ((with_reducible apply ae_var); · rfl)
    | refine ⟨_, rfl, ?_⟩
    | fail)
  refine ⟨fun i ρ => ∃ e2 e3 e4 e7 : En, ρ = [.da (vD a b m r), .da (vD c d n s), e2, e3, e4, .da (.lst ((x0 :: t).map Dt.int)), .da (.int (dL (off ((x0 :: t).take i) x0))), e7], ⟨_, _, _, _, rfl⟩, ?_, ?_⟩
  · rintro i dd ρ hi ⟨e2, e3, e4, e7, rfl⟩
    rw [List.getElem?_map] at hi
    obtain ⟨x, hx, rfl⟩ := Option.map_eq_some_iff.mp hi
    have htk : (x0 :: t).take (i + 1) = (x0 :: t).take i ++ [x] := by rw [List.take_add_one, hx]; rfl
    have hge := first_le pw (List.mem_of_getElem? hx)
    have gn := dL_nn (off ((x0 :: t).take i) x0)
    refine ag_name ?_
    refine as_seq ?_
    repeat' (first
      | (refine ar_ixL at0 ?_)
      | with_reducible apply as_par
      | ((with_reducible apply ae_var); · rfl)
      | with_reducible apply ae_int
      | with_reducible apply ae_op
      | with_reducible apply aa_nil
      | with_reducible apply aa_cons
      | with_reducible apply ar_I0i
      | refine ⟨_, _, rfl, ?_⟩
      | simp only [oD_some, oD_none]
      | fail)
    refine as_while ⟨fun kk ρ => ∃ (f g : Int) (e3 e4 : En), kk = g.toNat ∧ 0 ≤ f ∧ 0 ≤ g ∧ g2 f g = g2 (x - x0) (dL (off ((x0 :: t).take i) x0)) ∧ ρ = [.da (vD a b m r), .da (vD c d n s), .da (.int x), e3, e4, .da (.lst ((x0 :: t).map Dt.int)), .da (.int f), .da (.int g)], ⟨_, x - x0, dL (off ((x0 :: t).take i) x0), _, _, rfl, by omega, gn, rfl, rfl⟩, ?_⟩
    rintro kk ρ ⟨f', g, e3, e4, rfl, f0, g0, he, rfl⟩
    by_cases hg : 0 < g
    · have hd : decide (0 < g) = true := decide_eq_true hg
      have fl := fm_lt (x := f') hg
      repeat' (first
        | (refine ⟨_, rfl, ?_⟩; rw [hd]; refine ⟨fun hc => ?_, fun hc => (nomatch hc)⟩)
        | refine ar_Ii (C := fun _ j => j ≠ 0) (by first | assumption | omega) ?_
        | exact ⟨(f'.fmod g).toNat, by omega, g, f'.fmod g, _, _, rfl, g0, fl.1, (g2_step f0 hg).trans he, rfl⟩
        | with_reducible apply as_par
        | ((with_reducible apply ae_var); · rfl)
        | with_reducible apply ae_int
        | with_reducible apply ae_op
        | with_reducible apply aa_nil
        | with_reducible apply aa_cons
        | with_reducible apply at_test
        | with_reducible apply ar_I0b
        | refine ⟨_, _, rfl, ?_⟩
        | fail)
    · have hd : decide (0 < g) = false := decide_eq_false hg
      obtain rfl : g = 0 := by omega
      rw [g2_zero f0] at he
      subst he
      repeat' (first
        | (refine ⟨_, rfl, ?_⟩; rw [hd]; refine ⟨fun hc => (nomatch hc), fun hc => ?_⟩)
        | ((show ∃ _ _ _ _ : En, _ = _); rw [htk, off_snoc, dL_snoc, g2_comm]; exact ⟨_, _, _, _, rfl⟩)
        | ((with_reducible apply ae_var); · rfl)
        | with_reducible apply ae_int
        | with_reducible apply ae_op
        | with_reducible apply at_test
        | with_reducible apply ar_I0b
        | fail)
  · rintro ρ ⟨e2, e3, e4, e7, rfl⟩
    rw [List.length_map, List.take_length]
    by_cases hs : 0 < dL (off (x0 :: t) x0)
    · have hd : decide (0 < dL (off (x0 :: t) x0)) = true := decide_eq_true hs
      rw [if_pos hs]
      clear k l mem evq
      rcases a with _ | xa <;> rcases b with _ | xb <;> rcases c with _ | xc <;> rcases d with _ | xd
      all_goals
        repeat' (first
          | (refine ⟨_, rfl, ?_⟩; rw [hd]; refine ⟨fun hc => ?_, fun hc => (nomatch hc)⟩)
          | (refine ar_ixL at0 ?_)
          | (refine ar_ixL (atl el) ?_)
          | refine ar_Ii (C := fun _ j => j ≠ 0) (by first | assumption | omega) ?_
          | with_reducible apply as_seq
          | with_reducible apply as_ret
          | with_reducible apply as_set
          | ((with_reducible apply ae_var); · rfl)
          | with_reducible apply ae_int
          | with_reducible apply ae_non
          | with_reducible apply ae_op
          | with_reducible apply ae_un
          | with_reducible apply aa_nil
          | with_reducible apply aa_cons
          | with_reducible apply ae_tup
          | with_reducible apply ae_if
          | with_reducible apply at_test
          | with_reducible apply at_or
          | with_reducible apply ar_I0b
          | with_reducible apply ar_isN
          | with_reducible apply au_Ui
          | ((with_reducible apply ar_ixT); · rfl)
          | refine ⟨sz60 (Nat.le_of_ble_eq_true rfl), ?_⟩
          | refine ⟨_, rfl, ?_⟩
          | (refine ⟨fun hc => ?_, fun hc => ?_⟩ <;> (first | (exfalso; exact absurd (show false = true from hc) (by decide)) | (exfalso; exact absurd (show true = false from hc) (by decide)) | (exfalso; simp at hc; done) | skip))
          | rfl
          | fail)
    · have hd : decide (0 < dL (off (x0 :: t) x0)) = false := decide_eq_false hs
      rw [if_neg hs]
      clear k l mem evq
      rcases a with _ | xa <;> rcases b with _ | xb <;> rcases c with _ | xc <;> rcases d with _ | xd
      all_goals
        repeat' (first
          | (refine ⟨_, rfl, ?_⟩; rw [hd]; refine ⟨fun hc => (nomatch hc), fun hc => ?_⟩)
          | (refine ar_ixL at0 ?_)
          | (refine ar_ixL (atl el) ?_)
          | with_reducible apply as_seq
          | with_reducible apply as_ret
          | with_reducible apply as_set
          | ((with_reducible apply ae_var); · rfl)
          | with_reducible apply ae_int
          | with_reducible apply ae_non
          | with_reducible apply ae_op
          | with_reducible apply ae_un
          | with_reducible apply aa_nil
          | with_reducible apply aa_cons
          | with_reducible apply ae_tup
          | with_reducible apply ae_if
          | with_reducible apply at_test
          | with_reducible apply at_or
          | with_reducible apply ar_I0b
          | with_reducible apply ar_isN
          | with_reducible apply au_Ui
          | ((with_reducible apply ar_ixT); · rfl)
          | refine ⟨sz60 (Nat.le_of_ble_eq_true rfl), ?_⟩
          | refine ⟨_, rfl, ?_⟩
          | (refine ⟨fun hc => ?_, fun hc => ?_⟩ <;> (first | (exfalso; exact absurd (show false = true from hc) (by decide)) | (exfalso; exact absurd (show true = false from hc) (by decide)) | (exfalso; simp at hc; done) | skip))
          | rfl
          | fail)
end
end Sh
set_option Elab.async false
set_option linter.all false
set_option maxRecDepth 100000
set_option maxHeartbeats 4000000
namespace Sh
open PySem PySem.Spec PyProof.Rows L2
abbrev s_l_pair_right : Stmt := topS 40
abbrev N_l_pair_right : List Str := ["_law_mine", "_law_its", "_law_told", "_law_named", "_law_due", "_law_soft", "_law_firm"]
abbrev p_l_pair_right : List Str := ["_law_mine", "_law_its"]
theorem sc_l_pair_right : FnScope N_l_pair_right p_l_pair_right (defScope s_l_pair_right) := ⟨rfl, rfl, rfl, by decide +kernel, rfl, by decide +kernel, by decide +kernel⟩
abbrev s_l_drawn : Stmt := topS 34
abbrev N_l_drawn : List Str := ["_law_box_here", "_law_size", "_law_bottom", "_law_upper"]
abbrev p_l_drawn : List Str := ["_law_box_here"]
theorem sc_l_drawn : FnScope N_l_drawn p_l_drawn (defScope s_l_drawn) := ⟨rfl, rfl, rfl, by decide +kernel, rfl, by decide +kernel, by decide +kernel⟩
def S_pr (ds : List Dt) (res : Dt) : Prop := ∃ a b c d, ∃ m r n s : Int, ds = [vD a b m r, vD c d n s] ∧ Vl a b m r ∧ Vl c d n s ∧ res = .bl true
theorem dep_oD {a : Option Int} : (oD a).dep = 1 := by cases a <;> rfl
theorem fit_oD {a : Option Int} : (oD a).fit = true := by cases a <;> rfl
theorem dep_v {x y : Option Int} {m r : Int} : (vD x y m r).dep ≤ 2 := by
  simp only [vD, Dt.dep, deps, dep_oD]; decide
theorem fit_v {x y : Option Int} {m r : Int} : (vD x y m r).fit = true := by
  simp [vD, Dt.fit, fits, fit_oD]
theorem vo_two {lo hi : Option Int} {m r : Int} : voD lo hi m r = .non ∨ ∃ x y p q, voD lo hi m r = vD x y p q := by
  unfold voD
  by_cases h0 : m = 0
  · rw [if_pos h0]
    split
    · exact .inr ⟨_, _, _, _, rfl⟩
    · exact .inl rfl
  · rw [if_neg h0]
    cases lo.map (upR r m) with
    | none => exact .inr ⟨none, _, _, _, rfl⟩
    | some x => cases hi.map (dnR r m) with
      | none => exact .inr ⟨some x, none, _, _, rfl⟩
      | some y =>
        dsimp only
        split
        · split
          · exact .inr ⟨_, _, _, _, rfl⟩
          · exact .inl rfl
        · exact .inr ⟨_, _, _, _, rfl⟩
theorem dep_vo {lo hi : Option Int} {m r : Int} : (voD lo hi m r).dep ≤ 2 ∧ (voD lo hi m r).fit = true := by
  rcases @vo_two lo hi m r with h | ⟨x, y, p, q, h⟩ <;> rw [h]
  · exact ⟨(Nat.le_of_ble_eq_true rfl : Dt.non.dep ≤ 2), rfl⟩
  · exact ⟨dep_v, fit_v⟩
theorem dep_vm {a b c d : Option Int} {m r n s : Int} : (vmD a b c d m r n s).dep ≤ 2 ∧ (vmD a b c d m r n s).fit = true := by
  unfold vmD
  cases spanM a b c d with
  | none => exact ⟨(Nat.le_of_ble_eq_true rfl : Dt.non.dep ≤ 2), rfl⟩
  | some p => cases meetO m r n s with
    | none => exact ⟨(Nat.le_of_ble_eq_true rfl : Dt.non.dep ≤ 2), rfl⟩
    | some q => exact dep_vo
abbrev TL3 (a b c d : Option Int) (m r n s : Int) : Dt := .lst [fLe a b c d m r n s, vmD a b c d m r n s, fIn a b c d m r n s]
theorem dep_T3 {a b c d : Option Int} {m r n s : Int} : (Dt.lst [TL3 a b c d m r n s, TL3 a b c d m r n s]).dep ≤ 8 := by
  have h1 := (@dep_vo (lowJ a c) (highJ b d) (restJ m r n s).1 (restJ m r n s).2).1
  have h2 := (@dep_vm a b c d m r n s).1
  have h1' : (fLe a b c d m r n s).dep ≤ 2 := h1
  have h3 : (fIn a b c d m r n s).dep = 1 := rfl
  simp only [Dt.dep, deps]; omega
theorem fit_T3 {a b c d : Option Int} {m r n s : Int} : (Dt.lst [TL3 a b c d m r n s, TL3 a b c d m r n s]).fit = true := by
  have h1 : (fLe a b c d m r n s).fit = true := (@dep_vo (lowJ a c) (highJ b d) (restJ m r n s).1 (restJ m r n s).2).2
  have h2 := (@dep_vm a b c d m r n s).2
  have h3 : (fIn a b c d m r n s).fit = true := rfl
  simp [Dt.fit, fits, h1, h2, h3]
def domD (ds : List Dt) : Prop := ds = []
def postD (ds : List Dt) (d : Dt) : Prop := ∃ lo hi m r, d = vD lo hi m r ∧ Raw lo hi m r
theorem of_b {v : Int} (v0 : 0 ≤ v) (v1 : v < 81) {d : Dt} (h : d ∈ [Dt.non, .int (v - 40)]) : ∃ o : Option Int, d = oD o ∧ ∀ x, o = some x → -40 ≤ x ∧ x ≤ 40 := by
  simp only [List.mem_cons, List.not_mem_nil, or_false] at h
  rcases h with rfl | rfl
  · exact ⟨none, rfl, fun x e => by cases e⟩
  · exact ⟨some _, rfl, fun x e => by cases e; omega⟩
theorem of_s {v : Int} (v0 : 0 ≤ v) (v1 : v < 8) {d : Dt} (h : d ∈ [Dt.int 0, .int 1, .int 2, .int (1 + v)]) : ∃ m : Int, d = .int m ∧ 0 ≤ m ∧ m ≤ 8 := by
  simp only [List.mem_cons, List.not_mem_nil, or_false] at h
  rcases h with rfl | rfl | rfl | rfl <;> exact ⟨_, rfl, by omega, by omega⟩
section
variable {P : Program} {w : World} {K : PySem.W.Frag} {mg : Str → Option Value} {base : Heap}
theorem ok_l_pair_right (bl : Blts mg) {g_l_same : Addr} {d_l_same : FuncData} (c_l_same : Cal P w K mg base 8 "_law_same" p_l_same (spP K (S_same 8)) g_l_same d_l_same) {g_value_join : Addr} {d_value_join : FuncData} (c_value_join : Cal P w K mg base 5 "value_join" p_value_join (spP K S_vj) g_value_join d_value_join) {g_value_meet : Addr} {d_value_meet : FuncData} (c_value_meet : Cal P w K mg base 5 "value_meet" p_value_meet (spP K S_vm) g_value_meet d_value_meet) {g_value_within : Addr} {d_value_within : FuncData} (c_value_within : Cal P w K mg base 3 "value_within" p_value_within (spP K S_vw) g_value_within d_value_within) (k_value_join : KB0 K d_value_join p_value_join ["other", "one"] List.reverse List.reverse) (k_value_meet : KB0 K d_value_meet p_value_meet ["other", "one"] List.reverse List.reverse) (k_value_within : KB0 K d_value_within p_value_within ["other", "one"] List.reverse List.reverse) {g_l_least : Addr} {d_l_least : FuncData} (c_l_least : Cal P w K mg base 2 "_law_least" p_l_least (spP K (S2v fLe)) g_l_least d_l_least) {g_l_met : Addr} {d_l_met : FuncData} (c_l_met : Cal P w K mg base 2 "_law_met" p_l_met (spP K (S2v vmD)) g_l_met d_l_met) {g_l_inside : Addr} {d_l_inside : FuncData} (c_l_inside : Cal P w K mg base 2 "_law_inside" p_l_inside (spP K (S2v fIn)) g_l_inside d_l_inside)  {f : Addr} {fd : FuncData} (F : Fun K "_law_pair_right" "_law_pair_right" s_l_pair_right f fd) : FnOk P w K mg base CX0 9 f fd p_l_pair_right (spP K (S_pr)) := by
  refine okP F sc_l_pair_right (fun ds r h => ?_) (fun cdv A outer s H E hr ds r h => ?_)
  · obtain ⟨a, b, c, d, m, r, n, s, rfl, k, l, rfl⟩ := h
    rfl
  obtain ⟨a, b, c, d, m, r, n, s, rfl, k, l, rfl⟩ := h
  refine ⟨_, (pss_cons (ps_set (i := 2) sc_l_pair_right.nd rfl (by first | exact Or.inl rfl | exact Or.inr rfl) (pe_lst (pa_cons (pe_call c_value_join.ok (hr.mono (by decide)) rfl c_value_join.mg c_value_join.kp c_value_join.bi .nil pass0 (pa_cons (pv 0) (pa_cons (pv 1) pa_nil))) (pa_cons (pe_call c_value_meet.ok (hr.mono (by decide)) rfl c_value_meet.mg c_value_meet.kp c_value_meet.bi .nil pass0 (pa_cons (pv 0) (pa_cons (pv 1) pa_nil))) (pa_cons (pe_call c_value_within.ok (hr.mono (by decide)) rfl c_value_within.mg c_value_within.kp c_value_within.bi .nil pass0 (pa_cons (pv 0) (pa_cons (pv 1) pa_nil))) pa_nil)))))
    (pss_cons (ps_par (i := 5) (j := 6) (by rfl) sc_l_pair_right.nd rfl rfl (by decide) rfl rfl (pa_cons (pe_callTy call_list_of rfl bl.list (by decide +kernel) (pa_cons (pv 0) pa_nil)) (pa_cons (pe_callTy call_list_of rfl bl.list (by decide +kernel) (pa_cons (pv 1) pa_nil)) pa_nil)) (by rfl))
    (pss_cons (ps_set (i := 3) sc_l_pair_right.nd rfl (by first | exact Or.inl rfl | exact Or.inr rfl) (pe_lst (pa_cons (pe_callK0 c_value_join.ok (hr.mono (by decide)) rfl c_value_join.mg c_value_join.kp k_value_join pass0 (pk_cons (pv 6) (pk_cons (pv 5) pk_nil))) (pa_cons (pe_callK0 c_value_meet.ok (hr.mono (by decide)) rfl c_value_meet.mg c_value_meet.kp k_value_meet pass0 (pk_cons (pv 6) (pk_cons (pv 5) pk_nil))) (pa_cons (pe_callK0 c_value_within.ok (hr.mono (by decide)) rfl c_value_within.mg c_value_within.kp k_value_within pass0 (pk_cons (pv 6) (pk_cons (pv 5) pk_nil))) pa_nil)))))
    (pss_cons (ps_set (i := 4) sc_l_pair_right.nd rfl (by first | exact Or.inl rfl | exact Or.inr rfl) (pe_lst (pa_cons (pe_call c_l_least.ok (hr.mono (by decide)) rfl c_l_least.mg c_l_least.kp c_l_least.bi .nil pass0 (pa_cons (pv 0) (pa_cons (pv 1) pa_nil))) (pa_cons (pe_call c_l_met.ok (hr.mono (by decide)) rfl c_l_met.mg c_l_met.kp c_l_met.bi .nil pass0 (pa_cons (pv 0) (pa_cons (pv 1) pa_nil))) (pa_cons (pe_call c_l_inside.ok (hr.mono (by decide)) rfl c_l_inside.mg c_l_inside.kp c_l_inside.bi .nil pass0 (pa_cons (pv 0) (pa_cons (pv 1) pa_nil))) pa_nil)))))
    (pss_one (ps_ret (pe_call c_l_same.ok (hr.mono (by decide)) rfl c_l_same.mg c_l_same.kp c_l_same.bi .nil pass0 (pa_cons (pe_lst (pa_cons (pv 2) (pa_cons (pv 3) pa_nil))) (pa_cons (pe_lst (pa_cons (pv 4) (pa_cons (pv 4) pa_nil))) pa_nil))))))))), ?_⟩
  change AS K _ [En.da _, En.da _, En.no, En.no, En.no, En.no, En.no] _ _
  try simp only [cxOf_K]
  repeat' (first
    | with_reducible apply ae_call
    | (with_reducible refine ae_callK List.reverse (fun r _ => RDs.rev r) ?_)
    | (refine ⟨fLe a b c d m r n s, ⟨true, true, a, b, c, d, m, r, n, s, rfl, rfl⟩, ?_⟩)
    | (refine ⟨_, ⟨true, true, a, b, c, d, m, r, n, s, rfl, k, l, rfl⟩, ?_⟩)
    | (refine ⟨fIn a b c d m r n s, ⟨true, true, a, b, c, d, m, r, n, s, rfl, rfl⟩, ?_⟩)
    | (refine ⟨rfl, fLe a b c d m r n s, ⟨false, false, a, b, c, d, m, r, n, s, rfl, rfl⟩, ?_⟩)
    | (refine ⟨rfl, _, ⟨false, false, a, b, c, d, m, r, n, s, rfl, k, l, rfl⟩, ?_⟩)
    | (refine ⟨rfl, fIn a b c d m r n s, ⟨false, false, a, b, c, d, m, r, n, s, rfl, rfl⟩, ?_⟩)
    | (refine ⟨_, ⟨a, b, c, d, m, r, n, s, rfl, k, l, rfl⟩, ?_⟩)
    | (refine ⟨.bl true, ⟨.lst [TL3 a b c d m r n s, TL3 a b c d m r n s], rfl, dep_T3, fit_T3, rfl⟩, ?_⟩)
    | with_reducible apply as_seq
    | with_reducible apply as_ret
    | with_reducible apply as_set
    | with_reducible apply as_par
    | ((with_reducible apply ae_var); · rfl)
    | with_reducible apply aa_nil
    | with_reducible apply aa_cons
    | with_reducible apply ae_cb
    | with_reducible apply ae_lst
    | with_reducible apply ac_listT
    | refine ⟨sz60 (Nat.le_of_ble_eq_true rfl), ?_⟩
    | refine ⟨_, _, rfl, ?_⟩
    | rfl
    | fail)
theorem ok_l_drawn (bl : Blts mg) {g_l_take : Addr} {d_l_take : FuncData} (c_l_take : Cal P w K mg base 2 "_law_take" p_l_take (spB K 1 domT postT) g_l_take d_l_take) {g_l_of : Addr} {d_l_of : FuncData} (c_l_of : Cal P w K mg base 3 "_law_of" p_l_of (spB K 1 domO postO) g_l_of d_l_of)  {f : Addr} {fd : FuncData} (F : Fun K "_law_drawn" "_law_drawn" s_l_drawn f fd) : FnOk P w K mg base CX0 4 f fd p_l_drawn (spB K 7 (domD) (postD)) := by
  refine okB F sc_l_drawn (fun ds h => ?_) (fun cdv A outer s H E hr ds h => ?_)
  · obtain ⟨rfl⟩ := h
    rfl
  obtain ⟨rfl⟩ := h
  refine ⟨_, (pss_cons (ps_par (i := 2) (j := 3) (by rfl) sc_l_drawn.nd rfl rfl (by decide) rfl rfl (pa_cons (pe_call c_l_of.ok (hr.mono (by decide)) rfl c_l_of.mg c_l_of.kp c_l_of.bi .nil pass0 (pa_cons (pv 0) (pa_cons (pe_lst (pa_cons pe_non (pa_cons (pe_op op_sub (pe_call c_l_take.ok (hr.mono (by decide)) rfl c_l_take.mg c_l_take.kp c_l_take.bi .nil pass0 (pa_cons (pv 0) (pa_cons pe_int pa_nil))) pe_int) pa_nil))) pa_nil))) (pa_cons (pe_call c_l_of.ok (hr.mono (by decide)) rfl c_l_of.mg c_l_of.kp c_l_of.bi .nil pass0 (pa_cons (pv 0) (pa_cons (pe_lst (pa_cons pe_non (pa_cons (pe_op op_sub (pe_call c_l_take.ok (hr.mono (by decide)) rfl c_l_take.mg c_l_take.kp c_l_take.bi .nil pass0 (pa_cons (pv 0) (pa_cons pe_int pa_nil))) pe_int) pa_nil))) pa_nil))) pa_nil)) (by rfl))
    (pss_cons (ps_if (PW.pt (pw_and (pt_cmpR op_notN (pv 2) pe_non (nomark _)) (pw_and (pt_cmpR op_notN (pv 3) pe_non (nomark _)) (pw_and1 (pt_cmpR op_gt (pv 2) (pv 3) (nomark _)))))) (pss_one (ps_par (i := 2) (j := 3) (by rfl) sc_l_drawn.nd rfl rfl (by decide) rfl rfl (pa_cons (pv 3) (pa_cons (pv 2) pa_nil)) (by rfl))) pss_nil)
    (pss_cons (ps_set (i := 1) sc_l_drawn.nd rfl (by first | exact Or.inl rfl | exact Or.inr rfl) (pe_call c_l_of.ok (hr.mono (by decide)) rfl c_l_of.mg c_l_of.kp c_l_of.bi .nil pass0 (pa_cons (pv 0) (pa_cons (pe_lst (pa_cons pe_int (pa_cons pe_int (pa_cons pe_int (pa_cons (pe_op op_add pe_int (pe_call c_l_take.ok (hr.mono (by decide)) rfl c_l_take.mg c_l_take.kp c_l_take.bi .nil pass0 (pa_cons (pv 0) (pa_cons pe_int pa_nil)))) pa_nil))))) pa_nil))))
    (pss_one (ps_ret (pe_tup (pa_cons (pv 2) (pa_cons (pv 3) (pa_cons (pv 1) (pa_cons (pe_ifExp (pt_cmpR op_eq (pv 1) pe_int (nomark _)) (pe_op op_sub (pe_call c_l_take.ok (hr.mono (by decide)) rfl c_l_take.mg c_l_take.kp c_l_take.bi .nil pass0 (pa_cons (pv 0) (pa_cons pe_int pa_nil))) pe_int) (pe_call c_l_take.ok (hr.mono (by decide)) rfl c_l_take.mg c_l_take.kp c_l_take.bi .nil pass0 (pa_cons (pv 0) (pa_cons (pv 1) pa_nil)))) pa_nil)))))))))), fun b F => ?_⟩
  change AS K _ [En.bx _ _, En.no, En.no, En.no] _ _
  try simp only [cxOf_K, cxOf_w]
  repeat' (first
    | ((with_reducible apply ae_take); · rfl)
    | ((with_reducible apply ae_ofL); · rfl)
    | refine ⟨_, rfl, by omega, by omega, _, rfl, fun v v0 v1 => ?_⟩
    | (refine ⟨_, rfl, Nat.le_of_ble_eq_true rfl, Nat.le_of_ble_eq_true rfl, _, rfl, fun d hd => ?_⟩; first | (have _g := hlo; obtain ⟨hi, rfl, hhi⟩ := of_b (by assumption) (by assumption) hd; rcases lo with _ | xl <;> rcases hi with _ | xh) | (obtain ⟨lo, rfl, hlo⟩ := of_b (by assumption) (by assumption) hd))
    | (refine ⟨_, rfl, Nat.le_of_ble_eq_true rfl, Nat.le_of_ble_eq_true rfl, _, rfl, fun d hd => ?_⟩; obtain ⟨sz, rfl, s0, s1⟩ := of_s (by assumption) (by assumption) hd; by_cases hz : sz = 0; subst hz; rotate_left; (have zs : decide (V.int sz = V.int 0) = false := decide_eq_false (fun z => hz (V.int.inj z))))
    | (refine ⟨_, rfl, ?_⟩; rw [zs]; refine ⟨fun hc => (nomatch hc), fun hc => ?_⟩)
    | exact ⟨⟨none, none, _, _, rfl, ⟨(fun x e => by first | (cases e; exact hlo _ rfl) | (cases e; exact hhi _ rfl) | (cases e; done)), (fun x e => by first | (cases e; exact hlo _ rfl) | (cases e; exact hhi _ rfl) | (cases e; done)), (by first | (left; exact ⟨rfl, by omega, by omega⟩) | (right; exact ⟨by omega, by omega, by omega, by omega⟩))⟩⟩, _, rfl, by omega⟩
    | exact ⟨⟨none, some xh, _, _, rfl, ⟨(fun x e => by first | (cases e; exact hlo _ rfl) | (cases e; exact hhi _ rfl) | (cases e; done)), (fun x e => by first | (cases e; exact hlo _ rfl) | (cases e; exact hhi _ rfl) | (cases e; done)), (by first | (left; exact ⟨rfl, by omega, by omega⟩) | (right; exact ⟨by omega, by omega, by omega, by omega⟩))⟩⟩, _, rfl, by omega⟩
    | exact ⟨⟨some xl, none, _, _, rfl, ⟨(fun x e => by first | (cases e; exact hlo _ rfl) | (cases e; exact hhi _ rfl) | (cases e; done)), (fun x e => by first | (cases e; exact hlo _ rfl) | (cases e; exact hhi _ rfl) | (cases e; done)), (by first | (left; exact ⟨rfl, by omega, by omega⟩) | (right; exact ⟨by omega, by omega, by omega, by omega⟩))⟩⟩, _, rfl, by omega⟩
    | exact ⟨⟨some xl, some xh, _, _, rfl, ⟨(fun x e => by first | (cases e; exact hlo _ rfl) | (cases e; exact hhi _ rfl) | (cases e; done)), (fun x e => by first | (cases e; exact hlo _ rfl) | (cases e; exact hhi _ rfl) | (cases e; done)), (by first | (left; exact ⟨rfl, by omega, by omega⟩) | (right; exact ⟨by omega, by omega, by omega, by omega⟩))⟩⟩, _, rfl, by omega⟩
    | exact ⟨⟨some xh, some xl, _, _, rfl, ⟨(fun x e => by first | (cases e; exact hlo _ rfl) | (cases e; exact hhi _ rfl) | (cases e; done)), (fun x e => by first | (cases e; exact hlo _ rfl) | (cases e; exact hhi _ rfl) | (cases e; done)), (by first | (left; exact ⟨rfl, by omega, by omega⟩) | (right; exact ⟨by omega, by omega, by omega, by omega⟩))⟩⟩, _, rfl, by omega⟩
    | with_reducible apply as_seq
    | with_reducible apply as_ret
    | with_reducible apply as_next
    | with_reducible apply as_if
    | with_reducible apply as_set
    | with_reducible apply as_par
    | ((with_reducible apply ae_var); · rfl)
    | with_reducible apply ae_int
    | with_reducible apply ae_non
    | with_reducible apply ae_op
    | with_reducible apply aa_nil
    | with_reducible apply aa_cons
    | with_reducible apply ae_tup
    | with_reducible apply ae_lst
    | with_reducible apply ae_if
    | with_reducible apply at_test
    | with_reducible apply at_and
    | with_reducible apply ar_I0i
    | with_reducible apply ar_I0b
    | with_reducible apply ar_notN
    | ((with_reducible apply ar_eq3); · exact ⟨rfl, rfl, rfl⟩)
    | refine ⟨sz60 (Nat.le_of_ble_eq_true rfl), ?_⟩
    | refine ⟨_, rfl, ?_⟩
    | refine ⟨_, _, rfl, ?_⟩
    | (refine ⟨fun hc => ?_, fun hc => ?_⟩ <;> (first | (exfalso; exact absurd (show false = true from hc) (by decide)) | (exfalso; exact absurd (show true = false from hc) (by decide)) | (exfalso; simp at hc; done) | skip))
    | simp only [oD_some, oD_none]
    | fail)
  all_goals trace_state
end
end Sh
set_option Elab.async false
set_option linter.all false
set_option maxRecDepth 100000
set_option maxHeartbeats 4000000
namespace Sh
open PySem PySem.Spec PyProof.Rows L2
/-! lists: * k, slices of ints; a tuple of the module; a conditional expression as a test -/
section
variable {K : PySem.W.Frag} {ρ : List En} {Ψ : Dt → List En → Prop} {Φ : Dt → Prop}
theorem ar_rep2 {d : Dt} (h : Φ (.lst [d, d])) : AR K rRep (.lst [d]) (.int 2) Φ := fun G H s x y r1 r2 Q q => by
  obtain ⟨a, xs, rfl, h1, h2⟩ := r1
  cases (show y = V.int 2 from r2)
  obtain ⟨z, r, rfl, h3, e⟩ := h2
  cases (show r = [] from e)
  refine ⟨a, 2, [z], rfl, rfl, s _ _ h1, by decide, by decide, (by show 1 * 2 ≤ sizeLine; rw [sizeLine_eq]; omega), fun p hp => ?_⟩
  have e : (List.replicate (2 : Int).toNat [z]).flatten = [z, z] := rfl
  rw [e]
  have n := Nw.new (o := .lst [z, z]) s hp
  exact q _ (.lst [d, d]) _ _ n ⟨p, _, rfl, upd_same, ⟨z, [z], rfl, h3.same n.g, z, [], rfl, h3.same n.g, rfl⟩⟩ h
theorem cut_ints {ns : List Int} {lo hi : Option Int} : ∃ ms : List Int, cutV (ns.map V.int) lo hi = ms.map V.int ∧ (∀ x, x ∈ ms → x ∈ ns) ∧ ms.length ≤ ns.length := by
  refine ⟨(ns.drop (HT.sIx (ns.map V.int).length 0 lo)).take (HT.sIx (ns.map V.int).length (ns.map V.int).length hi - HT.sIx (ns.map V.int).length 0 lo), ?_, fun x hx => List.mem_of_mem_drop (List.mem_of_mem_take hx), ?_⟩
  · unfold cutV
    rw [List.map_take, List.map_drop]
  · rw [List.length_take, List.length_drop]; omega
theorem rds_ints {G : Hp} : ∀ {zs : List Int}, RDs K G (zs.map Dt.int) (zs.map V.int)
  | [] => rfl
  | _ :: zs => ⟨_, _, rfl, rfl, rds_ints⟩
theorem ae_slL {lo hi : Option Int} {tl th : TO} {te : TE} (el : tl = (fun _ H Q => Q lo H)) (eh : th = (fun _ H Q => Q hi H))
    (h : AE K te ρ fun d ρ1 => ∃ ns : List Int, d = .lst (ns.map Dt.int) ∧ ∀ ms : List Int, (∀ x, x ∈ ms → x ∈ ns) → ms.length ≤ ns.length → Ψ (.lst (ms.map Dt.int)) ρ1) : AE K (tSl (rSlL K) te tl th) ρ Ψ := fun B σ G H m Q q => by
  subst el eh
  refine h B σ G H m _ fun v d ρ1 G1 H1 m1 s1 t1 r1 ⟨ns, ed, n⟩ => ?_
  subst ed
  obtain ⟨p, xs, rfl, hp, r⟩ := r1
  cases r.ints
  obtain ⟨ms, e, sub, len⟩ := @cut_ints ns lo hi
  refine ⟨p, _, rfl, SqL.of (m1.sub _ _ hp), fun p' hp' => ?_⟩
  rw [e]
  have nw := Nw.new (o := .lst (ms.map V.int)) m1.sub hp'
  exact q _ (.lst (ms.map Dt.int)) ρ1 _ _ (m1.nw nw) (s1.trans nw.g) (t1.trans (Tr.same nw.h)) ⟨p', _, rfl, upd_same, rds_ints⟩ (n ms sub len)
theorem part_neg {i : Int} : tPart (tUn (rU fun i => .int (-i)) (tC (.int i))) = (fun _ H Q => Q (some (-i)) H) := by
  funext σ H Q
  refine propext ⟨fun h => ?_, fun q => ?_⟩
  · obtain ⟨j, e, j2, e2, q⟩ := h
    cases e; cases e2; exact q
  · exact ⟨i, rfl, -i, rfl, q⟩
theorem ar_isBl {a b : Bool} (h : Φ (.bl (decide (a = b)))) : AR K rIsB (.bl a) (.bl b) Φ := fun G H s x y r1 r2 Q q => by
  cases (show x = V.bl a from r1)
  cases (show y = V.bl b from r2)
  exact ⟨a, b, rfl, rfl, q _ (.bl (decide (a = b))) G H (Nw.refl s) rfl h⟩
/-- a tuple of the module: data that stands for itself -/
def TupC (K : PySem.W.Frag) (a : Addr) (l : List Dt) : Prop := ∀ G, RD K G (.tup l) (.ref a)
theorem tupC_every {a : Addr} {oc : Option Addr} {n : Nat} {sl : Array (Option Value)} {t u : Tok} (h : K.lookup a = some ⟨.type "tuple", oc, .seq #[.none, .none, .int 1 t, .int 0 u] n, sl⟩) : TupC K a [.non, .non, .int 1, .int 0] := fun G =>
  ⟨a, [.non, .non, .int 1, .int 0], rfl, .inr ⟨_, _, _, h, rfl, rfl, (by rw [sizeLine_eq]; exact Nat.le_of_ble_eq_true rfl), .cons rfl (.cons rfl (.cons ⟨_, rfl⟩ (.cons ⟨_, rfl⟩ .nil)))⟩, ⟨_, _, rfl, rfl, _, _, rfl, rfl, _, _, rfl, rfl, _, _, rfl, rfl, rfl⟩⟩
theorem ae_tupC {a : Addr} {l : List Dt} (e : TupC K a l) (h : Ψ (.tup l) ρ) : AE K (tC (.ref a)) ρ Ψ := ae_c (.tup l) e h
end
end Sh
set_option Elab.async false
set_option linter.all false
set_option maxRecDepth 100000
set_option maxHeartbeats 4000000
namespace Sh
open PySem PySem.Spec PyProof.Rows L2
abbrev s_l_right : Stmt := topS 41
abbrev N_l_right : List Str := ["_law_box_here", "_law_told", "_law_seen", "_law_near", "_law_some", "_law_others", "_law_mine", "_law_its", "_law_spot", "_law_turn"]
abbrev p_l_right : List Str := ["_law_box_here"]
theorem sc_l_right : FnScope N_l_right p_l_right (defScope s_l_right) := ⟨rfl, rfl, rfl, by decide +kernel, rfl, by decide +kernel, by decide +kernel⟩
def domR (ds : List Dt) : Prop := ds = []
def postR (ds : List Dt) (d : Dt) : Prop := d = .bl true
theorem raw_two {lo hi : Option Int} {m r : Int} (k : Raw lo hi m r) : voD lo hi m r = .non ∨ ∃ a b p q, voD lo hi m r = vD a b p q ∧ Vl a b p q ∧ ∀ x, (-160 ≤ x ∧ x ≤ 160) → (letsB a b x && hasB p q x) = decide (x ∈ wn lo hi m r) := by
  rcases raw_is k with ⟨_, h⟩ | ⟨v, e, kv, h⟩ | ⟨v, u, t, z, e, el, e1, hm, kv, h⟩
  · exact .inl h
  · refine .inr ⟨_, _, _, _, h, kv, fun x hx => ?_⟩
    rw [e, Bool.eq_iff_iff, Bool.and_eq_true, decide_eq_true_eq, List.mem_singleton]
    constructor
    · rintro ⟨_, h2⟩
      exact of_decide_eq_true h2
    · rintro rfl
      exact ⟨lets_of (fun y e => by cases e; exact Int.le_refl _) (fun y e => by cases e; exact Int.le_refl _), decide_eq_true rfl⟩
  · refine .inr ⟨_, _, _, _, h, kv, fun x hx => ?_⟩
    obtain ⟨_, _, r0, r1⟩ : 1 ≤ m ∧ m ≤ 8 ∧ 0 ≤ r ∧ r < m := by rcases k.m with ⟨h0, _⟩ | h0; omega; exact h0
    have pw := @wn_pw lo hi m r
    have hv : v ∈ wn lo hi m r := by rw [e]; exact List.mem_cons_self ..
    have hz := last_in el
    have hb : hasB m r x = true ↔ x.fmod m = r := by unfold hasB; rw [if_neg (by omega), decide_eq_true_eq]
    rw [Bool.eq_iff_iff, Bool.and_eq_true, decide_eq_true_eq, hb]
    constructor
    · rintro ⟨h1, h2⟩
      obtain ⟨q1, q2⟩ := lets_lo h1
      refine wn_mem.mpr ⟨hx, lets_of (fun y ey => ?_) (fun y ey => ?_), (inRm hm r0 r1).mpr h2⟩
      · subst ey
        have := (lets_lo (wn_mem.mp hv).2.1).1 y rfl
        have := q1 v rfl
        omega
      · subst ey
        have := (lets_lo (wn_mem.mp hz).2.1).2 y rfl
        have := q2 z rfl
        omega
    · intro h1
      refine ⟨lets_of (fun y ey => ?_) (fun y ey => ?_), (inRm hm r0 r1).mp (wn_mem.mp h1).2.2⟩
      · obtain ⟨_, _, rfl⟩ := Option.map_eq_some_iff.mp ey
        rw [e] at pw h1
        exact first_le pw h1
      · obtain ⟨_, _, rfl⟩ := Option.map_eq_some_iff.mp ey
        exact last_max pw el x h1
abbrev LT (X : Dt) (n : Int) : Dt := .lst [X, X, .tup [.int n, .int n, .int 0, .int n], .tup [.int n, .int n, .int 0, .int n], .tup [.non, .non, .int 1, .int 0]]
theorem dep_LT {X : Dt} {n : Int} (h : X.dep ≤ 2) : (LT X n).dep ≤ 8 := by simp only [Dt.dep, deps]; omega
theorem fit_LT {X : Dt} {n : Int} (h : X.fit = true) : (LT X n).fit = true := by simp [Dt.fit, fits, h]
theorem dep_bb {b : Bool} : (Dt.lst [.bl b, .bl b]).dep ≤ 8 := Nat.le_of_ble_eq_true rfl
theorem wn_rg {lo hi : Option Int} {m r x : Int} (h : x ∈ wn lo hi m r) : -160 ≤ x ∧ x ≤ 160 := (wn_mem.mp h).1
section
variable {P : Program} {w : World} {K : PySem.W.Frag} {mg : Str → Option Value} {base : Heap}
theorem ok_l_right (bl : Blts mg) {g_l_take : Addr} {d_l_take : FuncData} (c_l_take : Cal P w K mg base 2 "_law_take" p_l_take (spB K 1 domT postT) g_l_take d_l_take) {g_l_same : Addr} {d_l_same : FuncData} (c_l_same : Cal P w K mg base 8 "_law_same" p_l_same (spP K (S_same 8)) g_l_same d_l_same) {g_contains : Addr} {d_contains : FuncData} (c_contains : Cal P w K mg base 3 "contains" p_contains (spP K S_con) g_contains d_contains) {g_value_of : Addr} {d_value_of : FuncData} (c_value_of : Cal P w K mg base 3 "value_of" p_value_of (spP K S_vo) g_value_of d_value_of) {g_single : Addr} {d_single : FuncData} (c_single : Cal P w K mg base 1 "single" p_single (spP K S_sing) g_single d_single) {g_value_within : Addr} {d_value_within : FuncData} (c_value_within : Cal P w K mg base 3 "value_within" p_value_within (spP K S_vw) g_value_within d_value_within) {g_l_window : Addr} {d_l_window : FuncData} (c_l_window : Cal P w K mg base 1 "_law_window" p_l_window (spP K S_win) g_l_window d_l_window) {g_l_value : Addr} {d_l_value : FuncData} (c_l_value : Cal P w K mg base 2 "_law_value" p_l_value (spP K S_lv) g_l_value d_l_value) {g_l_drawn : Addr} {d_l_drawn : FuncData} (c_l_drawn : Cal P w K mg base 4 "_law_drawn" p_l_drawn (spB K 7 domD postD) g_l_drawn d_l_drawn) {g_l_pair_right : Addr} {d_l_pair_right : FuncData} (c_l_pair_right : Cal P w K mg base 9 "_law_pair_right" p_l_pair_right (spP K S_pr) g_l_pair_right d_l_pair_right) (k_contains : KB0 K d_contains p_contains ["n", "value"] List.reverse List.reverse) (k_value_of : KB0 K d_value_of p_value_of ["r", "m", "high", "low"] List.reverse List.reverse) (k_single : KB0 K d_single p_single ["n"] List.reverse List.reverse) {aE : Addr} (hEVERY : mg "EVERY" = some (.ref aE)) (tE : TupC K aE [.non, .non, .int 1, .int 0])  {f : Addr} {fd : FuncData} (F : Fun K "_law_right" "_law_right" s_l_right f fd) : FnOk P w K mg base CX0 10 f fd p_l_right (spB K 23 (domR) (postR)) := by
  refine okB F sc_l_right (fun ds h => ?_) (fun cdv A outer s H E hr ds h => ?_)
  · obtain ⟨rfl⟩ := h
    rfl
  obtain ⟨rfl⟩ := h
  refine ⟨_, (pss_cons (ps_par (i := 4) (j := 5) (by rfl) sc_l_right.nd rfl rfl (by decide) rfl rfl (pa_cons (pe_call c_l_drawn.ok (hr.mono (by decide)) rfl c_l_drawn.mg c_l_drawn.kp c_l_drawn.bi .nil pass0 (pa_cons (pv 0) pa_nil)) (pa_cons (pe_call c_l_drawn.ok (hr.mono (by decide)) rfl c_l_drawn.mg c_l_drawn.kp c_l_drawn.bi .nil pass0 (pa_cons (pv 0) pa_nil)) pa_nil)) (by rfl))
    (pss_cons (ps_par3 (i := 6) (j := 7) (l := 8) (by rfl) sc_l_right.nd rfl rfl rfl (by decide) (by decide) (by decide) rfl rfl rfl (pa_cons (pe_call c_l_value.ok (hr.mono (by decide)) rfl c_l_value.mg c_l_value.kp c_l_value.bi .nil pass0 (pa_cons (pv 4) pa_nil)) (pa_cons (pe_call c_l_value.ok (hr.mono (by decide)) rfl c_l_value.mg c_l_value.kp c_l_value.bi .nil pass0 (pa_cons (pv 5) pa_nil)) (pa_cons (pe_op op_sub (pe_call c_l_take.ok (hr.mono (by decide)) rfl c_l_take.mg c_l_take.kp c_l_take.bi .nil pass0 (pa_cons (pv 0) (pa_cons pe_int pa_nil))) pe_int) pa_nil))) (by rfl))
    (pss_cons (ps_set (i := 1) sc_l_right.nd rfl (by first | exact Or.inl rfl | exact Or.inr rfl) (pe_lst (pa_cons (pe_call c_value_of.ok (hr.mono (by decide)) rfl c_value_of.mg c_value_of.kp c_value_of.bi .nil pass0 (pa_cons (pe_ix ix_tup (pv 4) pe_int (fun _ _ => rfl)) (pa_cons (pe_ix ix_tup (pv 4) pe_int (fun _ _ => rfl)) (pa_cons (pe_ix ix_tup (pv 4) pe_int (fun _ _ => rfl)) (pa_cons (pe_ix ix_tup (pv 4) pe_int (fun _ _ => rfl)) pa_nil))))) (pa_cons (pe_callK0 c_value_of.ok (hr.mono (by decide)) rfl c_value_of.mg c_value_of.kp k_value_of pass0 (pk_cons (pe_ix ix_tup (pv 4) pe_int (fun _ _ => rfl)) (pk_cons (pe_ix ix_tup (pv 4) pe_int (fun _ _ => rfl)) (pk_cons (pe_ix ix_tup (pv 4) pe_int (fun _ _ => rfl)) (pk_cons (pe_ix ix_tup (pv 4) pe_int (fun _ _ => rfl)) pk_nil))))) pa_nil))))
    (pss_cons (ps_set (i := 1) sc_l_right.nd rfl (by first | exact Or.inl rfl | exact Or.inr rfl) (pe_op op_cat (pv 1) (pe_lst (pa_cons (pe_call c_single.ok (hr.mono (by decide)) rfl c_single.mg c_single.kp c_single.bi .nil pass0 (pa_cons (pv 8) pa_nil)) (pa_cons (pe_callK0 c_single.ok (hr.mono (by decide)) rfl c_single.mg c_single.kp k_single pass0 (pk_cons (pv 8) pk_nil)) (pa_cons (pe_glob (v := V.ref aE) rfl hEVERY rfl) pa_nil))))))
    (pss_cons (ps_if (pt_not (pt_val (pe_call c_l_same.ok (hr.mono (by decide)) rfl c_l_same.mg c_l_same.kp c_l_same.bi .nil pass0 (pa_cons (pv 1) (pa_cons (pe_lst (pa_cons (pv 6) (pa_cons (pv 6) (pa_cons (pe_tup (pa_cons (pv 8) (pa_cons (pv 8) (pa_cons pe_int (pa_cons (pv 8) pa_nil))))) (pa_cons (pe_tup (pa_cons (pv 8) (pa_cons (pv 8) (pa_cons pe_int (pa_cons (pv 8) pa_nil))))) (pa_cons (pe_tup (pa_cons pe_non (pa_cons pe_non (pa_cons pe_int (pa_cons pe_int pa_nil))))) pa_nil)))))) pa_nil))))) (pss_one (ps_ret pe_bl)) pss_nil)
    (pss_cons (ps_if (PW.pt (pw_or (pt_cmpR op_isN (pv 6) pe_non (nomark _)) (pw_or1 (pt_cmpR op_isN (pv 7) pe_non (nomark _))))) (pss_one (ps_ret pe_bl)) pss_nil)
    (pss_cons (ps_set (i := 2) sc_l_right.nd rfl (by first | exact Or.inl rfl | exact Or.inr rfl) (pe_call c_l_window.ok (hr.mono (by decide)) rfl c_l_window.mg c_l_window.kp c_l_window.bi .nil pass0 (pa_cons (pv 4) pa_nil)))
    (pss_cons (ps_for PassesOwn.never rfl (pi_list (pe_op op_cat (pe_op op_cat (pe_lc (own := [("_law_turn", 9)]) (g := (gName 9)) (tt := tYes) rfl sc_l_right.nd (pi_range1 rfl bl.range (pa_cons pe_int pa_nil)) (blkOk_by (N := N_l_right) (sc := defScope s_l_right) (by decide +kernel)) (fun _ _ _ _ _ => (pg_name (i := 9) sc_l_right.nd rfl (by first | exact Or.inl rfl | exact Or.inr rfl))) (fun _ _ _ _ _ => pts_nil) (fun _ _ _ _ _ => (pe_op op_sub (pe_call c_l_take.ok (hr.mono (by decide)) rfl c_l_take.mg c_l_take.kp c_l_take.bi .nil pass0 (pa_cons (pv 0) (pa_cons pe_int pa_nil))) pe_int))) (pe_slice sl_list (pv 2) po_none (po_some pe_int))) (pe_slice sl_list (pv 2) (po_some (pe_un un_neg pe_int)) po_none))) (pg_name (i := 3) sc_l_right.nd rfl (by first | exact Or.inl rfl | exact Or.inr rfl)) (pss_one (ps_if (pt_not (pt_val (pe_call c_l_same.ok (hr.mono (by decide)) rfl c_l_same.mg c_l_same.kp c_l_same.bi .nil pass0 (pa_cons (pe_lst (pa_cons (pe_call c_contains.ok (hr.mono (by decide)) rfl c_contains.mg c_contains.kp c_contains.bi .nil pass0 (pa_cons (pv 6) (pa_cons (pv 3) pa_nil))) (pa_cons (pe_callK0 c_contains.ok (hr.mono (by decide)) rfl c_contains.mg c_contains.kp k_contains pass0 (pk_cons (pv 3) (pk_cons (pe_callTy call_list_of rfl bl.list (by decide +kernel) (pa_cons (pv 6) pa_nil)) pk_nil))) pa_nil))) (pa_cons (pe_op op_rep (pe_lst (pa_cons (pe_cmpR op_in_seq (pv 3) (pv 2) rfl) pa_nil)) pe_int) pa_nil))))) (pss_one (ps_ret pe_bl)) pss_nil)))
    (pss_one (ps_ret (pe_and (pe_call c_l_pair_right.ok (hr.mono (by decide)) rfl c_l_pair_right.mg c_l_pair_right.kp c_l_pair_right.bi .nil pass0 (pa_cons (pv 6) (pa_cons (pv 7) pa_nil))) (pe_and (pe_call c_l_pair_right.ok (hr.mono (by decide)) rfl c_l_pair_right.mg c_l_pair_right.kp c_l_pair_right.bi .nil pass0 (pa_cons (pv 7) (pa_cons (pv 6) pa_nil))) (pe_one (pe_cmpR op_isBl (pe_call c_value_within.ok (hr.mono (by decide)) rfl c_value_within.mg c_value_within.kp c_value_within.bi .nil pass0 (pa_cons (pv 6) (pa_cons (pv 6) pa_nil))) pe_bl (nomark _))))))))))))))), fun b F => ?_⟩
  change AS K _ [En.bx _ _, En.no, En.no, En.no, En.no, En.no, En.no, En.no, En.no, En.no] _ _
  try simp only [cxOf_K, cxOf_w]
  repeat' (first
    | ((with_reducible apply ae_take); · rfl)
    | ((with_reducible apply ae_draw); · rfl)
    | (refine ⟨rfl, _, rfl, ?_⟩)
    | (first | (intro d (hd : postD _ d); have _g := k; obtain ⟨c, d0, n, s, rfl, l⟩ := hd; rcases raw_two l with e2 | ⟨c', d', n', s', e2, l2, h2⟩) | (intro d (hd : postD _ d); obtain ⟨a, b0, m, r, rfl, k⟩ := hd; rcases raw_two k with e1 | ⟨a', b', m', r', e1, k1, h1⟩))
    | refine ⟨_, rfl, by omega, by omega, _, rfl, fun v v0 v1 => ?_⟩
    | with_reducible apply ae_call
    | (with_reducible refine ae_callK List.reverse (fun r _ => RDs.rev r) ?_)
    | (refine ⟨_, ⟨a, b0, m, r, rfl, k, rfl⟩, ?_⟩; rw [e1])
    | (refine ⟨_, ⟨c, d0, n, s, rfl, l, rfl⟩, ?_⟩; rw [e2])
    | (refine ⟨_, ⟨a, b0, m, r, rfl, rfl⟩, ?_⟩; first | rw [e1] | skip)
    | (refine ⟨rfl, _, ⟨a, b0, m, r, rfl, rfl⟩, ?_⟩; rw [e1])
    | (refine ⟨_, ⟨_, rfl, rfl⟩, ?_⟩)
    | (refine ⟨rfl, _, ⟨_, rfl, rfl⟩, ?_⟩)
    | ((with_reducible apply ae_tupC tE))
    | (refine ar_catL (by first | exact sz60 (Nat.le_of_ble_eq_true rfl)) ?_)
    | (refine ⟨.bl true, ⟨LT .non _, rfl, dep_LT (by decide), fit_LT rfl, rfl⟩, ?_⟩)
    | (refine ⟨.bl true, ⟨LT (vD a' b' m' r') _, rfl, dep_LT dep_v, fit_LT fit_v, rfl⟩, ?_⟩)
    | exact Nat.le_add_right _ _
    | with_reducible apply as_seq
    | with_reducible apply as_ret
    | with_reducible apply as_next
    | with_reducible apply as_if
    | with_reducible apply as_set
    | with_reducible apply as_par
    | with_reducible apply as_par3
    | ((with_reducible apply ae_var); · rfl)
    | with_reducible apply ae_int
    | with_reducible apply ae_non
    | with_reducible apply ae_bl
    | with_reducible apply ae_op
    | with_reducible apply aa_nil
    | with_reducible apply aa_cons
    | with_reducible apply ae_tup
    | with_reducible apply ae_lst
    | with_reducible apply at_test
    | with_reducible apply at_b
    | with_reducible apply at_or
    | with_reducible apply at_not
    | with_reducible apply ar_I0i
    | with_reducible apply ar_isN
    | ((with_reducible apply ar_ixT); · rfl)
    | refine ⟨sz60 (Nat.le_of_ble_eq_true rfl), ?_⟩
    | refine ⟨_, rfl, ?_⟩
    | refine ⟨_, _, rfl, ?_⟩
    | refine ⟨_, _, _, rfl, ?_⟩
    | (refine ⟨fun hc => ?_, fun hc => ?_⟩ <;> (first | (exfalso; exact absurd (show false = true from hc) (by decide)) | (exfalso; exact absurd (show true = false from hc) (by decide)) | (exfalso; simp at hc; done) | skip))
    | fail)
  have hw : (lwB a' a' && (hwB b' b' && rwB m' r' m' r')) = true := by rw [lw_self, hw_self, rw_self k1.ok]; rfl
  refine as_for ?_
  refine ai_list ?_
  repeat' (first
    | with_reducible apply ae_op
    | fail)
  refine ae_lc ?_
  refine ai_rng1 ?_
  repeat' (first
    | (refine ⟨_, rfl, by decide, by decide, ?_⟩)
    | with_reducible apply ae_int
    | with_reducible apply aa_nil
    | with_reducible apply aa_cons
    | fail)
  refine ⟨fun i acc ρ => ∃ (ns : List Int) (n0 F1 : Nat) (e1 e3 e5 e8 : En), acc = ns.map Dt.int ∧ ns.length = i ∧ (∀ x, x ∈ ns → -160 ≤ x ∧ x ≤ 160) ∧ i + n0 = 8 ∧ F + n0 ≤ F1 ∧ ρ = [.bx b F1, e1, .da (.lst ((wn a b0 m r).map Dt.int)), e3, .da (vD a b0 m r), e5, .da (vD a' b' m' r'), .da (vD c' d' n' s'), e8, .no], ⟨[], 8, _, _, _, _, _, rfl, rfl, (fun x h => nomatch h), rfl, Nat.le_refl _, rfl⟩, ?_, ?_⟩
  · rintro i dd acc ρ hi ⟨ns, n0, F1, e1, e3, e5, e8, rfl, hl, hns, hn, hF, rfl⟩
    have hlt := (List.getElem?_eq_some_iff.mp hi).1
    have hlen : (rgD 0 (8 : Int).toNat).length = 8 := rfl
    rw [hlen] at hlt
    obtain ⟨k0, rfl⟩ : ∃ k0, n0 = k0 + 1 := ⟨n0 - 1, by omega⟩
    obtain ⟨F2, rfl⟩ : ∃ F2, F1 = F2 + 1 := ⟨F1 - 1, by omega⟩
    refine agv_name (by decide) ?_
    refine at_yes ⟨fun _ => ?_, fun z => nomatch z⟩
    repeat' (first
      | ((with_reducible apply ae_take); · rfl)
      | (refine ⟨_, rfl, by decide, by decide, _, rfl, fun v v0 v1 => ?_⟩)
      | (refine ⟨by rw [List.length_map, sizeLine_eq]; omega, ns ++ [v - 60], k0, F2, _, _, _, _, by rw [List.map_append]; rfl, by rw [List.length_append, hl]; rfl, (fun x hx => by rcases List.mem_append.mp hx with h | h; exact hns x h; (have := List.mem_singleton.mp h; omega)), by omega, by omega, rfl⟩)
      | with_reducible apply ae_int
      | with_reducible apply ae_op
      | with_reducible apply ar_I0i
      | fail)
  · rintro acc ρ ⟨ns, n0, F1, e1, e3, e5, e8, rfl, hl, hns, hn, hF, rfl⟩
    have hlen : (rgD 0 (8 : Int).toNat).length = 8 := rfl
    rw [hlen] at hl
    refine ⟨fun i hi lt => ?_, ?_⟩
    · obtain rfl : i = 9 := by simpa using hi
      rfl
    repeat' (first
      | (with_reducible refine ae_slL rfl part_int ?_)
      | (with_reducible refine ae_slL part_neg rfl ?_)
      | (first | (have _q := hms1; refine ⟨_, rfl, fun ms2 hms2 lms2 => ?_⟩) | (refine ⟨_, rfl, fun ms1 hms1 lms1 => ?_⟩))
      | (refine ar_catL (by simp only [List.length_map, List.length_append, sizeLine_eq]; have := @wn_len a b0 m r; omega) ?_)
      | ((with_reducible apply ae_var); · rfl)
      | refine ⟨_, rfl, ?_⟩
      | fail)
    refine ⟨fun i ρ => ∃ (F1 : Nat) (e1 e3 e5 e8 : En), F ≤ F1 ∧ ρ = [.bx b F1, e1, .da (.lst ((wn a b0 m r).map Dt.int)), e3, .da (vD a b0 m r), e5, .da (vD a' b' m' r'), .da (vD c' d' n' s'), e8, .no], ⟨_, _, _, _, _, by omega, rfl⟩, ?_, ?_⟩
    · rintro i dd ρ hi ⟨F1, e1, e3, e5, e8, hF1, rfl⟩
      obtain ⟨x, rfl, hx⟩ : ∃ x : Int, dd = .int x ∧ (-160 ≤ x ∧ x ≤ 160) := by
        rcases List.mem_append.mp (List.mem_of_getElem? hi) with h | h
        · rcases List.mem_append.mp h with h | h
          · obtain ⟨x, hx, rfl⟩ := List.mem_map.mp h; exact ⟨x, rfl, hns x hx⟩
          · obtain ⟨x, hx, rfl⟩ := List.mem_map.mp h; exact ⟨x, rfl, wn_rg (hms1 x hx)⟩
        · obtain ⟨x, hx, rfl⟩ := List.mem_map.mp h; exact ⟨x, rfl, wn_rg (hms2 x hx)⟩
      repeat' (first
        | with_reducible apply ae_call
        | (with_reducible refine ae_callK List.reverse (fun r _ => RDs.rev r) ?_)
        | (refine ⟨_, ⟨true, a', b', m', r', x, rfl, rfl⟩, ?_⟩; rw [h1 x hx])
        | (refine ⟨rfl, _, ⟨false, a', b', m', r', x, rfl, rfl⟩, ?_⟩; rw [h1 x hx])
        | (refine ar_inI ?_)
        | (refine ar_rep2 ?_)
        | (refine ⟨.bl true, ⟨.lst [.bl _, .bl _], rfl, dep_bb, rfl, rfl⟩, ?_⟩)
        | ((show ∃ (_ : Nat) (_ _ _ _ : En), _ ∧ _ = _); exact ⟨_, _, _, _, _, hF1, rfl⟩)
        | with_reducible apply as_next
        | with_reducible apply as_if
        | ((with_reducible apply ae_var); · rfl)
        | with_reducible apply ae_int
        | with_reducible apply ae_op
        | with_reducible apply aa_nil
        | with_reducible apply aa_cons
        | with_reducible apply ae_cb
        | with_reducible apply ae_lst
        | with_reducible apply at_b
        | with_reducible apply at_not
        | with_reducible apply ac_listT
        | with_reducible apply ag_name
        | refine ⟨sz60 (Nat.le_of_ble_eq_true rfl), ?_⟩
        | refine ⟨_, rfl, ?_⟩
        | (refine ⟨fun hc => ?_, fun hc => ?_⟩ <;> (first | (exfalso; exact absurd (show false = true from hc) (by decide)) | (exfalso; exact absurd (show true = false from hc) (by decide)) | (exfalso; simp at hc; done) | skip))
        | fail)
    · rintro ρ ⟨F1, e1, e3, e5, e8, hF1, rfl⟩
      repeat' (first
        | with_reducible apply ae_call
        | (refine ⟨_, ⟨a', b', c', d', m', r', n', s', rfl, k1, l2, rfl⟩, ?_⟩)
        | (refine ⟨_, ⟨c', d', a', b', n', s', m', r', rfl, l2, k1, rfl⟩, ?_⟩)
        | (refine ⟨.bl true, ⟨true, true, a', b', a', b', m', r', m', r', rfl, (congrArg Dt.bl hw).symm⟩, ?_⟩)
        | (refine ar_isBl ?_)
        | (refine ⟨rfl, _, rfl, hF1⟩)
        | with_reducible apply as_ret
        | ((with_reducible apply ae_var); · rfl)
        | with_reducible apply ae_bl
        | with_reducible apply ae_op
        | with_reducible apply aa_nil
        | with_reducible apply aa_cons
        | with_reducible apply ae_andV
        | refine ⟨_, rfl, ?_⟩
        | (refine ⟨fun hc => ?_, fun hc => ?_⟩ <;> (first | (exfalso; exact absurd (show false = true from hc) (by decide)) | (exfalso; exact absurd (show true = false from hc) (by decide)) | (exfalso; simp at hc; done) | skip))
        | fail)
end
end Sh
set_option Elab.async false
set_option linter.all false
set_option maxRecDepth 100000
set_option maxHeartbeats 4000000
namespace Sh
open PySem PySem.Spec PyProof.Rows L2
theorem kb0_of {K : PySem.W.Frag} {x qual : Str} {st : Stmt} {f : Addr} {fd : FuncData} {ps ks : List Str} {g : List Value → List Value} {gV : List V → List V} (F : Fun K x qual st f fd)
    (h : ∀ (kV doc pm : Value) (an : Option Addr) (cdv ct : Value) (ws : List Value), ws.length = ks.length → bindArgs (PySem.W.fnOf x qual (defArgs st) (defBody st) (defScope st) .none kV doc pm an cdv ct) ⟨[], ks.zip ws⟩ = pure (ps.zip (g ws)))
    (rel : ∀ {zs : List V} {ws : List Value}, Vals zs ws → zs.length = ks.length → Vals (gV zs) (g ws)) : KB0 K fd ps ks g gV := by
  obtain ⟨oc, od, kV, doc, pm, an, cdv, ct, osl, rfl, lk, hcd⟩ := F.ex
  exact ⟨fun s ws hl => .of_eq (h kV doc pm an cdv ct ws hl), rel⟩
abbrev sLaw : Stmt := topS 42
abbrev NL : List Str := ["_law_script", "_law_cells_here", "_law_k", "_law_box_here", "_law_turn"]
theorem scLaw : FnScope NL ["_law_script"] (defScope sLaw) := ⟨rfl, rfl, rfl, by decide +kernel, rfl, by decide +kernel, by decide +kernel⟩
section
variable {P : Program} {w : World} {K : PySem.W.Frag} {mg : Str → Option Value} {base : Heap}
def spLaw (K : PySem.W.Frag) : Sp := fun vs H Q _ => ∃ (a : Addr) (ns : List Int), vs = [.ref a] ∧ SqL K H a (ns.map V.int) ∧ ns.length ≤ 63 ∧ ∀ H', Q (.bl true) H'
theorem ok_law {f gC gB gR : Addr} {fd dC dB dR : FuncData} (F : Fun K "law" "law" sLaw f fd)
    (GC : FnOk P w K mg base CX0 1 gC dC ["_law_script", "_law_most"] (spCells K)) (bC : Binds K dC ["_law_script", "_law_most"] []) (kC : PySem.W.keepIn K (.ref gC) = true) (mC : mg "_law_cells" = some (.ref gC))
    (GB : FnOk P w K mg base CX0 1 gB dB ["_law_script", "_law_k"] (spBox K)) (bB : Binds K dB ["_law_script", "_law_k"] []) (kB : PySem.W.keepIn K (.ref gB) = true) (mB : mg "_law_box" = some (.ref gB))
    (GR : FnOk P w K mg base CX0 10 gR dR ["_law_box_here"] (spB K 23 domR postR)) (bR : Binds K dR ["_law_box_here"] []) (kR : PySem.W.keepIn K (.ref gR) = true) (mR : mg "_law_right" = some (.ref gR))
    (mr : mg "range" = none) (ml : mg "len" = none) (mall : mg "all" = none) : FnOk P w K mg base CX0 11 f fd ["_law_script"] (spLaw K) := by
  refine F.ok scLaw (fun vs H Q E h => ?_) (fun cdv A outer s H vs Q Ex hr h => ?_)
  · obtain ⟨a, ns, rfl, _⟩ := h
    rfl
  obtain ⟨a, ns, rfl, hS, hlen, q⟩ := h
  refine ⟨_, pss_cons (ps_set (i := 1) scLaw.nd rfl (Or.inl rfl) (pe_call GC (hr.mono (by decide)) rfl mC kC bC .nil pass0 (pa_cons (pv 0) (pa_cons pe_int pa_nil))))
    (pss_cons (ps_for PassesOwn.never rfl (pi_range1 rfl mr (pa_cons (pe_callB call_len_seq rfl ml PySem.boot_len (pa_cons (pv 1) pa_nil)) pa_nil)) (pg_name (i := 2) scLaw.nd rfl (Or.inl rfl))
      (pss_cons (ps_set (i := 3) scLaw.nd rfl (Or.inr rfl) (pe_call GB (hr.mono (by decide)) rfl mB kB bB .nil pass0 (pa_cons (pv 1) (pa_cons (pv 2) pa_nil))))
      (pss_one (ps_if (pt_not (pt_val (pe_callB (cr_all rfl) rfl mall (by decide +kernel) (pa_cons (pe_lc (own := [("_law_turn", 4)]) (g := gName 4) (tt := tYes) rfl scLaw.nd (pi_range1 rfl mr (pa_cons pe_int pa_nil)) (blkOk_by (N := NL) (sc := defScope sLaw) (by decide +kernel))
        (fun _ _ _ _ _ => pg_name (i := 4) scLaw.nd rfl (Or.inl rfl)) (fun _ _ _ _ _ => pts_nil) (fun _ _ _ _ _ => pe_call GR hr rfl mR kR bR .nil pass0 (pa_cons (pv 3) pa_nil))) pa_nil)))) (pss_one (ps_ret pe_bl)) pss_nil))))
    (pss_one (ps_ret pe_bl))), ?_⟩
  refine ⟨_, rfl, a, ns, 3, rfl, hS, hlen, by decide, by decide, fun p ms H1 np s1 ep l1 l2 => ?_⟩
  have hml : (ms.map V.int).length = ms.length := List.length_map _
  refine ⟨_, rfl, p, _, rfl, .inl (SqL.of ep), _, rfl, by omega, by omega, for_range (lo := 0) (n := (ms.map V.int).length) (fun i σ H2 => ∃ o2 o3 o4 : Option V, σ = [some (.ref a), some (.ref p), o2, o3, o4] ∧ Same H1 H2)
    ⟨none, none, none, rfl, Same.refl _⟩ ?_ ?_⟩
  · rintro i σ H2 hi ⟨o2, o3, o4, rfl, s2⟩
    rw [hml] at hi
    refine ⟨_, rfl, _, rfl, p, ms, _, rfl, SqL.of (s2 _ _ ep), by omega, by omega, by omega, fun bx x y nbx x0 y0 y1 => ?_⟩
    have s3 := same_up (o := .lst [.int x, .int y, .int 0]) nbx
    have hb0 : Bx (upd H2 bx (.lst [.int x, .int y, .int 0])) bx y 0 := ⟨x, upd_same, x0, y0, y1⟩
    refine ⟨20, rfl, by decide, by decide, fun D hD => lc_range (lo := 0) (n := 20) (fun t H4 => ∃ y c : Int, Bx H4 bx y c ∧ 0 ≤ c ∧ c + (((20 - t) * 23 : Nat) : Int) ≤ BxM ∧ Same H2 H4 ∧ H4 D = some (.lst ((List.replicate t true).map V.bl))) ?_ ?_ ?_⟩
    · have s4 := same_up (o := .lst []) hD
      exact ⟨y, 0, hb0.same s4, by omega, by unfold BxM; decide, s3.trans s4, upd_same⟩
    · rintro t H4 ht ⟨y, c, hB, c0, c1, s4, e4⟩
      have nD : H2 D = none := s3.free hD
      have neD : D ≠ bx := fun e => by
        rw [e, upd_same] at hD
        cases hD
      have ef : (20 - t) * 23 = (20 - (t + 1)) * 23 + 23 := by omega
      rw [ef] at c1
      refine ⟨rfl, ?_⟩
      show tCall (spB K 23 domR postR) [] E0 (tCons (tVar 3) tNil) _ _ _
      refine ⟨_, rfl, fun _ => none, [], bx, [], y, c, _, rfl, (fun a o e => nomatch e), hB, c0, c1, rfl, rfl, rfl, fun v d G' H5 y' c' nb hB' c0' c1' rd hp => ?_⟩
      have e5 := nb.h _ _ neD e4
      refine ⟨_, e5, ?_, y', c', ?_, c0', c1', fun b o e => ?_, ?_⟩
      · rw [List.length_map, List.length_replicate]; exact sz60' (by omega)
      · obtain ⟨x', q1, q2⟩ := hB'
        exact ⟨x', by rw [upd_ne neD.symm]; exact q1, q2⟩
      · rw [upd_ne (ne_of_none e nD)]; exact nb.h _ _ (ne_of_none e nbx) (s4 _ _ e)
      · subst hp
        cases (show v = .bl true from rd)
        rw [upd_same, List.replicate_succ', List.map_append]; rfl
    · rintro H4 ⟨y, c, hB, c0, c1, s4, e4⟩
      refine ⟨D, _, rfl, SqL.of e4, true, congrArg V.bl (all_true 20), ?_⟩
      exact ⟨_, _, _, rfl, s2.trans s4⟩
  · rintro σ H2 ⟨o2, o3, o4, rfl, s2⟩
    exact q H2
end
theorem all_mk {l : PySem.W.OpenLaw} {w : World} {K : PySem.W.Frag} {h : Heap} {mg : Str → Option Value} {fa fD0 fD1 fD2 fD3 fD4 fD5 fD6 fD7 fD8 fD9 fD10 fD11 fD12 fD13 fD14 fD15 fD16 fD17 fD18 fD19 fD20 fD21 fD22 fD23 fD24 fD25 fD26 fD27 fD28 fD29 fD30 fD31 fD32 fD33 fD34 fD35 : Addr} (X : K.In h) (G : h.Ns mainGlobals mg) (hfa : mg "law" = some (.ref fa))
    {odD0 anD0 odD1 anD1 odD2 anD2 odD3 anD3 odD4 anD4 odD5 anD5 odD6 anD6 odD7 anD7 odD8 anD8 odD9 anD9 odD10 anD10 odD11 anD11 odD12 anD12 odD13 anD13 odD14 anD14 odD15 anD15 odD16 anD16 odD17 anD17 odD18 anD18 odD19 anD19 odD20 anD20 odD21 anD21 odD22 anD22 odD23 anD23 odD24 anD24 odD25 anD25 odD26 anD26 odD27 anD27 odD28 anD28 odD29 anD29 odD30 anD30 odD31 anD31 odD32 anD32 odD33 anD33 odD34 anD34 odD35 anD35 : Option Addr} {slD0 slD1 slD2 slD3 slD4 slD5 slD6 slD7 slD8 slD9 slD10 slD11 slD12 slD13 slD14 slD15 slD16 slD17 slD18 slD19 slD20 slD21 slD22 slD23 slD24 slD25 slD26 slD27 slD28 slD29 slD30 slD31 slD32 slD33 slD34 slD35 : Array (Option Value)} {ocD0 kVD0 dcD0 pmD0 cdD0 ctD0 ocD1 kVD1 dcD1 pmD1 cdD1 ctD1 ocD2 kVD2 dcD2 pmD2 cdD2 ctD2 ocD3 kVD3 dcD3 pmD3 cdD3 ctD3 ocD4 kVD4 dcD4 pmD4 cdD4 ctD4 ocD5 kVD5 dcD5 pmD5 cdD5 ctD5 ocD6 kVD6 dcD6 pmD6 cdD6 ctD6 ocD7 kVD7 dcD7 pmD7 cdD7 ctD7 ocD8 kVD8 dcD8 pmD8 cdD8 ctD8 ocD9 kVD9 dcD9 pmD9 cdD9 ctD9 ocD10 kVD10 dcD10 pmD10 cdD10 ctD10 ocD11 kVD11 dcD11 pmD11 cdD11 ctD11 ocD12 kVD12 dcD12 pmD12 cdD12 ctD12 ocD13 kVD13 dcD13 pmD13 cdD13 ctD13 ocD14 kVD14 dcD14 pmD14 cdD14 ctD14 ocD15 kVD15 dcD15 pmD15 cdD15 ctD15 ocD16 kVD16 dcD16 pmD16 cdD16 ctD16 ocD17 kVD17 dcD17 pmD17 cdD17 ctD17 ocD18 kVD18 dcD18 pmD18 cdD18 ctD18 ocD19 kVD19 dcD19 pmD19 cdD19 ctD19 ocD20 kVD20 dcD20 pmD20 cdD20 ctD20 ocD21 kVD21 dcD21 pmD21 cdD21 ctD21 ocD22 kVD22 dcD22 pmD22 cdD22 ctD22 ocD23 kVD23 dcD23 pmD23 cdD23 ctD23 ocD24 kVD24 dcD24 pmD24 cdD24 ctD24 ocD25 kVD25 dcD25 pmD25 cdD25 ctD25 ocD26 kVD26 dcD26 pmD26 cdD26 ctD26 ocD27 kVD27 dcD27 pmD27 cdD27 ctD27 ocD28 kVD28 dcD28 pmD28 cdD28 ctD28 ocD29 kVD29 dcD29 pmD29 cdD29 ctD29 ocD30 kVD30 dcD30 pmD30 cdD30 ctD30 ocD31 kVD31 dcD31 pmD31 cdD31 ctD31 ocD32 kVD32 dcD32 pmD32 cdD32 ctD32 ocD33 kVD33 dcD33 pmD33 cdD33 ctD33 ocD34 kVD34 dcD34 pmD34 cdD34 ctD34 ocD35 kVD35 dcD35 pmD35 cdD35 ctD35 : Value} {aE : Addr} {ocEV : Option Addr} {nEV : Nat} {slEV : Array (Option Value)} {tkA tkB : Tok}
    (aD0 : PySem.W.nsIn K mainGlobals "loosest_low" = some (some (.ref fD0)))
    (lD0 : K.lookup fD0 = some ⟨ocD0, odD0, .func (PySem.W.fnOf "loosest_low" "loosest_low" (defArgs s_loosest_low) (defBody s_loosest_low) (defScope s_loosest_low) .none kVD0 dcD0 pmD0 anD0 cdD0 ctD0), slD0⟩)
    (cD0 : PySem.W.codeIn K cdD0 "loosest_low" = true)
    (kD0 : PySem.W.keepIn K (.ref fD0) = true)
    (aD1 : PySem.W.nsIn K mainGlobals "tightest_low" = some (some (.ref fD1)))
    (lD1 : K.lookup fD1 = some ⟨ocD1, odD1, .func (PySem.W.fnOf "tightest_low" "tightest_low" (defArgs s_tightest_low) (defBody s_tightest_low) (defScope s_tightest_low) .none kVD1 dcD1 pmD1 anD1 cdD1 ctD1), slD1⟩)
    (cD1 : PySem.W.codeIn K cdD1 "tightest_low" = true)
    (kD1 : PySem.W.keepIn K (.ref fD1) = true)
    (aD2 : PySem.W.nsIn K mainGlobals "loosest_high" = some (some (.ref fD2)))
    (lD2 : K.lookup fD2 = some ⟨ocD2, odD2, .func (PySem.W.fnOf "loosest_high" "loosest_high" (defArgs s_loosest_high) (defBody s_loosest_high) (defScope s_loosest_high) .none kVD2 dcD2 pmD2 anD2 cdD2 ctD2), slD2⟩)
    (cD2 : PySem.W.codeIn K cdD2 "loosest_high" = true)
    (kD2 : PySem.W.keepIn K (.ref fD2) = true)
    (aD3 : PySem.W.nsIn K mainGlobals "tightest_high" = some (some (.ref fD3)))
    (lD3 : K.lookup fD3 = some ⟨ocD3, odD3, .func (PySem.W.fnOf "tightest_high" "tightest_high" (defArgs s_tightest_high) (defBody s_tightest_high) (defScope s_tightest_high) .none kVD3 dcD3 pmD3 anD3 cdD3 ctD3), slD3⟩)
    (cD3 : PySem.W.codeIn K cdD3 "tightest_high" = true)
    (kD3 : PySem.W.keepIn K (.ref fD3) = true)
    (aD4 : PySem.W.nsIn K mainGlobals "low_within" = some (some (.ref fD4)))
    (lD4 : K.lookup fD4 = some ⟨ocD4, odD4, .func (PySem.W.fnOf "low_within" "low_within" (defArgs s_low_within) (defBody s_low_within) (defScope s_low_within) .none kVD4 dcD4 pmD4 anD4 cdD4 ctD4), slD4⟩)
    (cD4 : PySem.W.codeIn K cdD4 "low_within" = true)
    (kD4 : PySem.W.keepIn K (.ref fD4) = true)
    (aD5 : PySem.W.nsIn K mainGlobals "high_within" = some (some (.ref fD5)))
    (lD5 : K.lookup fD5 = some ⟨ocD5, odD5, .func (PySem.W.fnOf "high_within" "high_within" (defArgs s_high_within) (defBody s_high_within) (defScope s_high_within) .none kVD5 dcD5 pmD5 anD5 cdD5 ctD5), slD5⟩)
    (cD5 : PySem.W.codeIn K cdD5 "high_within" = true)
    (kD5 : PySem.W.keepIn K (.ref fD5) = true)
    (aD6 : PySem.W.nsIn K mainGlobals "lets_in" = some (some (.ref fD6)))
    (lD6 : K.lookup fD6 = some ⟨ocD6, odD6, .func (PySem.W.fnOf "lets_in" "lets_in" (defArgs s_lets_in) (defBody s_lets_in) (defScope s_lets_in) .none kVD6 dcD6 pmD6 anD6 cdD6 ctD6), slD6⟩)
    (cD6 : PySem.W.codeIn K cdD6 "lets_in" = true)
    (kD6 : PySem.W.keepIn K (.ref fD6) = true)
    (aD7 : PySem.W.nsIn K mainGlobals "rest_join" = some (some (.ref fD7)))
    (lD7 : K.lookup fD7 = some ⟨ocD7, odD7, .func (PySem.W.fnOf "rest_join" "rest_join" (defArgs s_rest_join) (defBody s_rest_join) (defScope s_rest_join) .none kVD7 dcD7 pmD7 anD7 cdD7 ctD7), slD7⟩)
    (cD7 : PySem.W.codeIn K cdD7 "rest_join" = true)
    (kD7 : PySem.W.keepIn K (.ref fD7) = true)
    (aD8 : PySem.W.nsIn K mainGlobals "rest_meet" = some (some (.ref fD8)))
    (lD8 : K.lookup fD8 = some ⟨ocD8, odD8, .func (PySem.W.fnOf "rest_meet" "rest_meet" (defArgs s_rest_meet) (defBody s_rest_meet) (defScope s_rest_meet) .none kVD8 dcD8 pmD8 anD8 cdD8 ctD8), slD8⟩)
    (cD8 : PySem.W.codeIn K cdD8 "rest_meet" = true)
    (kD8 : PySem.W.keepIn K (.ref fD8) = true)
    (aD9 : PySem.W.nsIn K mainGlobals "rest_of" = some (some (.ref fD9)))
    (lD9 : K.lookup fD9 = some ⟨ocD9, odD9, .func (PySem.W.fnOf "rest_of" "rest_of" (defArgs s_rest_of) (defBody s_rest_of) (defScope s_rest_of) .none kVD9 dcD9 pmD9 anD9 cdD9 ctD9), slD9⟩)
    (cD9 : PySem.W.codeIn K cdD9 "rest_of" = true)
    (kD9 : PySem.W.keepIn K (.ref fD9) = true)
    (aD10 : PySem.W.nsIn K mainGlobals "rest_has" = some (some (.ref fD10)))
    (lD10 : K.lookup fD10 = some ⟨ocD10, odD10, .func (PySem.W.fnOf "rest_has" "rest_has" (defArgs s_rest_has) (defBody s_rest_has) (defScope s_rest_has) .none kVD10 dcD10 pmD10 anD10 cdD10 ctD10), slD10⟩)
    (cD10 : PySem.W.codeIn K cdD10 "rest_has" = true)
    (kD10 : PySem.W.keepIn K (.ref fD10) = true)
    (aD11 : PySem.W.nsIn K mainGlobals "rest_within" = some (some (.ref fD11)))
    (lD11 : K.lookup fD11 = some ⟨ocD11, odD11, .func (PySem.W.fnOf "rest_within" "rest_within" (defArgs s_rest_within) (defBody s_rest_within) (defScope s_rest_within) .none kVD11 dcD11 pmD11 anD11 cdD11 ctD11), slD11⟩)
    (cD11 : PySem.W.codeIn K cdD11 "rest_within" = true)
    (kD11 : PySem.W.keepIn K (.ref fD11) = true)
    (aD12 : PySem.W.nsIn K mainGlobals "inverse" = some (some (.ref fD12)))
    (lD12 : K.lookup fD12 = some ⟨ocD12, odD12, .func (PySem.W.fnOf "inverse" "inverse" (defArgs s_inverse) (defBody s_inverse) (defScope s_inverse) .none kVD12 dcD12 pmD12 anD12 cdD12 ctD12), slD12⟩)
    (cD12 : PySem.W.codeIn K cdD12 "inverse" = true)
    (kD12 : PySem.W.keepIn K (.ref fD12) = true)
    (aD13 : PySem.W.nsIn K mainGlobals "span_join" = some (some (.ref fD13)))
    (lD13 : K.lookup fD13 = some ⟨ocD13, odD13, .func (PySem.W.fnOf "span_join" "span_join" (defArgs s_span_join) (defBody s_span_join) (defScope s_span_join) .none kVD13 dcD13 pmD13 anD13 cdD13 ctD13), slD13⟩)
    (cD13 : PySem.W.codeIn K cdD13 "span_join" = true)
    (kD13 : PySem.W.keepIn K (.ref fD13) = true)
    (aD14 : PySem.W.nsIn K mainGlobals "span_meet" = some (some (.ref fD14)))
    (lD14 : K.lookup fD14 = some ⟨ocD14, odD14, .func (PySem.W.fnOf "span_meet" "span_meet" (defArgs s_span_meet) (defBody s_span_meet) (defScope s_span_meet) .none kVD14 dcD14 pmD14 anD14 cdD14 ctD14), slD14⟩)
    (cD14 : PySem.W.codeIn K cdD14 "span_meet" = true)
    (kD14 : PySem.W.keepIn K (.ref fD14) = true)
    (aD15 : PySem.W.nsIn K mainGlobals "single" = some (some (.ref fD15)))
    (lD15 : K.lookup fD15 = some ⟨ocD15, odD15, .func (PySem.W.fnOf "single" "single" (defArgs s_single) (defBody s_single) (defScope s_single) .none kVD15 dcD15 pmD15 anD15 cdD15 ctD15), slD15⟩)
    (cD15 : PySem.W.codeIn K cdD15 "single" = true)
    (kD15 : PySem.W.keepIn K (.ref fD15) = true)
    (aD16 : PySem.W.nsIn K mainGlobals "value_of" = some (some (.ref fD16)))
    (lD16 : K.lookup fD16 = some ⟨ocD16, odD16, .func (PySem.W.fnOf "value_of" "value_of" (defArgs s_value_of) (defBody s_value_of) (defScope s_value_of) .none kVD16 dcD16 pmD16 anD16 cdD16 ctD16), slD16⟩)
    (cD16 : PySem.W.codeIn K cdD16 "value_of" = true)
    (kD16 : PySem.W.keepIn K (.ref fD16) = true)
    (aD17 : PySem.W.nsIn K mainGlobals "contains" = some (some (.ref fD17)))
    (lD17 : K.lookup fD17 = some ⟨ocD17, odD17, .func (PySem.W.fnOf "contains" "contains" (defArgs s_contains) (defBody s_contains) (defScope s_contains) .none kVD17 dcD17 pmD17 anD17 cdD17 ctD17), slD17⟩)
    (cD17 : PySem.W.codeIn K cdD17 "contains" = true)
    (kD17 : PySem.W.keepIn K (.ref fD17) = true)
    (aD18 : PySem.W.nsIn K mainGlobals "value_within" = some (some (.ref fD18)))
    (lD18 : K.lookup fD18 = some ⟨ocD18, odD18, .func (PySem.W.fnOf "value_within" "value_within" (defArgs s_value_within) (defBody s_value_within) (defScope s_value_within) .none kVD18 dcD18 pmD18 anD18 cdD18 ctD18), slD18⟩)
    (cD18 : PySem.W.codeIn K cdD18 "value_within" = true)
    (kD18 : PySem.W.keepIn K (.ref fD18) = true)
    (aD19 : PySem.W.nsIn K mainGlobals "value_join" = some (some (.ref fD19)))
    (lD19 : K.lookup fD19 = some ⟨ocD19, odD19, .func (PySem.W.fnOf "value_join" "value_join" (defArgs s_value_join) (defBody s_value_join) (defScope s_value_join) .none kVD19 dcD19 pmD19 anD19 cdD19 ctD19), slD19⟩)
    (cD19 : PySem.W.codeIn K cdD19 "value_join" = true)
    (kD19 : PySem.W.keepIn K (.ref fD19) = true)
    (aD20 : PySem.W.nsIn K mainGlobals "value_meet" = some (some (.ref fD20)))
    (lD20 : K.lookup fD20 = some ⟨ocD20, odD20, .func (PySem.W.fnOf "value_meet" "value_meet" (defArgs s_value_meet) (defBody s_value_meet) (defScope s_value_meet) .none kVD20 dcD20 pmD20 anD20 cdD20 ctD20), slD20⟩)
    (cD20 : PySem.W.codeIn K cdD20 "value_meet" = true)
    (kD20 : PySem.W.keepIn K (.ref fD20) = true)
    (aD21 : PySem.W.nsIn K mainGlobals "value_from" = some (some (.ref fD21)))
    (lD21 : K.lookup fD21 = some ⟨ocD21, odD21, .func (PySem.W.fnOf "value_from" "value_from" (defArgs s_value_from) (defBody s_value_from) (defScope s_value_from) .none kVD21 dcD21 pmD21 anD21 cdD21 ctD21), slD21⟩)
    (cD21 : PySem.W.codeIn K cdD21 "value_from" = true)
    (kD21 : PySem.W.keepIn K (.ref fD21) = true)
    (aD22 : PySem.W.nsIn K mainGlobals "_law_box" = some (some (.ref fD22)))
    (lD22 : K.lookup fD22 = some ⟨ocD22, odD22, .func (PySem.W.fnOf "_law_box" "_law_box" (defArgs sBox) (defBody sBox) (defScope sBox) .none kVD22 dcD22 pmD22 anD22 cdD22 ctD22), slD22⟩)
    (cD22 : PySem.W.codeIn K cdD22 "_law_box" = true)
    (kD22 : PySem.W.keepIn K (.ref fD22) = true)
    (aD23 : PySem.W.nsIn K mainGlobals "_law_take" = some (some (.ref fD23)))
    (lD23 : K.lookup fD23 = some ⟨ocD23, odD23, .func (PySem.W.fnOf "_law_take" "_law_take" (defArgs sTake) (defBody sTake) (defScope sTake) .none kVD23 dcD23 pmD23 anD23 cdD23 ctD23), slD23⟩)
    (cD23 : PySem.W.codeIn K cdD23 "_law_take" = true)
    (kD23 : PySem.W.keepIn K (.ref fD23) = true)
    (aD24 : PySem.W.nsIn K mainGlobals "_law_cells" = some (some (.ref fD24)))
    (lD24 : K.lookup fD24 = some ⟨ocD24, odD24, .func (PySem.W.fnOf "_law_cells" "_law_cells" (defArgs sCells) (defBody sCells) (defScope sCells) .none kVD24 dcD24 pmD24 anD24 cdD24 ctD24), slD24⟩)
    (cD24 : PySem.W.codeIn K cdD24 "_law_cells" = true)
    (kD24 : PySem.W.keepIn K (.ref fD24) = true)
    (aD25 : PySem.W.nsIn K mainGlobals "_law_of" = some (some (.ref fD25)))
    (lD25 : K.lookup fD25 = some ⟨ocD25, odD25, .func (PySem.W.fnOf "_law_of" "_law_of" (defArgs sOf) (defBody sOf) (defScope sOf) .none kVD25 dcD25 pmD25 anD25 cdD25 ctD25), slD25⟩)
    (cD25 : PySem.W.codeIn K cdD25 "_law_of" = true)
    (kD25 : PySem.W.keepIn K (.ref fD25) = true)
    (aD26 : PySem.W.nsIn K mainGlobals "_law_same" = some (some (.ref fD26)))
    (lD26 : K.lookup fD26 = some ⟨ocD26, odD26, .func (PySem.W.fnOf "_law_same" "_law_same" (defArgs s_l_same) (defBody s_l_same) (defScope s_l_same) .none kVD26 dcD26 pmD26 anD26 cdD26 ctD26), slD26⟩)
    (cD26 : PySem.W.codeIn K cdD26 "_law_same" = true)
    (kD26 : PySem.W.keepIn K (.ref fD26) = true)
    (aD27 : PySem.W.nsIn K mainGlobals "_law_drawn" = some (some (.ref fD27)))
    (lD27 : K.lookup fD27 = some ⟨ocD27, odD27, .func (PySem.W.fnOf "_law_drawn" "_law_drawn" (defArgs s_l_drawn) (defBody s_l_drawn) (defScope s_l_drawn) .none kVD27 dcD27 pmD27 anD27 cdD27 ctD27), slD27⟩)
    (cD27 : PySem.W.codeIn K cdD27 "_law_drawn" = true)
    (kD27 : PySem.W.keepIn K (.ref fD27) = true)
    (aD28 : PySem.W.nsIn K mainGlobals "_law_window" = some (some (.ref fD28)))
    (lD28 : K.lookup fD28 = some ⟨ocD28, odD28, .func (PySem.W.fnOf "_law_window" "_law_window" (defArgs s_l_window) (defBody s_l_window) (defScope s_l_window) .none kVD28 dcD28 pmD28 anD28 cdD28 ctD28), slD28⟩)
    (cD28 : PySem.W.codeIn K cdD28 "_law_window" = true)
    (kD28 : PySem.W.keepIn K (.ref fD28) = true)
    (aD29 : PySem.W.nsIn K mainGlobals "_law_value" = some (some (.ref fD29)))
    (lD29 : K.lookup fD29 = some ⟨ocD29, odD29, .func (PySem.W.fnOf "_law_value" "_law_value" (defArgs s_l_value) (defBody s_l_value) (defScope s_l_value) .none kVD29 dcD29 pmD29 anD29 cdD29 ctD29), slD29⟩)
    (cD29 : PySem.W.codeIn K cdD29 "_law_value" = true)
    (kD29 : PySem.W.keepIn K (.ref fD29) = true)
    (aD30 : PySem.W.nsIn K mainGlobals "_law_least" = some (some (.ref fD30)))
    (lD30 : K.lookup fD30 = some ⟨ocD30, odD30, .func (PySem.W.fnOf "_law_least" "_law_least" (defArgs s_l_least) (defBody s_l_least) (defScope s_l_least) .none kVD30 dcD30 pmD30 anD30 cdD30 ctD30), slD30⟩)
    (cD30 : PySem.W.codeIn K cdD30 "_law_least" = true)
    (kD30 : PySem.W.keepIn K (.ref fD30) = true)
    (aD31 : PySem.W.nsIn K mainGlobals "_law_inside" = some (some (.ref fD31)))
    (lD31 : K.lookup fD31 = some ⟨ocD31, odD31, .func (PySem.W.fnOf "_law_inside" "_law_inside" (defArgs s_l_inside) (defBody s_l_inside) (defScope s_l_inside) .none kVD31 dcD31 pmD31 anD31 cdD31 ctD31), slD31⟩)
    (cD31 : PySem.W.codeIn K cdD31 "_law_inside" = true)
    (kD31 : PySem.W.keepIn K (.ref fD31) = true)
    (aD32 : PySem.W.nsIn K mainGlobals "_law_met" = some (some (.ref fD32)))
    (lD32 : K.lookup fD32 = some ⟨ocD32, odD32, .func (PySem.W.fnOf "_law_met" "_law_met" (defArgs s_l_met) (defBody s_l_met) (defScope s_l_met) .none kVD32 dcD32 pmD32 anD32 cdD32 ctD32), slD32⟩)
    (cD32 : PySem.W.codeIn K cdD32 "_law_met" = true)
    (kD32 : PySem.W.keepIn K (.ref fD32) = true)
    (aD33 : PySem.W.nsIn K mainGlobals "_law_pair_right" = some (some (.ref fD33)))
    (lD33 : K.lookup fD33 = some ⟨ocD33, odD33, .func (PySem.W.fnOf "_law_pair_right" "_law_pair_right" (defArgs s_l_pair_right) (defBody s_l_pair_right) (defScope s_l_pair_right) .none kVD33 dcD33 pmD33 anD33 cdD33 ctD33), slD33⟩)
    (cD33 : PySem.W.codeIn K cdD33 "_law_pair_right" = true)
    (kD33 : PySem.W.keepIn K (.ref fD33) = true)
    (aD34 : PySem.W.nsIn K mainGlobals "_law_right" = some (some (.ref fD34)))
    (lD34 : K.lookup fD34 = some ⟨ocD34, odD34, .func (PySem.W.fnOf "_law_right" "_law_right" (defArgs s_l_right) (defBody s_l_right) (defScope s_l_right) .none kVD34 dcD34 pmD34 anD34 cdD34 ctD34), slD34⟩)
    (cD34 : PySem.W.codeIn K cdD34 "_law_right" = true)
    (kD34 : PySem.W.keepIn K (.ref fD34) = true)
    (aD35 : PySem.W.nsIn K mainGlobals "law" = some (some (.ref fD35)))
    (lD35 : K.lookup fD35 = some ⟨ocD35, odD35, .func (PySem.W.fnOf "law" "law" (defArgs sLaw) (defBody sLaw) (defScope sLaw) .none kVD35 dcD35 pmD35 anD35 cdD35 ctD35), slD35⟩)
    (cD35 : PySem.W.codeIn K cdD35 "law" = true)
    (kD35 : PySem.W.keepIn K (.ref fD35) = true)
    (b_len : PySem.W.nsIn K mainGlobals "len" = some none)
    (b_abs : PySem.W.nsIn K mainGlobals "abs" = some none)
    (b_int : PySem.W.nsIn K mainGlobals "int" = some none)
    (b_list : PySem.W.nsIn K mainGlobals "list" = some none)
    (b_tuple : PySem.W.nsIn K mainGlobals "tuple" = some none)
    (b_bool : PySem.W.nsIn K mainGlobals "bool" = some none)
    (b_str : PySem.W.nsIn K mainGlobals "str" = some none)
    (b_enumerate : PySem.W.nsIn K mainGlobals "enumerate" = some none)
    (b_isinstance : PySem.W.nsIn K mainGlobals "isinstance" = some none)
    (b_all : PySem.W.nsIn K mainGlobals "all" = some none)
    (b_any : PySem.W.nsIn K mainGlobals "any" = some none)
    (b_zip : PySem.W.nsIn K mainGlobals "zip" = some none)
    (b_range : PySem.W.nsIn K mainGlobals "range" = some none)
    (b_min : PySem.W.nsIn K mainGlobals "min" = some none)
    (b_max : PySem.W.nsIn K mainGlobals "max" = some none)
    (b_set : PySem.W.nsIn K mainGlobals "set" = some none)
    (b_sorted : PySem.W.nsIn K mainGlobals "sorted" = some none)
    (b_repr : PySem.W.nsIn K mainGlobals "repr" = some none)
    (b_sum : PySem.W.nsIn K mainGlobals "sum" = some none)
    (aGCD : PySem.W.nsIn K mainGlobals "gcd" = some (some (.builtin "math.gcd")))
    (aEV : PySem.W.nsIn K mainGlobals "EVERY" = some (some (.ref aE)))
    (lEV : K.lookup aE = some ⟨.type "tuple", ocEV, .seq #[.none, .none, .int 1 tkA, .int 0 tkB] nEV, slEV⟩) :
    ∃ fd : FuncData, (∀ (s : Shared) (v : Value), BindsTo s fd ⟨[v], []⟩ [("_law_script", v)]) ∧ ∀ base : Heap, K.In base → base.Ns mainGlobals mg → FnOk l.prog w K mg base CX0 11 fa fd ["_law_script"] (spLaw K) := by
  have e := hfa.symm.trans (PySem.W.mg_of X G aD35)
  cases e
  have F_loosest_low := fun_mk (st := s_loosest_low) lD0 cD0 kD0
  have b_loosest_low := F_loosest_low.binds (ps := ["one", "other"]) fun _ _ _ _ _ _ us hl => match us, hl with | [_, _], _ => rfl
  have F_tightest_low := fun_mk (st := s_tightest_low) lD1 cD1 kD1
  have b_tightest_low := F_tightest_low.binds (ps := ["one", "other"]) fun _ _ _ _ _ _ us hl => match us, hl with | [_, _], _ => rfl
  have F_loosest_high := fun_mk (st := s_loosest_high) lD2 cD2 kD2
  have b_loosest_high := F_loosest_high.binds (ps := ["one", "other"]) fun _ _ _ _ _ _ us hl => match us, hl with | [_, _], _ => rfl
  have F_tightest_high := fun_mk (st := s_tightest_high) lD3 cD3 kD3
  have b_tightest_high := F_tightest_high.binds (ps := ["one", "other"]) fun _ _ _ _ _ _ us hl => match us, hl with | [_, _], _ => rfl
  have F_low_within := fun_mk (st := s_low_within) lD4 cD4 kD4
  have b_low_within := F_low_within.binds (ps := ["one", "other"]) fun _ _ _ _ _ _ us hl => match us, hl with | [_, _], _ => rfl
  have F_high_within := fun_mk (st := s_high_within) lD5 cD5 kD5
  have b_high_within := F_high_within.binds (ps := ["one", "other"]) fun _ _ _ _ _ _ us hl => match us, hl with | [_, _], _ => rfl
  have F_lets_in := fun_mk (st := s_lets_in) lD6 cD6 kD6
  have b_lets_in := F_lets_in.binds (ps := ["low", "high", "n"]) fun _ _ _ _ _ _ us hl => match us, hl with | [_, _, _], _ => rfl
  have F_rest_join := fun_mk (st := s_rest_join) lD7 cD7 kD7
  have b_rest_join := F_rest_join.binds (ps := ["one", "other"]) fun _ _ _ _ _ _ us hl => match us, hl with | [_, _], _ => rfl
  have F_rest_meet := fun_mk (st := s_rest_meet) lD8 cD8 kD8
  have b_rest_meet := F_rest_meet.binds (ps := ["one", "other"]) fun _ _ _ _ _ _ us hl => match us, hl with | [_, _], _ => rfl
  have F_rest_of := fun_mk (st := s_rest_of) lD9 cD9 kD9
  have b_rest_of := F_rest_of.binds (ps := ["m", "n"]) fun _ _ _ _ _ _ us hl => match us, hl with | [_, _], _ => rfl
  have F_rest_has := fun_mk (st := s_rest_has) lD10 cD10 kD10
  have b_rest_has := F_rest_has.binds (ps := ["rest", "n"]) fun _ _ _ _ _ _ us hl => match us, hl with | [_, _], _ => rfl
  have F_rest_within := fun_mk (st := s_rest_within) lD11 cD11 kD11
  have b_rest_within := F_rest_within.binds (ps := ["one", "other"]) fun _ _ _ _ _ _ us hl => match us, hl with | [_, _], _ => rfl
  have F_inverse := fun_mk (st := s_inverse) lD12 cD12 kD12
  have b_inverse := F_inverse.binds (ps := ["n", "m"]) fun _ _ _ _ _ _ us hl => match us, hl with | [_, _], _ => rfl
  have F_span_join := fun_mk (st := s_span_join) lD13 cD13 kD13
  have b_span_join := F_span_join.binds (ps := ["one", "other"]) fun _ _ _ _ _ _ us hl => match us, hl with | [_, _], _ => rfl
  have F_span_meet := fun_mk (st := s_span_meet) lD14 cD14 kD14
  have b_span_meet := F_span_meet.binds (ps := ["one", "other"]) fun _ _ _ _ _ _ us hl => match us, hl with | [_, _], _ => rfl
  have F_single := fun_mk (st := s_single) lD15 cD15 kD15
  have b_single := F_single.binds (ps := ["n"]) fun _ _ _ _ _ _ us hl => match us, hl with | [_], _ => rfl
  have F_value_of := fun_mk (st := s_value_of) lD16 cD16 kD16
  have b_value_of := F_value_of.binds (ps := ["low", "high", "m", "r"]) fun _ _ _ _ _ _ us hl => match us, hl with | [_, _, _, _], _ => rfl
  have F_contains := fun_mk (st := s_contains) lD17 cD17 kD17
  have b_contains := F_contains.binds (ps := ["value", "n"]) fun _ _ _ _ _ _ us hl => match us, hl with | [_, _], _ => rfl
  have F_value_within := fun_mk (st := s_value_within) lD18 cD18 kD18
  have b_value_within := F_value_within.binds (ps := ["one", "other"]) fun _ _ _ _ _ _ us hl => match us, hl with | [_, _], _ => rfl
  have F_value_join := fun_mk (st := s_value_join) lD19 cD19 kD19
  have b_value_join := F_value_join.binds (ps := ["one", "other"]) fun _ _ _ _ _ _ us hl => match us, hl with | [_, _], _ => rfl
  have F_value_meet := fun_mk (st := s_value_meet) lD20 cD20 kD20
  have b_value_meet := F_value_meet.binds (ps := ["one", "other"]) fun _ _ _ _ _ _ us hl => match us, hl with | [_, _], _ => rfl
  have F_value_from := fun_mk (st := s_value_from) lD21 cD21 kD21
  have b_value_from := F_value_from.binds (ps := ["span", "rest"]) fun _ _ _ _ _ _ us hl => match us, hl with | [_, _], _ => rfl
  have F_l_box := fun_mk (st := sBox) lD22 cD22 kD22
  have b_l_box := F_l_box.binds (ps := ["_law_script", "_law_k"]) fun _ _ _ _ _ _ us hl => match us, hl with | [_, _], _ => rfl
  have F_l_take := fun_mk (st := sTake) lD23 cD23 kD23
  have b_l_take := F_l_take.binds (ps := ["_law_box_here", "_law_below"]) fun _ _ _ _ _ _ us hl => match us, hl with | [_, _], _ => rfl
  have F_l_cells := fun_mk (st := sCells) lD24 cD24 kD24
  have b_l_cells := F_l_cells.binds (ps := ["_law_script", "_law_most"]) fun _ _ _ _ _ _ us hl => match us, hl with | [_, _], _ => rfl
  have F_l_of := fun_mk (st := sOf) lD25 cD25 kD25
  have b_l_of := F_l_of.binds (ps := ["_law_box_here", "_law_some"]) fun _ _ _ _ _ _ us hl => match us, hl with | [_, _], _ => rfl
  have F_l_same := fun_mk (st := s_l_same) lD26 cD26 kD26
  have b_l_same := F_l_same.binds (ps := ["_law_found", "_law_due"]) fun _ _ _ _ _ _ us hl => match us, hl with | [_, _], _ => rfl
  have F_l_drawn := fun_mk (st := s_l_drawn) lD27 cD27 kD27
  have b_l_drawn := F_l_drawn.binds (ps := ["_law_box_here"]) fun _ _ _ _ _ _ us hl => match us, hl with | [_], _ => rfl
  have F_l_window := fun_mk (st := s_l_window) lD28 cD28 kD28
  have b_l_window := F_l_window.binds (ps := ["_law_some"]) fun _ _ _ _ _ _ us hl => match us, hl with | [_], _ => rfl
  have F_l_value := fun_mk (st := s_l_value) lD29 cD29 kD29
  have b_l_value := F_l_value.binds (ps := ["_law_some"]) fun _ _ _ _ _ _ us hl => match us, hl with | [_], _ => rfl
  have F_l_least := fun_mk (st := s_l_least) lD30 cD30 kD30
  have b_l_least := F_l_least.binds (ps := ["_law_mine", "_law_its"]) fun _ _ _ _ _ _ us hl => match us, hl with | [_, _], _ => rfl
  have F_l_inside := fun_mk (st := s_l_inside) lD31 cD31 kD31
  have b_l_inside := F_l_inside.binds (ps := ["_law_mine", "_law_its"]) fun _ _ _ _ _ _ us hl => match us, hl with | [_, _], _ => rfl
  have F_l_met := fun_mk (st := s_l_met) lD32 cD32 kD32
  have b_l_met := F_l_met.binds (ps := ["_law_mine", "_law_its"]) fun _ _ _ _ _ _ us hl => match us, hl with | [_, _], _ => rfl
  have F_l_pair_right := fun_mk (st := s_l_pair_right) lD33 cD33 kD33
  have b_l_pair_right := F_l_pair_right.binds (ps := ["_law_mine", "_law_its"]) fun _ _ _ _ _ _ us hl => match us, hl with | [_, _], _ => rfl
  have F_l_right := fun_mk (st := s_l_right) lD34 cD34 kD34
  have b_l_right := F_l_right.binds (ps := ["_law_box_here"]) fun _ _ _ _ _ _ us hl => match us, hl with | [_], _ => rfl
  have F_law := fun_mk (st := sLaw) lD35 cD35 kD35
  have b_law := F_law.binds (ps := ["_law_script"]) fun _ _ _ _ _ _ us hl => match us, hl with | [_], _ => rfl
  have bl : Blts mg := ⟨PySem.W.mg_none_of X G b_len, PySem.W.mg_none_of X G b_abs, PySem.W.mg_none_of X G b_int, PySem.W.mg_none_of X G b_list, PySem.W.mg_none_of X G b_tuple, PySem.W.mg_none_of X G b_bool, PySem.W.mg_none_of X G b_str, PySem.W.mg_none_of X G b_enumerate, PySem.W.mg_none_of X G b_isinstance, PySem.W.mg_none_of X G b_all, PySem.W.mg_none_of X G b_any, PySem.W.mg_none_of X G b_zip, PySem.W.mg_none_of X G b_range, PySem.W.mg_none_of X G b_min, PySem.W.mg_none_of X G b_max, PySem.W.mg_none_of X G b_set, PySem.W.mg_none_of X G b_sorted, PySem.W.mg_none_of X G b_repr, PySem.W.mg_none_of X G b_sum⟩
  have hgcd := PySem.W.mg_of X G aGCD
  have hEVERY := PySem.W.mg_of X G aEV
  have tE := tupC_every lEV
  have n_loosest_low := PySem.W.mg_of X G aD0
  have n_tightest_low := PySem.W.mg_of X G aD1
  have n_loosest_high := PySem.W.mg_of X G aD2
  have n_tightest_high := PySem.W.mg_of X G aD3
  have n_low_within := PySem.W.mg_of X G aD4
  have n_high_within := PySem.W.mg_of X G aD5
  have n_lets_in := PySem.W.mg_of X G aD6
  have n_rest_join := PySem.W.mg_of X G aD7
  have n_rest_meet := PySem.W.mg_of X G aD8
  have n_rest_of := PySem.W.mg_of X G aD9
  have n_rest_has := PySem.W.mg_of X G aD10
  have n_rest_within := PySem.W.mg_of X G aD11
  have n_inverse := PySem.W.mg_of X G aD12
  have n_span_join := PySem.W.mg_of X G aD13
  have n_span_meet := PySem.W.mg_of X G aD14
  have n_single := PySem.W.mg_of X G aD15
  have n_value_of := PySem.W.mg_of X G aD16
  have n_contains := PySem.W.mg_of X G aD17
  have n_value_within := PySem.W.mg_of X G aD18
  have n_value_join := PySem.W.mg_of X G aD19
  have n_value_meet := PySem.W.mg_of X G aD20
  have n_value_from := PySem.W.mg_of X G aD21
  have n_l_box := PySem.W.mg_of X G aD22
  have n_l_take := PySem.W.mg_of X G aD23
  have n_l_cells := PySem.W.mg_of X G aD24
  have n_l_of := PySem.W.mg_of X G aD25
  have n_l_same := PySem.W.mg_of X G aD26
  have n_l_drawn := PySem.W.mg_of X G aD27
  have n_l_window := PySem.W.mg_of X G aD28
  have n_l_value := PySem.W.mg_of X G aD29
  have n_l_least := PySem.W.mg_of X G aD30
  have n_l_inside := PySem.W.mg_of X G aD31
  have n_l_met := PySem.W.mg_of X G aD32
  have n_l_pair_right := PySem.W.mg_of X G aD33
  have n_l_right := PySem.W.mg_of X G aD34
  refine ⟨PySem.W.fnOf "law" "law" (defArgs sLaw) (defBody sLaw) (defScope sLaw) .none kVD35 dcD35 pmD35 anD35 cdD35 ctD35, fun s v => .of_eq rfl, fun base _ _ => ?_⟩
  have c_loosest_low : Cal l.prog w K mg base 1 "loosest_low" ["one", "other"] (spP K (S2 lowJ)) _ _ := ⟨ok_loosest_low (P := l.prog) (w := w) (mg := mg) (base := base) bl F_loosest_low, b_loosest_low, F_loosest_low.kp, n_loosest_low⟩
  have c_loosest_high : Cal l.prog w K mg base 1 "loosest_high" ["one", "other"] (spP K (S2 highJ)) _ _ := ⟨ok_loosest_high (P := l.prog) (w := w) (mg := mg) (base := base) bl F_loosest_high, b_loosest_high, F_loosest_high.kp, n_loosest_high⟩
  have c_low_within : Cal l.prog w K mg base 1 "low_within" ["one", "other"] (spP K (S2b lwB)) _ _ := ⟨ok_low_within (P := l.prog) (w := w) (mg := mg) (base := base) bl F_low_within, b_low_within, F_low_within.kp, n_low_within⟩
  have c_high_within : Cal l.prog w K mg base 1 "high_within" ["one", "other"] (spP K (S2b hwB)) _ _ := ⟨ok_high_within (P := l.prog) (w := w) (mg := mg) (base := base) bl F_high_within, b_high_within, F_high_within.kp, n_high_within⟩
  have c_rest_of : Cal l.prog w K mg base 1 "rest_of" ["m", "n"] (spP K (S_ro)) _ _ := ⟨ok_rest_of (P := l.prog) (w := w) (mg := mg) (base := base) bl F_rest_of, b_rest_of, F_rest_of.kp, n_rest_of⟩
  have c_rest_has : Cal l.prog w K mg base 1 "rest_has" ["rest", "n"] (spP K (S_has)) _ _ := ⟨ok_rest_has (P := l.prog) (w := w) (mg := mg) (base := base) bl F_rest_has, b_rest_has, F_rest_has.kp, n_rest_has⟩
  have c_single : Cal l.prog w K mg base 1 "single" ["n"] (spP K (S_sing)) _ _ := ⟨ok_single (P := l.prog) (w := w) (mg := mg) (base := base) bl F_single, b_single, F_single.kp, n_single⟩
  have c_tightest_low : Cal l.prog w K mg base 1 "tightest_low" ["one", "other"] (spP K (S2 tightL)) _ _ := ⟨ok_tightest_low (P := l.prog) (w := w) (mg := mg) (base := base) bl F_tightest_low, b_tightest_low, F_tightest_low.kp, n_tightest_low⟩
  have c_tightest_high : Cal l.prog w K mg base 1 "tightest_high" ["one", "other"] (spP K (S2 tightH)) _ _ := ⟨ok_tightest_high (P := l.prog) (w := w) (mg := mg) (base := base) bl F_tightest_high, b_tightest_high, F_tightest_high.kp, n_tightest_high⟩
  have c_inverse : Cal l.prog w K mg base 1 "inverse" ["n", "m"] (spP K (S_inv)) _ _ := ⟨ok_inverse (P := l.prog) (w := w) (mg := mg) (base := base) bl F_inverse, b_inverse, F_inverse.kp, n_inverse⟩
  have c_lets_in : Cal l.prog w K mg base 2 "lets_in" ["low", "high", "n"] (spP K S_lets) _ _ := ⟨ok_lets_in bl c_low_within c_high_within F_lets_in, b_lets_in, F_lets_in.kp, n_lets_in⟩
  have c_span_join : Cal l.prog w K mg base 2 "span_join" ["one", "other"] (spP K S_sj) _ _ := ⟨ok_span_join bl c_loosest_low c_loosest_high F_span_join, b_span_join, F_span_join.kp, n_span_join⟩
  have c_span_meet : Cal l.prog w K mg base 2 "span_meet" ["one", "other"] (spP K S_sm) _ _ := ⟨ok_span_meet bl c_tightest_low c_tightest_high F_span_meet, b_span_meet, F_span_meet.kp, n_span_meet⟩
  have c_rest_join : Cal l.prog w K mg base 2 "rest_join" ["one", "other"] (spP K S_rj) _ _ := ⟨ok_rest_join bl c_rest_of hgcd F_rest_join, b_rest_join, F_rest_join.kp, n_rest_join⟩
  have c_rest_meet : Cal l.prog w K mg base 2 "rest_meet" ["one", "other"] (spP K (S2r fMeet)) _ _ := ⟨ok_rest_meet bl c_rest_has c_rest_of c_inverse hgcd F_rest_meet, b_rest_meet, F_rest_meet.kp, n_rest_meet⟩
  have c_rest_within : Cal l.prog w K mg base 2 "rest_within" ["one", "other"] (spP K S_rw) _ _ := ⟨ok_rest_within bl c_rest_has F_rest_within, b_rest_within, F_rest_within.kp, n_rest_within⟩
  have c_value_of : Cal l.prog w K mg base 3 "value_of" ["low", "high", "m", "r"] (spP K S_vo) _ _ := ⟨ok_value_of bl c_lets_in c_single F_value_of, b_value_of, F_value_of.kp, n_value_of⟩
  have c_contains : Cal l.prog w K mg base 3 "contains" ["value", "n"] (spP K S_con) _ _ := ⟨ok_contains bl c_lets_in c_rest_has F_contains, b_contains, F_contains.kp, n_contains⟩
  have c_value_within : Cal l.prog w K mg base 3 "value_within" ["one", "other"] (spP K S_vw) _ _ := ⟨ok_value_within bl c_low_within c_high_within c_rest_within F_value_within, b_value_within, F_value_within.kp, n_value_within⟩
  have c_value_from : Cal l.prog w K mg base 4 "value_from" ["span", "rest"] (spP K S_vf) _ _ := ⟨ok_value_from bl c_value_of F_value_from, b_value_from, F_value_from.kp, n_value_from⟩
  have c2_value_from : Cal l.prog w K mg base 4 "value_from" ["span", "rest"] (spP K S_vf2) _ _ := ⟨ok_value_from2 bl c_value_of F_value_from, b_value_from, F_value_from.kp, n_value_from⟩
  have c_value_join : Cal l.prog w K mg base 5 "value_join" ["one", "other"] (spP K S_vj) _ _ := ⟨ok_value_join bl c_span_join c_rest_join c_value_from F_value_join, b_value_join, F_value_join.kp, n_value_join⟩
  have c_value_meet : Cal l.prog w K mg base 5 "value_meet" ["one", "other"] (spP K S_vm) _ _ := ⟨ok_value_meet bl c_span_meet c_rest_meet c2_value_from F_value_meet, b_value_meet, F_value_meet.kp, n_value_meet⟩
  have k_value_join : KB0 K _ p_value_join ["other", "one"] List.reverse List.reverse := kb0_of F_value_join (fun _ _ _ _ _ _ us hl => match us, hl with | [_, _], _ => rfl) (fun r _ => vals_rev r)
  have k_value_meet : KB0 K _ p_value_meet ["other", "one"] List.reverse List.reverse := kb0_of F_value_meet (fun _ _ _ _ _ _ us hl => match us, hl with | [_, _], _ => rfl) (fun r _ => vals_rev r)
  have k_value_within : KB0 K _ p_value_within ["other", "one"] List.reverse List.reverse := kb0_of F_value_within (fun _ _ _ _ _ _ us hl => match us, hl with | [_, _], _ => rfl) (fun r _ => vals_rev r)
  have k_contains : KB0 K _ p_contains ["n", "value"] List.reverse List.reverse := kb0_of F_contains (fun _ _ _ _ _ _ us hl => match us, hl with | [_, _], _ => rfl) (fun r _ => vals_rev r)
  have k_value_of : KB0 K _ p_value_of ["r", "m", "high", "low"] List.reverse List.reverse := kb0_of F_value_of (fun _ _ _ _ _ _ us hl => match us, hl with | [_, _, _, _], _ => rfl) (fun r _ => vals_rev r)
  have k_single : KB0 K _ p_single ["n"] List.reverse List.reverse := kb0_of F_single (fun _ _ _ _ _ _ us hl => match us, hl with | [_], _ => rfl) (fun r _ => vals_rev r)
  have T1 := ok_take (n := 1) (P := l.prog) (w := w) (mg := mg) (base := base) F_l_take
  have c_l_take : Cal l.prog w K mg base 2 "_law_take" ["_law_box_here", "_law_below"] (spB K 1 domT postT) _ _ := ⟨take_B T1, b_l_take, F_l_take.kp, n_l_take⟩
  have c_l_of : Cal l.prog w K mg base 3 "_law_of" ["_law_box_here", "_law_some"] (spB K 1 domO postO) _ _ := ⟨ok_l_of bl c_l_take F_l_of, b_l_of, F_l_of.kp, n_l_of⟩
  have c_l_same : Cal l.prog w K mg base 8 "_law_same" ["_law_found", "_law_due"] (spP K (S_same 8)) _ _ := ⟨all_same bl F_l_same b_l_same n_l_same 8, b_l_same, F_l_same.kp, n_l_same⟩
  have c_l_window : Cal l.prog w K mg base 1 "_law_window" ["_law_some"] (spP K S_win) _ _ := ⟨ok_l_window (P := l.prog) (w := w) (mg := mg) (base := base) bl F_l_window, b_l_window, F_l_window.kp, n_l_window⟩
  have c_l_value : Cal l.prog w K mg base 2 "_law_value" ["_law_some"] (spP K S_lv) _ _ := ⟨ok_l_value bl c_l_window F_l_value, b_l_value, F_l_value.kp, n_l_value⟩
  have c_l_met : Cal l.prog w K mg base 2 "_law_met" ["_law_mine", "_law_its"] (spP K (S2v vmD)) _ _ := ⟨ok_l_met bl c_l_window F_l_met, b_l_met, F_l_met.kp, n_l_met⟩
  have c_l_inside : Cal l.prog w K mg base 2 "_law_inside" ["_law_mine", "_law_its"] (spP K (S2v fIn)) _ _ := ⟨ok_l_inside bl c_l_window F_l_inside, b_l_inside, F_l_inside.kp, n_l_inside⟩
  have c_l_least : Cal l.prog w K mg base 2 "_law_least" ["_law_mine", "_law_its"] (spP K (S2v fLe)) _ _ := ⟨ok_l_least bl c_l_window F_l_least, b_l_least, F_l_least.kp, n_l_least⟩
  have c_l_drawn : Cal l.prog w K mg base 4 "_law_drawn" ["_law_box_here"] (spB K 7 domD postD) _ _ := ⟨ok_l_drawn bl c_l_take c_l_of F_l_drawn, b_l_drawn, F_l_drawn.kp, n_l_drawn⟩
  have c_l_pair_right : Cal l.prog w K mg base 9 "_law_pair_right" ["_law_mine", "_law_its"] (spP K S_pr) _ _ := ⟨ok_l_pair_right bl c_l_same c_value_join c_value_meet c_value_within k_value_join k_value_meet k_value_within c_l_least c_l_met c_l_inside F_l_pair_right, b_l_pair_right, F_l_pair_right.kp, n_l_pair_right⟩
  have GR := ok_l_right bl c_l_take c_l_same c_contains c_value_of c_single c_value_within c_l_window c_l_value c_l_drawn c_l_pair_right k_contains k_value_of k_single hEVERY tE F_l_right
  have GC := ok_cells (P := l.prog) (w := w) (mg := mg) (base := base) (n := 0) F_l_cells bl.list bl.enumerate
  have GB := ok_box (P := l.prog) (w := w) (mg := mg) (base := base) (n := 0) F_l_box bl.len bl.abs bl.int
  exact ok_law F_law GC b_l_cells F_l_cells.kp n_l_cells GB b_l_box F_l_box.kp n_l_box GR b_l_right F_l_right.kp n_l_right bl.range bl.len bl.all
end Sh
set_option Elab.async false
open PySem PySem.W PyProof.Rows
set_option maxRecDepth 100000 in
set_option maxHeartbeats 0 in
theorem PySem.Challenge.cw_shadowruns_k31_values_as_sets_holds : PySem.Challenge.rw_shadowruns_k31_values_as_sets.Holds := by
  w_on; o_law; k_head; (case hw => w_witness2)
  k_fill
  refine L2.walk_of (l := PySem.Challenge.rw_shadowruns_k31_values_as_sets) (n := 63) (k := 11) (x := "_law_script") (CX := fun _ => L2.CX0) (sp := fun w => Sh.spLaw _) rfl (by decide) rfl ⟨rfl, by decide, by decide⟩ (fun w h Y => PySem.W.kIn_of Y) ?F (fun _ _ a ns hl _ hS => ⟨a, ns, rfl, hS, hl, fun _ => rfl⟩) (fun _ _ _ _ _ h => h)
  case F =>
    intro w mg fa h KX G hmg
    refine' Sh.all_mk KX G hmg ?aD0 ?lD0 ?cD0 ?kD0 ?aD1 ?lD1 ?cD1 ?kD1 ?aD2 ?lD2 ?cD2 ?kD2 ?aD3 ?lD3 ?cD3 ?kD3 ?aD4 ?lD4 ?cD4 ?kD4 ?aD5 ?lD5 ?cD5 ?kD5 ?aD6 ?lD6 ?cD6 ?kD6 ?aD7 ?lD7 ?cD7 ?kD7 ?aD8 ?lD8 ?cD8 ?kD8 ?aD9 ?lD9 ?cD9 ?kD9 ?aD10 ?lD10 ?cD10 ?kD10 ?aD11 ?lD11 ?cD11 ?kD11 ?aD12 ?lD12 ?cD12 ?kD12 ?aD13 ?lD13 ?cD13 ?kD13 ?aD14 ?lD14 ?cD14 ?kD14 ?aD15 ?lD15 ?cD15 ?kD15 ?aD16 ?lD16 ?cD16 ?kD16 ?aD17 ?lD17 ?cD17 ?kD17 ?aD18 ?lD18 ?cD18 ?kD18 ?aD19 ?lD19 ?cD19 ?kD19 ?aD20 ?lD20 ?cD20 ?kD20 ?aD21 ?lD21 ?cD21 ?kD21 ?aD22 ?lD22 ?cD22 ?kD22 ?aD23 ?lD23 ?cD23 ?kD23 ?aD24 ?lD24 ?cD24 ?kD24 ?aD25 ?lD25 ?cD25 ?kD25 ?aD26 ?lD26 ?cD26 ?kD26 ?aD27 ?lD27 ?cD27 ?kD27 ?aD28 ?lD28 ?cD28 ?kD28 ?aD29 ?lD29 ?cD29 ?kD29 ?aD30 ?lD30 ?cD30 ?kD30 ?aD31 ?lD31 ?cD31 ?kD31 ?aD32 ?lD32 ?cD32 ?kD32 ?aD33 ?lD33 ?cD33 ?kD33 ?aD34 ?lD34 ?cD34 ?kD34 ?aD35 ?lD35 ?cD35 ?kD35 ?b_len ?b_abs ?b_int ?b_list ?b_tuple ?b_bool ?b_str ?b_enumerate ?b_isinstance ?b_all ?b_any ?b_zip ?b_range ?b_min ?b_max ?b_set ?b_sorted ?b_repr ?b_sum ?aGCD ?aEV ?lEV
    (case aD0 => k_is)
    (case lD0 => k_is)
    (case cD0 => k_is)
    (case kD0 => k_is)
    (case aD1 => k_is)
    (case lD1 => k_is)
    (case cD1 => k_is)
    (case kD1 => k_is)
    (case aD2 => k_is)
    (case lD2 => k_is)
    (case cD2 => k_is)
    (case kD2 => k_is)
    (case aD3 => k_is)
    (case lD3 => k_is)
    (case cD3 => k_is)
    (case kD3 => k_is)
    (case aD4 => k_is)
    (case lD4 => k_is)
    (case cD4 => k_is)
    (case kD4 => k_is)
    (case aD5 => k_is)
    (case lD5 => k_is)
    (case cD5 => k_is)
    (case kD5 => k_is)
    (case aD6 => k_is)
    (case lD6 => k_is)
    (case cD6 => k_is)
    (case kD6 => k_is)
    (case aD7 => k_is)
    (case lD7 => k_is)
    (case cD7 => k_is)
    (case kD7 => k_is)
    (case aD8 => k_is)
    (case lD8 => k_is)
    (case cD8 => k_is)
    (case kD8 => k_is)
    (case aD9 => k_is)
    (case lD9 => k_is)
    (case cD9 => k_is)
    (case kD9 => k_is)
    (case aD10 => k_is)
    (case lD10 => k_is)
    (case cD10 => k_is)
    (case kD10 => k_is)
    (case aD11 => k_is)
    (case lD11 => k_is)
    (case cD11 => k_is)
    (case kD11 => k_is)
    (case aD12 => k_is)
    (case lD12 => k_is)
    (case cD12 => k_is)
    (case kD12 => k_is)
    (case aD13 => k_is)
    (case lD13 => k_is)
    (case cD13 => k_is)
    (case kD13 => k_is)
    (case aD14 => k_is)
    (case lD14 => k_is)
    (case cD14 => k_is)
    (case kD14 => k_is)
    (case aD15 => k_is)
    (case lD15 => k_is)
    (case cD15 => k_is)
    (case kD15 => k_is)
    (case aD16 => k_is)
    (case lD16 => k_is)
    (case cD16 => k_is)
    (case kD16 => k_is)
    (case aD17 => k_is)
    (case lD17 => k_is)
    (case cD17 => k_is)
    (case kD17 => k_is)
    (case aD18 => k_is)
    (case lD18 => k_is)
    (case cD18 => k_is)
    (case kD18 => k_is)
    (case aD19 => k_is)
    (case lD19 => k_is)
    (case cD19 => k_is)
    (case kD19 => k_is)
    (case aD20 => k_is)
    (case lD20 => k_is)
    (case cD20 => k_is)
    (case kD20 => k_is)
    (case aD21 => k_is)
    (case lD21 => k_is)
    (case cD21 => k_is)
    (case kD21 => k_is)
    (case aD22 => k_is)
    (case lD22 => k_is)
    (case cD22 => k_is)
    (case kD22 => k_is)
    (case aD23 => k_is)
    (case lD23 => k_is)
    (case cD23 => k_is)
    (case kD23 => k_is)
    (case aD24 => k_is)
    (case lD24 => k_is)
    (case cD24 => k_is)
    (case kD24 => k_is)
    (case aD25 => k_is)
    (case lD25 => k_is)
    (case cD25 => k_is)
    (case kD25 => k_is)
    (case aD26 => k_is)
    (case lD26 => k_is)
    (case cD26 => k_is)
    (case kD26 => k_is)
    (case aD27 => k_is)
    (case lD27 => k_is)
    (case cD27 => k_is)
    (case kD27 => k_is)
    (case aD28 => k_is)
    (case lD28 => k_is)
    (case cD28 => k_is)
    (case kD28 => k_is)
    (case aD29 => k_is)
    (case lD29 => k_is)
    (case cD29 => k_is)
    (case kD29 => k_is)
    (case aD30 => k_is)
    (case lD30 => k_is)
    (case cD30 => k_is)
    (case kD30 => k_is)
    (case aD31 => k_is)
    (case lD31 => k_is)
    (case cD31 => k_is)
    (case kD31 => k_is)
    (case aD32 => k_is)
    (case lD32 => k_is)
    (case cD32 => k_is)
    (case kD32 => k_is)
    (case aD33 => k_is)
    (case lD33 => k_is)
    (case cD33 => k_is)
    (case kD33 => k_is)
    (case aD34 => k_is)
    (case lD34 => k_is)
    (case cD34 => k_is)
    (case kD34 => k_is)
    (case aD35 => k_is)
    (case lD35 => k_is)
    (case cD35 => k_is)
    (case kD35 => k_is)
    (case b_len => k_is)
    (case b_abs => k_is)
    (case b_int => k_is)
    (case b_list => k_is)
    (case b_tuple => k_is)
    (case b_bool => k_is)
    (case b_str => k_is)
    (case b_enumerate => k_is)
    (case b_isinstance => k_is)
    (case b_all => k_is)
    (case b_any => k_is)
    (case b_zip => k_is)
    (case b_range => k_is)
    (case b_min => k_is)
    (case b_max => k_is)
    (case b_set => k_is)
    (case b_sorted => k_is)
    (case b_repr => k_is)
    (case b_sum => k_is)
    (case aGCD => k_is)
    (case aEV => k_is)
    (case lEV => k_is)
