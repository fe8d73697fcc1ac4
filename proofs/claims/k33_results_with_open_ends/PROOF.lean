import PyProof.Rows.All
import Wide.All
import OpenK.AllK
import Wide.FinOn
import HandS.ForMost
import HandS.Flow
import HandS.IsInst
import HandS.FStr
import HandS.Zip
import HandS.Walk
import HandS.Wide
import HandS.TupAny
import HandS.Defaults
import HandS.Style
import HandS.SetFor
import HandS.Strs
import HandS.SortKw
import KE.DatumOrd
import HandS.NoneIn
import HandS.Conv
import HandS.Rev
import HandS.RevTup
import HandS.MapObj
import HandS.MapJoin
import HandS.Gcd
import PyProof.Rows.SortShellAny
import KE.KRevSl
import KE.RegKIsAll
import PySem.Challenge.RW_shadowruns_k33_results_with_open_ends
set_option Elab.async false
set_option linter.all false
set_option maxRecDepth 100000
set_option maxHeartbeats 4000000
/-! A layer of its own over the hand layer: values as data, the heap out of sight. -/
namespace Sh
open PySem PySem.Spec PyProof.Rows L2
inductive Dt where
  | non | bl (b : Bool) | int (i : Int) | str (s : Str) | ty (n : String) | tup (l : List Dt) | lst (l : List Dt)
section
variable (K : PySem.W.Frag)
mutual
def RD (G : Hp) : Dt → V → Prop
  | .non, v => v = .non
  | .bl b, v => v = .bl b
  | .int i, v => v = .int i
  | .str s, v => v = .str s
  | .ty n, v => v = .ty n
  | .tup l, v => ∃ a xs, v = .ref a ∧ SqT K G a xs ∧ RDs G l xs
  | .lst l, v => ∃ a xs, v = .ref a ∧ G a = some (.lst xs) ∧ RDs G l xs
def RDs (G : Hp) : List Dt → List V → Prop
  | [], xs => xs = []
  | d :: l, xs => ∃ x r, xs = x :: r ∧ RD G d x ∧ RDs G l r
end
end
section
variable {K : PySem.W.Frag}
theorem same_rd {H H' : Hp} {a : Addr} {u : HO} (e : Same H H') (h : Rd H a u) : Rd H' a u := by
  rcases h with h | ⟨o, h⟩
  · exact .inl (e _ _ h)
  · exact .inr ⟨o, e _ _ h⟩
theorem same_sqT {H H' : Hp} {a : Addr} {xs : List V} (e : Same H H') (h : SqT K H a xs) : SqT K H' a xs := by
  rcases h with h | h
  · exact .inl (same_rd e h)
  · exact .inr h
mutual
theorem RD.same {G G' : Hp} (k : Same G G') : ∀ {d : Dt} {v : V}, RD K G d v → RD K G' d v
  | .non, _, h => h
  | .bl _, _, h => h
  | .int _, _, h => h
  | .str _, _, h => h
  | .ty _, _, h => h
  | .tup _, _, ⟨a, xs, e, q, r⟩ => ⟨a, xs, e, same_sqT k q, RDs.same k r⟩
  | .lst _, _, ⟨a, xs, e, q, r⟩ => ⟨a, xs, e, k _ _ q, RDs.same k r⟩
theorem RDs.same {G G' : Hp} (k : Same G G') : ∀ {l : List Dt} {xs : List V}, RDs K G l xs → RDs K G' l xs
  | [], _, h => h
  | _ :: _, _, ⟨x, r, e, h1, h2⟩ => ⟨x, r, e, RD.same k h1, RDs.same k h2⟩
end
theorem RDs.length {G : Hp} : ∀ {l : List Dt} {xs : List V}, RDs K G l xs → xs.length = l.length
  | [], _, h => by rw [show _ = [] from h]; rfl
  | _ :: _, _, ⟨x, r, e, h1, h2⟩ => by rw [e, List.length_cons, List.length_cons, RDs.length h2]
theorem RDs.get {G : Hp} : ∀ {l : List Dt} {xs : List V} {i : Nat} {d : Dt}, RDs K G l xs → l[i]? = some d → ∃ x, xs[i]? = some x ∧ RD K G d x
  | [], _, i, _, h, e => by simp at e
  | d :: l, _, 0, _, ⟨y, r, e1, h1, h2⟩, e => by
    cases e; subst e1; exact ⟨y, rfl, h1⟩
  | d :: l, _, i + 1, _, ⟨y, r, e1, h1, h2⟩, e => by
    subst e1
    obtain ⟨x, q1, q2⟩ := RDs.get (i := i) h2 (by simpa using e)
    exact ⟨x, by simpa using q1, q2⟩
theorem RDs.back {G : Hp} : ∀ {l : List Dt} {xs : List V} {i : Nat} {x : V}, RDs K G l xs → xs[i]? = some x → ∃ d, l[i]? = some d ∧ RD K G d x
  | [], _, i, x, h, e => by rw [show _ = [] from h] at e; simp at e
  | d :: l, _, 0, x, ⟨y, r, e1, h1, h2⟩, e => by
    rw [e1] at e; cases e; exact ⟨d, rfl, h1⟩
  | d :: l, _, i + 1, x, ⟨y, r, e1, h1, h2⟩, e => by
    rw [e1] at e
    obtain ⟨d', q1, q2⟩ := RDs.back (i := i) h2 (by simpa using e)
    exact ⟨d', by simpa using q1, q2⟩
theorem RDs.snoc {G : Hp} : ∀ {l : List Dt} {xs : List V} {d : Dt} {x : V}, RDs K G l xs → RD K G d x → RDs K G (l ++ [d]) (xs ++ [x])
  | [], _, d, x, h, r => by rw [show _ = [] from h]; exact ⟨x, [], rfl, r, rfl⟩
  | d :: l, _, _, x, ⟨y, r, e1, h1, h2⟩, q => ⟨y, r ++ [x], by rw [e1]; rfl, h1, RDs.snoc h2 q⟩
theorem RDs.app {G : Hp} : ∀ {l m : List Dt} {xs ys : List V}, RDs K G l xs → RDs K G m ys → RDs K G (l ++ m) (xs ++ ys)
  | [], _, _, _, h, r => by rw [show _ = [] from h]; exact r
  | d :: l, _, _, ys, ⟨y, r, e1, h1, h2⟩, q => ⟨y, r ++ ys, by rw [e1]; rfl, h1, RDs.app h2 q⟩
theorem RDs.take {G : Hp} : ∀ {l : List Dt} {xs : List V} (n : Nat), RDs K G l xs → RDs K G (l.take n) (xs.take n)
  | _, _, 0, h => by rw [List.take_zero, List.take_zero]; rfl
  | [], _, n + 1, h => by rw [show _ = [] from h]; rfl
  | d :: l, _, n + 1, ⟨y, r, e1, h1, h2⟩ => ⟨y, r.take n, by rw [e1]; rfl, h1, RDs.take n h2⟩
theorem RDs.drop {G : Hp} : ∀ {l : List Dt} {xs : List V} (n : Nat), RDs K G l xs → RDs K G (l.drop n) (xs.drop n)
  | _, _, 0, h => h
  | [], _, n + 1, h => by rw [show _ = [] from h]; rfl
  | d :: l, _, n + 1, ⟨y, r, e1, h1, h2⟩ => by rw [e1]; exact RDs.drop n h2
theorem RDs.bls {G : Hp} : ∀ {ns : List Bool} {xs : List V}, RDs K G (ns.map Dt.bl) xs → xs = ns.map V.bl
  | [], _, h => h
  | n :: ns, _, ⟨y, r, e1, h1, h2⟩ => by rw [e1, show y = V.bl n from h1, RDs.bls h2]; rfl
theorem RDs.one {G : Hp} {d : Dt} {xs : List V} (h : RDs K G [d] xs) : ∃ x, xs = [x] ∧ RD K G d x := by
  obtain ⟨x, r, rfl, h1, rfl⟩ := h
  exact ⟨x, rfl, h1⟩
theorem RDs.two {G : Hp} {d e : Dt} {xs : List V} (h : RDs K G [d, e] xs) : ∃ x y, xs = [x, y] ∧ RD K G d x ∧ RD K G e y := by
  obtain ⟨x, r, rfl, h1, y, r2, rfl, h2, rfl⟩ := h
  exact ⟨x, y, rfl, h1, h2⟩
theorem same_up {H : Hp} {p : Addr} {o : HO} (h : H p = none) : Same H (upd H p o) := fun b x e => by
  rw [upd_ne (ne_of_none e h)]; exact e
theorem same_upd {G H : Hp} {p : Addr} {o : HO} (h : Same G H) : Same (upd G p o) (upd H p o) := fun b x e => by
  by_cases z : b = p
  · subst z; rw [upd_same] at e ⊢; exact e
  · rw [upd_ne z] at e ⊢; exact h _ _ e
/-! ### what stands in the slots -/
def BxM : Int := 1000000000000
def Bx (H : Hp) (b : Addr) (y c : Int) : Prop := ∃ x : Int, H b = some (.lst [.int x, .int y, .int c]) ∧ 0 ≤ x ∧ 0 ≤ y ∧ y < 4611686018427387904
inductive En where
  | no | da (d : Dt) | own (l : List Dt) | bx (b : Addr) (f : Nat)
def En.isOwn : En → Prop
  | .own _ => True
  | .bx _ _ => True
  | _ => False
end
/-- G: what is data; H: all; B: what others hold and is no data -/
structure Mt (K : PySem.W.Frag) (B : Addr → Prop) (ρ : List En) (σ : L2.St) (G H : Hp) : Prop where
  sub : Same G H
  pro : ∀ a, B a → G a = none ∧ H a ≠ none
  len : σ.length = ρ.length
  da : ∀ (i : Nat) (d : Dt), ρ[i]? = some (.da d) → ∃ v, σ[i]? = some (some v) ∧ RD K G d v
  own : ∀ (i : Nat) (l : List Dt), ρ[i]? = some (.own l) → ∃ (q : Addr) (xs : List V), σ[i]? = some (some (V.ref q)) ∧ H q = some (.lst xs) ∧ RDs K G l xs ∧ G q = none ∧ ¬ B q
  bx : ∀ (i : Nat) (b : Addr) (f : Nat), ρ[i]? = some (.bx b f) → ∃ (y c : Int), σ[i]? = some (some (V.ref b)) ∧ Bx H b y c ∧ 0 ≤ c ∧ c + f ≤ BxM ∧ G b = none ∧ ¬ B b
  dis : ∀ (i j : Nat) (e e' : En) (a : Addr), ρ[i]? = some e → ρ[j]? = some e' → e.isOwn → e'.isOwn → i ≠ j → σ[i]? = some (some (V.ref a)) → σ[j]? = some (some (V.ref a)) → False
/-- what others hold stays -/
def Tr (B : Addr → Prop) (H H' : Hp) : Prop := ∀ a o, B a → H a = some o → H' a = some o
theorem Tr.refl {B : Addr → Prop} {H : Hp} : Tr B H H := fun _ _ _ e => e
theorem Tr.trans {B : Addr → Prop} {H H1 H2 : Hp} (x : Tr B H H1) (y : Tr B H1 H2) : Tr B H H2 := fun a o b e => y a o b (x a o b e)
theorem Tr.same {B : Addr → Prop} {H H' : Hp} (x : Same H H') : Tr B H H' := fun a o _ e => x a o e
/-- a step that only lays new data -/
structure Nw (G H G' H' : Hp) : Prop where
  g : Same G G'
  s : Same G' H'
  h : Same H H'
  f : ∀ a, G a = none → H a ≠ none → G' a = none
theorem Nw.refl {G H : Hp} (s : Same G H) : Nw G H G H := ⟨Same.refl _, s, Same.refl _, fun _ h _ => h⟩
theorem Nw.trans {G H G1 H1 G2 H2 : Hp} (x : Nw G H G1 H1) (y : Nw G1 H1 G2 H2) : Nw G H G2 H2 :=
  ⟨x.g.trans y.g, y.s, x.h.trans y.h, fun a h1 h2 => y.f a (x.f a h1 h2) (fun z => by
    cases e : H a with
    | none => exact h2 e
    | some o => rw [x.h _ _ e] at z; cases z)⟩
theorem Nw.new {G H : Hp} {p : Addr} {o : HO} (s : Same G H) (n : H p = none) : Nw G H (upd G p o) (upd H p o) :=
  ⟨same_up (s.free n), same_upd s, same_up n, fun a h1 h2 => by
    rw [upd_ne (fun z => h2 (by rw [z]; exact n))]; exact h1⟩
section
variable {K : PySem.W.Frag} {B : Addr → Prop} {ρ : List En} {σ : L2.St} {G H G' H' : Hp}
theorem ne_none {H H' : Hp} {a : Addr} (s : Same H H') (h : H a ≠ none) : H' a ≠ none := fun z => h (s.free z)
theorem some_ne {H : Hp} {a : Addr} {o : HO} (e : H a = some o) : H a ≠ none := fun z => by rw [z] at e; cases e
theorem Bx.ne {b : Addr} {y c : Int} (h : Bx H b y c) : H b ≠ none := by
  obtain ⟨x, e, _⟩ := h
  exact some_ne e
theorem Bx.same {b : Addr} {y c : Int} (s : Same H H') (h : Bx H b y c) : Bx H' b y c := by
  obtain ⟨x, e, r⟩ := h
  exact ⟨x, s _ _ e, r⟩
theorem Mt.nw (m : Mt K B ρ σ G H) (n : Nw G H G' H') : Mt K B ρ σ G' H' where
  sub := n.s
  pro := fun a b => ⟨n.f a (m.pro a b).1 (m.pro a b).2, ne_none n.h (m.pro a b).2⟩
  len := m.len
  da := fun i d e => by
    obtain ⟨v, h1, h2⟩ := m.da i d e
    exact ⟨v, h1, h2.same n.g⟩
  own := fun i l e => by
    obtain ⟨q, xs, h1, h2, h3, h4, h5⟩ := m.own i l e
    exact ⟨q, xs, h1, n.h _ _ h2, h3.same n.g, n.f q h4 (some_ne h2), h5⟩
  bx := fun i b f e => by
    obtain ⟨y, c, h1, h2, h3, h4, h5, h6⟩ := m.bx i b f e
    exact ⟨y, c, h1, h2.same n.h, h3, h4, n.f b h5 h2.ne, h6⟩
  dis := m.dis
theorem get_set {α : Type} {l : List α} {i j : Nat} {x y : α} (h : (l.set i x)[j]? = some y) : (i = j ∧ y = x ∧ i < l.length) ∨ (i ≠ j ∧ l[j]? = some y) := by
  rw [List.getElem?_set] at h
  by_cases e : i = j
  · rw [if_pos e] at h
    split at h
    · cases h; exact .inl ⟨e, rfl, by assumption⟩
    · cases h
  · rw [if_neg e] at h; exact .inr ⟨e, h⟩
theorem set_at {α : Type} {l : List α} {i : Nat} {x : α} (h : i < l.length) : (l.set i x)[i]? = some x := by
  rw [List.getElem?_set, if_pos rfl, if_pos h]
theorem set_off {α : Type} {l : List α} {i j : Nat} {x : α} (h : i ≠ j) : (l.set i x)[j]? = l[j]? := by
  rw [List.getElem?_set, if_neg h]
/-- a slot gets data -/
theorem Mt.set (m : Mt K B ρ σ G H) (i : Nat) {d : Dt} {v : V} (r : RD K G d v) : Mt K B (ρ.set i (.da d)) (σ.set i (some v)) G H where
  sub := m.sub
  pro := m.pro
  len := by rw [List.length_set, List.length_set]; exact m.len
  da := fun j e h => by
    rcases get_set h with ⟨rfl, z, lt⟩ | ⟨ne, z⟩
    · cases z; exact ⟨v, set_at (by rw [m.len]; exact lt), r⟩
    · rw [set_off ne]; exact m.da j e z
  own := fun j l h => by
    rcases get_set h with ⟨rfl, z, lt⟩ | ⟨ne, z⟩
    · cases z
    · rw [set_off ne]; exact m.own j l z
  bx := fun j b f h => by
    rcases get_set h with ⟨rfl, z, lt⟩ | ⟨ne, z⟩
    · cases z
    · rw [set_off ne]; exact m.bx j b f z
  dis := fun j k e e' a h1 h2 o1 o2 ne s1 s2 => by
    rcases get_set h1 with ⟨rfl, z, lt⟩ | ⟨n1, z1⟩
    · subst z; exact o1
    · rcases get_set h2 with ⟨rfl, z, lt⟩ | ⟨n2, z2⟩
      · subst z; exact o2
      · rw [set_off n1] at s1; rw [set_off n2] at s2; exact m.dis j k e e' a z1 z2 o1 o2 ne s1 s2
/-- a slot is forgotten -/
theorem Mt.drop (m : Mt K B ρ σ G H) (i : Nat) (o : Option V) : Mt K B (ρ.set i .no) (σ.set i o) G H where
  sub := m.sub
  pro := m.pro
  len := by rw [List.length_set, List.length_set]; exact m.len
  da := fun j e h => by
    rcases get_set h with ⟨rfl, z, lt⟩ | ⟨ne, z⟩
    · cases z
    · rw [set_off ne]; exact m.da j e z
  own := fun j l h => by
    rcases get_set h with ⟨rfl, z, lt⟩ | ⟨ne, z⟩
    · cases z
    · rw [set_off ne]; exact m.own j l z
  bx := fun j b f h => by
    rcases get_set h with ⟨rfl, z, lt⟩ | ⟨ne, z⟩
    · cases z
    · rw [set_off ne]; exact m.bx j b f z
  dis := fun j k e e' a h1 h2 o1 o2 ne s1 s2 => by
    rcases get_set h1 with ⟨rfl, z, lt⟩ | ⟨n1, z1⟩
    · subst z; exact o1
    · rcases get_set h2 with ⟨rfl, z, lt⟩ | ⟨n2, z2⟩
      · subst z; exact o2
      · rw [set_off n1] at s1; rw [set_off n2] at s2; exact m.dis j k e e' a z1 z2 o1 o2 ne s1 s2
/-- less is protected -/
theorem Mt.less (m : Mt K B ρ σ G H) {B' : Addr → Prop} (h : ∀ a, B' a → B a) : Mt K B' ρ σ G H where
  sub := m.sub
  pro := fun a b => m.pro a (h a b)
  len := m.len
  da := m.da
  own := fun i l e => by
    obtain ⟨q, xs, h1, h2, h3, h4, h5⟩ := m.own i l e
    exact ⟨q, xs, h1, h2, h3, h4, fun z => h5 (h _ z)⟩
  bx := fun i b f e => by
    obtain ⟨y, c, h1, h2, h3, h4, h5, h6⟩ := m.bx i b f e
    exact ⟨y, c, h1, h2, h3, h4, h5, fun z => h6 (h _ z)⟩
  dis := m.dis
/-- a new object that is no data is protected, too -/
theorem Mt.guard (m : Mt K B ρ σ G H) {p : Addr} {o : HO} (n : H p = none) : Mt K (fun a => B a ∨ a = p) ρ σ G (upd H p o) where
  sub := m.sub.trans (same_up n)
  pro := fun a b => by
    rcases b with b | rfl
    · exact ⟨(m.pro a b).1, ne_none (same_up n) (m.pro a b).2⟩
    · exact ⟨m.sub.free n, some_ne upd_same⟩
  len := m.len
  da := m.da
  own := fun i l e => by
    obtain ⟨q, xs, h1, h2, h3, h4, h5⟩ := m.own i l e
    exact ⟨q, xs, h1, same_up n _ _ h2, h3, h4, fun z => z.elim h5 (ne_of_none h2 n)⟩
  bx := fun i b f e => by
    obtain ⟨y, c, h1, h2, h3, h4, h5, h6⟩ := m.bx i b f e
    exact ⟨y, c, h1, h2.same (same_up n), h3, h4, h5, fun z => z.elim h6 (fun w => h2.ne (by rw [w]; exact n))⟩
  dis := m.dis
/-- a protected object changes -/
theorem Mt.turn (m : Mt K B ρ σ G H) {p : Addr} {o : HO} (bp : B p) : Mt K B ρ σ G (upd H p o) where
  sub := fun a u e => by
    rw [upd_ne (fun z => by rw [z, (m.pro p bp).1] at e; cases e)]; exact m.sub _ _ e
  pro := fun a ba => ⟨(m.pro a ba).1, by
    by_cases z : a = p
    · subst z; exact some_ne upd_same
    · rw [upd_ne z]; exact (m.pro a ba).2⟩
  len := m.len
  da := m.da
  own := fun i l e => by
    obtain ⟨q, xs, h1, h2, h3, h4, h5⟩ := m.own i l e
    exact ⟨q, xs, h1, by rw [upd_ne (fun z => h5 (by rw [z]; exact bp))]; exact h2, h3, h4, h5⟩
  bx := fun i b f e => by
    obtain ⟨y, k, h1, ⟨x, h2, h2'⟩, h3, h4, h5, h6⟩ := m.bx i b f e
    exact ⟨y, k, h1, ⟨x, by rw [upd_ne (fun z => h6 (by rw [z]; exact bp))]; exact h2, h2'⟩, h3, h4, h5, h6⟩
  dis := m.dis
end
end Sh
set_option Elab.async false
set_option linter.all false
set_option maxRecDepth 100000
set_option maxHeartbeats 4000000
namespace Sh
open PySem PySem.Spec PyProof.Rows L2
section
variable (K : PySem.W.Frag)
/-- what must hold so that an expression gives d, leaving ρ', of which Ψ d ρ' holds: of data alone -/
def AE (te : TE) (ρ : List En) (Ψ : Dt → List En → Prop) : Prop := ∀ B σ G H, Mt K B ρ σ G H → ∀ Q : VK, (∀ v d ρ' G' H', Mt K B ρ' σ G' H' → Same G G' → Tr B H H' → RD K G' d v → Ψ d ρ' → Q v H') → te σ H Q
def AT (tt : TT) (ρ : List En) (Ψ : Bool → List En → Prop) : Prop := ∀ B σ G H, Mt K B ρ σ G H → ∀ Q : Bool → Hp → Prop, (∀ b ρ' G' H', Mt K B ρ' σ G' H' → Same G G' → Tr B H H' → Ψ b ρ' → Q b H') → tt σ H Q
def AA (ta : TA) (ρ : List En) (Ψ : List Dt → List En → Prop) : Prop := ∀ B σ G H, Mt K B ρ σ G H → ∀ Q : List V → Hp → Prop, (∀ vs ds ρ' G' H', Mt K B ρ' σ G' H' → Same G G' → Tr B H H' → RDs K G' ds vs → Ψ ds ρ' → Q vs H') → ta σ H Q
/-- a block: N of what it goes on with, R of what it returns -/
def AS (ts : TS) (ρ : List En) (N : List En → Prop) (R : Dt → List En → Prop) : Prop := ∀ B σ G H, Mt K B ρ σ G H → ∀ D : Ends,
  (∀ σ' ρ' G' H', Mt K B ρ' σ' G' H' → Same G G' → Tr B H H' → N ρ' → D.nx σ' H') →
  (∀ v d σ' ρ' G' H', Mt K B ρ' σ' G' H' → Same G G' → Tr B H H' → RD K G' d v → R d ρ' → D.rt v H') → ts D σ H
/-- by values: of data to data, only new data laid -/
def AR (r : R2) (d1 d2 : Dt) (Φ : Dt → Prop) : Prop := ∀ G H, Same G H → ∀ x y, RD K G d1 x → RD K G d2 y → ∀ Q : VK, (∀ v d G' H', Nw G H G' H' → RD K G' d v → Φ d → Q v H') → r x y H Q
def AU (r : V → Hp → VK → Prop) (d1 : Dt) (Φ : Dt → Prop) : Prop := ∀ G H, Same G H → ∀ x, RD K G d1 x → ∀ Q : VK, (∀ v d G' H', Nw G H G' H' → RD K G' d v → Φ d → Q v H') → r x H Q
def AC (r : List V → Hp → VK → Prop) (ds : List Dt) (Φ : Dt → Prop) : Prop := ∀ G H, Same G H → ∀ vs, RDs K G ds vs → ∀ Q : VK, (∀ v d G' H', Nw G H G' H' → RD K G' d v → Φ d → Q v H') → r vs H Q
end
section
variable {K : PySem.W.Frag} {ρ : List En} {Ψ : Dt → List En → Prop} {ΨT : Bool → List En → Prop} {ΨA : List Dt → List En → Prop} {N : List En → Prop} {R : Dt → List En → Prop} {Φ : Dt → Prop}
theorem ae_var {i : Nat} {d : Dt} (e : ρ[i]? = some (.da d)) (h : Ψ d ρ) : AE K (tVar i) ρ Ψ := fun B σ G H m Q q => by
  obtain ⟨v, h1, h2⟩ := m.da i d e
  exact ⟨v, h1, q v d ρ G H m (Same.refl _) Tr.refl h2 h⟩
theorem ae_c {v : V} (d : Dt) (e : ∀ G, RD K G d v) (h : Ψ d ρ) : AE K (tC v) ρ Ψ := fun B σ G H m Q q => q v d ρ G H m (Same.refl _) Tr.refl (e G) h
theorem ae_int {i : Int} (h : Ψ (.int i) ρ) : AE K (tC (.int i)) ρ Ψ := ae_c (.int i) (fun _ => rfl) h
theorem ae_non (h : Ψ .non ρ) : AE K (tC .non) ρ Ψ := ae_c .non (fun _ => rfl) h
theorem ae_bl {b : Bool} (h : Ψ (.bl b) ρ) : AE K (tC (.bl b)) ρ Ψ := ae_c (.bl b) (fun _ => rfl) h
theorem ae_str {s : Str} (h : Ψ (.str s) ρ) : AE K (tC (.str s)) ρ Ψ := ae_c (.str s) (fun _ => rfl) h
theorem ae_mono {te : TE} {Ψ' : Dt → List En → Prop} (h : AE K te ρ Ψ') (k : ∀ d ρ', Ψ' d ρ' → Ψ d ρ') : AE K te ρ Ψ := fun B σ G H m Q q =>
  h B σ G H m Q fun v d ρ' G' H' m' s t r p => q v d ρ' G' H' m' s t r (k d ρ' p)
theorem at_mono {te : TT} {Ψ' : Bool → List En → Prop} (h : AT K te ρ Ψ') (k : ∀ d ρ', Ψ' d ρ' → ΨT d ρ') : AT K te ρ ΨT := fun B σ G H m Q q =>
  h B σ G H m Q fun d ρ' G' H' m' s t p => q d ρ' G' H' m' s t (k d ρ' p)
theorem ae_op {r : R2} {ta tb : TE} (h : AE K ta ρ fun d1 ρ1 => AE K tb ρ1 fun d2 ρ2 => AR K r d1 d2 fun d => Ψ d ρ2) : AE K (tOp r ta tb) ρ Ψ := fun B σ G H m Q q =>
  h B σ G H m _ fun x d1 ρ1 G1 H1 m1 s1 t1 r1 h1 => h1 B σ G1 H1 m1 _ fun y d2 ρ2 G2 H2 m2 s2 t2 r2 h2 =>
    h2 G2 H2 m2.sub x y (r1.same s2) r2 Q fun v d G3 H3 n3 r3 p3 => q v d ρ2 G3 H3 (m2.nw n3) ((s1.trans s2).trans n3.g) ((t1.trans t2).trans (Tr.same n3.h)) r3 p3
theorem ae_un {r : V → Hp → VK → Prop} {ta : TE} (h : AE K ta ρ fun d1 ρ1 => AU K r d1 fun d => Ψ d ρ1) : AE K (tUn r ta) ρ Ψ := fun B σ G H m Q q =>
  h B σ G H m _ fun x d1 ρ1 G1 H1 m1 s1 t1 r1 h1 => h1 G1 H1 m1.sub x r1 Q fun v d G3 H3 n3 r3 p3 => q v d ρ1 G3 H3 (m1.nw n3) (s1.trans n3.g) (t1.trans (Tr.same n3.h)) r3 p3
theorem aa_nil (h : ΨA [] ρ) : AA K tNil ρ ΨA := fun B σ G H m Q q => q [] [] ρ G H m (Same.refl _) Tr.refl rfl h
theorem aa_cons {ta : TE} {tr : TA} (h : AE K ta ρ fun d ρ1 => AA K tr ρ1 fun ds ρ2 => ΨA (d :: ds) ρ2) : AA K (tCons ta tr) ρ ΨA := fun B σ G H m Q q =>
  h B σ G H m _ fun x d ρ1 G1 H1 m1 s1 t1 r1 h1 => h1 B σ G1 H1 m1 _ fun xs ds ρ2 G2 H2 m2 s2 t2 r2 h2 =>
    q (x :: xs) (d :: ds) ρ2 G2 H2 m2 (s1.trans s2) (t1.trans t2) ⟨x, xs, rfl, r1.same s2, r2⟩ h2
theorem ae_cb {r : List V → Hp → VK → Prop} {ta : TA} (h : AA K ta ρ fun ds ρ1 => AC K r ds fun d => Ψ d ρ1) : AE K (tCB r ta) ρ Ψ := fun B σ G H m Q q =>
  h B σ G H m _ fun x d1 ρ1 G1 H1 m1 s1 t1 r1 h1 => h1 G1 H1 m1.sub x r1 Q fun v d G3 H3 n3 r3 p3 => q v d ρ1 G3 H3 (m1.nw n3) (s1.trans n3.g) (t1.trans (Tr.same n3.h)) r3 p3
theorem ae_tup {ta : TA} (h : AA K ta ρ fun ds ρ1 => ds.length ≤ sizeLine ∧ Ψ (.tup ds) ρ1) : AE K (tTup ta) ρ Ψ := fun B σ G H m Q q =>
  h B σ G H m _ fun xs ds ρ1 G1 H1 m1 s1 t1 r1 h1 => ⟨by rw [r1.length]; exact h1.1, fun p hp => by
    have n := Nw.new (o := .tup xs) m1.sub hp
    exact q _ (.tup ds) ρ1 _ _ (m1.nw n) (s1.trans n.g) (t1.trans (Tr.same n.h)) ⟨p, xs, rfl, SqT.of upd_same, r1.same n.g⟩ h1.2⟩
theorem ae_lst {ta : TA} (h : AA K ta ρ fun ds ρ1 => ds.length ≤ sizeLine ∧ Ψ (.lst ds) ρ1) : AE K (tLst ta) ρ Ψ := fun B σ G H m Q q =>
  h B σ G H m _ fun xs ds ρ1 G1 H1 m1 s1 t1 r1 h1 => ⟨by rw [r1.length]; exact h1.1, fun p hp => by
    have n := Nw.new (o := .lst xs) m1.sub hp
    exact q _ (.lst ds) ρ1 _ _ (m1.nw n) (s1.trans n.g) (t1.trans (Tr.same n.h)) ⟨p, xs, rfl, upd_same, r1.same n.g⟩ h1.2⟩
theorem ae_if {tt : TT} {ta tb : TE} (h : AT K tt ρ fun b ρ1 => (b = true → AE K ta ρ1 Ψ) ∧ (b = false → AE K tb ρ1 Ψ)) : AE K (tIf tt ta tb) ρ Ψ := fun B σ G H m Q q =>
  h B σ G H m _ fun b ρ1 G1 H1 m1 s1 t1 h1 => by
    cases b
    · rw [if_neg (by decide)]; exact h1.2 rfl B σ G1 H1 m1 Q fun v d ρ' G' H' m' s t r p => q v d ρ' G' H' m' (s1.trans s) (t1.trans t) r p
    · rw [if_pos rfl]; exact h1.1 rfl B σ G1 H1 m1 Q fun v d ρ' G' H' m' s t r p => q v d ρ' G' H' m' (s1.trans s) (t1.trans t) r p
theorem at_test {te : TE} (h : AE K te ρ fun d ρ1 => ∃ b, d = .bl b ∧ ΨT b ρ1) : AT K (tTest te) ρ ΨT := fun B σ G H m Q q =>
  h B σ G H m _ fun v d ρ1 G1 H1 m1 s1 t1 r1 ⟨b, e, p⟩ => by
    subst e; exact ⟨b, r1, q b ρ1 G1 H1 m1 s1 t1 p⟩
theorem at_b {te : TE} (h : AE K te ρ fun d ρ1 => ∃ b, d = .bl b ∧ ΨT b ρ1) : AT K (tB te) ρ ΨT := at_test h
theorem at_and {t u : TT} (h : AT K t ρ fun b ρ1 => (b = true → AT K u ρ1 ΨT) ∧ (b = false → ΨT false ρ1)) : AT K (tAnd t u) ρ ΨT := fun B σ G H m Q q =>
  h B σ G H m _ fun b ρ1 G1 H1 m1 s1 t1 h1 => by
    cases b
    · rw [if_neg (by decide)]; exact q false ρ1 G1 H1 m1 s1 t1 (h1.2 rfl)
    · rw [if_pos rfl]; exact h1.1 rfl B σ G1 H1 m1 Q fun d ρ' G' H' m' s t p => q d ρ' G' H' m' (s1.trans s) (t1.trans t) p
theorem at_or {t u : TT} (h : AT K t ρ fun b ρ1 => (b = true → ΨT true ρ1) ∧ (b = false → AT K u ρ1 ΨT)) : AT K (tOr t u) ρ ΨT := fun B σ G H m Q q =>
  h B σ G H m _ fun b ρ1 G1 H1 m1 s1 t1 h1 => by
    cases b
    · rw [if_neg (by decide)]; exact h1.2 rfl B σ G1 H1 m1 Q fun d ρ' G' H' m' s t p => q d ρ' G' H' m' (s1.trans s) (t1.trans t) p
    · rw [if_pos rfl]; exact q true ρ1 G1 H1 m1 s1 t1 (h1.1 rfl)
theorem at_not {t : TT} (h : AT K t ρ fun b ρ1 => ΨT (!b) ρ1) : AT K (tNot t) ρ ΨT := fun B σ G H m Q q =>
  h B σ G H m _ fun b ρ1 G1 H1 m1 s1 t1 h1 => q (!b) ρ1 G1 H1 m1 s1 t1 h1
theorem ae_andV {ta tb : TE} (h : AE K ta ρ fun d ρ1 => ∃ b, d = .bl b ∧ (b = true → AE K tb ρ1 Ψ) ∧ (b = false → Ψ (.bl false) ρ1)) : AE K (tAndV ta tb) ρ Ψ := fun B σ G H m Q q =>
  h B σ G H m _ fun v d ρ1 G1 H1 m1 s1 t1 r1 ⟨b, e, h1, h2⟩ => by
    subst e
    refine ⟨b, r1, ?_⟩
    cases b
    · rw [if_neg (by decide)]; exact q _ (.bl false) ρ1 G1 H1 m1 s1 t1 rfl (h2 rfl)
    · rw [if_pos rfl]; exact h1 rfl B σ G1 H1 m1 Q fun v d ρ' G' H' m' s t r p => q v d ρ' G' H' m' (s1.trans s) (t1.trans t) r p
theorem ae_orV {ta tb : TE} (h : AE K ta ρ fun d ρ1 => ∃ b, d = .bl b ∧ (b = true → Ψ (.bl true) ρ1) ∧ (b = false → AE K tb ρ1 Ψ)) : AE K (tOrV ta tb) ρ Ψ := fun B σ G H m Q q =>
  h B σ G H m _ fun v d ρ1 G1 H1 m1 s1 t1 r1 ⟨b, e, h1, h2⟩ => by
    subst e
    refine ⟨b, r1, ?_⟩
    cases b
    · rw [if_neg (by decide)]; exact h2 rfl B σ G1 H1 m1 Q fun v d ρ' G' H' m' s t r p => q v d ρ' G' H' m' (s1.trans s) (t1.trans t) r p
    · rw [if_pos rfl]; exact q _ (.bl true) ρ1 G1 H1 m1 s1 t1 rfl (h1 rfl)
theorem ae_notV {ta : TE} (h : AE K ta ρ fun d ρ1 => ∃ b, d = .bl b ∧ Ψ (.bl (!b)) ρ1) : AE K (tNotV ta) ρ Ψ := fun B σ G H m Q q =>
  h B σ G H m _ fun v d ρ1 G1 H1 m1 s1 t1 r1 ⟨b, e, h1⟩ => by
    subst e
    exact ⟨b, r1, q _ (.bl (!b)) ρ1 G1 H1 m1 s1 t1 rfl h1⟩
/-! statements -/
theorem as_seq {t u : TS} (h : AS K t ρ (fun ρ1 => AS K u ρ1 N R) R) : AS K (tSeq t u) ρ N R := fun B σ G H m D qn qr =>
  h B σ G H m { D with nx := u D } (fun σ1 ρ1 G1 H1 m1 s1 t1 h1 => h1 B σ1 G1 H1 m1 D (fun σ' ρ' G' H' m' s t p => qn σ' ρ' G' H' m' (s1.trans s) (t1.trans t) p) fun v d σ' ρ' G' H' m' s t r p => qr v d σ' ρ' G' H' m' (s1.trans s) (t1.trans t) r p) qr
theorem as_next (h : N ρ) : AS K tNext ρ N R := fun B σ G H m D qn qr => qn σ ρ G H m (Same.refl _) Tr.refl h
theorem as_ret {te : TE} (h : AE K te ρ R) : AS K (tRet te) ρ N R := fun B σ G H m D qn qr => h B σ G H m _ fun v d ρ1 G1 H1 m1 s1 t1 r1 h1 => qr v d σ ρ1 G1 H1 m1 s1 t1 r1 h1
theorem as_if {c : TT} {t u : TS} (h : AT K c ρ fun b ρ1 => (b = true → AS K t ρ1 N R) ∧ (b = false → AS K u ρ1 N R)) : AS K (tIfS c t u) ρ N R := fun B σ G H m D qn qr =>
  h B σ G H m _ fun b ρ1 G1 H1 m1 s1 t1 h1 => by
    cases b
    · rw [if_neg (by decide)]
      exact h1.2 rfl B σ G1 H1 m1 D (fun σ' ρ' G' H' m' s t p => qn σ' ρ' G' H' m' (s1.trans s) (t1.trans t) p) fun v d σ' ρ' G' H' m' s t r p => qr v d σ' ρ' G' H' m' (s1.trans s) (t1.trans t) r p
    · rw [if_pos rfl]
      exact h1.1 rfl B σ G1 H1 m1 D (fun σ' ρ' G' H' m' s t p => qn σ' ρ' G' H' m' (s1.trans s) (t1.trans t) p) fun v d σ' ρ' G' H' m' s t r p => qr v d σ' ρ' G' H' m' (s1.trans s) (t1.trans t) r p
theorem as_set {te : TE} {i : Nat} (h : AE K te ρ fun d ρ1 => N (ρ1.set i (.da d))) : AS K (tAsg te (gName i)) ρ N R := fun B σ G H m D qn qr =>
  h B σ G H m _ fun v d ρ1 G1 H1 m1 s1 t1 r1 h1 => qn _ _ G1 H1 (m1.set i r1) s1 t1 h1
theorem as_par {ta : TA} {i j : Nat} (h : AA K ta ρ fun ds ρ1 => ∃ d e, ds = [d, e] ∧ N ((ρ1.set i (.da d)).set j (.da e))) : AS K (tPar i j ta) ρ N R := fun B σ G H m D qn qr =>
  h B σ G H m _ fun vs ds ρ1 G1 H1 m1 s1 t1 r1 ⟨d, e, z, h1⟩ => by
    subst z
    obtain ⟨x, y, rfl, r2, r3⟩ := r1.two
    exact ⟨x, y, rfl, qn _ _ G1 H1 ((m1.set i r2).set j r3) s1 t1 h1⟩
/-- targets -/
def AG (K : PySem.W.Frag) (g : TG) (d : Dt) (ρ : List En) (N : List En → Prop) : Prop := ∀ B σ G H, Mt K B ρ σ G H → ∀ v, RD K G d v → ∀ Q : L2.St → Hp → Prop, (∀ σ' ρ' G' H', Mt K B ρ' σ' G' H' → Same G G' → Tr B H H' → N ρ' → Q σ' H') → g v σ H Q
def AGs (K : PySem.W.Frag) (g : TGs) (ds : List Dt) (ρ : List En) (N : List En → Prop) : Prop := ∀ B σ G H, Mt K B ρ σ G H → ∀ vs, RDs K G ds vs → ∀ Q : L2.St → Hp → Prop, (∀ σ' ρ' G' H', Mt K B ρ' σ' G' H' → Same G G' → Tr B H H' → N ρ' → Q σ' H') → g vs σ H Q
theorem ag_name {i : Nat} {d : Dt} (h : N (ρ.set i (.da d))) : AG K (gName i) d ρ N := fun B σ G H m v r Q q => q _ _ G H (m.set i r) (Same.refl _) Tr.refl h
theorem ags_nil (h : N ρ) : AGs K gNil [] ρ N := fun B σ G H m vs r Q q => ⟨r, q σ ρ G H m (Same.refl _) Tr.refl h⟩
theorem ags_cons {t : TG} {u : TGs} {d : Dt} {ds : List Dt} (h : AG K t d ρ fun ρ1 => AGs K u ds ρ1 N) : AGs K (gCons t u) (d :: ds) ρ N := fun B σ G H m vs r Q q => by
  obtain ⟨x, xs, rfl, r1, r2⟩ := r
  exact ⟨x, xs, rfl, h B σ G H m x r1 _ fun σ1 ρ1 G1 H1 m1 s1 t1 h1 => h1 B σ1 G1 H1 m1 xs (r2.same s1) Q fun σ' ρ' G' H' m' s t p => q σ' ρ' G' H' m' (s1.trans s) (t1.trans t) p⟩
theorem ag_tup {t : TGs} {n : Nat} {ds : List Dt} (hn : ds.length = n) (h : AGs K t ds ρ N) : AG K (gTup K n t) (.tup ds) ρ N := fun B σ G H m v r Q q => by
  obtain ⟨a, xs, rfl, r1, r2⟩ := r
  exact ⟨a, xs, rfl, same_sqT m.sub r1, by rw [r2.length]; exact hn, h B σ G H m xs r2 Q q⟩
theorem as_asg {te : TE} {g : TG} (h : AE K te ρ fun d ρ1 => AG K g d ρ1 N) : AS K (tAsg te g) ρ N R := fun B σ G H m D qn qr =>
  h B σ G H m _ fun v d ρ1 G1 H1 m1 s1 t1 r1 h1 => h1 B σ G1 H1 m1 v r1 _ fun σ' ρ' G' H' m' s t p => qn σ' ρ' G' H' m' (s1.trans s) (t1.trans t) p
/-! own lists -/
end
end Sh
set_option Elab.async false
set_option linter.all false
set_option maxRecDepth 100000
set_option maxHeartbeats 4000000
namespace Sh
open PySem PySem.Spec PyProof.Rows L2
section
variable {K : PySem.W.Frag} {ρ : List En} {Ψ : Dt → List En → Prop} {ΨT : Bool → List En → Prop} {ΨA : List Dt → List En → Prop} {N : List En → Prop} {R : Dt → List En → Prop} {Φ : Dt → Prop}
/-! ### operators -/
theorem ar_I0i {g : Int → Int → Int} {i j : Int} (h : Φ (.int (g i j))) : AR K (rI0 fun i j => .int (g i j)) (.int i) (.int j) Φ := fun G H s x y r1 r2 Q q =>
  ⟨i, j, r1, r2, q _ (.int (g i j)) G H (Nw.refl s) rfl h⟩
theorem ar_I0b {g : Int → Int → Bool} {i j : Int} (h : Φ (.bl (g i j))) : AR K (rI0 fun i j => .bl (g i j)) (.int i) (.int j) Φ := fun G H s x y r1 r2 Q q =>
  ⟨i, j, r1, r2, q _ (.bl (g i j)) G H (Nw.refl s) rfl h⟩
theorem ar_Ii {C : Int → Int → Prop} {g : Int → Int → Int} {i j : Int} (c : C i j) (h : Φ (.int (g i j))) : AR K (rI C fun i j => .int (g i j)) (.int i) (.int j) Φ := fun G H s x y r1 r2 Q q =>
  ⟨i, j, r1, r2, c, q _ (.int (g i j)) G H (Nw.refl s) rfl h⟩
theorem au_Ui {g : Int → Int} {i : Int} (h : Φ (.int (g i))) : AU K (rU fun i => .int (g i)) (.int i) Φ := fun G H s x r1 Q q => ⟨i, r1, q _ (.int (g i)) G H (Nw.refl s) rfl h⟩
def Dt.isNon : Dt → Bool
  | .non => true
  | _ => false
theorem RD.isNon {G : Hp} : ∀ {d : Dt} {x : V}, RD K G d x → decide (x = V.non) = d.isNon
  | .non, _, r => by rw [show _ = V.non from r]; rfl
  | .bl _, _, r => by rw [show _ = V.bl _ from r]; rfl
  | .int _, _, r => by rw [show _ = V.int _ from r]; rfl
  | .str _, _, r => by rw [show _ = V.str _ from r]; rfl
  | .ty _, _, r => by rw [show _ = V.ty _ from r]; rfl
  | .tup _, _, ⟨a, _, e, _⟩ => by rw [e]; rfl
  | .lst _, _, ⟨a, _, e, _⟩ => by rw [e]; rfl
theorem ar_isN {d : Dt} (h : Φ (.bl d.isNon)) : AR K (fun x y H Q => y = .non ∧ Q (.bl (decide (x = .non))) H) d .non Φ := fun G H s x y r1 r2 Q q =>
  ⟨r2, q _ (.bl d.isNon) G H (Nw.refl s) (by rw [r1.isNon]; rfl) h⟩
theorem ar_notN {d : Dt} (h : Φ (.bl (!d.isNon))) : AR K (fun x y H Q => y = .non ∧ Q (.bl (!decide (x = .non))) H) d .non Φ := fun G H s x y r1 r2 Q q =>
  ⟨r2, q _ (.bl (!d.isNon)) G H (Nw.refl s) (by rw [r1.isNon]; rfl) h⟩
/-- flat data as a value -/
def Dt.v? : Dt → Option V
  | .non => some .non
  | .bl b => some (.bl b)
  | .int i => some (.int i)
  | .str s => some (.str s)
  | _ => none
theorem RD.v {G : Hp} : ∀ {d : Dt} {x y : V}, d.v? = some y → RD K G d x → x = y
  | .non, _, _, e, r => by cases e; exact r
  | .bl _, _, _, e, r => by cases e; exact r
  | .int _, _, _, e, r => by cases e; exact r
  | .str _, _, _, e, r => by cases e; exact r
theorem ar_eq {d e : Dt} {x y : V} (h1 : d.v? = some x) (h2 : e.v? = some y) (hs : scal x y = true) (h : Φ (.bl (decide (x = y)))) : AR K rEq d e Φ := fun G H s x' y' r1 r2 Q q => by
  cases RD.v h1 r1; cases RD.v h2 r2
  exact ⟨hs, q _ (.bl (decide (x = y))) G H (Nw.refl s) rfl h⟩
theorem ar_ne {d e : Dt} {x y : V} (h1 : d.v? = some x) (h2 : e.v? = some y) (hs : scal x y = true) (h : Φ (.bl (!decide (x = y)))) : AR K rNe d e Φ := fun G H s x' y' r1 r2 Q q => by
  cases RD.v h1 r1; cases RD.v h2 r2
  exact ⟨hs, q _ (.bl (!decide (x = y))) G H (Nw.refl s) rfl h⟩
def vs? : List Dt → Option (List V)
  | [] => some []
  | d :: l => match d.v?, vs? l with
    | some x, some xs => some (x :: xs)
    | _, _ => none
theorem RDs.v {G : Hp} : ∀ {l : List Dt} {xs ys : List V}, vs? l = some ys → RDs K G l xs → xs = ys
  | [], _, _, e, r => by cases e; exact r
  | d :: l, _, ys, e, ⟨x, r, e1, h1, h2⟩ => by
    unfold vs? at e
    cases q1 : d.v? with
    | none => rw [q1] at e; cases e
    | some z =>
      cases q2 : vs? l with
      | none => rw [q1, q2] at e; cases e
      | some zs => rw [q1, q2] at e; cases e; rw [e1, RD.v q1 h1, RDs.v q2 h2]
theorem ar_inT {neg : Bool} {d : Dt} {l : List Dt} {x : V} {xs : List V} (h1 : d.v? = some x) (h2 : vs? l = some xs) (f1 : flatV x = true) (f2 : xs.all flatV = true) (h : Φ (.bl (if neg then !inV x xs else inV x xs))) : AR K (rIn K neg) d (.tup l) Φ := fun G H s x' y' r1 ⟨a, ys, e, q1, q2⟩ Q q => by
  cases RD.v h1 r1; cases RDs.v h2 q2
  exact ⟨a, xs, e, .inr (same_sqT s q1), f1, f2, q _ (.bl (if neg then !inV x xs else inV x xs)) G H (Nw.refl s) rfl h⟩
/-! places -/
theorem atI_get {l : List Dt} {xs : List V} {G : Hp} {i : Int} {d : Dt} (r : RDs K G l xs) (e : atI l i = some d) : ∃ x, atI xs i = some x ∧ RD K G d x := by
  unfold atI at e ⊢
  rw [r.length]
  cases q : ixN l.length i with
  | none => rw [q] at e; cases e
  | some j =>
    rw [q] at e
    obtain ⟨x, h1, h2⟩ := r.get (i := j) e
    exact ⟨x, h1, h2⟩
theorem ar_ixT {l : List Dt} {i : Int} {d : Dt} (e : atI l i = some d) (h : Φ d) : AR K (rIxT K) (.tup l) (.int i) Φ := fun G H s x y ⟨a, xs, e1, q1, q2⟩ r2 Q q => by
  obtain ⟨z, h1, h2⟩ := atI_get q2 e
  exact ⟨a, xs, i, z, e1, r2, same_sqT s q1, h1, q _ d G H (Nw.refl s) h2 h⟩
theorem ar_ixL {l : List Dt} {i : Int} {d : Dt} (e : atI l i = some d) (h : Φ d) : AR K (rIxL K) (.lst l) (.int i) Φ := fun G H s x y ⟨a, xs, e1, q1, q2⟩ r2 Q q => by
  obtain ⟨z, h1, h2⟩ := atI_get q2 e
  exact ⟨a, xs, i, z, e1, r2, SqL.of (s _ _ q1), h1, q _ d G H (Nw.refl s) h2 h⟩
def sq (k : Bool) (l : List Dt) : Dt := if k then .tup l else .lst l
theorem ar_ix {k : Bool} {l : List Dt} {i : Int} {d : Dt} (e : atI l i = some d) (h : Φ d) : AR K (rIx K) (sq k l) (.int i) Φ := fun G H s x y r1 r2 Q q => by
  cases k
  · exact .inl (ar_ixL e h G H s x y r1 r2 Q q)
  · exact .inr (.inl (ar_ixT e h G H s x y r1 r2 Q q))
theorem ar_ixTs {l : List Dt} {i : Int} {d : Dt} (e : atI l i = some d) (h : Φ d) : AR K (rIx K) (.tup l) (.int i) Φ := ar_ix (k := true) e h
theorem ar_ixLs {l : List Dt} {i : Int} {d : Dt} (e : atI l i = some d) (h : Φ d) : AR K (rIx K) (.lst l) (.int i) Φ := ar_ix (k := false) e h
/-! ### built-ins -/
theorem ac_abs {i : Int} (h : Φ (.int (if i < 0 then -i else i))) : AC K (fun xs H Q => ∃ i, xs = [.int i] ∧ Q (.int (if i < 0 then -i else i)) H) [.int i] Φ := fun G H s vs r Q q => by
  obtain ⟨x, rfl, h1⟩ := r.one
  exact ⟨i, by rw [show x = V.int i from h1], q _ (.int (if i < 0 then -i else i)) G H (Nw.refl s) rfl h⟩
theorem ac_max2 {i j : Int} (h : Φ (.int (if j > i then j else i))) : AC K (fun xs H Q => ∃ i j, xs = [.int i, .int j] ∧ Q (.int (if j > i then j else i)) H) [.int i, .int j] Φ := fun G H s vs r Q q => by
  obtain ⟨x, y, rfl, h1, h2⟩ := r.two
  exact ⟨i, j, by rw [show x = V.int i from h1, show y = V.int j from h2], q _ (.int (if j > i then j else i)) G H (Nw.refl s) rfl h⟩
theorem ac_min2 {i j : Int} (h : Φ (.int (if j < i then j else i))) : AC K (fun xs H Q => ∃ i j, xs = [.int i, .int j] ∧ Q (.int (if j < i then j else i)) H) [.int i, .int j] Φ := fun G H s vs r Q q => by
  obtain ⟨x, y, rfl, h1, h2⟩ := r.two
  exact ⟨i, j, by rw [show x = V.int i from h1, show y = V.int j from h2], q _ (.int (if j < i then j else i)) G H (Nw.refl s) rfl h⟩
theorem ac_lenT {l : List Dt} (h : Φ (.int (l.length : Nat))) : AC K (fun xs H Q => ∃ p ys, xs = [.ref p] ∧ (SqL K H p ys ∨ SqT K H p ys) ∧ Q (.int ys.length) H) [.tup l] Φ := fun G H s vs r Q q => by
  obtain ⟨x, rfl, a, xs, rfl, h1, h2⟩ := r.one
  exact ⟨a, xs, rfl, .inr (same_sqT s h1), q _ (.int (l.length : Nat)) G H (Nw.refl s) (by rw [h2.length]; rfl) h⟩
theorem ac_lenL {l : List Dt} (h : Φ (.int (l.length : Nat))) : AC K (fun xs H Q => ∃ p ys, xs = [.ref p] ∧ (SqL K H p ys ∨ SqT K H p ys) ∧ Q (.int ys.length) H) [.lst l] Φ := fun G H s vs r Q q => by
  obtain ⟨x, rfl, a, xs, rfl, h1, h2⟩ := r.one
  exact ⟨a, xs, rfl, .inl (SqL.of (s _ _ h1)), q _ (.int (l.length : Nat)) G H (Nw.refl s) (by rw [h2.length]; rfl) h⟩
theorem ac_listT {l : List Dt} (h : Φ (.lst l)) : AC K (fun xs H Q => ∃ p ys, xs = [.ref p] ∧ (SqL K H p ys ∨ SqT K H p ys) ∧ ∀ l, H l = none → Q (.ref l) (upd H l (.lst ys))) [.tup l] Φ := fun G H s vs r Q q => by
  obtain ⟨x, rfl, a, xs, rfl, h1, h2⟩ := r.one
  refine ⟨a, xs, rfl, .inr (same_sqT s h1), fun p hp => ?_⟩
  have n := Nw.new (o := .lst xs) s hp
  exact q _ (.lst l) _ _ n ⟨p, xs, rfl, upd_same, h2.same n.g⟩ h
theorem ac_listL {l : List Dt} (h : Φ (.lst l)) : AC K (fun xs H Q => ∃ p ys, xs = [.ref p] ∧ (SqL K H p ys ∨ SqT K H p ys) ∧ ∀ l, H l = none → Q (.ref l) (upd H l (.lst ys))) [.lst l] Φ := fun G H s vs r Q q => by
  obtain ⟨x, rfl, a, xs, rfl, h1, h2⟩ := r.one
  refine ⟨a, xs, rfl, .inl (SqL.of (s _ _ h1)), fun p hp => ?_⟩
  have n := Nw.new (o := .lst xs) s hp
  exact q _ (.lst l) _ _ n ⟨p, xs, rfl, upd_same, h2.same n.g⟩ h
theorem ac_tupL {l : List Dt} (h : Φ (.tup l)) : AC K (fun xs H Q => ∃ p ys, xs = [.ref p] ∧ ((SqL K H p ys ∧ ∀ l, H l = none → Q (.ref l) (upd H l (.tup ys))) ∨ (SqT K H p ys ∧ Q (.ref p) H))) [.lst l] Φ := fun G H s vs r Q q => by
  obtain ⟨x, rfl, a, xs, rfl, h1, h2⟩ := r.one
  refine ⟨a, xs, rfl, .inl ⟨SqL.of (s _ _ h1), fun p hp => ?_⟩⟩
  have n := Nw.new (o := .tup xs) s hp
  exact q _ (.tup l) _ _ n ⟨p, xs, rfl, SqT.of upd_same, h2.same n.g⟩ h
theorem ac_tupT {l : List Dt} (h : Φ (.tup l)) : AC K (fun xs H Q => ∃ p ys, xs = [.ref p] ∧ ((SqL K H p ys ∧ ∀ l, H l = none → Q (.ref l) (upd H l (.tup ys))) ∨ (SqT K H p ys ∧ Q (.ref p) H))) [.tup l] Φ := fun G H s vs r Q q => by
  obtain ⟨x, rfl, a, xs, rfl, h1, h2⟩ := r.one
  exact ⟨a, xs, rfl, .inr ⟨same_sqT s h1, q _ (.tup l) G H (Nw.refl s) ⟨a, xs, rfl, h1, h2⟩ h⟩⟩
theorem ac_all {bs : List Bool} (h : Φ (.bl (bs.all id))) : AC K (rAll K) [.lst (bs.map Dt.bl)] Φ := fun G H s vs r Q q => by
  obtain ⟨x, rfl, a, xs, rfl, h1, h2⟩ := r.one
  cases h2.bls
  exact ⟨a, bs, rfl, SqL.of (s _ _ h1), q _ (.bl (bs.all id)) G H (Nw.refl s) rfl h⟩
theorem ac_int {i : Int} (h : Φ (.int i)) : AC K (fun xs H Q => (∃ i, xs = [.int i] ∧ Q (.int i) H) ∨ ∃ k, xs = [.bl k] ∧ Q (.int (if k then 1 else 0)) H) [.int i] Φ := fun G H s vs r Q q => by
  obtain ⟨x, rfl, h1⟩ := r.one
  exact .inl ⟨i, by rw [show x = V.int i from h1], q _ (.int i) G H (Nw.refl s) rfl h⟩
theorem ac_intB {b : Bool} (h : Φ (.int (if b then 1 else 0))) : AC K (fun xs H Q => (∃ i, xs = [.int i] ∧ Q (.int i) H) ∨ ∃ k, xs = [.bl k] ∧ Q (.int (if k then 1 else 0)) H) [.bl b] Φ := fun G H s vs r Q q => by
  obtain ⟨x, rfl, h1⟩ := r.one
  exact .inr ⟨b, by rw [show x = V.bl b from h1], q _ (.int (if b then 1 else 0)) G H (Nw.refl s) rfl h⟩
/-! kinds -/
def Dt.kind : Dt → String
  | .non => "NoneType" | .bl _ => "bool" | .int _ => "int" | .str _ => "str" | .ty _ => "type" | .tup _ => "tuple" | .lst _ => "list"
def Dt.noTy : Dt → Bool
  | .ty _ => false
  | _ => true
theorem RD.kind {G H : Hp} (s : Same G H) : ∀ {d : Dt} {x : V}, d.noTy = true → RD K G d x → TyX K H x (.type d.kind)
  | .non, _, _, r => by cases (show _ = V.non from r); exact .base .non
  | .bl _, _, _, r => by cases (show _ = V.bl _ from r); exact .base (.bl _)
  | .int _, _, _, r => by cases (show _ = V.int _ from r); exact .base (.int _)
  | .str _, _, _, r => by cases (show _ = V.str _ from r); exact .base (.str _)
  | .tup _, _, _, ⟨a, xs, e, q, _⟩ => by
    subst e
    rcases q with (q | ⟨o, q⟩) | ⟨o, its, n, q1, q2, _⟩
    · exact .base (.tup (s _ _ q))
    · exact .fTuple (s _ _ q)
    · exact .kTuple q1 q2
  | .lst _, _, _, ⟨a, xs, e, q, _⟩ => by subst e; exact .base (.lst (s _ _ q))
theorem ac_isi {d : Dt} {T : String} {b : Bool} (n : d.noTy = true) (hb : kitB d.kind T = some b) (h : Φ (.bl b)) : AC K (rIsi K) [d, .ty T] Φ := fun G H s vs r Q q => by
  obtain ⟨x, y, rfl, h1, h2⟩ := r.two
  cases (show y = V.ty T from h2)
  exact ⟨x, .ty T, _, _, b, rfl, .ty T, h1.kind s n, kit_ty hb, q _ (.bl b) G H (Nw.refl s) rfl h⟩
theorem kit_2 {a S T : String} {r : Bool} (h1 : kitB a S = some false) (h2 : kitB a T = some r) : PySem.W.kitAny K (.type a) [.type S, .type T] = some r :=
  kitAny_cons (kit_ty h1) (fun _ => kitAny_cons (kit_ty h2) (fun e => by rw [e]; exact kitAny_nil) (fun e => e)) (fun e => nomatch e)
theorem kit_1 {a S T : String} (h1 : kitB a S = some true) : PySem.W.kitAny K (.type a) [.type S, .type T] = some true :=
  kitAny_cons (kit_ty h1) (fun e => nomatch e) (fun _ => rfl)
/-- isinstance(e, (S, T)) -/
theorem ae_isi2 {te : TE} {S T : String} (h : AE K te ρ fun d ρ1 => d.noTy = true ∧ ∃ b, ((kitB d.kind S = some true ∧ b = true) ∨ (kitB d.kind S = some false ∧ kitB d.kind T = some b)) ∧ Ψ (.bl b) ρ1) :
    AE K (tCB (rIsiT K) (tCons te (tCons (tTup (tCons (tC (.ty S)) (tCons (tC (.ty T)) tNil))) tNil))) ρ Ψ := fun B σ G H m Q q =>
  h B σ G H m _ fun v d ρ1 G1 H1 m1 s1 t1 r1 ⟨n, b, hb, p⟩ => by
    refine ⟨by show 2 ≤ sizeLine; decide, fun a ha => ?_⟩
    have k : PySem.W.kitAny K (.type d.kind) [.type S, .type T] = some b := by
      rcases hb with ⟨h1, rfl⟩ | ⟨h1, h2⟩
      · exact kit_1 h1
      · exact kit_2 h1 h2
    have nw := Nw.new (o := .tup [V.ty S, V.ty T]) m1.sub ha
    exact ⟨v, a, _, _, _, b, rfl, upd_same, .cons (.ty _) (.cons (.ty _) .nil), (r1.same nw.g).kind nw.s n, k, q _ (.bl b) ρ1 _ _ (m1.nw nw) (s1.trans nw.g) (t1.trans (Tr.same nw.h)) rfl p⟩
theorem ae_ty {T : String} (h : Ψ (.ty T) ρ) : AE K (tC (.ty T)) ρ Ψ := ae_c (.ty T) (fun _ => rfl) h
/-! ### deep equality -/
mutual
def Dt.pd : Dt → PyData
  | .non => .none | .bl b => .bool b | .int i => .int i | .str s => .str s | .ty _ => .none
  | .tup l => .tuple (pds l)
  | .lst l => .list (pds l)
def pds : List Dt → List PyData
  | [] => []
  | d :: l => d.pd :: pds l
def Dt.pl : Dt → Bool
  | .ty _ => false
  | .tup l => pls l
  | .lst l => pls l
  | _ => true
def pls : List Dt → Bool
  | [] => true
  | d :: l => d.pl && pls l
end
mutual
theorem RD.dp {G H : Hp} (s : Same G H) : ∀ {d : Dt} {v : V}, d.pl = true → RD K G d v → Dp K H v d.pd
  | .non, v, _, h => by cases (show v = .non from h); exact .non
  | .bl b, v, _, h => by cases (show v = .bl b from h); exact .bl b
  | .int i, v, _, h => by cases (show v = .int i from h); exact .int i
  | .str z, v, _, h => by cases (show v = .str z from h); exact .str z
  | .tup l, _, p, ⟨a, xs, e, ha, r⟩ => by subst e; exact .tup (same_sqT s ha) (RDs.dp s p r)
  | .lst l, _, p, ⟨a, xs, e, ha, r⟩ => by subst e; exact .lst (SqL.of (s _ _ ha)) (RDs.dp s p r)
theorem RDs.dp {G H : Hp} (s : Same G H) : ∀ {l : List Dt} {xs : List V}, pls l = true → RDs K G l xs → DpAll K H xs (pds l)
  | [], xs, _, h => by cases (show xs = [] from h); exact .nil
  | d :: l, _, p, ⟨x, r, e, h1, h2⟩ => by
    subst e
    have p' : (d.pl && pls l) = true := p
    rw [Bool.and_eq_true] at p'
    exact .cons (RD.dp s p'.1 h1) (RDs.dp s p'.2 h2)
end
theorem ar_eqD {d e : Dt} (p1 : d.pl = true) (p2 : e.pl = true) (s1 : SeqAt.shaped d.pd = true) (s2 : SeqAt.shaped e.pd = true) (h : Φ (.bl (PyData.eqv d.pd e.pd))) : AR K (rEqD K) d e Φ := fun G H s x y r1 r2 Q q =>
  ⟨d.pd, e.pd, r1.dp s p1, r2.dp s p2, s1, s2, q _ (.bl (PyData.eqv d.pd e.pd)) G H (Nw.refl s) rfl h⟩
end
end Sh
set_option Elab.async false
set_option linter.all false
set_option maxRecDepth 100000
set_option maxHeartbeats 4000000
namespace Sh
open PySem PySem.Spec PyProof.Rows L2
section
variable {K : PySem.W.Frag} {ρ : List En} {Ψ : Dt → List En → Prop} {ΨT : Bool → List En → Prop} {ΨA : List Dt → List En → Prop} {N : List En → Prop} {R : Dt → List En → Prop} {Φ : Dt → Prop}
/-! ### walks -/
def Wj (K : PySem.W.Frag) (J : It) (l : List Dt) (G0 : Hp) : Prop :=
  (∀ i H, i < l.length → Same G0 H → J.go i H) ∧ (∀ H, Same G0 H → J.stop l.length H) ∧ ∀ i G H x H', i < l.length → Same G0 G → Same G H → J.yld i H x H' → ∃ G' d, Nw G H G' H' ∧ l[i]? = some d ∧ RD K G' d x
theorem Wj.walk {J : It} {l : List Dt} {G0 : Hp} (w : Wj K J l G0) : Walk J l.length (fun H => Same G0 H) fun i H x H' => ∀ G, Same G0 G → Same G H → ∃ G' d, Nw G H G' H' ∧ l[i]? = some d ∧ RD K G' d x :=
  ⟨fun i H hi s => w.1 i H hi s, fun H s => w.2.1 H s, fun i H x H' hi s y G s1 s2 => w.2.2 i G H x H' hi s1 s2 y⟩
def AI (K : PySem.W.Frag) (wi : TI) (ρ : List En) (Θ : List Dt → List En → Prop) : Prop := ∀ B σ G H, Mt K B ρ σ G H → ∀ R : It → Hp → Prop, (∀ J l ρ' G' H', Mt K B ρ' σ G' H' → Same G G' → Tr B H H' → Wj K J l G' → Θ l ρ' → R J H') → wi σ H R
theorem wj_list {a : Addr} {xs : List V} {l : List Dt} {G : Hp} (h : G a = some (.lst xs)) (r : RDs K G l xs) : Wj K (Itl K a) l G := by
  have e := r.length
  refine ⟨fun i H hi s => ⟨xs, xs[i]'(by omega), SqL.of (s _ _ h), by simp [show i < xs.length by omega]⟩, fun H s => ⟨xs, SqL.of (s _ _ h), by omega⟩, fun i G1 H x H' hi s1 s2 y => ?_⟩
  obtain ⟨d, h1, h2⟩ := r.back (i := i) (y.2 xs (SqL.of (s2 _ _ (s1 _ _ h))))
  refine ⟨G1, d, ?_, h1, h2.same s1⟩
  rw [y.1]; exact Nw.refl s2
theorem wj_tup {a : Addr} {xs : List V} {l : List Dt} {G : Hp} (h : SqT K G a xs) (r : RDs K G l xs) : Wj K (Itt K a) l G := by
  have e := r.length
  refine ⟨fun i H hi s => ⟨xs, xs[i]'(by omega), same_sqT s h, by simp [show i < xs.length by omega]⟩, fun H s => ⟨xs, same_sqT s h, by omega⟩, fun i G1 H x H' hi s1 s2 y => ?_⟩
  obtain ⟨d, h1, h2⟩ := r.back (i := i) (y.2 xs (same_sqT s2 (same_sqT s1 h)))
  refine ⟨G1, d, ?_, h1, h2.same s1⟩
  rw [y.1]; exact Nw.refl s2
theorem ai_list {te : TE} {Θ : List Dt → List En → Prop} (h : AE K te ρ fun d ρ1 => ∃ l, d = .lst l ∧ Θ l ρ1) : AI K (iList K te) ρ Θ := fun B σ G H m Rr q =>
  h B σ G H m _ fun v d ρ1 G1 H1 m1 s1 t1 r1 ⟨l, e, p⟩ => by
    subst e
    obtain ⟨a, xs, e, h1, h2⟩ := r1
    exact ⟨a, e, ⟨xs, SqL.of (m1.sub _ _ h1)⟩, q _ l ρ1 G1 H1 m1 s1 t1 (wj_list h1 h2) p⟩
theorem ai_tup {te : TE} {Θ : List Dt → List En → Prop} (h : AE K te ρ fun d ρ1 => ∃ l, d = .tup l ∧ Θ l ρ1) : AI K (iTup K te) ρ Θ := fun B σ G H m Rr q =>
  h B σ G H m _ fun v d ρ1 G1 H1 m1 s1 t1 r1 ⟨l, e, p⟩ => by
    subst e
    obtain ⟨a, xs, e, h1, h2⟩ := r1
    exact ⟨a, e, ⟨xs, same_sqT m1.sub h1⟩, q _ l ρ1 G1 H1 m1 s1 t1 (wj_tup h1 h2) p⟩
/-! new pairs -/
theorem nw_pair {G H : Hp} {T : Addr} {x y : V} {d e : Dt} (s : Same G H) (n : H T = none) (r1 : RD K G d x) (r2 : RD K G e y) : ∃ G', Nw G H G' (upd H T (.tup [x, y])) ∧ RD K G' (.tup [d, e]) (.ref T) := by
  have nw := Nw.new (o := .tup [x, y]) s n
  exact ⟨_, nw, T, _, rfl, SqT.of upd_same, x, [y], rfl, r1.same nw.g, y, [], rfl, r2.same nw.g, rfl⟩
theorem zip_get {α β : Type} : ∀ {xs : List α} {ys : List β} {i : Nat} {x : α} {y : β}, xs[i]? = some x → ys[i]? = some y → (xs.zip ys)[i]? = some (x, y)
  | a :: xs, b :: ys, 0, _, _, h1, h2 => by cases h1; cases h2; rfl
  | a :: xs, b :: ys, i + 1, x, y, h1, h2 => by
    have := zip_get (i := i) (by simpa using h1) (by simpa using h2)
    simpa using this
  | [], _, _, _, _, h1, _ => by simp at h1
  | _ :: _, [], _, _, _, _, h2 => by simp at h2
def zpD (l m : List Dt) : List Dt := (l.zip m).map fun p => .tup [p.1, p.2]
theorem zpD_len {l m : List Dt} : (zpD l m).length = min l.length m.length := by unfold zpD; rw [List.length_map, List.length_zip]
theorem zpD_get {l m : List Dt} {i : Nat} {d e : Dt} (h1 : l[i]? = some d) (h2 : m[i]? = some e) : (zpD l m)[i]? = some (.tup [d, e]) := by
  unfold zpD; rw [List.getElem?_map, zip_get h1 h2]; rfl
theorem wj_zipL {a b : Addr} {xs ys : List V} {l m : List Dt} {G : Hp} (h : G a = some (.lst xs)) (h' : G b = some (.lst ys)) (r : RDs K G l xs) (r' : RDs K G m ys) : Wj K (Itz K a b) (zpD l m) G := by
  have e := r.length
  have e' := r'.length
  have w := walk_zip (K := K) (a := a) (b := b) (xs := xs) (ys := ys) rfl
  have el : (zpD l m).length = min xs.length ys.length := by rw [zpD_len, e, e']
  refine ⟨fun i H hi s => w.goes i H (by rw [el] at hi; exact hi) ⟨SqL.of (s _ _ h), SqL.of (s _ _ h')⟩, fun H s => by rw [el]; exact w.stops H ⟨SqL.of (s _ _ h), SqL.of (s _ _ h')⟩, fun i G1 H x H' hi s1 s2 y => ?_⟩
  obtain ⟨T, u, v, rfl, nT, rfl, f1, f2⟩ := w.yields i H x H' (by rw [el] at hi; exact hi) ⟨SqL.of (s2 _ _ (s1 _ _ h)), SqL.of (s2 _ _ (s1 _ _ h'))⟩ y
  obtain ⟨d1, g1, q1⟩ := r.back f1
  obtain ⟨d2, g2, q2⟩ := r'.back f2
  obtain ⟨G', n, rd⟩ := nw_pair s2 nT (q1.same s1) (q2.same s1)
  exact ⟨G', _, n, zpD_get g1 g2, rd⟩
theorem walk_zipT {a b : Addr} {xs ys : List V} : Walk (RZ.ItzT K a b) (min xs.length ys.length) (fun H => SqT K H a xs ∧ SqT K H b ys) (YPair (fun i => xs[i]?) (fun i => ys[i]?)) := by
  refine ⟨fun i H hi q => ?_, fun _ q => ⟨xs, ys, q.1, q.2, by omega⟩, fun _ _ _ _ _ q ⟨T, x, y, e1, e2, e3, f, g⟩ => ⟨T, x, y, e1, e2, e3, f xs q.1, g ys q.2⟩⟩
  have h1 : i < xs.length := by omega
  have h2 : i < ys.length := by omega
  exact ⟨xs, ys, xs[i], ys[i], q.1, q.2, List.getElem?_eq_getElem h1, List.getElem?_eq_getElem h2⟩
theorem wj_zipT {a b : Addr} {xs ys : List V} {l m : List Dt} {G : Hp} (h : SqT K G a xs) (h' : SqT K G b ys) (r : RDs K G l xs) (r' : RDs K G m ys) : Wj K (RZ.ItzT K a b) (zpD l m) G := by
  have e := r.length
  have e' := r'.length
  have w := walk_zipT (K := K) (a := a) (b := b) (xs := xs) (ys := ys)
  have el : (zpD l m).length = min xs.length ys.length := by rw [zpD_len, e, e']
  refine ⟨fun i H hi s => w.goes i H (by rw [el] at hi; exact hi) ⟨same_sqT s h, same_sqT s h'⟩, fun H s => by rw [el]; exact w.stops H ⟨same_sqT s h, same_sqT s h'⟩, fun i G1 H x H' hi s1 s2 y => ?_⟩
  obtain ⟨T, u, v, rfl, nT, rfl, f1, f2⟩ := w.yields i H x H' (by rw [el] at hi; exact hi) ⟨same_sqT s2 (same_sqT s1 h), same_sqT s2 (same_sqT s1 h')⟩ y
  obtain ⟨d1, g1, q1⟩ := r.back f1
  obtain ⟨d2, g2, q2⟩ := r'.back f2
  obtain ⟨G', n, rd⟩ := nw_pair s2 nT (q1.same s1) (q2.same s1)
  exact ⟨G', _, n, zpD_get g1 g2, rd⟩
theorem ai_zipL {ta : TA} {Θ : List Dt → List En → Prop} (h : AA K ta ρ fun ds ρ1 => ∃ l m, ds = [.lst l, .lst m] ∧ Θ (zpD l m) ρ1) : AI K (RZ.iZipA K ta) ρ Θ := fun B σ G H mm Rr q =>
  h B σ G H mm _ fun vs ds ρ1 G1 H1 m1 s1 t1 r1 ⟨l, m, e, p⟩ => by
    subst e
    obtain ⟨x, y, rfl, ⟨a, xs, rfl, h1, h2⟩, ⟨b, ys, rfl, h3, h4⟩⟩ := r1.two
    exact ⟨a, b, xs, ys, rfl, .inl ⟨SqL.of (m1.sub _ _ h1), SqL.of (m1.sub _ _ h3), q _ _ ρ1 G1 H1 m1 s1 t1 (wj_zipL h1 h3 h2 h4) p⟩⟩
theorem ai_zipT {ta : TA} {Θ : List Dt → List En → Prop} (h : AA K ta ρ fun ds ρ1 => ∃ l m, ds = [.tup l, .tup m] ∧ Θ (zpD l m) ρ1) : AI K (RZ.iZipA K ta) ρ Θ := fun B σ G H mm Rr q =>
  h B σ G H mm _ fun vs ds ρ1 G1 H1 m1 s1 t1 r1 ⟨l, m, e, p⟩ => by
    subst e
    obtain ⟨x, y, rfl, ⟨a, xs, rfl, h1, h2⟩, ⟨b, ys, rfl, h3, h4⟩⟩ := r1.two
    exact ⟨a, b, xs, ys, rfl, .inr ⟨same_sqT m1.sub h1, same_sqT m1.sub h3, q _ _ ρ1 G1 H1 m1 s1 t1 (wj_zipT h1 h3 h2 h4) p⟩⟩
/-! ### for -/
theorem as_for {wi : TI} {g : TG} {tb : TS} (h : AI K wi ρ fun l ρ1 => ∃ I : Nat → List En → Prop, I 0 ρ1 ∧ (∀ i d ρ2, l[i]? = some d → I i ρ2 → AG K g d ρ2 fun ρ3 => AS K tb ρ3 (I (i + 1)) R) ∧ ∀ ρ2, I l.length ρ2 → N ρ2) : AS K (tFor wi g tb) ρ N R := fun B σ G H m D qn qr =>
  h B σ G H m _ fun J l ρ1 G1 H1 m1 s1 t1 w ⟨I, i0, is, ie⟩ => by
    refine for_it w.walk (fun i σ2 H2 => ∃ ρ2 G2, Mt K B ρ2 σ2 G2 H2 ∧ Same G1 G2 ∧ Tr B H1 H2 ∧ I i ρ2) ⟨ρ1, G1, m1, Same.refl _, Tr.refl, i0⟩ (fun i σ2 H2 _ ⟨ρ2, G2, m2, s2, t2, p⟩ => s2.trans m2.sub) ?_ ?_
    · rintro i x σ2 H2 H3 hi ⟨ρ2, G2, m2, s2, t2, p⟩ y
      obtain ⟨G3, d, n3, hd, rd⟩ := y G2 s2 m2.sub
      refine is i d ρ2 hd p B σ2 G3 H3 (m2.nw n3) x rd _ fun σ4 ρ4 G4 H4 m4 s4 t4 h4 => ?_
      refine h4 B σ4 G4 H4 m4 _ (fun σ5 ρ5 G5 H5 m5 s5 t5 p5 => ⟨ρ5, G5, m5, (((s2.trans n3.g).trans s4).trans s5), (((t2.trans (Tr.same n3.h)).trans t4).trans t5), p5⟩) ?_
      exact fun v d σ5 ρ5 G5 H5 m5 s5 t5 r5 p5 => qr v d σ5 ρ5 G5 H5 m5 ((((s1.trans s2).trans n3.g).trans s4).trans s5) ((((t1.trans t2).trans (Tr.same n3.h)).trans t4).trans t5) r5 p5
    · rintro σ2 H2 ⟨ρ2, G2, m2, s2, t2, p⟩
      exact qn σ2 ρ2 G2 H2 m2 (s1.trans s2) (t1.trans t2) (ie ρ2 p)
/-! ### comprehensions -/
def wipeE (ρ : List En) : List Nat → List En
  | [] => ρ
  | v :: vs => (wipeE ρ vs).set v .no
theorem Mt.wipe {B : Addr → Prop} {σ : L2.St} {G H : Hp} (m : Mt K B ρ σ G H) : ∀ vs : List Nat, Mt K B (wipeE ρ vs) (L2.wipe σ vs) G H
  | [] => m
  | v :: vs => (Mt.wipe m vs).drop v none
/-- the slots may be others where nothing is known -/
theorem Mt.other {B : Addr → Prop} {σ σ' : L2.St} {G H : Hp} (m : Mt K B ρ σ G H) (hl : σ'.length = σ.length) (h : ∀ i : Nat, ρ[i]? = some En.no ∨ σ'[i]? = σ[i]?) : Mt K B ρ σ' G H where
  sub := m.sub
  pro := m.pro
  len := hl.trans m.len
  da := fun i d e => by
    rcases h i with z | z
    · rw [z] at e; cases e
    · rw [z]; exact m.da i d e
  own := fun i d e => by
    rcases h i with z | z
    · rw [z] at e; cases e
    · rw [z]; exact m.own i d e
  bx := fun i b f e => by
    rcases h i with z | z
    · rw [z] at e; cases e
    · rw [z]; exact m.bx i b f e
  dis := fun i j e e' a h1 h2 o1 o2 ne s1 s2 => by
    rcases h i with z | z
    · rw [z] at h1; cases h1; exact o1
    · rcases h j with z' | z'
      · rw [z'] at h2; cases h2; exact o2
      · rw [z] at s1; rw [z'] at s2; exact m.dis i j e e' a h1 h2 o1 o2 ne s1 s2
/-- off vs the slots are the same -/
def Off (vs : List Nat) (σ σ' : L2.St) : Prop := σ'.length = σ.length ∧ ∀ i, i ∉ vs → σ'[i]? = σ[i]?
theorem wipe_in {σ : L2.St} {i : Nat} : ∀ {vs : List Nat}, i ∈ vs → i < σ.length → (L2.wipe σ vs)[i]? = some none
  | v :: vs, h, lt => by
    unfold L2.wipe
    by_cases e : v = i
    · subst e; exact set_at (by rw [wipe_length]; exact lt)
    · rw [set_off e]
      exact wipe_in (by rcases List.mem_cons.mp h with z | z; exact absurd z.symm e; exact z) lt
theorem Off.wipe {vs : List Nat} {σ σ' : L2.St} (o : Off vs σ σ') : L2.wipe σ' vs = L2.wipe σ vs := by
  apply List.ext_getElem?
  intro i
  by_cases h : i ∈ vs
  · by_cases lt : i < σ.length
    · rw [wipe_in h lt, wipe_in h (by rw [o.1]; exact lt)]
    · rw [List.getElem?_eq_none (by rw [wipe_length, o.1]; omega), List.getElem?_eq_none (by rw [wipe_length]; omega)]
  · rw [wipe_out h, wipe_out h, o.2 i h]
theorem wipe_off (vs : List Nat) (σ : L2.St) : Off vs (L2.wipe σ vs) σ := ⟨(wipe_length σ vs).symm, fun i h => (wipe_out h).symm⟩
def AGv (K : PySem.W.Frag) (vs : List Nat) (g : TG) (d : Dt) (ρ : List En) (N : List En → Prop) : Prop := ∀ B σ G H, Mt K B ρ σ G H → ∀ v, RD K G d v → ∀ Q : L2.St → Hp → Prop, (∀ σ' ρ' G' H', Mt K B ρ' σ' G' H' → Same G G' → Tr B H H' → Off vs σ σ' → N ρ' → Q σ' H') → g v σ H Q
def AGvs (K : PySem.W.Frag) (vs : List Nat) (g : TGs) (ds : List Dt) (ρ : List En) (N : List En → Prop) : Prop := ∀ B σ G H, Mt K B ρ σ G H → ∀ xs, RDs K G ds xs → ∀ Q : L2.St → Hp → Prop, (∀ σ' ρ' G' H', Mt K B ρ' σ' G' H' → Same G G' → Tr B H H' → Off vs σ σ' → N ρ' → Q σ' H') → g xs σ H Q
theorem agv_name {vs : List Nat} {i : Nat} {d : Dt} (hi : i ∈ vs) (h : N (ρ.set i (.da d))) : AGv K vs (gName i) d ρ N := fun B σ G H m v r Q q => q _ _ G H (m.set i r) (Same.refl _) Tr.refl ⟨List.length_set, fun j hj => set_off (fun z => hj (by rw [← z]; exact hi))⟩ h
theorem agvs_nil {vs : List Nat} (h : N ρ) : AGvs K vs gNil [] ρ N := fun B σ G H m xs r Q q => ⟨r, q σ ρ G H m (Same.refl _) Tr.refl ⟨rfl, fun _ _ => rfl⟩ h⟩
theorem agvs_cons {vs : List Nat} {t : TG} {u : TGs} {d : Dt} {ds : List Dt} (h : AGv K vs t d ρ fun ρ1 => AGvs K vs u ds ρ1 N) : AGvs K vs (gCons t u) (d :: ds) ρ N := fun B σ G H m xs r Q q => by
  obtain ⟨x, ys, rfl, r1, r2⟩ := r
  exact ⟨x, ys, rfl, h B σ G H m x r1 _ fun σ1 ρ1 G1 H1 m1 s1 t1 o1 h1 => h1 B σ1 G1 H1 m1 ys (r2.same s1) Q fun σ' ρ' G' H' m' s t o p => q σ' ρ' G' H' m' (s1.trans s) (t1.trans t) ⟨o.1.trans o1.1, fun i hi => (o.2 i hi).trans (o1.2 i hi)⟩ p⟩
theorem agv_tup {vs : List Nat} {t : TGs} {n : Nat} {ds : List Dt} (hn : ds.length = n) (h : AGvs K vs t ds ρ N) : AGv K vs (gTup K n t) (.tup ds) ρ N := fun B σ G H m v r Q q => by
  obtain ⟨a, xs, rfl, r1, r2⟩ := r
  exact ⟨a, xs, rfl, same_sqT m.sub r1, by rw [r2.length]; exact hn, h B σ G H m xs r2 Q q⟩
theorem at_yes (h : ΨT true ρ) : AT K tYes ρ ΨT := fun B σ G H m Q q => q true ρ G H m (Same.refl _) Tr.refl h
/-- [e for .. in ..]: ρ is silent about the slots of the targets -/
theorem ae_lc {wi : TI} {g : TG} {tt : TT} {te : TE} {vs : List Nat}
    (h : AI K wi ρ fun l ρ1 => ∃ I : Nat → List Dt → List En → Prop, I 0 [] (wipeE ρ1 vs) ∧
      (∀ i d acc ρ2, l[i]? = some d → I i acc ρ2 → AGv K vs g d ρ2 fun ρ3 => AT K tt ρ3 fun b ρ4 => (b = true → AE K te ρ4 fun e ρ5 => acc.length < sizeLine ∧ I (i + 1) (acc ++ [e]) (wipeE ρ5 vs)) ∧ (b = false → I (i + 1) acc (wipeE ρ4 vs))) ∧
      ∀ acc ρ2, I l.length acc ρ2 → (∀ i ∈ vs, i < ρ2.length → ρ2[i]? = some En.no) ∧ Ψ (.lst acc) ρ2) : AE K (tLc wi g tt te vs) ρ Ψ := fun B σ G H m Q q =>
  h B σ G H m _ fun J l ρ1 G1 H1 m1 s1 t1 w ⟨I, i0, is, ie⟩ => fun D hD => by
    have back : ∀ {σ2 : L2.St} {ρ2 : List En} {B' : Addr → Prop} {G2 H2 : Hp}, L2.wipe σ2 vs = L2.wipe σ vs → Mt K B' ρ2 σ2 G2 H2 → Mt K B' (wipeE ρ2 vs) (L2.wipe σ vs) G2 H2 := fun e m2 => by
      rw [← e]; exact m2.wipe vs
    have mg := m1.guard (o := .lst []) hD
    refine lc_it w.walk (fun i H2 => ∃ (acc : List Dt) (xs : List V) (ρ2 : List En) (G2 : Hp), Mt K (fun a => B a ∨ a = D) ρ2 (L2.wipe σ vs) G2 H2 ∧ Same G1 G2 ∧ Tr B H1 H2 ∧ H2 D = some (.lst xs) ∧ RDs K G2 acc xs ∧ I i acc ρ2)
      ⟨[], [], wipeE ρ1 vs, G1, mg.wipe vs, Same.refl _, Tr.same (same_up hD), upd_same, rfl, i0⟩ (fun i H2 _ ⟨acc, xs, ρ2, G2, m2, s2, t2, e2, r2, p⟩ => s2.trans m2.sub) ?_ ?_
    · rintro i x H2 H3 hi ⟨acc, xs, ρ2, G2, m2, s2, t2, e2, r2, p⟩ y
      obtain ⟨G3, d, n3, hd, rd⟩ := y G2 s2 m2.sub
      have m3 := m2.nw n3
      refine is i d acc ρ2 hd p _ (L2.wipe σ vs) G3 H3 m3 x rd _ fun σ4 ρ4 G4 H4 m4 s4 t4 o4 h4 => ?_
      have ew : L2.wipe σ4 vs = L2.wipe σ vs := by
        rw [o4.wipe]
        exact (Off.wipe (wipe_off vs σ)).symm
      have e3 := n3.h _ _ e2
      have e4 := t4 _ _ (.inr rfl) e3
      have tB3 : Tr B H1 H4 := (t2.trans (Tr.same n3.h)).trans fun a o b e => t4 a o (.inl b) e
      refine ⟨ew, ?_⟩
      refine h4 _ σ4 G4 H4 m4 _ fun b ρ5 G5 H5 m5 s5 t5 h5 => ?_
      have e5 := t5 _ _ (.inr rfl) e4
      have tB5 : Tr B H1 H5 := tB3.trans fun a o b e => t5 a o (.inl b) e
      have s15 : Same G1 G5 := ((s2.trans n3.g).trans s4).trans s5
      cases b
      · rw [if_neg (by decide)]
        exact ⟨acc, xs, wipeE ρ5 vs, G5, back ew m5, s15, tB5, e5, ((r2.same n3.g).same s4).same s5, h5.2 rfl⟩
      · rw [if_pos rfl]
        refine h5.1 rfl _ σ4 G5 H5 m5 _ fun v e ρ6 G6 H6 m6 s6 t6 r6 h6 => ?_
        have e6 := t6 _ _ (.inr rfl) e5
        have rr : RDs K G6 acc xs := (((r2.same n3.g).same s4).same s5).same s6
        refine ⟨xs, e6, by rw [rr.length]; exact h6.1, acc ++ [e], xs ++ [v], wipeE ρ6 vs, G6, (back ew m6).turn (.inr rfl), s15.trans s6, ?_, upd_same, rr.snoc r6, h6.2⟩
        intro a o b z
        have z1 := t6 a o (.inl b) (tB5 a o b z)
        rw [upd_ne (fun z' => (m1.pro a b).2 (by rw [z']; exact hD))]; exact z1
    · rintro H2 ⟨acc, xs, ρ2, G2, m2, s2, t2, e2, r2, p⟩
      obtain ⟨hn, hp⟩ := ie acc ρ2 p
      have m3 : Mt K (fun a => B a ∨ a = D) ρ2 σ G2 H2 := m2.other (wipe_length σ vs).symm fun i => by
        by_cases hi : i ∈ vs
        · by_cases lt : i < ρ2.length
          · exact .inl (hn i hi lt)
          · exact .inr (by rw [List.getElem?_eq_none (by have := m2.len; rw [wipe_length] at this; omega), List.getElem?_eq_none (by have := m2.len; omega)])
        · exact .inr (wipe_out hi).symm
      have nD : G2 D = none := (m2.pro D (.inr rfl)).1
      have mB : Mt K B ρ2 σ G2 H2 := m3.less fun a b => .inl b
      -- the new list becomes data
      have sg : Same G2 (upd G2 D (.lst xs)) := same_up nD
      have mF : Mt K B ρ2 σ (upd G2 D (.lst xs)) H2 := ⟨fun a o z => by
          by_cases w : a = D
          · subst w; rw [upd_same] at z; cases z; exact e2
          · rw [upd_ne w] at z; exact m2.sub _ _ z,
        fun a b => ⟨by rw [upd_ne (fun w => (m1.pro a b).2 (by rw [w]; exact hD))]; exact (mB.pro a b).1, (mB.pro a b).2⟩, mB.len, fun i d e => by
          obtain ⟨v, z1, z2⟩ := mB.da i d e
          exact ⟨v, z1, z2.same sg⟩, fun i k e => by
          obtain ⟨q', ys, z1, z2, z3, z4, z5⟩ := m3.own i k e
          exact ⟨q', ys, z1, z2, z3.same sg, by rw [upd_ne (fun w => z5 (.inr w))]; exact z4, fun b => z5 (.inl b)⟩, fun i b f e => by
          obtain ⟨y, c, z1, z2, z3, z4, z5, z6⟩ := m3.bx i b f e
          exact ⟨y, c, z1, z2, z3, z4, by rw [upd_ne (fun w => z6 (.inr w))]; exact z5, fun b => z6 (.inl b)⟩, mB.dis⟩
      exact q _ (.lst acc) ρ2 _ H2 mF ((s1.trans s2).trans sg) (t1.trans t2) ⟨D, xs, rfl, upd_same, r2.same sg⟩ hp
end
end Sh
set_option Elab.async false
set_option linter.all false
set_option maxRecDepth 100000
set_option maxHeartbeats 4000000
namespace Sh
open PySem PySem.Spec PyProof.Rows L2
/-! ### promises over data -/
def spP (K : PySem.W.Frag) (S : List Dt → Dt → Prop) : Sp := fun vs H Q _ => ∃ G ds r, Same G H ∧ RDs K G ds vs ∧ S ds r ∧ ∀ v G' H', Nw G H G' H' → RD K G' r v → Q v H'
def But (b : Addr) (H H' : Hp) : Prop := ∀ a o, a ≠ b → H a = some o → H' a = some o
theorem but_upd {H : Hp} {b : Addr} {o : HO} : But b H (upd H b o) := fun a u n e => by rw [upd_ne n]; exact e
structure Nb (b : Addr) (G H G' H' : Hp) : Prop where
  g : Same G G'
  s : Same G' H'
  h : But b H H'
  f : ∀ a, G a = none → H a ≠ none → G' a = none
def spB (K : PySem.W.Frag) (n : Nat) (dom : List Dt → Prop) (post : List Dt → Dt → Prop) : Sp := fun vs H Q _ => ∃ G ds b us y c, ∃ F : Nat, vs = .ref b :: us ∧ Same G H ∧ Bx H b y c ∧ 0 ≤ c ∧ c + (F + n : Nat) ≤ BxM ∧ G b = none ∧ RDs K G ds us ∧ dom ds ∧
  ∀ v d G' H' y' c', Nb b G H G' H' → Bx H' b y' c' → 0 ≤ c' → c' + F ≤ BxM → RD K G' d v → post ds d → Q v H'
section
variable {K : PySem.W.Frag} {ρ : List En} {Ψ : Dt → List En → Prop} {ΨT : Bool → List En → Prop} {ΨA : List Dt → List En → Prop} {N : List En → Prop} {R : Dt → List En → Prop} {Φ : Dt → Prop}
theorem ae_call {S : List Dt → Dt → Prop} {E : XK} {ta : TA} (h : AA K ta ρ fun ds ρ1 => ∃ r, S ds r ∧ Ψ r ρ1) : AE K (tCall (spP K S) [] E ta) ρ Ψ := fun B σ G H m Q q =>
  h B σ G H m _ fun vs ds ρ1 G1 H1 m1 s1 t1 r1 ⟨r, hs, p⟩ => ⟨G1, ds, r, m1.sub, by rw [List.append_nil]; exact r1, hs, fun v G2 H2 n r2 => q v r ρ1 G2 H2 (m1.nw n) (s1.trans n.g) (t1.trans (Tr.same n.h)) r2 p⟩
/-- a box has been drawn from -/
theorem Mt.box {B : Addr → Prop} {σ : L2.St} {G H G' H' : Hp} (m : Mt K B ρ σ G H) {i f : Nat} {b : Addr} {y c : Int} (e : ρ[i]? = some (.bx b f)) (n : Nb b G H G' H') {F : Nat} (h : Bx H' b y c) (c0 : 0 ≤ c) (c1 : c + F ≤ BxM) : Mt K B (ρ.set i (.bx b F)) σ G' H' ∧ Tr B H H' := by
  obtain ⟨y0, k0, z1, z2, z3, z4, z5, z6⟩ := m.bx i b f e
  have tr : Tr B H H' := fun a o ba e => n.h a o (fun w => z6 (by rw [← w]; exact ba)) e
  refine ⟨⟨n.s, fun a ba => ⟨n.f a (m.pro a ba).1 (m.pro a ba).2, ?_⟩, by rw [List.length_set]; exact m.len, ?_, ?_, ?_, ?_⟩, tr⟩
  · intro z
    cases q : H a with
    | none => exact (m.pro a ba).2 q
    | some o => rw [tr a o ba q] at z; cases z
  · intro j d hj
    rcases get_set hj with ⟨rfl, w, lt⟩ | ⟨ne, w⟩
    · cases w
    · obtain ⟨v, w1, w2⟩ := m.da j d w
      exact ⟨v, w1, w2.same n.g⟩
  · intro j l hj
    rcases get_set hj with ⟨rfl, w, lt⟩ | ⟨ne, w⟩
    · cases w
    · obtain ⟨q, xs, w1, w2, w3, w4, w5⟩ := m.own j l w
      exact ⟨q, xs, w1, n.h _ _ (fun z => m.dis i j _ _ b e w trivial trivial ne z1 (by rw [← z]; exact w1)) w2, w3.same n.g, n.f q w4 (some_ne w2), w5⟩
  · intro j b' f' hj
    rcases get_set hj with ⟨rfl, w, lt⟩ | ⟨ne, w⟩
    · cases w
      exact ⟨y, c, z1, h, c0, c1, n.f b z5 z2.ne, z6⟩
    · obtain ⟨y', c', w1, ⟨x, w2, w2'⟩, w3, w4, w5, w6⟩ := m.bx j b' f' w
      exact ⟨y', c', w1, ⟨x, n.h _ _ (fun z => m.dis i j _ _ b e w trivial trivial ne z1 (by rw [← z]; exact w1)) w2, w2'⟩, w3, w4, n.f b' w5 (some_ne w2), w6⟩
  · intro j k e1 e2 a g1 g2 o1 o2 ne s1 s2
    rcases get_set g1 with ⟨rfl, z, lt⟩ | ⟨n1, z1'⟩
    · rcases get_set g2 with ⟨w, z', lt'⟩ | ⟨n2, z2'⟩
      · exact ne w
      · exact m.dis i k _ e2 a e z2' trivial o2 ne s1 s2
    · rcases get_set g2 with ⟨rfl, z, lt⟩ | ⟨n2, z2'⟩
      · exact m.dis j i e1 _ a z1' e o1 trivial ne s1 s2
      · exact m.dis j k e1 e2 a z1' z2' o1 o2 ne s1 s2
theorem ae_draw {n : Nat} {dom : List Dt → Prop} {post : List Dt → Dt → Prop} {E : XK} {ta : TA} {i : Nat} {b : Addr} {f0 : Nat} (e0 : ρ[i]? = some (.bx b f0))
    (h : AA K ta ρ fun ds ρ1 => dom ds ∧ ∃ F, ρ1[i]? = some (.bx b (F + n)) ∧ ∀ d, post ds d → Ψ d (ρ1.set i (.bx b F))) : AE K (tCall (spB K n dom post) [] E (tCons (tVar i) ta)) ρ Ψ := fun B σ G H m Q q => by
  obtain ⟨y0, k0, z1, _⟩ := m.bx i b f0 e0
  refine ⟨_, z1, h B σ G H m _ fun vs ds ρ1 G1 H1 m1 s1 t1 r1 ⟨hd, F, e, p⟩ => ?_⟩
  obtain ⟨y, c, w1, w2, w3, w4, w5, w6⟩ := m1.bx i b (F + n) e
  refine ⟨G1, ds, b, vs, y, c, F, by rw [List.append_nil], m1.sub, w2, w3, w4, w5, r1, hd, fun v d G2 H2 y' c' nb hb c0 c1 r2 hp => ?_⟩
  obtain ⟨m2, t2⟩ := m1.box e nb hb c0 c1
  exact q v d _ G2 H2 m2 (s1.trans nb.g) (t1.trans t2) r2 (p d hp)
/-! ### a def keeps such a promise -/
def env0 (N : List Str) (ds : List Dt) : List En := ds.map En.da ++ List.replicate (N.length - ds.length) .no
def envB (N : List Str) (b : Addr) (f : Nat) (ds : List Dt) : List En := .bx b f :: (ds.map En.da ++ List.replicate (N.length - (ds.length + 1)) .no)
theorem rep_get {n i : Nat} {e : En} (h : (List.replicate n En.no)[i]? = some e) : e = .no := by
  rw [List.getElem?_replicate] at h
  split at h
  · cases h; rfl
  · cases h
theorem da_get {ds : List Dt} {n i : Nat} {e : En} (h : (ds.map En.da ++ List.replicate n En.no)[i]? = some e) : e = .no ∨ ∃ d, ds[i]? = some d ∧ e = .da d := by
  by_cases lt : i < ds.length
  · rw [List.getElem?_append_left (by rw [List.length_map]; exact lt), List.getElem?_map] at h
    obtain ⟨d, h1, h2⟩ := Option.map_eq_some_iff.mp h
    exact .inr ⟨d, h1, h2.symm⟩
  · rw [List.getElem?_append_right (by rw [List.length_map]; omega)] at h
    exact .inl (rep_get h)
theorem start_get {N : List Str} {vs : List V} {i : Nat} {x : V} (h : vs[i]? = some x) : (L2.start N vs)[i]? = some (some x) := by
  have lt := (List.getElem?_eq_some_iff.mp h).1
  unfold L2.start
  rw [List.getElem?_append_left (by rw [List.length_map]; exact lt), List.getElem?_map, h]; rfl
theorem mt_start {N : List Str} {ds : List Dt} {vs : List V} {G H : Hp} (s : Same G H) (r : RDs K G ds vs) : Mt K (fun a => H a ≠ none ∧ G a = none) (env0 N ds) (L2.start N vs) G H where
  sub := s
  pro := fun a b => ⟨b.2, b.1⟩
  len := by unfold L2.start env0; simp [r.length]
  da := fun i d e => by
    rcases da_get e with z | ⟨d', z1, z2⟩
    · cases z
    · cases z2
      obtain ⟨x, h1, h2⟩ := r.get z1
      exact ⟨x, start_get h1, h2⟩
  own := fun i l e => by rcases da_get e with z | ⟨d', z1, z2⟩ <;> contradiction
  bx := fun i b f e => by rcases da_get e with z | ⟨d', z1, z2⟩ <;> contradiction
  dis := fun i j e e' a h1 h2 o1 o2 ne s1 s2 => by
    rcases da_get h1 with z | ⟨d', z1, z2⟩
    · subst z; exact o1
    · subst z2; exact o1
theorem mt_startB {N : List Str} {ds : List Dt} {vs : List V} {G H : Hp} {b : Addr} {y c : Int} {f : Nat} (s : Same G H) (r : RDs K G ds vs) (hb : Bx H b y c) (c0 : 0 ≤ c) (c1 : c + f ≤ BxM) (gb : G b = none) : Mt K (fun a => H a ≠ none ∧ G a = none ∧ a ≠ b) (envB N b f ds) (L2.start N (.ref b :: vs)) G H where
  sub := s
  pro := fun a b => ⟨b.2.1, b.1⟩
  len := by unfold L2.start envB; simp [r.length]
  da := fun i d e => by
    cases i with
    | zero => cases e
    | succ i =>
      rcases da_get (show _ = some _ from e) with z | ⟨d', z1, z2⟩
      · cases z
      · cases z2
        obtain ⟨x, h1, h2⟩ := r.get z1
        exact ⟨x, start_get (vs := .ref b :: vs) (i := i + 1) h1, h2⟩
  own := fun i l e => by
    cases i with
    | zero => cases e
    | succ i => rcases da_get (show _ = some _ from e) with z | ⟨d', z1, z2⟩ <;> contradiction
  bx := fun i b' f' e => by
    cases i with
    | zero => cases e; exact ⟨y, c, rfl, hb, c0, c1, gb, fun z => z.2.2 rfl⟩
    | succ i => rcases da_get (show _ = some _ from e) with z | ⟨d', z1, z2⟩ <;> contradiction
  dis := fun i j e e' a h1 h2 o1 o2 ne s1 s2 => by
    cases i with
    | zero =>
      cases j with
      | zero => exact ne rfl
      | succ j => rcases da_get (show _ = some _ from h2) with z | ⟨d', z1, z2⟩ <;> (subst_vars; exact o2)
    | succ i => rcases da_get (show _ = some _ from h1) with z | ⟨d', z1, z2⟩ <;> (subst_vars; exact o1)
end
section
variable {P : Program} {w : World} {K : PySem.W.Frag} {mg : Str → Option Value} {base : Heap}
theorem okP {x qual : Str} {st : Stmt} {f : Addr} {fd : FuncData} {N ps : List Str} {k : Nat} {S : List Dt → Dt → Prop} (F : Fun K x qual st f fd) (sc : FnScope N ps (defScope st)) (len : ∀ ds r, S ds r → ds.length = ps.length)
    (body : ∀ (cdv : Value) (A : Around) (outer : List Env) (s : Shared) (H : Hp) (E : XK), Room k (A.deeper (envOfC qual (defScope st) s.heap.objs.size f cdv)) → ∀ ds r, S ds r →
      ∃ t, PSs (cxOf CX0 P w K mg base N qual (defScope st) f cdv A outer s H E).nox (defBody st) t ∧ AS K t (env0 N ds) (fun _ => r = .non) (fun d _ => d = r)) : FnOk P w K mg base CX0 (k + 1) f fd ps (spP K S) := by
  refine F.ok sc (fun vs H Q E h => ?_) (fun cdv A outer s H vs Q E hr h => ?_)
  · obtain ⟨G, ds, r, s, rd, hs, _⟩ := h
    rw [rd.length]; exact len ds r hs
  · obtain ⟨G, ds, r, sm, rd, hs, q⟩ := h
    obtain ⟨t, ht, ha⟩ := body cdv A outer s H E hr ds r hs
    refine ⟨t, ht, ha _ _ G H (mt_start sm rd) _ (fun σ' ρ' G' H' m' s' t' e => ?_) (fun v d σ' ρ' G' H' m' s' t' rv e => ?_)⟩
    all_goals
      have nw : Nw G H G' H' := ⟨s', m'.sub, fun a o e => by
          cases z : G a with
          | none => exact t' a o ⟨some_ne e, z⟩ e
          | some o' => rw [sm _ _ z] at e; cases e; exact m'.sub _ _ (s' _ _ z), fun a h1 h2 => (m'.pro a ⟨h2, h1⟩).1⟩
    · exact q .non G' H' nw (by rw [e]; rfl)
    · exact q v G' H' nw (by rw [← e]; exact rv)
theorem okB {x qual : Str} {st : Stmt} {f : Addr} {fd : FuncData} {N ps : List Str} {k n : Nat} {dom : List Dt → Prop} {post : List Dt → Dt → Prop} (F : Fun K x qual st f fd) (sc : FnScope N ps (defScope st)) (len : ∀ ds, dom ds → ds.length + 1 = ps.length)
    (body : ∀ (cdv : Value) (A : Around) (outer : List Env) (s : Shared) (H : Hp) (E : XK), Room k (A.deeper (envOfC qual (defScope st) s.heap.objs.size f cdv)) → ∀ ds, dom ds →
      ∃ t, PSs (cxOf CX0 P w K mg base N qual (defScope st) f cdv A outer s H E).nox (defBody st) t ∧ ∀ (b : Addr) (F : Nat), AS K t (envB N b (F + n) ds) (fun ρ => post ds .non ∧ ∃ f, ρ[0]? = some (.bx b f) ∧ F ≤ f) (fun d ρ => post ds d ∧ ∃ f, ρ[0]? = some (.bx b f) ∧ F ≤ f)) : FnOk P w K mg base CX0 (k + 1) f fd ps (spB K n dom post) := by
  refine F.ok sc (fun vs H Q E h => ?_) (fun cdv A outer s H vs Q E hr h => ?_)
  · obtain ⟨G, ds, b, us, y, c, F', rfl, sm, hb, c0, c1, gb, rd, hd, _⟩ := h
    rw [List.length_cons, rd.length]; exact len ds hd
  · obtain ⟨G, ds, b, us, y, c, F', rfl, sm, hb, c0, c1, gb, rd, hd, q⟩ := h
    obtain ⟨t, ht, ha⟩ := body cdv A outer s H E hr ds hd
    refine ⟨t, ht, ha b F' _ _ G H (mt_startB sm rd hb c0 c1 gb) _ (fun σ' ρ' G' H' m' s' t' e => ?_) (fun v d σ' ρ' G' H' m' s' t' rv e => ?_)⟩
    all_goals
      obtain ⟨hp, f', he, hf⟩ := e
      have nb : Nb b G H G' H' := ⟨s', m'.sub, fun a o ne e => by
          cases z : G a with
          | none => exact t' a o ⟨some_ne e, z, ne⟩ e
          | some o' => rw [sm _ _ z] at e; cases e; exact m'.sub _ _ (s' _ _ z), fun a h1 h2 => by
          by_cases w : a = b
          · subst w
            obtain ⟨_, _, _, _, _, _, z, _⟩ := m'.bx 0 a f' he
            exact z
          · exact (m'.pro a ⟨h2, h1, w⟩).1⟩
      obtain ⟨y', c', w1, w2, w3, w4, w5, w6⟩ := m'.bx 0 b f' he
    · exact q .non .non G' H' y' c' nb w2 w3 (by omega) rfl hp
    · exact q v d G' H' y' c' nb w2 w3 (by omega) rv hp
end
/-! ### calls by keywords alone -/
def tCallK0 (m : Nat) (sp : Sp) (gV : List V → List V) (E : XK) (tk : TA) : TE := fun σ H Q => tk σ H fun zs H2 => zs.length = m ∧ sp (gV zs) H2 Q E
structure KB0 (K : PySem.W.Frag) (fd : FuncData) (ps ks : List Str) (g : List Value → List Value) (gV : List V → List V) : Prop where
  to : ∀ (s : Shared) (ws : List Value), ws.length = ks.length → BindsTo s fd ⟨[], ks.zip ws⟩ (ps.zip (g ws))
  rel : ∀ {zs : List V} {ws : List Value}, Vals zs ws → zs.length = ks.length → Vals (gV zs) (g ws)
section
variable {X : Cx} {CX : CXT} {k n : Nat} {f : Addr} {fd : FuncData} {ps ks : List Str} {sp : Sp} {E : XK} {x : Str} {p pos : Pos} {kws : List Keyword} {tk : TA} {g : List Value → List Value} {gV : List V → List V}
theorem run_fnK0 {pins : List (Addr × Obj)} {σ : L2.St} {H : Hp} {s : Shared} {Q : VK} {ws : List Value} {zs : List V} (F : FnOk X.prog X.w X.K X.mg X.base CX k f fd ps sp) (hr : Room k X.A) (hb : KB0 X.K fd ps ks g gV) (hx : Passes CX X E)
    (I : Inv X pins σ H s) (rz : Vals zs ws) (l2 : zs.length = ks.length) (h : sp (gV zs) H Q E) : wpAny (model X.prog X.w) X.A (call (.ref f) [] (ks.zip ws)) (EP X pins σ Q) X.xe s := by
  have r2 := hb.rel rz l2
  refine wpAny_call (codeAny_mono (F.run X.A X.stack s H ⟨[], ks.zip ws⟩ (g ws) (gV zs) Q E hr I.env0 (hb.to s ws (rz.length.symm.trans l2)) r2 h) fun r s' hq => ?_)
  cases r with
  | error e => exact hx pins σ H s e s' I hq
  | ok fl =>
    cases fl with
    | ret u => exact I.after hq
    | next => exact False.elim hq
    | brk => exact False.elim hq
    | cont => exact False.elim hq
theorem pe_callK0 (F : FnOk X.prog X.w X.K X.mg X.base CX k f fd ps sp) (hr : Room k X.A) (hg : Gl X x) (hm : X.mg x = some (.ref f)) (hk : PySem.W.keepIn X.K (.ref f) = true) (hb : KB0 X.K fd ps ks g gV) (hx : Passes CX X E)
    (hkw : PK X kws tk) (hall : (backToKw pos (keywordEach kws X.env)).all (·.1.isSome) = true := by rfl) (hks : (backToKw pos (keywordEach kws X.env)).filterMap (·.1) = ks := by rfl)
    (hdb : (x == ("__debug__" : Str)) = false := by decide) (hpl : ((backTo pos (starEach [] X.env)).any (·.1) || (backToKw pos (keywordEach kws X.env)).any (·.1.isNone)) = false := by rfl) :
    PE X (.Call (.Name x p) [] kws pos) (tCallK0 ks.length sp gV E tk) := by
  refine ⟨fun pins s σ H Q I h => ?_⟩
  refine wpAny_Call_Name_kw (ld_glob I hg hm ?_ hdb)
  refine PySem.W.callWith_KW0 (h₀ := X.base) I.ok.mod.kin hk hall ?_ hpl
  refine thn (hkw.run pos pins s σ H _ I h) fun ws s2 ⟨zs, H2, I2, rz, l2, q2⟩ => ⟨I2.kIn, ?_⟩
  rw [hks]
  exact run_fnK0 F hr hb hx I2 rz l2 q2
end
section
variable {K : PySem.W.Frag} {ρ : List En} {Ψ : Dt → List En → Prop} {E : XK} {tk : TA}
theorem ae_callK {m : Nat} {S : List Dt → Dt → Prop} {gV : List V → List V} (gD : List Dt → List Dt) (hg : ∀ {G : Hp} {ds : List Dt} {vs : List V}, RDs K G ds vs → ds.length = m → RDs K G (gD ds) (gV vs)) (h : AA K tk ρ fun ds ρ1 => ds.length = m ∧ ∃ r, S (gD ds) r ∧ Ψ r ρ1) : AE K (tCallK0 m (spP K S) gV E tk) ρ Ψ := fun B σ G H mm Q q =>
  h B σ G H mm _ fun vs ds ρ1 G1 H1 m1 s1 t1 r1 ⟨l, r, hs, p⟩ => ⟨by rw [r1.length]; exact l, G1, gD ds, r, m1.sub, hg r1 l, hs, fun v G2 H2 n r2 => q v r ρ1 G2 H2 (m1.nw n) (s1.trans n.g) (t1.trans (Tr.same n.h)) r2 p⟩
end
end Sh
set_option Elab.async false
set_option linter.all false
set_option maxRecDepth 100000
set_option maxHeartbeats 4000000
namespace Sh
open PySem PySem.Spec PyProof.Rows L2
/-- a def that may be called: its promise, how its arguments bind -/
structure Cal (P : Program) (w : World) (K : PySem.W.Frag) (mg : Str → Option Value) (base : Heap) (n : Nat) (x : Str) (ps : List Str) (sp : Sp) (g : Addr) (d : FuncData) : Prop where
  ok : FnOk P w K mg base CX0 n g d ps sp
  bi : Binds K d ps []
  kp : PySem.W.keepIn K (.ref g) = true
  mg : mg x = some (.ref g)
structure Blts (mg : Str → Option Value) : Prop where
  len : mg "len" = none
  abs : mg "abs" = none
  int : mg "int" = none
  list : mg "list" = none
  tuple : mg "tuple" = none
  bool : mg "bool" = none
  str : mg "str" = none
  enumerate : mg "enumerate" = none
  isinstance : mg "isinstance" = none
  all : mg "all" = none
  any : mg "any" = none
  zip : mg "zip" = none
  range : mg "range" = none
  min : mg "min" = none
  max : mg "max" = none
  set : mg "set" = none
  sorted : mg "sorted" = none
  repr : mg "repr" = none
  sum : mg "sum" = none
section
variable {K : PySem.W.Frag} {ρ : List En} {N : List En → Prop} {R : Dt → List En → Prop}
theorem as_par3 {ta : TA} {i j l : Nat} (h : AA K ta ρ fun ds ρ1 => ∃ d e f, ds = [d, e, f] ∧ N (((ρ1.set i (.da d)).set j (.da e)).set l (.da f))) : AS K (tPar3 i j l ta) ρ N R := fun B σ G H m D qn qr =>
  h B σ G H m _ fun vs ds ρ1 G1 H1 m1 s1 t1 r1 ⟨d, e, f, z, h1⟩ => by
    subst z
    obtain ⟨x, r, rfl, r2, r3⟩ := r1
    obtain ⟨y, z, rfl, r4, r5⟩ := r3.two
    exact ⟨x, y, z, rfl, qn _ _ G1 H1 (((m1.set i r2).set j r4).set l r5) s1 t1 h1⟩
theorem ar_eq3 {d e : Dt} {x y : V} {Φ : Dt → Prop} (c : d.v? = some x ∧ e.v? = some y ∧ scal x y = true) (h : Φ (.bl (decide (x = y)))) : AR K rEq d e Φ := ar_eq c.1 c.2.1 c.2.2 h
theorem ar_ne3 {d e : Dt} {x y : V} {Φ : Dt → Prop} (c : d.v? = some x ∧ e.v? = some y ∧ scal x y = true) (h : Φ (.bl (!decide (x = y)))) : AR K rNe d e Φ := ar_ne c.1 c.2.1 c.2.2 h
theorem ac_isi1 {d : Dt} {T : String} {b : Bool} {Φ : Dt → Prop} (c : d.noTy = true ∧ kitB d.kind T = some b) (h : Φ (.bl b)) : AC K (rIsi K) [d, .ty T] Φ := ac_isi c.1 c.2 h
theorem kb_NoneType_list : kitB "NoneType" "list" = some false := by decide +kernel
theorem kb_NoneType_tuple : kitB "NoneType" "tuple" = some false := by decide +kernel
theorem kb_NoneType_bool : kitB "NoneType" "bool" = some false := by decide +kernel
theorem kb_NoneType_int : kitB "NoneType" "int" = some false := by decide +kernel
theorem kb_NoneType_str : kitB "NoneType" "str" = some false := by decide +kernel
theorem kb_bool_list : kitB "bool" "list" = some false := by decide +kernel
theorem kb_bool_tuple : kitB "bool" "tuple" = some false := by decide +kernel
theorem kb_bool_bool : kitB "bool" "bool" = some true := by decide +kernel
theorem kb_bool_int : kitB "bool" "int" = some true := by decide +kernel
theorem kb_bool_str : kitB "bool" "str" = some false := by decide +kernel
theorem kb_int_list : kitB "int" "list" = some false := by decide +kernel
theorem kb_int_tuple : kitB "int" "tuple" = some false := by decide +kernel
theorem kb_int_bool : kitB "int" "bool" = some false := by decide +kernel
theorem kb_int_int : kitB "int" "int" = some true := by decide +kernel
theorem kb_int_str : kitB "int" "str" = some false := by decide +kernel
theorem kb_str_list : kitB "str" "list" = some false := by decide +kernel
theorem kb_str_tuple : kitB "str" "tuple" = some false := by decide +kernel
theorem kb_str_bool : kitB "str" "bool" = some false := by decide +kernel
theorem kb_str_int : kitB "str" "int" = some false := by decide +kernel
theorem kb_str_str : kitB "str" "str" = some true := by decide +kernel
theorem kb_tuple_list : kitB "tuple" "list" = some false := by decide +kernel
theorem kb_tuple_tuple : kitB "tuple" "tuple" = some true := by decide +kernel
theorem kb_tuple_bool : kitB "tuple" "bool" = some false := by decide +kernel
theorem kb_tuple_int : kitB "tuple" "int" = some false := by decide +kernel
theorem kb_tuple_str : kitB "tuple" "str" = some false := by decide +kernel
theorem kb_list_list : kitB "list" "list" = some true := by decide +kernel
theorem kb_list_tuple : kitB "list" "tuple" = some false := by decide +kernel
theorem kb_list_bool : kitB "list" "bool" = some false := by decide +kernel
theorem kb_list_int : kitB "list" "int" = some false := by decide +kernel
theorem kb_list_str : kitB "list" "str" = some false := by decide +kernel
theorem ac_len {k : Bool} {l : List Dt} {Φ : Dt → Prop} (h : Φ (.int (l.length : Nat))) : AC K (fun xs H Q => ∃ p ys, xs = [.ref p] ∧ (SqL K H p ys ∨ SqT K H p ys) ∧ Q (.int ys.length) H) [sq k l] Φ := by
  cases k
  · exact ac_lenL h
  · exact ac_lenT h
theorem wipe_no {ρ : List En} {i : Nat} : ∀ {vs : List Nat}, i ∈ vs → i < ρ.length → (wipeE ρ vs)[i]? = some En.no
  | v :: vs, h, lt => by
    have hl : ∀ ws : List Nat, (wipeE ρ ws).length = ρ.length := fun ws => by
      induction ws with
      | nil => rfl
      | cons w ws ih => unfold wipeE; rw [List.length_set, ih]
    unfold wipeE
    by_cases e : v = i
    · subst e; exact set_at (by rw [hl]; exact lt)
    · rw [set_off e]
      exact wipe_no (by rcases List.mem_cons.mp h with z | z; exact absurd z.symm e; exact z) lt
theorem wipeE_len {ρ : List En} (ws : List Nat) : (wipeE ρ ws).length = ρ.length := by
  induction ws with
  | nil => rfl
  | cons w ws ih => unfold wipeE; rw [List.length_set, ih]
/-- a comprehension item by item -/
theorem ae_lcMap {Ψ : Dt → List En → Prop} {wi : TI} {g : TG} {te : TE} {vs : List Nat} (f : Dt → Dt)
    (h : AI K wi ρ fun l ρ1 => l.length < sizeLine ∧ (∀ d ∈ l, AGv K vs g d (wipeE ρ1 vs) fun ρ3 => AE K te ρ3 fun e ρ5 => e = f d ∧ wipeE ρ5 vs = wipeE ρ1 vs) ∧ Ψ (.lst (l.map f)) (wipeE ρ1 vs)) : AE K (tLc wi g tYes te vs) ρ Ψ := by
  refine ae_lc (fun B σ G H m R q => h B σ G H m R fun J l ρ1 G1 H1 m1 s1 t1 w ⟨h1, h2, h3⟩ => q J l ρ1 G1 H1 m1 s1 t1 w ⟨fun i acc ρ2 => i ≤ l.length ∧ acc = (l.take i).map f ∧ ρ2 = wipeE ρ1 vs, ⟨Nat.zero_le _, rfl, rfl⟩, ?_, ?_⟩)
  · rintro i d acc ρ2 hd ⟨hi, rfl, rfl⟩
    have lt := (List.getElem?_eq_some_iff.mp hd).1
    have hm := List.mem_of_getElem? hd
    intro B σ G H m v r Q q
    refine h2 d hm B σ G H m v r Q fun σ' ρ' G' H' m' s t o p => q σ' ρ' G' H' m' s t o (at_yes ⟨fun _ => ?_, fun z => nomatch z⟩)
    refine ae_mono p fun e ρ5 ⟨e1, e2⟩ => ⟨?_, lt, ?_, e2⟩
    · rw [List.length_map, List.length_take]; exact Nat.lt_of_le_of_lt (Nat.min_le_right _ _) h1
    · rw [e1, List.take_succ, hd, List.map_append]; rfl
  · rintro acc ρ2 ⟨_, rfl, rfl⟩
    refine ⟨fun i hi lt => wipe_no hi (by rw [wipeE_len] at lt; exact lt), ?_⟩
    rw [List.take_length]; exact h3
/-- a comprehension with a test -/
theorem ae_lcFil {Ψ : Dt → List En → Prop} {wi : TI} {g : TG} {tt : TT} {te : TE} {vs : List Nat} (f : Dt → Option Dt)
    (h : AI K wi ρ fun l ρ1 => l.length < sizeLine ∧ (∀ d ∈ l, AGv K vs g d (wipeE ρ1 vs) fun ρ3 => AT K tt ρ3 fun b ρ4 => (b = true → AE K te ρ4 fun e ρ5 => f d = some e ∧ wipeE ρ5 vs = wipeE ρ1 vs) ∧ (b = false → f d = none ∧ wipeE ρ4 vs = wipeE ρ1 vs)) ∧ Ψ (.lst (l.filterMap f)) (wipeE ρ1 vs)) : AE K (tLc wi g tt te vs) ρ Ψ := by
  refine ae_lc (fun B σ G H m R q => h B σ G H m R fun J l ρ1 G1 H1 m1 s1 t1 w ⟨h1, h2, h3⟩ => q J l ρ1 G1 H1 m1 s1 t1 w ⟨fun i acc ρ2 => i ≤ l.length ∧ acc = (l.take i).filterMap f ∧ ρ2 = wipeE ρ1 vs, ⟨Nat.zero_le _, rfl, rfl⟩, ?_, ?_⟩)
  · rintro i d acc ρ2 hd ⟨hi, rfl, rfl⟩
    have lt := (List.getElem?_eq_some_iff.mp hd).1
    have hm := List.mem_of_getElem? hd
    intro B σ G H m v r Q q
    refine h2 d hm B σ G H m v r Q fun σ' ρ' G' H' m' s t o p => q σ' ρ' G' H' m' s t o (at_mono p fun b ρ4 ⟨p1, p2⟩ => ⟨fun hb => ae_mono (p1 hb) fun e ρ5 ⟨e1, e2⟩ => ⟨?_, lt, ?_, e2⟩, fun hb => ⟨lt, ?_, (p2 hb).2⟩⟩)
    · exact Nat.lt_of_le_of_lt (Nat.le_trans (List.length_filterMap_le _ _) (by rw [List.length_take]; exact Nat.min_le_right _ _)) h1
    · rw [List.take_succ, hd, List.filterMap_append]; simp [e1]
    · rw [List.take_succ, hd, List.filterMap_append]; simp [(p2 hb).1]
  · rintro acc ρ2 ⟨_, rfl, rfl⟩
    refine ⟨fun i hi lt => wipe_no hi (by rw [wipeE_len] at lt; exact lt), ?_⟩
    rw [List.take_length]; exact h3
theorem sz60 {n : Nat} (h : n ≤ 60) : n ≤ sizeLine := Nat.le_trans h (by decide)
theorem sz60' {n : Nat} (h : n ≤ 60) : n < sizeLine := Nat.lt_of_le_of_lt h (by decide)
theorem cxOf_K {CX : CXT} {P : Program} {w : World} {mg : Str → Option Value} {base : Heap} {N : List Str} {q : Str} {sc : Scope} {f : Addr} {cdv : Value} {A : Around} {outer : List Env} {s : Shared} {H : Hp} {E : XK} : (cxOf CX P w K mg base N q sc f cdv A outer s H E).K = K := rfl
end
def oD : Option Int → Dt
  | none => .non
  | some i => .int i
theorem oD_some {i : Int} : oD (some i) = .int i := rfl
theorem oD_none : oD none = .non := rfl
end Sh
set_option Elab.async false
set_option linter.all false
set_option maxRecDepth 100000
set_option maxHeartbeats 4000000
/-! ### set(xs) of a list of whole numbers; max, min of one with a default -/
set_option Elab.async false
set_option linter.all false
set_option maxRecDepth 100000
set_option maxHeartbeats 4000000
set_option Elab.async false
set_option linter.all false
set_option maxRecDepth 100000
set_option maxHeartbeats 4000000
namespace Sh
open PySem PySem.Spec PyProof.Rows L2
theorem pg_or {X : Cx} {tg : Expr} {g1 g2 : TG} (h1 : PG X tg g1) (h2 : PG X tg g2) : PG X tg (fun v σ H Q => g1 v σ H Q ∨ g2 v σ H Q) :=
  ⟨fun pins s σ H v u Q I r h => h.elim (h1.run pins s σ H v u Q I r) (h2.run pins s σ H v u Q I r)⟩
section
variable {K : PySem.W.Frag} {ρ : List En} {N : List En → Prop} {Φ : Dt → Prop}
theorem ag_unl {t : TGs} {n : Nat} {ds : List Dt} (hn : ds.length = n) (h : AGs K t ds ρ N) : AG K (gUnl K n t) (.lst ds) ρ N := fun B σ G H m v r Q q => by
  obtain ⟨a, xs, rfl, r1, r2⟩ := r
  exact ⟨a, xs, rfl, SqL.of (m.sub _ _ r1), by rw [r2.length]; exact hn, h B σ G H m xs r2 Q q⟩
theorem ag_seq {t : TGs} {n : Nat} {k : Bool} {ds : List Dt} (hn : ds.length = n) (h : AGs K t ds ρ N) : AG K (fun v σ H Q => gTup K n t v σ H Q ∨ gUnl K n t v σ H Q) (sq k ds) ρ N := fun B σ G H m v r Q q => by
  cases k
  · exact .inr (ag_unl hn h B σ G H m v r Q q)
  · exact .inl (ag_tup hn h B σ G H m v r Q q)
/-- whole numbers that pass -/
def fI (p : Int → Bool) : Dt → Option Dt
  | .int m => if p m then some (.int m) else none
  | _ => none
theorem fI_map (p : Int → Bool) : ∀ ms : List Int, (ms.map Dt.int).filterMap (fI p) = (ms.filter p).map Dt.int
  | [] => rfl
  | m :: ms => by
    rw [List.map_cons, List.filterMap_cons, List.filter_cons, fI_map p ms]
    cases h : p m <;> simp [fI, h]
theorem cxOf_w {CX : CXT} {P : Program} {w : World} {mg : Str → Option Value} {base : Heap} {N : List Str} {q : Str} {sc : Scope} {f : Addr} {cdv : Value} {A : Around} {outer : List Env} {s : Shared} {H : Hp} {E : XK} : (cxOf CX P w K mg base N q sc f cdv A outer s H E).w = w := rfl
theorem RDs.rev {G : Hp} : ∀ {ds : List Dt} {vs : List V}, RDs K G ds vs → RDs K G ds.reverse vs.reverse
  | [], _, h => by cases (show _ = [] from h); rfl
  | d :: ds, _, ⟨x, r, e, h1, h2⟩ => by
    subst e
    rw [List.reverse_cons, List.reverse_cons]
    exact (RDs.rev h2).snoc h1
theorem vals_rev : ∀ {zs : List V} {ws : List Value}, Vals zs ws → Vals zs.reverse ws.reverse
  | _, _, .nil => .nil
  | _, _, .cons (l₁ := zs) (l₂ := ws) r t => by
    rw [List.reverse_cons, List.reverse_cons]
    exact (vals_rev t).append (.cons r .nil)
end
end Sh
set_option Elab.async false
set_option linter.all false
set_option maxRecDepth 100000
set_option maxHeartbeats 4000000
set_option Elab.async false
set_option linter.all false
set_option maxRecDepth 100000
set_option maxHeartbeats 4000000
namespace Sh
open PySem PySem.Spec PyProof.Rows L2
section
variable {K : PySem.W.Frag} {ρ : List En} {Ψ : Dt → List En → Prop} {ΨT : Bool → List En → Prop} {ΨA : List Dt → List En → Prop} {N : List En → Prop} {R : Dt → List En → Prop} {Φ : Dt → Prop}
theorem wipe2 {σ : L2.St} {vs vs1 : List Nat} (hv : ∀ i ∈ vs1, i ∈ vs) : L2.wipe (L2.wipe σ vs1) vs = L2.wipe σ vs := Off.wipe (vs := vs) ⟨wipe_length σ vs1, fun i h => wipe_out fun z => h (hv i z)⟩
/-- [e for .. in .. for .. in ..] -/
theorem ae_lc2 {wi wi1 : TI} {g g1 : TG} {tt tt1 : TT} {te : TE} {vs vs1 : List Nat} (hv : ∀ i ∈ vs1, i ∈ vs)
    (h : AI K wi ρ fun l ρ1 => ∃ I : Nat → List Dt → List En → Prop, I 0 [] (wipeE ρ1 vs) ∧
      (∀ i d acc ρ2, l[i]? = some d → I i acc ρ2 → AGv K vs g d ρ2 fun ρ3 => AT K tt ρ3 fun b ρ4 =>
        (b = true → AI K wi1 ρ4 fun l1 ρ5 => ∃ I1 : Nat → List Dt → List En → Prop, I1 0 acc (wipeE ρ5 vs1) ∧
          (∀ j d1 acc1 ρ6, l1[j]? = some d1 → I1 j acc1 ρ6 → AGv K vs1 g1 d1 ρ6 fun ρ7 => AT K tt1 ρ7 fun b1 ρ8 => (b1 = true → AE K te ρ8 fun e ρ9 => acc1.length < sizeLine ∧ I1 (j + 1) (acc1 ++ [e]) (wipeE ρ9 vs1)) ∧ (b1 = false → I1 (j + 1) acc1 (wipeE ρ8 vs1))) ∧
          ∀ acc1 ρ6, I1 l1.length acc1 ρ6 → I (i + 1) acc1 (wipeE ρ6 vs)) ∧
        (b = false → I (i + 1) acc (wipeE ρ4 vs))) ∧
      ∀ acc ρ2, I l.length acc ρ2 → (∀ i ∈ vs, i < ρ2.length → ρ2[i]? = some En.no) ∧ Ψ (.lst acc) ρ2) : AE K (tLc2 wi g tt wi1 g1 tt1 te vs vs1) ρ Ψ := fun B σ G H m Q q =>
  h B σ G H m _ fun J l ρ1 G1 H1 m1 s1 t1 w ⟨I, i0, is, ie⟩ => fun D hD => by
    have back : ∀ {vs : List Nat} {σ2 σ : L2.St} {ρ2 : List En} {B' : Addr → Prop} {G2 H2 : Hp}, L2.wipe σ2 vs = L2.wipe σ vs → Mt K B' ρ2 σ2 G2 H2 → Mt K B' (wipeE ρ2 vs) (L2.wipe σ vs) G2 H2 := fun {vs} _ _ _ _ _ _ e m2 => by
      rw [← e]; exact m2.wipe vs
    have mg := m1.guard (o := .lst []) hD
    have fin : ∀ H2, (∃ (acc : List Dt) (xs : List V) (ρ2 : List En) (G2 : Hp), Mt K (fun a => B a ∨ a = D) ρ2 (L2.wipe σ vs) G2 H2 ∧ Same G1 G2 ∧ Tr B H1 H2 ∧ H2 D = some (.lst xs) ∧ RDs K G2 acc xs ∧ I l.length acc ρ2) → Q (.ref D) H2 := by
      rintro H2 ⟨acc, xs, ρ2, G2, m2, s2, t2, e2, r2, p⟩
      obtain ⟨hn, hp⟩ := ie acc ρ2 p
      have m3 : Mt K (fun a => B a ∨ a = D) ρ2 σ G2 H2 := m2.other (wipe_length σ vs).symm fun i => by
        by_cases hi : i ∈ vs
        · by_cases lt : i < ρ2.length
          · exact .inl (hn i hi lt)
          · exact .inr (by rw [List.getElem?_eq_none (by have := m2.len; rw [wipe_length] at this; omega), List.getElem?_eq_none (by have := m2.len; omega)])
        · exact .inr (wipe_out hi).symm
      have nD : G2 D = none := (m2.pro D (.inr rfl)).1
      have mB : Mt K B ρ2 σ G2 H2 := m3.less fun a b => .inl b
      -- the new list becomes data
      have sg : Same G2 (upd G2 D (.lst xs)) := same_up nD
      have mF : Mt K B ρ2 σ (upd G2 D (.lst xs)) H2 := ⟨fun a o z => by
          by_cases w : a = D
          · subst w; rw [upd_same] at z; cases z; exact e2
          · rw [upd_ne w] at z; exact m2.sub _ _ z,
        fun a b => ⟨by rw [upd_ne (fun w => (m1.pro a b).2 (by rw [w]; exact hD))]; exact (mB.pro a b).1, (mB.pro a b).2⟩, mB.len, fun i d e => by
          obtain ⟨v, z1, z2⟩ := mB.da i d e
          exact ⟨v, z1, z2.same sg⟩, fun i k e => by
          obtain ⟨q', ys, z1, z2, z3, z4, z5⟩ := m3.own i k e
          exact ⟨q', ys, z1, z2, z3.same sg, by rw [upd_ne (fun w => z5 (.inr w))]; exact z4, fun b => z5 (.inl b)⟩, fun i b f e => by
          obtain ⟨y, c, z1, z2, z3, z4, z5, z6⟩ := m3.bx i b f e
          exact ⟨y, c, z1, z2, z3, z4, by rw [upd_ne (fun w => z6 (.inr w))]; exact z5, fun b => z6 (.inl b)⟩, mB.dis⟩
      exact q _ (.lst acc) ρ2 _ H2 mF ((s1.trans s2).trans sg) (t1.trans t2) ⟨D, xs, rfl, upd_same, r2.same sg⟩ hp
    let P : Nat → Hp → Prop := fun i H2 => ∃ (acc : List Dt) (xs : List V) (ρ2 : List En) (G2 : Hp), Mt K (fun a => B a ∨ a = D) ρ2 (L2.wipe σ vs) G2 H2 ∧ Same G1 G2 ∧ Tr B H1 H2 ∧ H2 D = some (.lst xs) ∧ RDs K G2 acc xs ∧ I i acc ρ2
    refine ⟨fun i m H => m = l.length - i ∧ i ≤ l.length ∧ P i H, ⟨l.length, rfl, Nat.zero_le _, [], [], wipeE ρ1 vs, G1, mg.wipe vs, Same.refl _, Tr.same (same_up hD), upd_same, rfl, i0⟩, ?_⟩
    rintro i mm H2 ⟨rfl, hi, pp⟩
    obtain ⟨acc, xs, ρ2, G2, m2, s2, t2, e2, r2, p⟩ := id pp
    have q0 : Same G1 H2 := s2.trans m2.sub
    by_cases hlt : i < l.length
    · refine .inr ⟨w.walk.goes i H2 hlt q0, P (i + 1), fun H' p' => ⟨l.length - (i + 1), by omega, rfl, hlt, p'⟩, fun x H3 y => ?_⟩
      obtain ⟨G3, d, n3, hd, rd⟩ := (w.walk.yields i H2 x H3 hlt q0 y) G2 s2 m2.sub
      have m3 := m2.nw n3
      refine is i d acc ρ2 hd p _ (L2.wipe σ vs) G3 H3 m3 x rd _ fun σ4 ρ4 G4 H4 m4 s4 t4 o4 h4 => ?_
      have ew : L2.wipe σ4 vs = L2.wipe σ vs := by
        rw [o4.wipe]
        exact (Off.wipe (wipe_off vs σ)).symm
      have e3 := n3.h _ _ e2
      have e4 := t4 _ _ (.inr rfl) e3
      have tB3 : Tr B H1 H4 := (t2.trans (Tr.same n3.h)).trans fun a o b e => t4 a o (.inl b) e
      refine ⟨ew, ?_⟩
      refine h4 _ σ4 G4 H4 m4 _ fun b ρ5 G5 H5 m5 s5 t5 h5 => ?_
      have e5 := t5 _ _ (.inr rfl) e4
      have tB5 : Tr B H1 H5 := tB3.trans fun a o b e => t5 a o (.inl b) e
      have s15 : Same G1 G5 := ((s2.trans n3.g).trans s4).trans s5
      have r5 : RDs K G5 acc xs := ((r2.same n3.g).same s4).same s5
      cases b
      · rw [if_neg (by decide)]
        exact ⟨acc, xs, wipeE ρ5 vs, G5, back ew m5, s15, tB5, e5, r5, h5.2 rfl⟩
      · rw [if_pos rfl]
        refine h5.1 rfl _ σ4 G5 H5 m5 _ fun J1 l1 ρ6 G6 H6 m6 s6 t6 w1 ⟨I1, j0, js, je⟩ => ?_
        have e6 := t6 _ _ (.inr rfl) e5
        have tB6 : Tr B H1 H6 := tB5.trans fun a o b e => t6 a o (.inl b) e
        let P1 : Nat → Hp → Prop := fun j H7 => ∃ (acc1 : List Dt) (xs1 : List V) (ρ7 : List En) (G7 : Hp), Mt K (fun a => B a ∨ a = D) ρ7 (L2.wipe σ4 vs1) G7 H7 ∧ Same G6 G7 ∧ Tr B H1 H7 ∧ H7 D = some (.lst xs1) ∧ RDs K G7 acc1 xs1 ∧ I1 j acc1 ρ7
        refine ⟨fun j m H => m = l1.length - j ∧ j ≤ l1.length ∧ P1 j H, ⟨l1.length, rfl, Nat.zero_le _, acc, xs, wipeE ρ6 vs1, G6, m6.wipe vs1, Same.refl _, tB6, e6, r5.same s6, j0⟩, ?_⟩
        rintro j k H7 ⟨rfl, hj, acc1, xs1, ρ7, G7, m7, s7, t7, e7, r7, p7⟩
        have q1 : Same G6 H7 := s7.trans m7.sub
        by_cases hlt1 : j < l1.length
        · refine .inr ⟨w1.walk.goes j H7 hlt1 q1, P1 (j + 1), fun H' p' => ⟨l1.length - (j + 1), by omega, rfl, hlt1, p'⟩, fun x1 H8 y1 => ?_⟩
          obtain ⟨G8, d1, n8, hd1, rd1⟩ := (w1.walk.yields j H7 x1 H8 hlt1 q1 y1) G7 s7 m7.sub
          have m8 := m7.nw n8
          refine js j d1 acc1 ρ7 hd1 p7 _ (L2.wipe σ4 vs1) G8 H8 m8 x1 rd1 _ fun σ9 ρ9 G9 H9 m9 s9 t9 o9 h9 => ?_
          have ew1 : L2.wipe σ9 vs1 = L2.wipe σ4 vs1 := by
            rw [o9.wipe]
            exact (Off.wipe (wipe_off vs1 σ4)).symm
          have e8 := n8.h _ _ e7
          have e9 := t9 _ _ (.inr rfl) e8
          have tB9 : Tr B H1 H9 := (t7.trans (Tr.same n8.h)).trans fun a o b e => t9 a o (.inl b) e
          refine ⟨ew1, ?_⟩
          refine h9 _ σ9 G9 H9 m9 _ fun b1 ρ10 G10 H10 m10 s10 t10 h10 => ?_
          have e10 := t10 _ _ (.inr rfl) e9
          have tB10 : Tr B H1 H10 := tB9.trans fun a o b e => t10 a o (.inl b) e
          have s610 : Same G6 G10 := ((s7.trans n8.g).trans s9).trans s10
          have r10 : RDs K G10 acc1 xs1 := ((r7.same n8.g).same s9).same s10
          cases b1
          · rw [if_neg (by decide)]
            exact ⟨acc1, xs1, wipeE ρ10 vs1, G10, back ew1 m10, s610, tB10, e10, r10, h10.2 rfl⟩
          · rw [if_pos rfl]
            refine h10.1 rfl _ σ9 G10 H10 m10 _ fun v e ρ11 G11 H11 m11 s11 t11 r11 h11 => ?_
            have e11 := t11 _ _ (.inr rfl) e10
            have rr : RDs K G11 acc1 xs1 := r10.same s11
            refine ⟨xs1, e11, by rw [rr.length]; exact h11.1, acc1 ++ [e], xs1 ++ [v], wipeE ρ11 vs1, G11, (back ew1 m11).turn (.inr rfl), s610.trans s11, ?_, upd_same, rr.snoc r11, h11.2⟩
            intro a o b z
            have z1 := t11 a o (.inl b) (tB10 a o b z)
            rw [upd_ne (fun z' => (m1.pro a b).2 (by rw [z']; exact hD))]; exact z1
        · have ej : j = l1.length := by omega
          subst ej
          have mw : Mt K (fun a => B a ∨ a = D) (wipeE ρ7 vs) (L2.wipe σ vs) G7 H7 := back (by rw [wipe2 hv]; exact ew) m7
          exact .inl ⟨w1.walk.stops H7 q1, acc1, xs1, wipeE ρ7 vs, G7, mw, (s15.trans s6).trans s7, t7, e7, r7, je acc1 ρ7 p7⟩
    · have ei : i = l.length := by omega
      subst ei
      exact .inl ⟨w.walk.stops H2 q0, fin H2 pp⟩
end
end Sh
set_option Elab.async false
set_option linter.all false
set_option maxRecDepth 100000
set_option maxHeartbeats 4000000
namespace Sh
open PySem PySem.Spec PyProof.Rows L2
abbrev IP := Int × Int
def ltP (p q : IP) : Bool := if p.1 = q.1 then decide (p.2 < q.2) else decide (p.1 < q.1)
def pV (p : IP) : List V := [.int p.1, .int p.2]
def PVs (K : PySem.W.Frag) (H : Hp) : List V → List IP → Prop
  | [], [] => True
  | x :: xs, p :: ps => (∃ a, x = .ref a ∧ SqT K H a (pV p)) ∧ PVs K H xs ps
  | _, _ => False
def rGtP (K : PySem.W.Frag) : R2 := fun x y H Q => ∃ (a b : Addr) (p q : IP), x = .ref a ∧ y = .ref b ∧ SqT K H a (pV p) ∧ SqT K H b (pV q) ∧ Q (.bl (ltP q p)) H
def rMinP (K : PySem.W.Frag) : List V → Hp → VK → Prop := fun vs H Q => ∃ (a : Addr) (xs : List V) (p : IP) (ps : List IP), vs = [.ref a] ∧ SqL K H a xs ∧ PVs K H xs (p :: ps) ∧ ∀ (i : Nat) x, xs[i]? = some x → (p :: ps)[i]? = some (PySem.W.minOf p ps) → Q x H
def rMaxP (K : PySem.W.Frag) : List V → Hp → VK → Prop := fun vs H Q => ∃ (a : Addr) (xs : List V) (p : IP) (ps : List IP), vs = [.ref a] ∧ SqL K H a xs ∧ PVs K H xs (p :: ps) ∧ ∀ (i : Nat) x, xs[i]? = some x → (p :: ps)[i]? = some (PySem.W.maxOf p ps) → Q x H
section
variable {X : Cx}
theorem holds_P {pins s σ H a p} (I : Inv X pins σ H s) (h : SqT X.K H a (pV p)) : PySem.W.Holds (α := IP) s.heap (.ref a) p := by
  obtain ⟨its, r, ht, _⟩ := I.tuple h
  obtain ⟨u, v, rfl, r1, r2⟩ := r.two
  obtain ⟨t, rfl⟩ := r1
  obtain ⟨t', rfl⟩ := r2
  exact PySem.W.holds_pair (show s.heap.IsTuple a #[_, _] from ht) (PySem.W.holds_int _ _) (PySem.W.holds_int _ _)
theorem holdAll_P {pins s σ H} (I : Inv X pins σ H s) : ∀ {xs : List V} {us : List Value} {ps : List IP}, Vals xs us → PVs X.K H xs ps → PySem.W.HoldAll (α := IP) s.heap us ps
  | [], us, [], r, _ => by cases r.zero; exact PySem.W.HoldAll.nil
  | [], _, _ :: _, _, h => h.elim
  | _ :: _, _, [], _, h => h.elim
  | x :: xs, us, p :: ps, r, ⟨⟨a, e, h1⟩, h2⟩ => by
    subst e
    cases r with
    | cons r1 r2 =>
      cases r1
      exact PySem.W.HoldAll.cons (holds_P I h1) (holdAll_P I r2 h2)
theorem holds_P_inj {h : Heap} {v : Value} {p q : IP} (H : PySem.W.Holds (α := IP) h v p) (K : PySem.W.Holds (α := IP) h v q) : p = q := by
  obtain ⟨l, a, b, rfl, t, h1, h2⟩ := PySem.W.pair_of_holds H
  obtain ⟨l', a', b', e, t', k1, k2⟩ := PySem.W.pair_of_holds K
  cases e
  obtain ⟨o, q1, _, n, q2⟩ := t
  obtain ⟨o', q3, _, n', q4⟩ := t'
  rw [q1] at q3
  cases q3
  rw [q2] at q4
  cases q4
  obtain ⟨_, e1⟩ := PySem.W.int_of_holds h1
  obtain ⟨_, e2⟩ := PySem.W.int_of_holds h2
  obtain ⟨_, f1⟩ := PySem.W.int_of_holds k1
  obtain ⟨_, f2⟩ := PySem.W.int_of_holds k2
  rw [e1] at f1
  rw [e2] at f2
  injection f1 with g1 _
  injection f2 with g2 _
  exact Prod.ext g1 g2
theorem op_gtP (hu : X.A.units + 64 < cLine) : OpR X (compareOp .Gt) (rGtP X.K) := by
  intro pins s σ H x y v u Q I rx ry h
  obtain ⟨a, b, p, q, rfl, rfl, ha, hb, k⟩ := h
  cases rx
  cases ry
  exact PySem.W.gt_datum (α := IP) (holds_P I ha) (holds_P I hb) (show X.A.units + 1 < cLine by omega) ⟨.bl (PySem.W.DatumOrd.lt q p), H, I, rfl, k⟩
theorem cr_minP (hc : X.calm = true) (hu : X.A.units + 64 < cLine) : CallR X (.builtin "min") (rMinP X.K) := by
  intro pins s σ H vs us Q I r h
  obtain ⟨a, xs, p, ps, rfl, hs, hp, q⟩ := h
  obtain ⟨its, rv, hl, _⟩ := I.list hs
  rw [Vals.ref1 r]
  have ha := holdAll_P I rv hp
  refine PySem.W.min_list_datum (α := IP) (x := p) (xs := ps) (I.ok.hd hc) hl.isList (by simpa using ha) (show X.A.units + 1 + 1 < cLine by omega) fun i v h' tk hi hv hk => ?_
  have hi2 : its[i]? = some v := by rw [← hi]; simp
  obtain ⟨z, hz, hh⟩ := ha.at hi2
  have ez := holds_P_inj (PySem.W.Holds.keeps hk hh) hv
  subst ez
  have lt : i < xs.length := by rw [rv.length]; exact (List.getElem?_eq_some_iff.mp hi2).1
  obtain ⟨u, e1, e2⟩ := rv.get (List.getElem?_eq_getElem lt)
  rw [hi2] at e1
  cases e1
  exact ⟨xs[i], H, I.kept hk, e2, q i _ (List.getElem?_eq_getElem lt) hz⟩
theorem cr_maxP (hc : X.calm = true) (hu : X.A.units + 64 < cLine) : CallR X (.builtin "max") (rMaxP X.K) := by
  intro pins s σ H vs us Q I r h
  obtain ⟨a, xs, p, ps, rfl, hs, hp, q⟩ := h
  obtain ⟨its, rv, hl, _⟩ := I.list hs
  rw [Vals.ref1 r]
  have ha := holdAll_P I rv hp
  refine PySem.W.max_list_datum (α := IP) (x := p) (xs := ps) (I.ok.hd hc) hl.isList (by simpa using ha) (show X.A.units + 1 + 1 < cLine by omega) fun i v h' tk hi hv hk => ?_
  have hi2 : its[i]? = some v := by rw [← hi]; simp
  obtain ⟨z, hz, hh⟩ := ha.at hi2
  have ez := holds_P_inj (PySem.W.Holds.keeps hk hh) hv
  subst ez
  have lt : i < xs.length := by rw [rv.length]; exact (List.getElem?_eq_some_iff.mp hi2).1
  obtain ⟨u, e1, e2⟩ := rv.get (List.getElem?_eq_getElem lt)
  rw [hi2] at e1
  cases e1
  exact ⟨xs[i], H, I.kept hk, e2, q i _ (List.getElem?_eq_getElem lt) hz⟩
end
section
variable {K : PySem.W.Frag} {ρ : List En} {Ψ : Dt → List En → Prop} {N : List En → Prop} {R : Dt → List En → Prop} {Φ : Dt → Prop}
abbrev pD (p : IP) : Dt := .tup [.int p.1, .int p.2]
theorem RD.pD {G : Hp} {p : IP} {x : V} (r : RD K G (pD p) x) : ∃ a, x = .ref a ∧ SqT K G a (pV p) := by
  obtain ⟨a, xs, rfl, h1, h2⟩ := r
  obtain ⟨y, z, rfl, e1, e2⟩ := h2.two
  cases (show y = V.int p.1 from e1)
  cases (show z = V.int p.2 from e2)
  exact ⟨a, rfl, h1⟩
theorem RDs.pDs {G H : Hp} (s : Same G H) : ∀ {ps : List IP} {xs : List V}, RDs K G (ps.map Sh.pD) xs → PVs K H xs ps
  | [], _, r => by rw [show _ = [] from r]; trivial
  | p :: ps, _, ⟨x, xs, e, h1, h2⟩ => by
    subst e
    obtain ⟨a, e, h⟩ := h1.pD
    exact ⟨⟨a, e, same_sqT s h⟩, RDs.pDs s h2⟩
theorem ar_gtP {a b c d : Int} (h : Φ (.bl (ltP (c, d) (a, b)))) : AR K (rGtP K) (.tup [.int a, .int b]) (.tup [.int c, .int d]) Φ := fun G H s x y r1 r2 Q q => by
  obtain ⟨l, rfl, h1⟩ := RD.pD (p := (a, b)) r1
  obtain ⟨k, rfl, h2⟩ := RD.pD (p := (c, d)) r2
  exact ⟨l, k, (a, b), (c, d), rfl, rfl, same_sqT s h1, same_sqT s h2, q _ (.bl _) G H (Nw.refl s) rfl h⟩
theorem ac_minP {p : IP} {ps : List IP} (h : Φ (pD (PySem.W.minOf p ps))) : AC K (rMinP K) [.lst ((p :: ps).map pD)] Φ := fun G H s vs r Q q => by
  obtain ⟨x, rfl, a, xs, rfl, h1, h2⟩ := r.one
  refine ⟨a, xs, p, ps, rfl, SqL.of (s _ _ h1), h2.pDs s, fun i y hy hm => ?_⟩
  obtain ⟨d, e1, e2⟩ := h2.back hy
  rw [List.getElem?_map, hm] at e1
  cases e1
  exact q y _ G H (Nw.refl s) e2 h
theorem ac_maxP {p : IP} {ps : List IP} (h : Φ (pD (PySem.W.maxOf p ps))) : AC K (rMaxP K) [.lst ((p :: ps).map pD)] Φ := fun G H s vs r Q q => by
  obtain ⟨x, rfl, a, xs, rfl, h1, h2⟩ := r.one
  refine ⟨a, xs, p, ps, rfl, SqL.of (s _ _ h1), h2.pDs s, fun i y hy hm => ?_⟩
  obtain ⟨d, e1, e2⟩ := h2.back hy
  rw [List.getElem?_map, hm] at e1
  cases e1
  exact q y _ G H (Nw.refl s) e2 h
end
end Sh
set_option Elab.async false
set_option linter.all false
set_option maxRecDepth 100000
set_option maxHeartbeats 4000000
namespace Sh
open PySem PySem.Spec PyProof.Rows L2
section
variable {K : PySem.W.Frag} {ρ : List En} {N : List En → Prop} {R : Dt → List En → Prop} {Φ : Dt → Prop}
theorem ae_lc2Map {Ψ : Dt → List En → Prop} {wi wi1 : TI} {g g1 : TG} {te : TE} {vs vs1 : List Nat} (f : Dt → Dt → Dt) (L1 : Dt → List Dt) (hv : ∀ i ∈ vs1, i ∈ vs)
    (h : AI K wi ρ fun l ρ1 => (l.flatMap fun d => (L1 d).map (f d)).length < sizeLine ∧ (∀ d ∈ l, AGv K vs g d (wipeE ρ1 vs) fun ρ3 => AI K wi1 ρ3 fun l1 ρ4 => l1 = L1 d ∧ wipeE (wipeE ρ4 vs1) vs = wipeE ρ1 vs ∧ ∀ d1 ∈ L1 d, AGv K vs1 g1 d1 (wipeE ρ4 vs1) fun ρ5 => AE K te ρ5 fun e ρ6 => e = f d d1 ∧ wipeE ρ6 vs1 = wipeE ρ4 vs1) ∧ Ψ (.lst (l.flatMap fun d => (L1 d).map (f d))) (wipeE ρ1 vs)) : AE K (tLc2 wi g tYes wi1 g1 tYes te vs vs1) ρ Ψ := by
  refine ae_lc2 hv (fun B σ G H m R q => h B σ G H m R fun J l ρ1 G1 H1 m1 s1 t1 w ⟨h1, h2, h3⟩ => q J l ρ1 G1 H1 m1 s1 t1 w ⟨fun i acc ρ2 => i ≤ l.length ∧ acc = ((l.take i).flatMap fun d => (L1 d).map (f d)) ∧ ρ2 = wipeE ρ1 vs, ⟨Nat.zero_le _, rfl, rfl⟩, ?_, ?_⟩)
  · rintro i d acc ρ2 hd ⟨hi, rfl, rfl⟩
    have lt := (List.getElem?_eq_some_iff.mp hd).1
    have hm := List.mem_of_getElem? hd
    have cut : l.flatMap (fun d => (L1 d).map (f d)) = (l.take i).flatMap (fun d => (L1 d).map (f d)) ++ ((L1 d).map (f d) ++ (l.drop (i + 1)).flatMap fun d => (L1 d).map (f d)) := by
      have e : l = l.take i ++ d :: l.drop (i + 1) := by
        have e1 := (List.getElem?_eq_some_iff.mp hd).2
        rw [← e1, ← List.drop_eq_getElem_cons lt, List.take_append_drop]
      conv => lhs; rw [e, List.flatMap_append, List.flatMap_cons]
    rw [cut, List.length_append, List.length_append] at h1
    intro B σ G H m v r Q q
    refine h2 d hm B σ G H m v r Q fun σ' ρ' G' H' m' s t o p => q σ' ρ' G' H' m' s t o (at_yes ⟨fun _ => ?_, fun z => nomatch z⟩)
    intro B2 σ2 G2 H2 m2 R2 q2
    refine p B2 σ2 G2 H2 m2 R2 fun J1 l1 ρ4 G4 H4 m4 s4 t4 w4 ⟨e1, e2, k⟩ => q2 J1 l1 ρ4 G4 H4 m4 s4 t4 w4 ?_
    subst e1
    refine ⟨fun j acc1 ρ6 => j ≤ (L1 d).length ∧ acc1 = ((l.take i).flatMap fun d => (L1 d).map (f d)) ++ ((L1 d).take j).map (f d) ∧ ρ6 = wipeE ρ4 vs1, ⟨Nat.zero_le _, by simp, rfl⟩, ?_, ?_⟩
    · rintro j d1 acc1 ρ6 hd1 ⟨hj, rfl, rfl⟩
      have lt1 := (List.getElem?_eq_some_iff.mp hd1).1
      have hm1 := List.mem_of_getElem? hd1
      intro B5 σ5 G5 H5 m5 v5 r5 Q5 q5
      refine k d1 hm1 B5 σ5 G5 H5 m5 v5 r5 Q5 fun σ' ρ' G' H' m' s t o p => q5 σ' ρ' G' H' m' s t o (at_yes ⟨fun _ => ?_, fun z => nomatch z⟩)
      refine ae_mono p fun e ρ9 ⟨z1, z2⟩ => ⟨?_, lt1, ?_, z2⟩
      · rw [List.length_append, List.length_map, List.length_take]
        rw [List.length_map] at h1
        have := Nat.min_le_right j (L1 d).length
        omega
      · rw [z1, List.take_succ, hd1, List.map_append, List.append_assoc]; rfl
    · rintro acc1 ρ6 ⟨_, rfl, rfl⟩
      refine ⟨lt, ?_, e2⟩
      rw [List.take_length, List.take_succ, hd, List.flatMap_append]
      simp
  · rintro acc ρ2 ⟨_, rfl, rfl⟩
    refine ⟨fun i hi lt => wipe_no hi (by rw [wipeE_len] at lt; exact lt), ?_⟩
    rw [List.take_length]; exact h3
end
end Sh
set_option Elab.async false
set_option linter.all false
set_option maxRecDepth 100000
set_option maxHeartbeats 4000000
set_option Elab.async false
set_option linter.all false
set_option maxRecDepth 100000
set_option maxHeartbeats 4000000
/-! a pair backwards, extend of a list of one's own, None in a list -/
set_option Elab.async false
set_option linter.all false
set_option maxRecDepth 100000
set_option maxHeartbeats 4000000
/-! texts: join of a list backwards, f-strings, str, a loop that is not entered, a name that stands for a number, or of tuples -/
set_option Elab.async false
set_option linter.all false
set_option maxRecDepth 100000
set_option maxHeartbeats 4000000
set_option Elab.async false
set_option linter.all false
set_option maxRecDepth 100000
set_option maxHeartbeats 4000000
/-! gcd of three, is True, slices of four -/
namespace Sh
open PySem PySem.Spec PyProof.Rows L2 PySem.Calls PySem.W
theorem args_gcd3 (a b c : Value) : argsOk "math.gcd" ⟨[a, b, c], []⟩ := by unfold argsOk; kernel_rfl
theorem run_gcd3 (a : Int) (t : Tok) (b : Int) (u : Tok) (c : Int) (v : Tok) :
    Gives (Builtin.«math.gcd» ⟨[.int a t, .int b u, .int c v], []⟩) (.int ((((Nat.gcd 0 a.natAbs).gcd b.natAbs).gcd c.natAbs : Nat) : Int)) :=
  .of_wp fun M A E s Q h => by obtain ⟨hp, g, d, tk, os⟩ := s; wp_walk; exact ⟨_, rfl, h⟩
def g3 (a b c : Int) : Int := (((Nat.gcd a.natAbs b.natAbs).gcd c.natAbs : Nat) : Int)
def rGcd3 : List V → Hp → VK → Prop := fun vs H Q => ∃ a b c : Int, vs = [.int a, .int b, .int c] ∧ Q (.int (g3 a b c)) H
section
variable {X : Cx}
theorem cr_gcd3 : CallR X (.builtin "math.gcd") rGcd3 := by
  intro pins s σ H vs us Q I r h
  obtain ⟨a, b, c, rfl, q⟩ := h
  cases r with
  | cons r1 r => cases r with
    | cons r2 r => cases r with
      | cons r3 r =>
        cases r
        obtain ⟨t, rfl⟩ := r1
        obtain ⟨u, rfl⟩ := r2
        obtain ⟨v, rfl⟩ := r3
        have g := run_gcd3 a t b u c v
        rw [Nat.gcd_zero_left] at g
        exact call_function_meets MGF.kind_gcd MGF.plain_gcd MGF.entry_gcd (args_gcd3 _ _ _) g.meets ⟨.int _, H, I.tok _, ⟨_, rfl⟩, q⟩
def rSlS (K : PySem.W.Frag) : V → Option Int → Option Int → Hp → VK → Prop := fun x lo hi H Q => rSlL K x lo hi H Q ∨ rSlA K x lo hi H Q
theorem sl_seq : SlR X (rSlS X.K) := SlR.or sl_list sl_tupA
end
section
variable {K : PySem.W.Frag} {ρ : List En} {Ψ : Dt → List En → Prop} {Φ : Dt → Prop}
theorem ac_gcd3 {a b c : Int} (h : Φ (.int (g3 a b c))) : AC K rGcd3 [.int a, .int b, .int c] Φ := fun G H s vs r Q q => by
  obtain ⟨x, r1, rfl, h1, y, r2, rfl, h2, z, r3, rfl, h3, e⟩ := r
  cases (show r3 = [] from e)
  cases (show x = V.int a from h1)
  cases (show y = V.int b from h2)
  cases (show z = V.int c from h3)
  exact ⟨a, b, c, rfl, q _ (.int (g3 a b c)) G H (Nw.refl s) rfl h⟩
theorem RDs.four {G : Hp} {a b c d : Dt} {xs : List V} (h : RDs K G [a, b, c, d] xs) : ∃ w x y z, xs = [w, x, y, z] ∧ RD K G a w ∧ RD K G b x ∧ RD K G c y ∧ RD K G d z := by
  obtain ⟨w, r1, rfl, h1, x, r2, rfl, h2, y, r3, rfl, h3, z, r4, rfl, h4, e⟩ := h
  cases (show r4 = [] from e)
  exact ⟨w, x, y, z, rfl, h1, h2, h3, h4⟩
theorem ae_sl2 {lo hi : Option Int} {tl th : TO} {te : TE} {f : Dt → Dt → Dt → Dt → List Dt} {g : V → V → V → V → List V}
    (el : tl = (fun _ H Q => Q lo H)) (eh : th = (fun _ H Q => Q hi H)) (hc : ∀ w x y z, cutV [w, x, y, z] lo hi = g w x y z) (hn : ¬ (HT.sIx 4 0 lo = 0 ∧ HT.sIx 4 4 hi = 4))
    (hr : ∀ {G : Hp} {a b c d : Dt} {w x y z : V}, RD K G a w → RD K G b x → RD K G c y → RD K G d z → RDs K G (f a b c d) (g w x y z))
    (h : AE K te ρ fun d ρ1 => ∃ k a b c e, d = sq k [a, b, c, e] ∧ Ψ (sq k (f a b c e)) ρ1) : AE K (tSl (rSlS K) te tl th) ρ Ψ := fun B σ G H m Q q => by
  subst el eh
  refine h B σ G H m _ fun v d ρ1 G1 H1 m1 s1 t1 r1 ⟨k, a, b, c, e, ed, n⟩ => ?_
  subst ed
  cases k with
  | false =>
    obtain ⟨p, xs, rfl, hp, r⟩ := r1
    obtain ⟨w, x, y, z, rfl, h1, h2, h3, h4⟩ := r.four
    refine .inl ⟨p, _, rfl, SqL.of (m1.sub _ _ hp), fun p' hp' => ?_⟩
    have nw := Nw.new (o := .lst (cutV [w, x, y, z] lo hi)) m1.sub hp'
    rw [hc] at nw
    rw [hc]
    exact q _ (.lst (f a b c e)) ρ1 _ _ (m1.nw nw) (s1.trans nw.g) (t1.trans (Tr.same nw.h)) ⟨p', _, rfl, upd_same, (hr h1 h2 h3 h4).same nw.g⟩ n
  | true =>
    obtain ⟨p, xs, rfl, hp, r⟩ := r1
    obtain ⟨w, x, y, z, rfl, h1, h2, h3, h4⟩ := r.four
    refine .inr ⟨p, _, rfl, same_sqT m1.sub hp, fun c => absurd c hn, fun _ p' hp' => ?_⟩
    have nw := Nw.new (o := .tup (cutV [w, x, y, z] lo hi)) m1.sub hp'
    rw [hc] at nw
    rw [hc]
    exact q _ (.tup (f a b c e)) ρ1 _ _ (m1.nw nw) (s1.trans nw.g) (t1.trans (Tr.same nw.h)) ⟨p', _, rfl, SqT.of upd_same, (hr h1 h2 h3 h4).same nw.g⟩ n
theorem part_int {i : Int} : tPart (tC (.int i)) = (fun _ H Q => Q (some i) H) := by
  funext σ H Q
  exact propext ⟨fun ⟨j, e, q⟩ => by cases e; exact q, fun q => ⟨i, rfl, q⟩⟩
theorem ae_slTo {te : TE} (h : AE K te ρ fun d ρ1 => ∃ k a b c e, d = sq k [a, b, c, e] ∧ Ψ (sq k [a, b]) ρ1) : AE K (tSl (rSlS K) te tNoPart (tPart (tC (.int 2)))) ρ Ψ :=
  ae_sl2 (lo := none) (hi := some 2) (f := fun a b _ _ => [a, b]) (g := fun a b _ _ => [a, b]) rfl part_int (fun _ _ _ _ => rfl) (by decide) (fun h1 h2 _ _ => ⟨_, _, rfl, h1, _, _, rfl, h2, rfl⟩) h
theorem ae_slFrom {te : TE} (h : AE K te ρ fun d ρ1 => ∃ k a b c e, d = sq k [a, b, c, e] ∧ Ψ (sq k [c, e]) ρ1) : AE K (tSl (rSlS K) te (tPart (tC (.int 2))) tNoPart) ρ Ψ :=
  ae_sl2 (lo := some 2) (hi := none) (f := fun _ _ c d => [c, d]) (g := fun _ _ c d => [c, d]) part_int rfl (fun _ _ _ _ => rfl) (by decide) (fun _ _ h3 h4 => ⟨_, _, rfl, h3, _, _, rfl, h4, rfl⟩) h
end
end Sh
set_option Elab.async false
set_option linter.all false
set_option maxRecDepth 100000
set_option maxHeartbeats 4000000
/-! loops by a measure, quotients by great numbers, chains of comparisons, gcd of two -/
namespace Sh
open PySem PySem.Spec PyProof.Rows L2 PySem.Calls
def CDivB (_ j : Int) : Prop := j ≠ 0 ∧ j.natAbs.log2 < 9000
section
variable {X : Cx}
theorem op_fdivB : OpR X (binaryOp .FloorDiv) (rI CDivB fun i j => .int (i.fdiv j)) := opI fun _ _ _ _ _ _ _ hc q => floordiv_int hc.1 q (.inl (PyProof.noPylong_of_log2 (by have := hc.2; omega)))
end
theorem divB {x y : Int} (h : y ≠ 0) (h1 : -(10 ^ 60) ≤ y) (h2 : y ≤ 10 ^ 60) : CDivB x y := by
  refine ⟨h, (Nat.log2_lt (by omega)).mpr ?_⟩
  have : y.natAbs ≤ 10 ^ 60 := by
    have : (10 : Int) ^ 60 = ((10 ^ 60 : Nat) : Int) := by decide
    omega
  exact Nat.lt_of_le_of_lt this (by decide +kernel)
section
variable {K : PySem.W.Frag} {ρ : List En} {Ψ : Dt → List En → Prop} {N : List En → Prop} {R : Dt → List En → Prop} {Φ : Dt → Prop}
theorem ac_gcd2 {a b : Int} (h : Φ (.int ((Nat.gcd a.natAbs b.natAbs : Nat) : Int))) : AC K rGcd [.int a, .int b] Φ := fun G H s vs r Q q => by
  obtain ⟨x, r1, rfl, h1, y, r2, rfl, h2, e⟩ := r
  cases (show r2 = [] from e)
  cases (show x = V.int a from h1)
  cases (show y = V.int b from h2)
  exact ⟨a, b, rfl, q _ (.int ((Nat.gcd a.natAbs b.natAbs : Nat) : Int)) G H (Nw.refl s) rfl h⟩
end
end Sh
set_option Elab.async false
set_option linter.all false
set_option maxRecDepth 100000
set_option maxHeartbeats 4000000
namespace Sh
open PySem PySem.Spec PyProof.Rows L2
/-! sorted(set(xs)), ints, as many as a set's bound lets -/
section
variable {K : PySem.W.Frag} {ρ : List En} {Ψ : Dt → List En → Prop}
theorem ar_catL {Φ : Dt → Prop} {l l' : List Dt} (hz : l.length + l'.length ≤ sizeLine) (h : Φ (.lst (l ++ l'))) : AR K rCat (.lst l) (.lst l') Φ := fun G H s x y r1 r2 Q q => by
  obtain ⟨a, xs, rfl, h1, h2⟩ := r1
  obtain ⟨b, ys, rfl, h3, h4⟩ := r2
  refine ⟨a, b, xs, ys, rfl, rfl, s _ _ h1, s _ _ h3, (by rw [h2.length, h4.length]; exact hz), fun p hp => ?_⟩
  have n := Nw.new (o := .lst (xs ++ ys)) s hp
  exact q _ (.lst (l ++ l')) _ _ n ⟨p, _, rfl, upd_same, (h2.same n.g).app (h4.same n.g)⟩ h
end
end Sh
set_option Elab.async false
set_option linter.all false
set_option maxRecDepth 100000
set_option maxHeartbeats 4000000
namespace Sh
open PySem PySem.Spec PyProof.Rows L2
/-! lists: * k, slices of ints; a tuple of the module; a conditional expression as a test -/
section
variable {K : PySem.W.Frag} {ρ : List En} {Ψ : Dt → List En → Prop} {Φ : Dt → Prop}
/-- a tuple of the module: data that stands for itself -/
def TupC (K : PySem.W.Frag) (a : Addr) (l : List Dt) : Prop := ∀ G, RD K G (.tup l) (.ref a)
theorem tupC_every {a : Addr} {oc : Option Addr} {n : Nat} {sl : Array (Option Value)} {t u : Tok} (h : K.lookup a = some ⟨.type "tuple", oc, .seq #[.none, .none, .int 1 t, .int 0 u] n, sl⟩) : TupC K a [.non, .non, .int 1, .int 0] := fun G =>
  ⟨a, [.non, .non, .int 1, .int 0], rfl, .inr ⟨_, _, _, h, rfl, rfl, (by rw [sizeLine_eq]; exact Nat.le_of_ble_eq_true rfl), .cons rfl (.cons rfl (.cons ⟨_, rfl⟩ (.cons ⟨_, rfl⟩ .nil)))⟩, ⟨_, _, rfl, rfl, _, _, rfl, rfl, _, _, rfl, rfl, _, _, rfl, rfl, rfl⟩⟩
theorem ae_tupC {a : Addr} {l : List Dt} (e : TupC K a l) (h : Ψ (.tup l) ρ) : AE K (tC (.ref a)) ρ Ψ := ae_c (.tup l) e h
end
end Sh
set_option Elab.async false
set_option linter.all false
set_option maxRecDepth 100000
set_option maxHeartbeats 4000000
namespace Sh
open PySem PySem.Spec PyProof.Rows L2
/-! a list backwards: xs[::-1] -/
section
variable {K : PySem.W.Frag} {ρ : List En} {Ψ : Dt → List En → Prop} {Φ : Dt → Prop}
theorem RDs.reverse {G : Hp} : ∀ {l : List Dt} {xs : List V}, RDs K G l xs → RDs K G l.reverse xs.reverse
  | [], _, h => by rw [show _ = [] from h]; rfl
  | d :: l, _, ⟨x, r, e, h1, h2⟩ => by
    subst e
    rw [List.reverse_cons, List.reverse_cons]
    exact (RDs.reverse h2).snoc h1
end
end Sh
set_option Elab.async false
set_option linter.all false
set_option maxRecDepth 100000
set_option maxHeartbeats 4000000
namespace Sh
open PySem PySem.Spec PyProof.Rows L2
def lowJ : Option Int → Option Int → Option Int
  | some a, some b => some (if b < a then b else a)
  | _, _ => none
def highJ : Option Int → Option Int → Option Int
  | some a, some b => some (if b > a then b else a)
  | _, _ => none
def lwB (a b : Option Int) : Bool := match b with | none => true | some y => match a with | none => false | some x => decide (y ≤ x)
def hwB (a b : Option Int) : Bool := match b with | none => true | some y => match a with | none => false | some x => decide (x ≤ y)
def restOf (m n : Int) : IP := if m = 0 then (0, n) else (m, n.fmod m)
def restJ (m r n s : Int) : IP := restOf (g3 m n (r - s)) r
def hasB (m r n : Int) : Bool := if m = 0 then decide (n = r) else decide (n.fmod m = r)
def letsB (lo hi : Option Int) (n : Int) : Bool := lwB (some n) lo && hwB (some n) hi
def upR (r m x : Int) : Int := x + (r - x).fmod m
def dnR (r m y : Int) : Int := y - (y - r).fmod m
abbrev vD (lo hi : Option Int) (m r : Int) : Dt := .tup [oD lo, oD hi, .int m, .int r]
def voD (lo hi : Option Int) (m r : Int) : Dt := if m = 0 then (if letsB lo hi r then vD (some r) (some r) 0 r else .non) else
  match lo.map (upR r m), hi.map (dnR r m) with
  | some a, some b => if b ≤ a then (if a = b then vD (some a) (some a) 0 a else .non) else vD (some a) (some b) m r
  | a, b => vD a b m r
def setD (lo hi : Option Int) (m r : Int) : Dt := if m = 0 then vD (some r) (some r) 0 r else
  match lo.map (upR r m), hi.map (dnR r m) with
  | some a, some b => if a < b then vD (some a) (some b) m r else vD (some a) (some a) 0 a
  | a, b => vD a b m r
structure Ok (lo hi : Option Int) (m r : Int) : Prop where
  h : (m = 0 ∧ lo = some r ∧ hi = some r) ∨ (1 ≤ m ∧ 0 ≤ r ∧ r < m ∧ (∀ x, lo = some x → x.fmod m = r) ∧ (∀ y, hi = some y → y.fmod m = r) ∧ ∀ x y, lo = some x → hi = some y → x < y)
def Sub (m r n s : Int) : Prop := (n = 0 ∧ m = 0 ∧ s = r) ∨ (1 ≤ n ∧ m.fmod n = 0 ∧ r.fmod n = s)
theorem fe {x m : Int} (h : 1 ≤ m) : x.fmod m = x % m := Int.fmod_eq_emod_of_nonneg x (by omega)
theorem fm_r {x m : Int} (h : 0 < m) : 0 ≤ x.fmod m ∧ x.fmod m < m := by
  rw [fe (by omega)]; exact ⟨Int.emod_nonneg x (by omega), Int.emod_lt_of_pos x h⟩
theorem fm_same {x : Int} {m r : Int} (hm : 1 ≤ m) (h : x.fmod m = r) : (r - x).fmod m = 0 ∧ (x - r).fmod m = 0 := by
  rw [fe hm] at h; rw [fe hm, fe hm]
  subst h
  constructor
  · have : (x % m - x) = (- (x / m)) * m := by have := Int.mul_ediv_add_emod x m; rw [Int.neg_mul, Int.mul_comm]; omega
    rw [this, Int.mul_emod_left]
  · have : (x - x % m) = (x / m) * m := by have := Int.mul_ediv_add_emod x m; rw [Int.mul_comm]; omega
    rw [this, Int.mul_emod_left]
theorem up_same {x m r : Int} (hm : 1 ≤ m) (h : x.fmod m = r) : upR r m x = x := by unfold upR; rw [(fm_same hm h).1]; omega
theorem dn_same {x m r : Int} (hm : 1 ≤ m) (h : x.fmod m = r) : dnR r m x = x := by unfold dnR; rw [(fm_same hm h).2]; omega
theorem up_mod {x m r : Int} (hm : 1 ≤ m) (r0 : 0 ≤ r) (r1 : r < m) : (upR r m x).fmod m = r := by
  unfold upR
  rw [fe hm, fe hm]
  rw [Int.add_emod, Int.emod_emod_of_dvd _ (Int.dvd_refl m), ← Int.add_emod]
  rw [show x + (r - x) = r by omega]
  exact Int.emod_eq_of_lt r0 r1
theorem dn_mod {x m r : Int} (hm : 1 ≤ m) (r0 : 0 ≤ r) (r1 : r < m) : (dnR r m x).fmod m = r := by
  unfold dnR
  rw [fe hm, fe hm]
  rw [Int.sub_emod, Int.emod_emod_of_dvd _ (Int.dvd_refl m), ← Int.sub_emod]
  rw [show x - (x - r) = r by omega]
  exact Int.emod_eq_of_lt r0 r1
/-- two numbers that leave the same are apart by the modulus or equal -/
theorem apart {x y m : Int} (hm : 1 ≤ m) (h : x.fmod m = y.fmod m) (l : x < y) : x + m ≤ y := by
  rw [fe hm, fe hm] at h
  have e1 := Int.mul_ediv_add_emod x m
  have e2 := Int.mul_ediv_add_emod y m
  rw [h] at e1
  have hq : x / m < y / m := by
    have : m * (x / m) < m * (y / m) := by omega
    exact Int.lt_of_mul_lt_mul_left this (by omega)
  have : m * (x / m) + m ≤ m * (y / m) := by
    have h1 : x / m + 1 ≤ y / m := by omega
    have := Int.mul_le_mul_of_nonneg_left h1 (show 0 ≤ m by omega)
    rw [Int.mul_add, Int.mul_one] at this
    exact this
  omega
theorem up_b {x m r : Int} (hm : 1 ≤ m) : x ≤ upR r m x ∧ upR r m x < x + m := by
  have := fm_r (x := r - x) (m := m) (by omega)
  unfold upR; omega
theorem dn_b {x m r : Int} (hm : 1 ≤ m) : dnR r m x ≤ x ∧ x < dnR r m x + m := by
  have := fm_r (x := x - r) (m := m) (by omega)
  unfold dnR; omega
theorem up_le {x y m r : Int} (hm : 1 ≤ m) (r0 : 0 ≤ r) (r1 : r < m) (h : x ≤ y) (hy : y.fmod m = r) : upR r m x ≤ y := by
  have b := up_b (x := x) (r := r) hm
  have e := up_mod (x := x) hm r0 r1
  by_cases l : y < upR r m x
  · have := apart hm (hy.trans e.symm) l
    omega
  · omega
theorem dn_ge {x y m r : Int} (hm : 1 ≤ m) (r0 : 0 ≤ r) (r1 : r < m) (h : y ≤ x) (hy : y.fmod m = r) : y ≤ dnR r m x := by
  have b := dn_b (x := x) (r := r) hm
  have e := dn_mod (x := x) hm r0 r1
  by_cases l : dnR r m x < y
  · have := apart hm (e.trans hy.symm) l
    omega
  · omega
/-- what the widened value is -/
def dLo (l : Option Int) (m r : Int) : Option Int := if m = 0 then some r else l.map (upR r m)
def dHi (l : Option Int) (m r : Int) : Option Int := if m = 0 then some r else l.map (dnR r m)
theorem lw_le {x y : Int} (h : lwB (some x) (some y) = true) : y ≤ x := of_decide_eq_true h
theorem hw_le {x y : Int} (h : hwB (some x) (some y) = true) : x ≤ y := of_decide_eq_true h
section
variable {c d : Option Int} {m r : Int} (k : Ok c d m r)
include k
theorem dlo_in {l : Option Int} (h : lwB c l = true) : lwB c (dLo l m r) = true := by
  unfold dLo
  rcases k.h with ⟨rfl, rfl, rfl⟩ | ⟨hm, r0, r1, hc, hd, ho⟩
  · exact decide_eq_true (Int.le_refl _)
  · rw [if_neg (by omega)]
    cases l with
    | none => rfl
    | some x => cases c with
      | none => cases h
      | some y => exact decide_eq_true (up_le hm r0 r1 (lw_le h) (hc y rfl))
theorem dhi_in {l : Option Int} (h : hwB d l = true) : hwB d (dHi l m r) = true := by
  unfold dHi
  rcases k.h with ⟨rfl, rfl, rfl⟩ | ⟨hm, r0, r1, hc, hd, ho⟩
  · exact decide_eq_true (Int.le_refl _)
  · rw [if_neg (by omega)]
    cases l with
    | none => rfl
    | some x => cases d with
      | none => cases h
      | some y => exact decide_eq_true (dn_ge hm r0 r1 (hw_le h) (hd y rfl))
theorem d_ok {l u : Option Int} (h1 : lwB c l = true) (h2 : hwB d u = true) : Ok (dLo l m r) (dHi u m r) m r := by
  have e1 := dlo_in k h1
  have e2 := dhi_in k h2
  rcases k.h with ⟨rfl, rfl, rfl⟩ | ⟨hm, r0, r1, hc, hd, ho⟩
  · exact ⟨.inl ⟨rfl, rfl, rfl⟩⟩
  · refine ⟨.inr ⟨hm, r0, r1, ?_, ?_, ?_⟩⟩
    · intro x e
      unfold dLo at e
      rw [if_neg (by omega)] at e
      obtain ⟨y, _, rfl⟩ := Option.map_eq_some_iff.mp e
      exact up_mod hm r0 r1
    · intro x e
      unfold dHi at e
      rw [if_neg (by omega)] at e
      obtain ⟨y, _, rfl⟩ := Option.map_eq_some_iff.mp e
      exact dn_mod hm r0 r1
    · intro x y ex ey
      rw [ex] at e1; rw [ey] at e2
      cases c with
      | none => cases e1
      | some c' => cases d with
        | none => cases e2
        | some d' =>
          have := lw_le e1
          have := hw_le e2
          have := ho c' d' rfl rfl
          omega
theorem vo_d {l u : Option Int} (h1 : lwB c l = true) (h2 : hwB d u = true) : voD l u m r = vD (dLo l m r) (dHi u m r) m r ∧ setD l u m r = vD (dLo l m r) (dHi u m r) m r := by
  have o := d_ok k h1 h2
  rcases k.h with ⟨rfl, rfl, rfl⟩ | ⟨hm, r0, r1, hc, hd, ho⟩
  · refine ⟨?_, rfl⟩
    unfold voD
    rw [if_pos rfl, if_pos (show letsB l u r = true by unfold letsB; rw [h1, h2]; rfl)]
    rfl
  · have hm0 : ¬ m = 0 := by omega
    rcases o.h with ⟨e, _⟩ | ⟨_, _, _, _, _, lt⟩
    · omega
    · unfold voD setD
      unfold dLo dHi at *
      rw [if_neg hm0, if_neg hm0, if_neg hm0, if_neg hm0]
      rw [if_neg hm0, if_neg hm0] at lt
      cases hl : l.map (upR r m) with
      | none => exact ⟨rfl, rfl⟩
      | some x => cases hu : u.map (dnR r m) with
        | none => exact ⟨rfl, rfl⟩
        | some y =>
          have := lt x y hl hu
          dsimp only
          rw [if_neg (by omega), if_pos this]
          exact ⟨rfl, rfl⟩
end
/-- a value is as it is -/
theorem dlo_self {lo hi : Option Int} {m r : Int} (k : Ok lo hi m r) : dLo lo m r = lo ∧ dHi hi m r = hi := by
  unfold dLo dHi
  rcases k.h with ⟨rfl, rfl, rfl⟩ | ⟨hm, r0, r1, hc, hd, ho⟩
  · exact ⟨rfl, rfl⟩
  · rw [if_neg (by omega), if_neg (by omega)]
    constructor
    · cases lo with
      | none => rfl
      | some x => show some _ = _; rw [up_same hm (hc x rfl)]
    · cases hi with
      | none => rfl
      | some x => show some _ = _; rw [dn_same hm (hd x rfl)]
theorem lw_self {a : Option Int} : lwB a a = true := by cases a <;> simp [lwB]
theorem hw_self {a : Option Int} : hwB a a = true := by cases a <;> simp [hwB]
theorem ok_le {lo hi : Option Int} {m r x y : Int} (k : Ok lo hi m r) (h1 : lo = some x) (h2 : hi = some y) : x ≤ y := by
  rcases k.h with ⟨rfl, e, f⟩ | ⟨hm, r0, r1, hc, hd, ho⟩
  · rw [e] at h1; rw [f] at h2; cases h1; cases h2; exact Int.le_refl _
  · exact Int.le_of_lt (ho x y h1 h2)
/-! joins -/
theorem g3_dvd (a b c : Int) : g3 a b c ∣ a ∧ g3 a b c ∣ b ∧ g3 a b c ∣ c := by
  unfold g3
  refine ⟨?_, ?_, ?_⟩ <;> apply Int.natAbs_dvd_natAbs.mp <;> rw [Int.natAbs_natCast]
  · exact Nat.dvd_trans (Nat.gcd_dvd_left _ _) (Nat.gcd_dvd_left _ _)
  · exact Nat.dvd_trans (Nat.gcd_dvd_left _ _) (Nat.gcd_dvd_right _ _)
  · exact Nat.gcd_dvd_right _ _
theorem g3_nn (a b c : Int) : 0 ≤ g3 a b c := Int.natCast_nonneg _
theorem g3_zero {a b c : Int} (h : g3 a b c = 0) : a = 0 ∧ b = 0 ∧ c = 0 := by
  obtain ⟨h1, h2, h3⟩ := g3_dvd a b c
  rw [h] at h1 h2 h3
  exact ⟨Int.zero_dvd.mp h1, Int.zero_dvd.mp h2, Int.zero_dvd.mp h3⟩
theorem mod_trans {x r m g : Int} (hm : 1 ≤ m) (hg : 1 ≤ g) (h : x.fmod m = r) (d : g ∣ m) : x.fmod g = r.fmod g := by
  rw [fe hm] at h; rw [fe hg, fe hg]
  subst h
  exact (Int.emod_emod_of_dvd x d).symm
theorem mod_eq {x y g : Int} (hg : 1 ≤ g) (d : g ∣ x - y) : x.fmod g = y.fmod g := by
  rw [fe hg, fe hg]
  exact Int.emod_eq_emod_iff_emod_sub_eq_zero.mpr (Int.emod_eq_zero_of_dvd d)
theorem ok_mod {lo hi : Option Int} {m r x g : Int} (k : Ok lo hi m r) (hg : 1 ≤ g) (d : g ∣ m) (h : lo = some x ∨ hi = some x) : x.fmod g = r.fmod g := by
  rcases k.h with ⟨rfl, e, f⟩ | ⟨hm, r0, r1, hc, hd, ho⟩
  · rcases h with h | h
    · rw [e] at h; cases h; rfl
    · rw [f] at h; cases h; rfl
  · rcases h with h | h
    · exact mod_trans hm hg (hc x h) d
    · exact mod_trans hm hg (hd x h) d
theorem join_ok {a b c d : Option Int} {m r n s : Int} (k : Ok a b m r) (l : Ok c d n s) : ∃ m' r', restJ m r n s = (m', r') ∧ Ok (lowJ a c) (highJ b d) m' r' ∧ Sub m r m' r' := by
  by_cases h0 : g3 m n (r - s) = 0
  · obtain ⟨rfl, rfl, h⟩ := g3_zero h0
    refine ⟨0, r, by unfold restJ restOf; rw [if_pos h0], ⟨.inl ⟨rfl, ?_, ?_⟩⟩, .inl ⟨rfl, rfl, rfl⟩⟩
    all_goals
      rcases k.h with ⟨_, rfl, rfl⟩ | ⟨hm, _⟩
      · rcases l.h with ⟨_, rfl, rfl⟩ | ⟨hm, _⟩
        · have : s = r := by omega
          subst this
          simp [lowJ, highJ]
        · omega
      · omega
  · have hg : 1 ≤ g3 m n (r - s) := by have := g3_nn m n (r - s); omega
    obtain ⟨d1, d2, d3⟩ := g3_dvd m n (r - s)
    generalize hG : g3 m n (r - s) = g at *
    have er : r.fmod g = s.fmod g := mod_eq hg d3
    have bb := fm_r (x := r) (m := g) (by omega)
    have km : ∀ x, (a = some x ∨ b = some x) → x.fmod g = r.fmod g := fun x h => ok_mod k hg d1 h
    have lm : ∀ x, (c = some x ∨ d = some x) → x.fmod g = r.fmod g := fun x h => (ok_mod l hg d2 h).trans er.symm
    refine ⟨g, r.fmod g, by unfold restJ restOf; rw [hG, if_neg h0], ⟨.inr ⟨hg, bb.1, bb.2, ?_, ?_, ?_⟩⟩, .inr ⟨hg, ?_, rfl⟩⟩
    · intro x e
      cases a with
      | none => cases e
      | some a' => cases c with
        | none => cases e
        | some c' =>
          have e' : (if c' < a' then c' else a') = x := by injection e
          rw [← e']
          split
          · exact lm _ (.inl rfl)
          · exact km _ (.inl rfl)
    · intro x e
      cases b with
      | none => cases e
      | some a' => cases d with
        | none => cases e
        | some c' =>
          have e' : (if c' > a' then c' else a') = x := by injection e
          rw [← e']
          split
          · exact lm _ (.inr rfl)
          · exact km _ (.inr rfl)
    · intro x y ex ey
      cases a with
      | none => cases ex
      | some a' => cases c with
        | none => cases ex
        | some c' => cases b with
          | none => cases ey
          | some b' => cases d with
            | none => cases ey
            | some d' =>
              have e1 : (if c' < a' then c' else a') = x := by injection ex
              have e2 : (if d' > b' then d' else b') = y := by injection ey
              have o1 := ok_le k rfl rfl
              have o2 := ok_le l rfl rfl
              by_cases eq : a' = b' ∧ c' = d' ∧ a' = c'
              · exfalso
                obtain ⟨q1, q2, q3⟩ := eq
                rcases k.h with ⟨z1, z2, z3⟩ | ⟨hm, _, _, _, _, lt⟩
                · rcases l.h with ⟨w1, w2, w3⟩ | ⟨hm, _, _, _, _, lt⟩
                  · injection z2 with z2; injection w2 with w2
                    subst z1 w1
                    have : r - s = 0 := by omega
                    rw [this] at hG
                    exact h0 hG.symm
                  · have := lt c' d' rfl rfl; omega
                · have := lt a' b' rfl rfl; omega
              · split at e1 <;> split at e2 <;> omega
    · rw [fe hg]; exact Int.emod_eq_zero_of_dvd d1
theorem okS (n : Int) : Ok (some n) (some n) 0 n := ⟨.inl ⟨rfl, rfl, rfl⟩⟩
end Sh
set_option Elab.async false
set_option linter.all false
set_option maxRecDepth 100000
set_option maxHeartbeats 4000000
namespace Sh
/-! the greatest common divisor of a list -/
def g2 (a b : Int) : Int := ((Nat.gcd a.natAbs b.natAbs : Nat) : Int)
def dN (ns : List Int) : Nat := ns.foldl (fun g n => Nat.gcd g n.natAbs) 0
def dL (ns : List Int) : Int := ((dN ns : Nat) : Int)
theorem fold_dvd {ns : List Int} : ∀ {g : Nat} {d : Nat}, d ∣ ns.foldl (fun g n => Nat.gcd g n.natAbs) g ↔ d ∣ g ∧ ∀ x, x ∈ ns → d ∣ x.natAbs := by
  induction ns with
  | nil => intro g d; simp
  | cons n ns ih =>
    intro g d
    rw [List.foldl_cons, ih, Nat.dvd_gcd_iff]
    constructor
    · rintro ⟨⟨h1, h2⟩, h3⟩
      exact ⟨h1, fun x hx => by rcases List.mem_cons.mp hx with rfl | hx; exact h2; exact h3 x hx⟩
    · rintro ⟨h1, h2⟩
      exact ⟨⟨h1, h2 n (List.mem_cons_self ..)⟩, fun x hx => h2 x (List.mem_cons_of_mem _ hx)⟩
theorem dL_dvd {ns : List Int} {d : Int} : d ∣ dL ns ↔ ∀ x, x ∈ ns → d ∣ x := by
  unfold dL dN
  rw [← Int.natAbs_dvd_natAbs, Int.natAbs_natCast, fold_dvd]
  constructor
  · rintro ⟨_, h⟩ x hx; exact Int.natAbs_dvd_natAbs.mp (h x hx)
  · intro h; exact ⟨Nat.dvd_zero _, fun x hx => Int.natAbs_dvd_natAbs.mpr (h x hx)⟩
theorem dL_nn (ns : List Int) : 0 ≤ dL ns := Int.natCast_nonneg _
theorem g2_dvd {a b d : Int} : d ∣ g2 a b ↔ d ∣ a ∧ d ∣ b := by
  unfold g2
  rw [← Int.natAbs_dvd_natAbs, Int.natAbs_natCast, Nat.dvd_gcd_iff, Int.natAbs_dvd_natAbs, Int.natAbs_dvd_natAbs]
theorem g3_dvd' {a b c d : Int} : d ∣ g3 a b c ↔ d ∣ a ∧ d ∣ b ∧ d ∣ c := by
  unfold g3
  rw [← Int.natAbs_dvd_natAbs, Int.natAbs_natCast, Nat.dvd_gcd_iff, Nat.dvd_gcd_iff, Int.natAbs_dvd_natAbs, Int.natAbs_dvd_natAbs, Int.natAbs_dvd_natAbs, and_assoc]
theorem eq_of_dvd {a b : Int} (ha : 0 ≤ a) (hb : 0 ≤ b) (h : a ∣ b) (k : b ∣ a) : a = b := by
  have h' := Int.natAbs_dvd_natAbs.mpr h
  have k' := Int.natAbs_dvd_natAbs.mpr k
  have := Nat.dvd_antisymm h' k'
  omega
/-- the law's divisor of a list is what has the same divisors -/
theorem dL_eq {ns : List Int} {g : Int} (hg : 0 ≤ g) (h1 : ∀ x, x ∈ ns → g ∣ x) (h2 : dL ns ∣ g) : dL ns = g := eq_of_dvd (dL_nn _) hg h2 (dL_dvd.mpr h1)
/-! members -/
def ks : List Int := [0, 1, -1, 2, -2, 3]
def mem (m r : Int) : List Int := if m > 0 then ks.map fun k => r + m * k else [r]
def off (some : List Int) (x0 : Int) : List Int := some.map fun n => n - x0
theorem off_mem {l : List Int} {x0 y : Int} : y ∈ off l x0 ↔ y + x0 ∈ l := by
  unfold off
  rw [List.mem_map]
  constructor
  · rintro ⟨n, h, rfl⟩; rw [Int.sub_add_cancel]; exact h
  · intro h; exact ⟨y + x0, h, by omega⟩
theorem off_dvd {l : List Int} {x0 d : Int} : (∀ y, y ∈ off l x0 → d ∣ y) ↔ ∀ x, x ∈ l → d ∣ x - x0 := by
  constructor
  · intro h x hx; exact h _ (off_mem.mpr (by rw [Int.sub_add_cancel]; exact hx))
  · intro h y hy; have := h _ (off_mem.mp hy); rwa [Int.add_sub_cancel] at this
theorem dL_off {l : List Int} {x0 x : Int} (h : x ∈ l) : dL (off l x0) ∣ x - x0 := off_dvd.mp (dL_dvd.mp (Int.dvd_refl _)) x h
def allR (f : Int → Int → Int) (xs ys : List Int) : List Int := xs.flatMap fun x => ys.map fun y => f x y
theorem all_mem {f : Int → Int → Int} {xs ys : List Int} {z : Int} : z ∈ allR f xs ys ↔ ∃ x, x ∈ xs ∧ ∃ y, y ∈ ys ∧ z = f x y := by
  unfold allR
  rw [List.mem_flatMap]
  constructor
  · rintro ⟨x, hx, h⟩
    obtain ⟨y, hy, rfl⟩ := List.mem_map.mp h
    exact ⟨x, hx, y, hy, rfl⟩
  · rintro ⟨x, hx, y, hy, rfl⟩
    exact ⟨x, hx, List.mem_map.mpr ⟨y, hy, rfl⟩⟩
/-! quotients of members -/
theorem fd_shift {r d q k : Int} (hd : d ≠ 0) : (r + d * q * k).fdiv d = r.fdiv d + q * k := by
  rw [Int.mul_assoc]; exact Int.add_mul_fdiv_left r (q * k) hd
theorem dvd_q {m d : Int} (hd : d ≠ 0) (h : d ∣ m) : m = d * m.fdiv d := by
  have := Int.fdiv_mul_cancel h
  rw [Int.mul_comm]; exact this.symm
def restO (m n : Int) : IP := if m = 0 then (0, n) else (m, n.fmod m)
/-! Euclid's steps -/
theorem fm_lt {x m : Int} (h : 0 < m) : 0 ≤ x.fmod m ∧ x.fmod m < m := by
  rw [fe (by omega)]; exact ⟨Int.emod_nonneg x (by omega), Int.emod_lt_of_pos x h⟩
def ext (h l b w : Int) : Int := if hl : 0 < l then ext l (h.fmod l) w (b - h.fdiv l * w) else b
termination_by l.toNat
decreasing_by have := fm_lt (x := h) hl; omega
theorem dvd_mod {x m : Int} : m ∣ x - x.fmod m := ⟨x.fdiv m, by rw [Int.fmod_def]; omega⟩
/-! common members -/
end Sh
set_option Elab.async false
set_option linter.all false
set_option maxRecDepth 100000
set_option maxHeartbeats 4000000
namespace Sh
open PySem PySem.Spec PyProof.Rows L2
/-- a list of integers that leave r by m, with r and the next one in it -/
structure Pro (m r : Int) (X : List Int) : Prop where
  is : ∀ x, x ∈ X → ∃ k, x = r + m * k
  h0 : r ∈ X
  h1 : r + m ∈ X
section
variable {m r n s : Int} {X Y : List Int} (p : Pro m r X) (q : Pro n s Y)
include p q
theorem add_g : dL (off (allR (fun x y => x + y) X Y) (r + s)) = g2 m n := by
  refine dL_eq (Int.natCast_nonneg _) (off_dvd.mpr fun z hz => ?_) ?_
  · obtain ⟨d1, d2⟩ := g2_dvd.mp (Int.dvd_refl (g2 m n))
    obtain ⟨x, hx, y, hy, rfl⟩ := all_mem.mp hz
    obtain ⟨k, rfl⟩ := p.is x hx
    obtain ⟨l, rfl⟩ := q.is y hy
    rw [show r + m * k + (s + n * l) - (r + s) = m * k + n * l by omega]
    exact Int.dvd_add (Int.dvd_trans d1 (Int.dvd_mul_right _ _)) (Int.dvd_trans d2 (Int.dvd_mul_right _ _))
  · refine g2_dvd.mpr ⟨?_, ?_⟩
    · have := dL_off (x0 := r + s) (all_mem.mpr ⟨_, p.h1, _, q.h0, rfl⟩ : _ ∈ allR (fun x y => x + y) _ _)
      rwa [show r + m + s - (r + s) = m by omega] at this
    · have := dL_off (x0 := r + s) (all_mem.mpr ⟨_, p.h0, _, q.h1, rfl⟩ : _ ∈ allR (fun x y => x + y) _ _)
      rwa [show r + (s + n) - (r + s) = n by omega] at this
theorem sub_g : dL (off (allR (fun x y => x - y) X Y) (r - s)) = g2 m n := by
  refine dL_eq (Int.natCast_nonneg _) (off_dvd.mpr fun z hz => ?_) ?_
  · obtain ⟨d1, d2⟩ := g2_dvd.mp (Int.dvd_refl (g2 m n))
    obtain ⟨x, hx, y, hy, rfl⟩ := all_mem.mp hz
    obtain ⟨k, rfl⟩ := p.is x hx
    obtain ⟨l, rfl⟩ := q.is y hy
    rw [show r + m * k - (s + n * l) - (r - s) = m * k - n * l by omega]
    exact Int.dvd_sub (Int.dvd_trans d1 (Int.dvd_mul_right _ _)) (Int.dvd_trans d2 (Int.dvd_mul_right _ _))
  · refine g2_dvd.mpr ⟨?_, ?_⟩
    · have := dL_off (x0 := r - s) (all_mem.mpr ⟨_, p.h1, _, q.h0, rfl⟩ : _ ∈ allR (fun x y => x - y) _ _)
      rwa [show r + m - s - (r - s) = m by omega] at this
    · have := dL_off (x0 := r - s) (all_mem.mpr ⟨_, p.h0, _, q.h1, rfl⟩ : _ ∈ allR (fun x y => x - y) _ _)
      have := Int.dvd_neg.mpr this
      rwa [show -(r - (s + n) - (r - s)) = n by omega] at this
theorem mul_g : dL (off (allR (fun x y => x * y) X Y) (r * s)) = g3 (r * n) (s * m) (m * n) := by
  have e : ∀ k l : Int, (r + m * k) * (s + n * l) - r * s = (r * n) * l + (s * m) * k + (m * n) * (k * l) := fun k l => by
    rw [Int.add_mul, Int.mul_add, Int.mul_add]
    have e1 : r * (n * l) = (r * n) * l := (Int.mul_assoc r n l).symm
    have e2 : m * k * s = (s * m) * k := by rw [Int.mul_right_comm, Int.mul_comm m s]
    have e3 : m * k * (n * l) = (m * n) * (k * l) := by rw [Int.mul_assoc, Int.mul_assoc, Int.mul_left_comm k n l]
    rw [e1, e2, e3]; omega
  refine dL_eq (Int.natCast_nonneg _) (off_dvd.mpr fun z hz => ?_) ?_
  · obtain ⟨d1, d2, d3⟩ := g3_dvd'.mp (Int.dvd_refl (g3 (r * n) (s * m) (m * n)))
    obtain ⟨x, hx, y, hy, rfl⟩ := all_mem.mp hz
    obtain ⟨k, rfl⟩ := p.is x hx
    obtain ⟨l, rfl⟩ := q.is y hy
    show _ ∣ (r + m * k) * (s + n * l) - r * s
    rw [e]
    exact Int.dvd_add (Int.dvd_add (Int.dvd_trans d1 (Int.dvd_mul_right _ _)) (Int.dvd_trans d2 (Int.dvd_mul_right _ _))) (Int.dvd_trans d3 (Int.dvd_mul_right _ _))
  · have a := dL_off (x0 := r * s) (all_mem.mpr ⟨_, p.h0, _, q.h1, rfl⟩ : _ ∈ allR (fun x y => x * y) _ _)
    have b := dL_off (x0 := r * s) (all_mem.mpr ⟨_, p.h1, _, q.h0, rfl⟩ : _ ∈ allR (fun x y => x * y) _ _)
    have c := dL_off (x0 := r * s) (all_mem.mpr ⟨_, p.h1, _, q.h1, rfl⟩ : _ ∈ allR (fun x y => x * y) _ _)
    have ea : r * (s + n) - r * s = r * n := by rw [Int.mul_add]; omega
    have eb : (r + m) * s - r * s = s * m := by rw [Int.add_mul, Int.mul_comm m s]; omega
    have ec : (r + m) * (s + n) - r * s = r * n + s * m + m * n := by rw [Int.add_mul, Int.mul_add, Int.mul_add, Int.mul_comm m s]; omega
    rw [ea] at a; rw [eb] at b; rw [ec] at c
    refine g3_dvd'.mpr ⟨a, b, ?_⟩
    have := Int.dvd_sub c (Int.dvd_add a b)
    rwa [show r * n + s * m + m * n - (r * n + s * m) = m * n by omega] at this
end
/-- the law's integers: b, b + d, .. , n of them -/
def prog (b d : Int) (n : Nat) : List Int := (List.range n).map fun (k : Nat) => b + d * (k : Int)
/-- the modulus of their value -/
def pm (d : Int) (n : Nat) : Int := if n = 1 then 0 else d
end Sh
set_option Elab.async false
set_option linter.all false
set_option maxRecDepth 100000
set_option maxHeartbeats 4000000
namespace Sh
open PySem PySem.Spec PyProof.Rows L2
/-! quotients: least and greatest over windows -/
theorem fd_e {x m : Int} (h : 0 < m) : x.fdiv m = x / m := Int.fdiv_eq_ediv_of_nonneg x (by omega)
theorem fd_mono {x y m : Int} (h : 0 < m) (k : x ≤ y) : x.fdiv m ≤ y.fdiv m := by
  rw [fd_e h, fd_e h]; exact Int.ediv_le_ediv h k
theorem fd_nn {x m : Int} (h : 0 < m) (k : 0 ≤ x) : 0 ≤ x.fdiv m := by
  rw [fd_e h]; exact Int.ediv_nonneg k (by omega)
theorem fd_lt {x m k : Int} (h : 0 < m) : x.fdiv m < k ↔ x < k * m := by
  rw [fd_e h]; exact Int.ediv_lt_iff_lt_mul h
theorem le_fd {x m k : Int} (h : 0 < m) : k ≤ x.fdiv m ↔ k * m ≤ x := by
  rw [fd_e h]; exact Int.le_ediv_iff_mul_le h
theorem fd_ltz {x m : Int} (h : 0 < m) (k : x < 0) : x.fdiv m < 0 := (fd_lt h).mpr (by omega)
/-- greater divisors: from above nearer to 0 -/
theorem fd_up {x m n : Int} (h : 0 < m) (k : m ≤ n) (p : 0 ≤ x) : x.fdiv n ≤ x.fdiv m := by
  have hn : 0 < n := by omega
  have q0 := fd_nn hn p
  rw [le_fd h]
  have a : x.fdiv n * n ≤ x := (le_fd hn).mp (Int.le_refl _)
  exact Int.le_trans (Int.mul_le_mul_of_nonneg_left k q0) a
/-- from below nearer to -1 -/
theorem fd_dn {x m n : Int} (h : 0 < m) (k : m ≤ n) (p : x < 0) : x.fdiv m ≤ x.fdiv n := by
  have hn : 0 < n := by omega
  have q0 := fd_ltz h p
  rw [le_fd hn]
  have a : x.fdiv m * m ≤ x := (le_fd h).mp (Int.le_refl _)
  exact Int.le_trans (Int.mul_le_mul_of_nonpos_left (by omega) k) a
theorem fd_neg {x m : Int} (h : m < 0) : x.fdiv m = (-x).fdiv (-m) := by
  have := Int.neg_fdiv_neg x m
  rw [this]
def fL (n P Q : Int) : Int := if 0 ≤ n then n.fdiv Q else n.fdiv P
def fH (n P Q : Int) : Int := if 0 ≤ n then n.fdiv P else n.fdiv Q
theorem fL_le {n P Q m : Int} (h : 0 < P) (h1 : P ≤ m) (h2 : m ≤ Q) : fL n P Q ≤ n.fdiv m := by
  unfold fL
  split
  · exact fd_up (by omega) h2 (by assumption)
  · exact fd_dn h h1 (by omega)
theorem fH_ge {n P Q m : Int} (h : 0 < P) (h1 : P ≤ m) (h2 : m ≤ Q) : n.fdiv m ≤ fH n P Q := by
  unfold fH
  split
  · exact fd_up h h1 (by assumption)
  · exact fd_dn (by omega) h2 (by omega)
theorem fL_is {n P Q : Int} : fL n P Q = n.fdiv P ∨ fL n P Q = n.fdiv Q := by
  unfold fL; split
  · exact .inr rfl
  · exact .inl rfl
theorem fH_is {n P Q : Int} : fH n P Q = n.fdiv P ∨ fH n P Q = n.fdiv Q := by
  unfold fH; split
  · exact .inl rfl
  · exact .inr rfl
def mn (x y : Int) : Int := if y < x then y else x
def mx (x y : Int) : Int := if y > x then y else x
/-! spans and their windows -/
def negB (a : Option Int) : Option Int := a.map fun x => -x
structure Loose (a b : Option Int) : Prop where
  lo : ∀ x, a = some x → -21 ≤ x ∧ x ≤ 21
  hi : ∀ y, b = some y → -21 ≤ y ∧ y ≤ 21
  ord : ∀ x y, a = some x → b = some y → x ≤ y
theorem Loose.neg {a b : Option Int} (h : Loose a b) : Loose (negB b) (negB a) := by
  refine ⟨?_, ?_, ?_⟩
  · intro x e
    cases b with
    | none => cases e
    | some y => cases e; have := h.hi y rfl; show -21 ≤ -y ∧ -y ≤ 21; omega
  · intro x e
    cases a with
    | none => cases e
    | some y => cases e; have := h.lo y rfl; show -21 ≤ -y ∧ -y ≤ 21; omega
  · intro x y e f
    cases a with
    | none => cases f
    | some u => cases b with
      | none => cases e
      | some v => cases e; cases f; have := h.ord u v rfl rfl; show -v ≤ -u; omega
def fstP (c : Option Int) : Int := match c with
  | none => 1
  | some x => if 1 > x then 1 else x
def pos (d : Option Int) : Bool := match d with
  | none => true
  | some y => decide (1 ≤ y)
def quo (n : Int) : Option Int → Int
  | none => if 0 ≤ n then 0 else -1
  | some d => n.fdiv d
def quoL (a : Option Int) (p : Int) (q : Option Int) : Option Int := a.map fun l => if 0 ≤ l then quo l q else l.fdiv p
def quoH (b : Option Int) (p : Int) (q : Option Int) : Option Int := b.map fun h => if 0 ≤ h then h.fdiv p else quo h q
theorem fd_big {n Q : Int} (h : 0 ≤ n) (k : n < Q) : n.fdiv Q = 0 := by
  have hq : 0 < Q := by omega
  have a := fd_nn hq h
  have b := (fd_lt (x := n) (k := 1) hq).mpr (by omega)
  omega
theorem fd_bigN {n Q : Int} (h : n < 0) (k : -Q ≤ n) (q : 0 < Q) : n.fdiv Q = -1 := by
  have a := fd_ltz q h
  have b := (le_fd (x := n) (k := -1) q).mpr (by omega)
  omega
theorem fd_one {n : Int} : n.fdiv 1 = n := Int.fdiv_one n
def divL (a b c d : Option Int) : Option Int := match pos d, pos (negB c) with
  | true, true => lowJ (quoL a (fstP c) d) (quoL (negB b) (fstP (negB d)) (negB c))
  | true, false => quoL a (fstP c) d
  | false, _ => quoL (negB b) (fstP (negB d)) (negB c)
def divH (a b c d : Option Int) : Option Int := match pos d, pos (negB c) with
  | true, true => highJ (quoH b (fstP c) d) (quoH (negB a) (fstP (negB d)) (negB c))
  | true, false => quoH b (fstP c) d
  | false, _ => quoH (negB a) (fstP (negB d)) (negB c)
/-! remainders -/
def highM : Option Int → Option Int → Option Int
  | some a, some b => some (if b < a then b else a)
  | none, b => b
  | a, none => a
def lowM : Option Int → Option Int → Option Int
  | some a, some b => some (if b > a then b else a)
  | none, b => b
  | a, none => a
def predB (q : Option Int) : Option Int := q.map fun y => y - 1
def remB (a b : Option Int) (p : Int) (q : Option Int) : Option Int × Option Int := match a, b with
  | some x, some y => if q = some p ∧ x.fdiv p = y.fdiv p then (some (x.fmod p), some (y.fmod p)) else if 0 ≤ x ∧ y < p then (some x, some y) else if 0 ≤ x then (some 0, highM (predB q) (some y)) else (some 0, predB q)
  | _, _ => (some 0, predB q)
def insB (a b : Option Int) (n : Int) : Bool := (match a with | none => true | some x => decide (x ≤ n)) && (match b with | none => true | some y => decide (n ≤ y))
theorem fm_e {x m : Int} (h : 0 < m) : x.fmod m = x % m := Int.fmod_eq_emod_of_nonneg x (by omega)
theorem fm_d {x m : Int} : x.fmod m = x - m * x.fdiv m := by
  have := Int.mul_fdiv_add_fmod x m
  omega
theorem fm_le {x m : Int} (h : 0 < m) (k : 0 ≤ x) : x.fmod m ≤ x := by
  rw [fm_d]; have := Int.mul_nonneg (a := m) (b := x.fdiv m) (by omega) (fd_nn h k); omega
theorem rem_in {a b q : Option Int} {p n m : Int} (hp : 1 ≤ p) (h1 : p ≤ m) (h2 : ∀ y, q = some y → m ≤ y) (k : insB a b n = true) : insB (remB a b p q).1 (remB a b p q).2 (n.fmod m) = true := by
  have hm : 0 < m := by omega
  have r := fm_r (x := n) hm
  have top : insB (some 0) (predB q) (n.fmod m) = true := by
    cases q with
    | none => simp [insB, predB, r.1]
    | some y => have := h2 y rfl; simp only [insB, predB, Option.map_some, Bool.and_eq_true, decide_eq_true_eq]; omega
  unfold remB
  cases a with
  | none => exact top
  | some x => cases b with
    | none => exact top
    | some y =>
      simp only [insB, Bool.and_eq_true, decide_eq_true_eq] at k
      dsimp only
      split
      · rename_i c
        obtain ⟨c1, c2⟩ := c
        have e : m = p := by have := h2 p c1; omega
        subst e
        have d1 := fd_mono hm k.1
        have d2 := fd_mono hm k.2
        have e1 : n.fdiv m = x.fdiv m := by omega
        simp only [insB, Bool.and_eq_true, decide_eq_true_eq]
        rw [fm_d, fm_d, fm_d, e1, ← c2]
        omega
      · split
        · rename_i c
          have : n.fmod m = n := by rw [fm_e hm]; exact Int.emod_eq_of_lt (by omega) (by omega)
          rw [this]
          simp only [insB, Bool.and_eq_true, decide_eq_true_eq]
          exact k
        · split
          · rename_i c
            have le := fm_le (x := n) hm (by omega)
            cases q with
            | none => simp only [insB, predB, Option.map_none, highM, Bool.and_eq_true, decide_eq_true_eq]; omega
            | some z =>
              have := h2 z rfl
              simp only [insB, predB, Option.map_some, highM, Bool.and_eq_true, decide_eq_true_eq]
              split <;> omega
          · exact top
def modL (a b c d : Option Int) : Option Int := match pos d, pos (negB c) with
  | true, true => lowJ (remB a b (fstP c) d).1 (negB (remB (negB b) (negB a) (fstP (negB d)) (negB c)).2)
  | true, false => (remB a b (fstP c) d).1
  | false, _ => negB (remB (negB b) (negB a) (fstP (negB d)) (negB c)).2
def modH (a b c d : Option Int) : Option Int := match pos d, pos (negB c) with
  | true, true => highJ (remB a b (fstP c) d).2 (negB (remB (negB b) (negB a) (fstP (negB d)) (negB c)).1)
  | true, false => (remB a b (fstP c) d).2
  | false, _ => negB (remB (negB b) (negB a) (fstP (negB d)) (negB c)).1
theorem neg_neg {a : Option Int} : negB (negB a) = a := by cases a <;> simp [negB]
end Sh
set_option Elab.async false
set_option linter.all false
set_option maxRecDepth 100000
set_option maxHeartbeats 4000000
namespace Sh
open PySem PySem.Spec PyProof.Rows L2
/-- what leaves a by g -/
def rr (a g : Int) : Int := if g = 0 then a else a.fmod g
theorem dvd_rr {a m : Int} : m ∣ a - rr a m := by
  unfold rr
  split
  · rename_i h; subst h; rw [Int.sub_self]; exact Int.dvd_zero _
  · exact dvd_mod
theorem rr_dvd {a m : Int} : m ∣ rr a m - a := by
  have := Int.dvd_neg.mpr (@dvd_rr a m)
  rwa [show -(a - rr a m) = rr a m - a by omega] at this
theorem rest_is {g x r : Int} (hg : 0 ≤ g) (h : g ∣ r - x) : restO g r = (g, rr x g) := by
  unfold restO rr
  by_cases h0 : g = 0
  · subst h0
    have := Int.zero_dvd.mp h
    rw [if_pos rfl, if_pos rfl, show r = x by omega]
  · rw [if_neg h0, if_neg h0, mod_eq (by omega) h]
/-- X: all integers from a to z that differ from a by what m divides, ascending -/
structure Sv (X : List Int) (a z m : Int) : Prop where
  pw : X.Pairwise (· < ·)
  ha : a ∈ X
  hz : z ∈ X
  bd : ∀ x, x ∈ X → a ≤ x ∧ x ≤ z
  h : (m = 0 ∧ a = z) ∨ (1 ≤ m ∧ a < z ∧ m ∣ z - a ∧ ∀ x, x ∈ X ↔ a ≤ x ∧ x ≤ z ∧ m ∣ x - a)
section
variable {X Y : List Int} {a z m c w n : Int}
theorem Sv.le (s : Sv X a z m) : a ≤ z := (s.bd z s.hz).1
theorem Sv.is (s : Sv X a z m) {x : Int} (hx : x ∈ X) : m ∣ x - a := by
  rcases s.h with ⟨h, e⟩ | ⟨_, _, _, h⟩
  · have := s.bd x hx
    rw [show x = a by omega, Int.sub_self]; exact Int.dvd_zero _
  · exact ((h x).mp hx).2.2
theorem Sv.next (s : Sv X a z m) : a + m ∈ X := by
  rcases s.h with ⟨h, e⟩ | ⟨h1, h2, h3, h⟩
  · subst h; rw [Int.add_zero]; exact s.ha
  · refine (h _).mpr ⟨by omega, ?_, ⟨1, by omega⟩⟩
    have := Int.le_of_dvd (by omega) h3
    omega
theorem Sv.pro (s : Sv X a z m) : Pro m a X where
  is := fun x hx => by
    obtain ⟨k, hk⟩ := s.is hx
    exact ⟨k, by omega⟩
  h0 := s.ha
  h1 := s.next
theorem Sv.ok (s : Sv X a z m) : Ok (some a) (some z) m (rr a m) := by
  unfold rr
  rcases s.h with ⟨h, e⟩ | ⟨h1, h2, h3, h⟩
  · subst h; subst e
    rw [if_pos rfl]; exact okS _
  · have b := fm_r (x := a) (m := m) (by omega)
    rw [if_neg (by omega)]
    exact ⟨.inr ⟨h1, b.1, b.2, (fun x e => by cases e; rfl), (fun x e => by cases e; exact mod_eq h1 h3), (fun x y e f => by cases e; cases f; exact h2)⟩⟩
/-! a list with its least and its greatest -/
structure Lv (L : List Int) (x0 lo hi : Int) : Prop where
  h0 : x0 ∈ L
  hlo : lo ∈ L
  hhi : hi ∈ L
  bd : ∀ x, x ∈ L → lo ≤ x ∧ x ≤ hi
theorem Lv.ok {L : List Int} {x0 lo hi : Int} (s : Lv L x0 lo hi) : Ok (some lo) (some hi) (dL (off L x0)) (rr x0 (dL (off L x0))) := by
  have nn := dL_nn (off L x0)
  have d : ∀ x, x ∈ L → dL (off L x0) ∣ x - x0 := fun x hx => dL_off hx
  by_cases h0 : dL (off L x0) = 0
  · have e : ∀ x, x ∈ L → x = x0 := fun x hx => by
      have := d x hx
      rw [h0] at this
      have := Int.zero_dvd.mp this
      omega
    unfold rr
    rw [h0, if_pos rfl, e lo s.hlo, e hi s.hhi]
    exact okS _
  · have b := fm_r (x := x0) (m := dL (off L x0)) (by omega)
    unfold rr
    rw [if_neg h0]
    refine ⟨.inr ⟨by omega, b.1, b.2, (fun x e => by cases e; exact mod_eq (by omega) (d lo s.hlo)), (fun x e => by cases e; exact mod_eq (by omega) (d hi s.hhi)), fun x y e f => ?_⟩⟩
    cases e; cases f
    have := (s.bd hi s.hhi).1
    by_cases l : lo = hi
    · exfalso
      apply h0
      refine dL_eq (Int.le_refl 0) (off_dvd.mpr fun x hx => ?_) (Int.dvd_zero _)
      have e1 := s.bd x hx
      have e2 := s.bd x0 s.h0
      rw [show x - x0 = 0 by omega]; exact Int.dvd_zero _
    · omega
/-- what is in a value -/
def inQ (lo hi m r x : Int) : Prop := lo ≤ x ∧ x ≤ hi ∧ (m = 0 → x = r) ∧ (m ≠ 0 → x.fmod m = r)
theorem Lv.in {L : List Int} {x0 lo hi : Int} (s : Lv L x0 lo hi) {x : Int} (hx : x ∈ L) : inQ lo hi (dL (off L x0)) (rr x0 (dL (off L x0))) x := by
  have nn := dL_nn (off L x0)
  have d : dL (off L x0) ∣ x - x0 := dL_off hx
  refine ⟨(s.bd x hx).1, (s.bd x hx).2, fun h => ?_, fun h => ?_⟩
  · rw [h] at d
    have := Int.zero_dvd.mp d
    unfold rr; rw [if_pos h]; omega
  · unfold rr; rw [if_neg h]; exact mod_eq (by omega) d
theorem vo_ok {lo hi : Option Int} {m r : Int} (k : Ok lo hi m r) : voD lo hi m r = vD lo hi m r ∧ setD lo hi m r = vD lo hi m r := by
  have := vo_d k lw_self hw_self
  rw [(dlo_self k).1, (dlo_self k).2] at this
  exact this
/-! the law's order of results -/
def resL (f : Int → Int → Int) (X Y : List Int) : List Int := Y.flatMap fun y => X.map fun x => f x y
theorem res_mem {f : Int → Int → Int} {X Y : List Int} {v : Int} : v ∈ resL f X Y ↔ ∃ x, x ∈ X ∧ ∃ y, y ∈ Y ∧ v = f x y := by
  unfold resL
  rw [List.mem_flatMap]
  constructor
  · rintro ⟨y, hy, h⟩
    obtain ⟨x, hx, rfl⟩ := List.mem_map.mp h
    exact ⟨x, hx, y, hy, rfl⟩
  · rintro ⟨x, hx, y, hy, rfl⟩
    exact ⟨y, hy, List.mem_map.mpr ⟨x, hx, rfl⟩⟩
theorem dL_same {L M : List Int} {x0 : Int} (h : ∀ x, x ∈ L ↔ x ∈ M) : dL (off L x0) = dL (off M x0) :=
  eq_of_dvd (dL_nn _) (dL_nn _) (dL_dvd.mpr (off_dvd.mpr fun x hx => dL_off ((h x).mpr hx))) (dL_dvd.mpr (off_dvd.mpr fun x hx => dL_off ((h x).mp hx)))
theorem res_all {f : Int → Int → Int} {X Y : List Int} : ∀ x, x ∈ resL f X Y ↔ x ∈ allR f X Y := fun x => by rw [res_mem, all_mem]
section
variable (s : Sv X a z m) (t : Sv Y c w n)
include s t
theorem add_lv : Lv (resL (fun x y => x + y) X Y) (a + c) (a + c) (z + w) where
  h0 := res_mem.mpr ⟨a, s.ha, c, t.ha, rfl⟩
  hlo := res_mem.mpr ⟨a, s.ha, c, t.ha, rfl⟩
  hhi := res_mem.mpr ⟨z, s.hz, w, t.hz, rfl⟩
  bd := fun v hv => by
    obtain ⟨x, hx, y, hy, rfl⟩ := res_mem.mp hv
    have := s.bd x hx; have := t.bd y hy
    omega
theorem sub_lv : Lv (resL (fun x y => x - y) X Y) (a - c) (a - w) (z - c) where
  h0 := res_mem.mpr ⟨a, s.ha, c, t.ha, rfl⟩
  hlo := res_mem.mpr ⟨a, s.ha, w, t.hz, rfl⟩
  hhi := res_mem.mpr ⟨z, s.hz, c, t.ha, rfl⟩
  bd := fun v hv => by
    obtain ⟨x, hx, y, hy, rfl⟩ := res_mem.mp hv
    have := s.bd x hx; have := t.bd y hy
    omega
theorem add_r : restO (g2 m n) (rr a m + rr c n) = (dL (off (resL (fun x y => x + y) X Y) (a + c)), rr (a + c) (dL (off (resL (fun x y => x + y) X Y) (a + c)))) := by
  rw [dL_same res_all, add_g s.pro t.pro]
  obtain ⟨d1, d2⟩ := g2_dvd.mp (Int.dvd_refl (g2 m n))
  refine rest_is (Int.natCast_nonneg _) ?_
  rw [show rr a m + rr c n - (a + c) = (rr a m - a) + (rr c n - c) by omega]
  exact Int.dvd_add (Int.dvd_trans d1 rr_dvd) (Int.dvd_trans d2 rr_dvd)
theorem sub_r : restO (g2 m n) (rr a m - rr c n) = (dL (off (resL (fun x y => x - y) X Y) (a - c)), rr (a - c) (dL (off (resL (fun x y => x - y) X Y) (a - c)))) := by
  rw [dL_same res_all, sub_g s.pro t.pro]
  obtain ⟨d1, d2⟩ := g2_dvd.mp (Int.dvd_refl (g2 m n))
  refine rest_is (Int.natCast_nonneg _) ?_
  rw [show rr a m - rr c n - (a - c) = (rr a m - a) - (rr c n - c) by omega]
  exact Int.dvd_sub (Int.dvd_trans d1 rr_dvd) (Int.dvd_trans d2 rr_dvd)
theorem g3_mul : g3 (rr a m * n) (rr c n * m) (m * n) = g3 (a * n) (c * m) (m * n) := by
  obtain ⟨p, hp⟩ := @rr_dvd a m
  obtain ⟨q, hq⟩ := @rr_dvd c n
  have ea : rr a m * n = a * n + m * n * p := by rw [show rr a m = a + m * p by omega, Int.add_mul, Int.mul_right_comm]
  have ec : rr c n * m = c * m + m * n * q := by rw [show rr c n = c + n * q by omega, Int.add_mul, Int.mul_right_comm, Int.mul_comm n m]
  refine eq_of_dvd (Int.natCast_nonneg _) (Int.natCast_nonneg _) ?_ ?_
  · obtain ⟨d1, d2, d3⟩ := g3_dvd'.mp (Int.dvd_refl (g3 (rr a m * n) (rr c n * m) (m * n)))
    generalize g3 (rr a m * n) (rr c n * m) (m * n) = g at *
    rw [ea] at d1; rw [ec] at d2
    exact g3_dvd'.mpr ⟨(Int.dvd_add_left (Int.dvd_trans d3 (Int.dvd_mul_right _ _))).mp d1, (Int.dvd_add_left (Int.dvd_trans d3 (Int.dvd_mul_right _ _))).mp d2, d3⟩
  · obtain ⟨d1, d2, d3⟩ := g3_dvd'.mp (Int.dvd_refl (g3 (a * n) (c * m) (m * n)))
    refine g3_dvd'.mpr ⟨?_, ?_, d3⟩
    · rw [ea]; exact Int.dvd_add d1 (Int.dvd_trans d3 (Int.dvd_mul_right _ _))
    · rw [ec]; exact Int.dvd_add d2 (Int.dvd_trans d3 (Int.dvd_mul_right _ _))
theorem mul_r : restO (g3 (rr a m * n) (rr c n * m) (m * n)) (rr a m * rr c n) = (dL (off (resL (fun x y => x * y) X Y) (a * c)), rr (a * c) (dL (off (resL (fun x y => x * y) X Y) (a * c)))) := by
  rw [dL_same res_all, mul_g s.pro t.pro, g3_mul s t]
  refine rest_is (Int.natCast_nonneg _) ?_
  obtain ⟨d1, d2, d3⟩ := g3_dvd'.mp (Int.dvd_refl (g3 (a * n) (c * m) (m * n)))
  obtain ⟨p, hp⟩ := @rr_dvd a m
  obtain ⟨q, hq⟩ := @rr_dvd c n
  have e : rr a m * rr c n - a * c = (a * n) * q + (c * m) * p + (m * n) * (p * q) := by
    rw [show rr a m = a + m * p by omega, show rr c n = c + n * q by omega, Int.add_mul, Int.mul_add, Int.mul_add]
    have e1 : a * (n * q) = a * n * q := (Int.mul_assoc a n q).symm
    have e2 : m * p * c = c * m * p := by rw [Int.mul_right_comm, Int.mul_comm m c]
    have e3 : m * p * (n * q) = m * n * (p * q) := by rw [Int.mul_assoc, Int.mul_assoc, Int.mul_left_comm p n q]
    rw [e1, e2, e3]; omega
  rw [e]
  exact Int.dvd_add (Int.dvd_add (Int.dvd_trans d1 (Int.dvd_mul_right _ _)) (Int.dvd_trans d2 (Int.dvd_mul_right _ _))) (Int.dvd_trans d3 (Int.dvd_mul_right _ _))
end
end
end Sh
set_option Elab.async false
set_option linter.all false
set_option maxRecDepth 100000
set_option maxHeartbeats 4000000
namespace Sh
open PySem PySem.Spec PyProof.Rows L2
/-! bounds of products -/
def addB : Option Int → Option Int → Option Int
  | some a, some b => some (a + b)
  | _, _ => none
def loE : Option Int → IP
  | none => (-1, 0)
  | some x => (0, x)
def hiE : Option Int → IP
  | none => (1, 0)
  | some x => (0, x)
def dirP (p : IP) : Int := if p = (0, 0) then 0 else if ltP (0, 0) p then 1 else -1
def timP (p q : IP) : IP := if p.1 = 0 ∧ q.1 = 0 then (0, p.2 * q.2) else (dirP p * dirP q, 0)
def bndP (p : IP) : Option Int := if p.1 = 0 then some p.2 else none
def corn (a b c d : Option Int) : List IP := [timP (loE a) (hiE d), timP (hiE b) (loE c), timP (hiE b) (hiE d)]
def mulL (a b c d : Option Int) : Option Int := bndP (PySem.W.minOf (timP (loE a) (loE c)) (corn a b c d))
def mulH (a b c d : Option Int) : Option Int := bndP (PySem.W.maxOf (timP (loE a) (loE c)) (corn a b c d))
def mn4 (p q r s : Int) : Int := mn (mn (mn p q) r) s
def mx4 (p q r s : Int) : Int := mx (mx (mx p q) r) s
theorem minP2 {u v : Int} : (if PySem.W.DatumOrd.lt ((0, v) : IP) ((0, u) : IP) = true then ((0, v) : IP) else ((0, u) : IP)) = (0, mn u v) := by
  show (if ltP (0, v) (0, u) = true then _ else _) = _
  unfold ltP mn
  simp only [if_pos, decide_eq_true_eq]
  split <;> rfl
theorem maxP2 {u v : Int} : (if PySem.W.DatumOrd.lt ((0, u) : IP) ((0, v) : IP) = true then ((0, v) : IP) else ((0, u) : IP)) = (0, mx u v) := by
  show (if ltP (0, u) (0, v) = true then _ else _) = _
  unfold ltP mx
  simp only [if_pos, decide_eq_true_eq]
  split <;> rfl
theorem mul_s {a z c w : Int} : mulL (some a) (some z) (some c) (some w) = some (mn4 (a * c) (a * w) (z * c) (z * w)) ∧ mulH (some a) (some z) (some c) (some w) = some (mx4 (a * c) (a * w) (z * c) (z * w)) := by
  have t : ∀ x y : Int, timP (0, x) (0, y) = (0, x * y) := fun x y => if_pos ⟨rfl, rfl⟩
  unfold mulL mulH corn loE hiE PySem.W.minOf PySem.W.maxOf
  rw [t, t, t, t]
  simp only [List.foldl_cons, List.foldl_nil]
  rw [minP2, minP2, minP2, maxP2, maxP2, maxP2]
  exact ⟨rfl, rfl⟩
theorem mn4_is {p q r s : Int} : (mn4 p q r s ≤ p ∧ mn4 p q r s ≤ q ∧ mn4 p q r s ≤ r ∧ mn4 p q r s ≤ s) ∧ (mn4 p q r s = p ∨ mn4 p q r s = q ∨ mn4 p q r s = r ∨ mn4 p q r s = s) := by
  unfold mn4 mn; split <;> split <;> split <;> omega
theorem mx4_is {p q r s : Int} : (p ≤ mx4 p q r s ∧ q ≤ mx4 p q r s ∧ r ≤ mx4 p q r s ∧ s ≤ mx4 p q r s) ∧ (mx4 p q r s = p ∨ mx4 p q r s = q ∨ mx4 p q r s = r ∨ mx4 p q r s = s) := by
  unfold mx4 mx; split <;> split <;> split <;> omega
theorem mul_lo {x0 x1 y0 y1 x y : Int} (h0 : x0 ≤ x) (h1 : x ≤ x1) (k0 : y0 ≤ y) (k1 : y ≤ y1) : mn4 (x0 * y0) (x0 * y1) (x1 * y0) (x1 * y1) ≤ x * y := by
  have k := @mn4_is (x0 * y0) (x0 * y1) (x1 * y0) (x1 * y1)
  obtain ⟨⟨i1, i2, i3, i4⟩, _⟩ := k
  by_cases hy : 0 ≤ y
  · have a1 : x0 * y ≤ x * y := Int.mul_le_mul_of_nonneg_right h0 hy
    by_cases hx : 0 ≤ x0
    · exact Int.le_trans i1 (Int.le_trans (Int.mul_le_mul_of_nonneg_left k0 hx) a1)
    · exact Int.le_trans i2 (Int.le_trans (Int.mul_le_mul_of_nonpos_left (by omega) k1) a1)
  · have a1 : x1 * y ≤ x * y := Int.mul_le_mul_of_nonpos_right h1 (by omega)
    by_cases hx : 0 ≤ x1
    · exact Int.le_trans i3 (Int.le_trans (Int.mul_le_mul_of_nonneg_left k0 hx) a1)
    · exact Int.le_trans i4 (Int.le_trans (Int.mul_le_mul_of_nonpos_left (by omega) k1) a1)
theorem mul_hi {x0 x1 y0 y1 x y : Int} (h0 : x0 ≤ x) (h1 : x ≤ x1) (k0 : y0 ≤ y) (k1 : y ≤ y1) : x * y ≤ mx4 (x0 * y0) (x0 * y1) (x1 * y0) (x1 * y1) := by
  have k := @mx4_is (x0 * y0) (x0 * y1) (x1 * y0) (x1 * y1)
  obtain ⟨⟨i1, i2, i3, i4⟩, _⟩ := k
  by_cases hy : 0 ≤ y
  · have a1 : x * y ≤ x1 * y := Int.mul_le_mul_of_nonneg_right h1 hy
    by_cases hx : 0 ≤ x1
    · exact Int.le_trans (Int.le_trans a1 (Int.mul_le_mul_of_nonneg_left k1 hx)) i4
    · exact Int.le_trans (Int.le_trans a1 (Int.mul_le_mul_of_nonpos_left (by omega) k0)) i3
  · have a1 : x * y ≤ x0 * y := Int.mul_le_mul_of_nonpos_right h0 (by omega)
    by_cases hx : 0 ≤ x0
    · exact Int.le_trans (Int.le_trans a1 (Int.mul_le_mul_of_nonneg_left k1 hx)) i2
    · exact Int.le_trans (Int.le_trans a1 (Int.mul_le_mul_of_nonpos_left (by omega) k0)) i1
section
variable {X Y : List Int} {a z m c w n : Int} (s : Sv X a z m) (t : Sv Y c w n)
include s t
theorem mul_lv : Lv (resL (fun x y => x * y) X Y) (a * c) (mn4 (a * c) (a * w) (z * c) (z * w)) (mx4 (a * c) (a * w) (z * c) (z * w)) where
  h0 := res_mem.mpr ⟨a, s.ha, c, t.ha, rfl⟩
  hlo := by
    rcases (@mn4_is (a * c) (a * w) (z * c) (z * w)).2 with e | e | e | e <;> rw [e]
    · exact res_mem.mpr ⟨a, s.ha, c, t.ha, rfl⟩
    · exact res_mem.mpr ⟨a, s.ha, w, t.hz, rfl⟩
    · exact res_mem.mpr ⟨z, s.hz, c, t.ha, rfl⟩
    · exact res_mem.mpr ⟨z, s.hz, w, t.hz, rfl⟩
  hhi := by
    rcases (@mx4_is (a * c) (a * w) (z * c) (z * w)).2 with e | e | e | e <;> rw [e]
    · exact res_mem.mpr ⟨a, s.ha, c, t.ha, rfl⟩
    · exact res_mem.mpr ⟨a, s.ha, w, t.hz, rfl⟩
    · exact res_mem.mpr ⟨z, s.hz, c, t.ha, rfl⟩
    · exact res_mem.mpr ⟨z, s.hz, w, t.hz, rfl⟩
  bd := fun v hv => by
    obtain ⟨x, hx, y, hy, rfl⟩ := res_mem.mp hv
    have h1 := s.bd x hx; have h2 := t.bd y hy
    exact ⟨mul_lo h1.1 h1.2 h2.1 h2.2, mul_hi h1.1 h1.2 h2.1 h2.2⟩
end
/-! the negatives -/
def ngL (X : List Int) : List Int := (X.map fun x => 0 - x).reverse
theorem ng_mem {X : List Int} {v : Int} : v ∈ ngL X ↔ -v ∈ X := by
  unfold ngL
  rw [List.mem_reverse, List.mem_map]
  constructor
  · rintro ⟨x, hx, rfl⟩; rwa [show -(0 - x) = x by omega]
  · intro h; exact ⟨-v, h, by omega⟩
theorem Sv.neg {X : List Int} {a z m : Int} (s : Sv X a z m) : Sv (ngL X) (-z) (-a) m where
  pw := by
    unfold ngL
    rw [List.pairwise_reverse, List.pairwise_map]
    exact s.pw.imp fun h => by omega
  ha := ng_mem.mpr (by rw [Int.neg_neg]; exact s.hz)
  hz := ng_mem.mpr (by rw [Int.neg_neg]; exact s.ha)
  bd := fun x hx => by have := s.bd _ (ng_mem.mp hx); omega
  h := by
    rcases s.h with ⟨h, e⟩ | ⟨h1, h2, h3, h⟩
    · exact .inl ⟨h, by omega⟩
    · refine .inr ⟨h1, by omega, by rwa [show -a - -z = z - a by omega], fun x => ?_⟩
      rw [ng_mem, h]
      constructor
      · rintro ⟨p, q, r⟩
        refine ⟨by omega, by omega, ?_⟩
        have := Int.dvd_sub h3 r
        rwa [show z - a - (-x - a) = x - -z by omega] at this
      · rintro ⟨p, q, r⟩
        refine ⟨by omega, by omega, ?_⟩
        have := Int.dvd_sub h3 r
        rwa [show z - a - (x - -z) = -x - a by omega] at this
/-! a part of a value -/
theorem cut_pos {X : List Int} {a z m : Int} (s : Sv X a z m) : ((∀ x, x ∈ X → ¬ 1 ≤ x) ∧ voD (some (if 1 > a then 1 else a)) (some z) m (rr a m) = .non) ∨
    ∃ a' m', Sv (X.filter fun x => decide (1 ≤ x)) a' z m' ∧ 1 ≤ a' ∧ voD (some (if 1 > a then 1 else a)) (some z) m (rr a m) = vD (some a') (some z) m' (rr a' m') := by
  have fm : ∀ x, x ∈ (X.filter fun x => decide (1 ≤ x)) ↔ x ∈ X ∧ 1 ≤ x := fun x => by rw [List.mem_filter, decide_eq_true_eq]
  rcases s.h with ⟨h, e⟩ | ⟨h1, h2, h3, h⟩
  · subst h; subst e
    have er : rr a 0 = a := if_pos rfl
    by_cases p : 1 ≤ a
    · refine .inr ⟨a, 0, ⟨s.pw.filter _, (fm a).mpr ⟨s.ha, p⟩, (fm a).mpr ⟨s.ha, p⟩, fun x hx => s.bd x ((fm x).mp hx).1, .inl ⟨rfl, rfl⟩⟩, p, ?_⟩
      rw [er, if_neg (by omega)]
      exact (vo_ok (okS a)).1
    · refine .inl ⟨fun x hx => by have := s.bd x hx; omega, ?_⟩
      rw [er, if_pos (by omega)]
      have : decide (1 ≤ a) = false := decide_eq_false p
      show (if (decide (1 ≤ a) && hwB (some a) (some a)) = true then _ else _) = _
      rw [this]; rfl
  · have m0 : ¬ m = 0 := by omega
    have er : rr a m = a.fmod m := if_neg m0
    have b := fm_r (x := a) (m := m) (by omega)
    have ez : z.fmod m = a.fmod m := mod_eq h1 h3
    have u1 := up_b (x := if 1 > a then 1 else a) (r := a.fmod m) h1
    have u2 := up_mod (x := if 1 > a then 1 else a) h1 b.1 b.2
    have u3 : ∀ y : Int, (if 1 > a then 1 else a) ≤ y → y.fmod m = a.fmod m → upR (a.fmod m) m (if 1 > a then 1 else a) ≤ y := fun y => up_le (x := if 1 > a then 1 else a) h1 b.1 b.2
    have dz := dn_same (r := a.fmod m) h1 ez
    have ev : ∀ p : Int, voD (some p) (some z) m (rr a m) = if z ≤ upR (a.fmod m) m p then (if upR (a.fmod m) m p = z then vD (some z) (some z) 0 z else .non) else vD (some (upR (a.fmod m) m p)) (some z) m (a.fmod m) := by
      intro p
      rw [er]
      unfold voD
      rw [if_neg m0]
      show (if dnR _ m z ≤ upR _ m p then (if upR _ m p = dnR _ m z then vD (some (upR _ m p)) (some (upR _ m p)) 0 (upR _ m p) else .non) else vD (some (upR _ m p)) (some (dnR _ m z)) m _) = _
      rw [dz]
      split
      · split
        · rename_i q; rw [q]
        · rfl
      · rfl
    rw [ev]
    generalize upR (a.fmod m) m (if 1 > a then 1 else a) = u at *
    have du : m ∣ u - a := by
      have := @dvd_mod u m
      rw [u2] at this
      have k := @dvd_mod a m
      have := Int.dvd_sub this k
      rwa [show u - a.fmod m - (a - a.fmod m) = u - a by omega] at this
    have hu1 : 1 ≤ u ∧ a ≤ u := by split at u1 <;> omega
    have mem : ∀ x, x ∈ (X.filter fun x => decide (1 ≤ x)) → u ≤ x := fun x hx => by
      have q := (fm x).mp hx
      have q2 := (h x).mp q.1
      exact u3 x (by split <;> omega) (mod_eq h1 q2.2.2)
    by_cases l : z ≤ u
    · rw [if_pos l]
      by_cases e : u = z
      · rw [if_pos e]
        refine .inr ⟨z, 0, ⟨s.pw.filter _, (fm z).mpr ⟨s.hz, by omega⟩, (fm z).mpr ⟨s.hz, by omega⟩, fun x hx => ⟨by have := mem x hx; omega, (s.bd x ((fm x).mp hx).1).2⟩, .inl ⟨rfl, rfl⟩⟩, by omega, ?_⟩
        rw [show rr z 0 = z from if_pos rfl]
      · rw [if_neg e]
        refine .inl ⟨fun x hx p => ?_, rfl⟩
        have := mem x ((fm x).mpr ⟨hx, p⟩)
        have := (s.bd x hx).2
        omega
    · rw [if_neg l]
      refine .inr ⟨u, m, ⟨s.pw.filter _, (fm u).mpr ⟨(h u).mpr ⟨hu1.2, by omega, du⟩, hu1.1⟩, (fm z).mpr ⟨s.hz, by omega⟩, fun x hx => ⟨mem x hx, (s.bd x ((fm x).mp hx).1).2⟩, .inr ⟨h1, by omega, ?_, fun x => ?_⟩⟩, hu1.1, ?_⟩
      · have := Int.dvd_sub h3 du
        rwa [show z - a - (u - a) = z - u by omega] at this
      · rw [fm, h]
        constructor
        · rintro ⟨⟨p, q, r⟩, o⟩
          refine ⟨mem x ((fm x).mpr ⟨(h x).mpr ⟨p, q, r⟩, o⟩), q, ?_⟩
          have := Int.dvd_sub r du
          rwa [show x - a - (u - a) = x - u by omega] at this
        · rintro ⟨p, q, r⟩
          refine ⟨⟨by omega, q, ?_⟩, by omega⟩
          have := Int.dvd_add r du
          rwa [show x - u + (u - a) = x - a by omega] at this
      · rw [show rr u m = u.fmod m from if_neg m0, u2]
theorem cut_neg {X : List Int} {a z m : Int} (s : Sv X a z m) : ((∀ x, x ∈ X → ¬ x ≤ -1) ∧ voD (some a) (some (if -1 < z then -1 else z)) m (rr a m) = .non) ∨
    ∃ z' m', Sv (X.filter fun x => decide (x ≤ -1)) a z' m' ∧ z' ≤ -1 ∧ voD (some a) (some (if -1 < z then -1 else z)) m (rr a m) = vD (some a) (some z') m' (rr a m') := by
  have fm : ∀ x, x ∈ (X.filter fun x => decide (x ≤ -1)) ↔ x ∈ X ∧ x ≤ -1 := fun x => by rw [List.mem_filter, decide_eq_true_eq]
  rcases s.h with ⟨h, e⟩ | ⟨h1, h2, h3, h⟩
  · subst h; subst e
    have er : rr a 0 = a := if_pos rfl
    by_cases p : a ≤ -1
    · refine .inr ⟨a, 0, ⟨s.pw.filter _, (fm a).mpr ⟨s.ha, p⟩, (fm a).mpr ⟨s.ha, p⟩, fun x hx => s.bd x ((fm x).mp hx).1, .inl ⟨rfl, rfl⟩⟩, p, ?_⟩
      rw [er, if_neg (by omega)]
      exact (vo_ok (okS a)).1
    · refine .inl ⟨fun x hx => by have := s.bd x hx; omega, ?_⟩
      rw [er, if_pos (by omega)]
      have : decide (a ≤ -1) = false := decide_eq_false p
      show (if (decide (a ≤ a) && decide (a ≤ -1)) = true then _ else _) = _
      rw [this, Bool.and_false]; rfl
  · have m0 : ¬ m = 0 := by omega
    have er : rr a m = a.fmod m := if_neg m0
    have b := fm_r (x := a) (m := m) (by omega)
    have u1 := dn_b (x := if -1 < z then -1 else z) (r := a.fmod m) h1
    have u2 := dn_mod (x := if -1 < z then -1 else z) h1 b.1 b.2
    have u3 : ∀ y : Int, y ≤ (if -1 < z then -1 else z) → y.fmod m = a.fmod m → y ≤ dnR (a.fmod m) m (if -1 < z then -1 else z) := fun y => dn_ge (x := if -1 < z then -1 else z) h1 b.1 b.2
    have da := up_same (x := a) (r := a.fmod m) h1 rfl
    have ev : ∀ p : Int, voD (some a) (some p) m (rr a m) = if dnR (a.fmod m) m p ≤ a then (if a = dnR (a.fmod m) m p then vD (some a) (some a) 0 a else .non) else vD (some a) (some (dnR (a.fmod m) m p)) m (a.fmod m) := by
      intro p
      rw [er]
      unfold voD
      rw [if_neg m0]
      show (if dnR _ m p ≤ upR _ m a then (if upR _ m a = dnR _ m p then vD (some (upR _ m a)) (some (upR _ m a)) 0 (upR _ m a) else .non) else vD (some (upR _ m a)) (some (dnR _ m p)) m _) = _
      rw [da]
    rw [ev]
    generalize dnR (a.fmod m) m (if -1 < z then -1 else z) = u at *
    have du : m ∣ u - a := by
      have := @dvd_mod u m
      rw [u2] at this
      have k := @dvd_mod a m
      have := Int.dvd_sub this k
      rwa [show u - a.fmod m - (a - a.fmod m) = u - a by omega] at this
    have hu1 : u ≤ -1 ∧ u ≤ z := by split at u1 <;> omega
    have mem : ∀ x, x ∈ (X.filter fun x => decide (x ≤ -1)) → x ≤ u := fun x hx => by
      have q := (fm x).mp hx
      have q2 := (h x).mp q.1
      exact u3 x (by split <;> omega) (mod_eq h1 q2.2.2)
    by_cases l : u ≤ a
    · rw [if_pos l]
      by_cases e : a = u
      · rw [if_pos e]
        refine .inr ⟨a, 0, ⟨s.pw.filter _, (fm a).mpr ⟨s.ha, by omega⟩, (fm a).mpr ⟨s.ha, by omega⟩, fun x hx => ⟨(s.bd x ((fm x).mp hx).1).1, by have := mem x hx; omega⟩, .inl ⟨rfl, rfl⟩⟩, by omega, ?_⟩
        rw [show rr a 0 = a from if_pos rfl]
      · rw [if_neg e]
        refine .inl ⟨fun x hx p => ?_, rfl⟩
        have := mem x ((fm x).mpr ⟨hx, p⟩)
        have := (s.bd x hx).1
        omega
    · rw [if_neg l]
      refine .inr ⟨u, m, ⟨s.pw.filter _, (fm a).mpr ⟨s.ha, by omega⟩, (fm u).mpr ⟨(h u).mpr ⟨by omega, hu1.2, du⟩, hu1.1⟩, fun x hx => ⟨(s.bd x ((fm x).mp hx).1).1, mem x hx⟩, .inr ⟨h1, by omega, du, fun x => ?_⟩⟩, hu1.1, ?_⟩
      · rw [fm, h]
        constructor
        · rintro ⟨⟨p, q, r⟩, o⟩
          exact ⟨p, mem x ((fm x).mpr ⟨(h x).mpr ⟨p, q, r⟩, o⟩), r⟩
        · rintro ⟨p, q, r⟩
          exact ⟨⟨p, by omega, r⟩, by omega⟩
      · rw [er]
end Sh
set_option Elab.async false
set_option linter.all false
set_option maxRecDepth 100000
set_option maxHeartbeats 4000000
namespace Sh
open PySem PySem.Spec PyProof.Rows L2
/-! ascending lists by their ends -/
theorem last_max : ∀ {ns : List Int} {x : Int}, ns.Pairwise (· < ·) → ns.getLast? = some x → ∀ y, y ∈ ns → y ≤ x
  | [], _, _, h, _, _ => by cases h
  | [z], x, _, h, y, hy => by
    cases h
    rcases List.mem_cons.mp hy with rfl | hy
    · exact Int.le_refl _
    · cases hy
  | z :: w :: ns, x, pw, h, y, hy => by
    rw [List.getLast?_cons_cons] at h
    have pw2 := (List.pairwise_cons.mp pw)
    rcases List.mem_cons.mp hy with rfl | hy
    · have := last_max pw2.2 h w (List.mem_cons_self ..)
      have := pw2.1 w (List.mem_cons_self ..)
      omega
    · exact last_max pw2.2 h y hy
theorem last_in {ns : List Int} {x : Int} (h : ns.getLast? = some x) : x ∈ ns := List.mem_of_getLast? h
theorem last_of {ns : List Int} {z : Int} (pw : ns.Pairwise (· < ·)) (h1 : z ∈ ns) (h2 : ∀ y, y ∈ ns → y ≤ z) : ns.getLast? = some z := by
  cases h : ns.getLast? with
  | none => rw [List.getLast?_eq_none_iff.mp h] at h1; cases h1
  | some x =>
    have := last_max pw h z h1
    have := h2 x (last_in h)
    rw [show x = z by omega]
theorem head_of {ns : List Int} {z : Int} (pw : ns.Pairwise (· < ·)) (h1 : z ∈ ns) (h2 : ∀ y, y ∈ ns → z ≤ y) : ∃ t, ns = z :: t := by
  cases ns with
  | nil => cases h1
  | cons v t =>
    have := h2 v (List.mem_cons_self ..)
    rcases List.mem_cons.mp h1 with rfl | h
    · exact ⟨t, rfl⟩
    · have := (List.pairwise_cons.mp pw).1 z h
      omega
/-! the value of a window -/
end Sh
set_option Elab.async false
set_option linter.all false
set_option maxRecDepth 100000
set_option maxHeartbeats 4000000
namespace Sh
open PySem PySem.Spec PyProof.Rows L2
/-! single or not -/
theorem Sv.form {X : List Int} {a z m : Int} (s : Sv X a z m) : (m = 0 ∧ X = [a]) ∨ (1 ≤ m ∧ ∃ t, X = a :: (a + m) :: t) := by
  obtain ⟨t, rfl⟩ := head_of s.pw s.ha (fun y hy => (s.bd y hy).1)
  have hp := List.pairwise_cons.mp s.pw
  rcases s.h with ⟨h, e⟩ | ⟨h1, h2, h3, h⟩
  · refine .inl ⟨h, ?_⟩
    cases t with
    | nil => rfl
    | cons b t =>
      have := hp.1 b (by simp)
      have := (s.bd b (by simp)).2
      omega
  · refine .inr ⟨h1, ?_⟩
    have hn := s.next
    cases t with
    | nil => have : a + m = a := by simpa using hn
             omega
    | cons b t =>
      have hb := hp.1 b (by simp)
      have hbm : b ∈ a :: b :: t := by simp
      have hd := ((h b).mp hbm).2.2
      have := Int.le_of_dvd (by omega) hd
      have hle : b ≤ a + m := by
        rcases List.mem_cons.mp hn with e | hn
        · omega
        · rcases List.mem_cons.mp hn with e | hn
          · omega
          · have := (List.pairwise_cons.mp hp.2).1 _ hn
            omega
      have : b = a + m := by omega
      subst this
      exact ⟨t, rfl⟩
theorem Sv.last {X : List Int} {a z m : Int} (s : Sv X a z m) : X.getLast? = some z := last_of s.pw s.hz (fun y hy => (s.bd y hy).2)
theorem Sv.one {X : List Int} {a z m : Int} (s : Sv X a z m) : m = 0 ↔ a = z := by
  rcases s.h with ⟨h, e⟩ | ⟨h1, h2, _⟩
  · exact ⟨fun _ => e, fun _ => h⟩
  · exact ⟨fun h => by omega, fun h => by omega⟩
/-! quotients -/
section
variable {X Y : List Int} {a z m c w n : Int} (s : Sv X a z m) (t : Sv Y c w n)
include s t
theorem div_lv (hc : 1 ≤ c) : Lv (resL (fun x y => x.fdiv y) X Y) (a.fdiv c) (fL a c w) (fH z c w) where
  h0 := res_mem.mpr ⟨a, s.ha, c, t.ha, rfl⟩
  hlo := by
    rcases @fL_is a c w with e | e <;> rw [e]
    · exact res_mem.mpr ⟨a, s.ha, c, t.ha, rfl⟩
    · exact res_mem.mpr ⟨a, s.ha, w, t.hz, rfl⟩
  hhi := by
    rcases @fH_is z c w with e | e <;> rw [e]
    · exact res_mem.mpr ⟨z, s.hz, c, t.ha, rfl⟩
    · exact res_mem.mpr ⟨z, s.hz, w, t.hz, rfl⟩
  bd := fun v hv => by
    obtain ⟨x, hx, y, hy, rfl⟩ := res_mem.mp hv
    have h1 := s.bd x hx; have h2 := t.bd y hy
    exact ⟨Int.le_trans (fL_le (by omega) h2.1 h2.2) (fd_mono (by omega) h1.1), Int.le_trans (fd_mono (by omega) h1.2) (fH_ge (by omega) h2.1 h2.2)⟩
theorem div_lvN (hw : w ≤ -1) : Lv (resL (fun x y => x.fdiv y) X Y) (a.fdiv c) (fL (-z) (-w) (-c)) (fH (-a) (-w) (-c)) := by
  have l := div_lv s.neg t.neg (by omega)
  have back : ∀ v, v ∈ resL (fun x y => x.fdiv y) (ngL X) (ngL Y) → v ∈ resL (fun x y => x.fdiv y) X Y := fun v hv => by
    obtain ⟨x, hx, y, hy, rfl⟩ := res_mem.mp hv
    exact res_mem.mpr ⟨-x, ng_mem.mp hx, -y, ng_mem.mp hy, (Int.neg_fdiv_neg x y).symm⟩
  refine ⟨res_mem.mpr ⟨a, s.ha, c, t.ha, rfl⟩, back _ l.hlo, back _ l.hhi, fun v hv => l.bd v ?_⟩
  obtain ⟨x, hx, y, hy, rfl⟩ := res_mem.mp hv
  exact res_mem.mpr ⟨-x, ng_mem.mpr (by rwa [Int.neg_neg]), -y, ng_mem.mpr (by rwa [Int.neg_neg]), (Int.neg_fdiv_neg x y).symm⟩
/-- by one divisor that divides -/
theorem div_r (hn : n = 0) (hc : c ≠ 0) (h : m.fmod c = 0) : restO ((m.fdiv c).natAbs : Int) ((rr a m).fdiv c) = (dL (off (resL (fun x y => x.fdiv y) X Y) (a.fdiv c)), rr (a.fdiv c) (dL (off (resL (fun x y => x.fdiv y) X Y) (a.fdiv c)))) := by
  have em := dvd_q hc (Int.dvd_of_fmod_eq_zero h)
  have sh : ∀ k, (a + m * k).fdiv c = a.fdiv c + m.fdiv c * k := fun k => by
    conv => lhs; rw [em]
    exact fd_shift hc
  have eY : ∀ y, y ∈ Y → y = c := fun y hy => by
    have := t.one.mp hn
    have := t.bd y hy
    omega
  have eg : dL (off (resL (fun x y => x.fdiv y) X Y) (a.fdiv c)) = ((m.fdiv c).natAbs : Int) := by
    refine dL_eq (Int.natCast_nonneg _) (off_dvd.mpr fun v hv => ?_) ?_
    · obtain ⟨x, hx, y, hy, rfl⟩ := res_mem.mp hv
      rw [eY y hy]
      obtain ⟨k, hk⟩ := s.is hx
      rw [show x = a + m * k by omega, sh, show a.fdiv c + m.fdiv c * k - a.fdiv c = m.fdiv c * k by omega]
      exact Int.natAbs_dvd.mpr (Int.dvd_mul_right _ _)
    · have := dL_off (x0 := a.fdiv c) (res_mem.mpr ⟨a + m, s.next, c, t.ha, rfl⟩ : _ ∈ resL (fun x y => x.fdiv y) X Y)
      have s1 := sh 1
      rw [Int.mul_one, Int.mul_one] at s1
      rw [s1, show a.fdiv c + m.fdiv c - a.fdiv c = m.fdiv c by omega] at this
      exact Int.dvd_natAbs.mpr this
  rw [eg]
  refine rest_is (Int.natCast_nonneg _) ?_
  obtain ⟨k, hk⟩ := @rr_dvd a m
  rw [show rr a m = a + m * k by omega, sh, show a.fdiv c + m.fdiv c * k - a.fdiv c = m.fdiv c * k by omega]
  exact Int.natAbs_dvd.mpr (Int.dvd_mul_right _ _)
end
/-- no more than bounds -/
theorem one_vo {lo hi : Int} (h : lo ≤ hi) : ∃ M R, voD (some lo) (some hi) 1 0 = vD (some lo) (some hi) M R ∧ setD (some lo) (some hi) 1 0 = vD (some lo) (some hi) M R ∧ Ok (some lo) (some hi) M R ∧ ∀ x, lo ≤ x → x ≤ hi → inQ lo hi M R x := by
  have f1 : ∀ x : Int, x.fmod 1 = 0 := fun x => by rw [fe (by decide)]; exact Int.emod_one x
  by_cases l : lo = hi
  · subst l
    refine ⟨0, lo, ?_, ?_, okS _, fun x h1 h2 => ⟨h1, h2, fun _ => by omega, fun z => absurd rfl z⟩⟩
    · unfold voD
      rw [if_neg (by decide)]
      show (if dnR 0 1 lo ≤ upR 0 1 lo then (if upR 0 1 lo = dnR 0 1 lo then vD (some (upR 0 1 lo)) (some (upR 0 1 lo)) 0 (upR 0 1 lo) else .non) else _) = _
      rw [up_same (by decide) (f1 _), dn_same (by decide) (f1 _), if_pos (Int.le_refl _), if_pos rfl]
    · unfold setD
      rw [if_neg (by decide)]
      show (if upR 0 1 lo < dnR 0 1 lo then _ else vD (some (upR 0 1 lo)) (some (upR 0 1 lo)) 0 (upR 0 1 lo)) = _
      rw [up_same (by decide) (f1 _), dn_same (by decide) (f1 _), if_neg (by omega)]
  · have k : Ok (some lo) (some hi) 1 0 := ⟨.inr ⟨by decide, by decide, by decide, (fun x e => by cases e; exact f1 _), (fun x e => by cases e; exact f1 _), (fun x y e f => by cases e; cases f; omega)⟩⟩
    exact ⟨1, 0, (vo_ok k).1, (vo_ok k).2, k, fun x h1 h2 => ⟨h1, h2, fun z => absurd z (by decide), fun _ => f1 _⟩⟩
/-- bounds and a rest with an integer in common -/
theorem set_vo {lo hi m r x0 : Int} (hm : 1 ≤ m) (r0 : 0 ≤ r) (r1 : r < m) (h1 : lo ≤ x0) (h2 : x0 ≤ hi) (h3 : x0.fmod m = r) : ∃ M R, voD (some lo) (some hi) m r = vD (some (upR r m lo)) (some (dnR r m hi)) M R ∧ setD (some lo) (some hi) m r = vD (some (upR r m lo)) (some (dnR r m hi)) M R ∧
    Ok (some (upR r m lo)) (some (dnR r m hi)) M R ∧ (∀ x, lo ≤ x → x ≤ hi → x.fmod m = r → inQ (upR r m lo) (dnR r m hi) M R x) ∧ ((M = m ∧ R = r) ∨ (M = 0 ∧ upR r m lo = dnR r m hi ∧ R = upR r m lo)) := by
  have a1 := up_le hm r0 r1 h1 h3
  have a2 := dn_ge hm r0 r1 h2 h3
  have e1 := up_mod (x := lo) hm r0 r1
  have e2 := dn_mod (x := hi) hm r0 r1
  have m0 : ¬ m = 0 := by omega
  have ev : voD (some lo) (some hi) m r = if dnR r m hi ≤ upR r m lo then (if upR r m lo = dnR r m hi then vD (some (upR r m lo)) (some (upR r m lo)) 0 (upR r m lo) else .non) else vD (some (upR r m lo)) (some (dnR r m hi)) m r := by
    unfold voD; rw [if_neg m0]; rfl
  have es : setD (some lo) (some hi) m r = if upR r m lo < dnR r m hi then vD (some (upR r m lo)) (some (dnR r m hi)) m r else vD (some (upR r m lo)) (some (upR r m lo)) 0 (upR r m lo) := by
    unfold setD; rw [if_neg m0]; rfl
  have up : ∀ x, lo ≤ x → x.fmod m = r → upR r m lo ≤ x := fun x => up_le hm r0 r1
  have dn : ∀ x, x ≤ hi → x.fmod m = r → x ≤ dnR r m hi := fun x => dn_ge hm r0 r1
  rw [ev, es]
  generalize upR r m lo = u at *
  generalize dnR r m hi = v at *
  by_cases l : u < v
  · rw [if_neg (by omega), if_pos l]
    exact ⟨m, r, rfl, rfl, ⟨.inr ⟨hm, r0, r1, (fun x e => by cases e; exact e1), (fun x e => by cases e; exact e2), (fun x y e f => by cases e; cases f; exact l)⟩⟩, fun x h1 h2 h3 => ⟨up x h1 h3, dn x h2 h3, fun z => absurd z m0, fun _ => h3⟩, .inl ⟨rfl, rfl⟩⟩
  · have e : u = v := by omega
    subst e
    rw [if_pos (Int.le_refl _), if_pos rfl, if_neg l]
    exact ⟨0, u, rfl, rfl, okS u, fun x h1 h2 h3 => ⟨up x h1 h3, dn x h2 h3, fun _ => by have := up x h1 h3; have := dn x h2 h3; omega, fun z => absurd rfl z⟩, .inr ⟨rfl, rfl, rfl⟩⟩
/-! remainders -/
def remI (a z c w : Int) : Int × Int := if w = c ∧ a.fdiv c = z.fdiv c then (a.fmod c, z.fmod c) else if 0 ≤ a ∧ z < c then (a, z) else if 0 ≤ a then (0, if z < w - 1 then z else w - 1) else (0, w - 1)
theorem rem_is {a z c w : Int} : remB (some a) (some z) c (some w) = (some (remI a z c w).1, some (remI a z c w).2) := by
  unfold remB remI
  dsimp only
  by_cases h : w = c ∧ a.fdiv c = z.fdiv c
  · rw [if_pos ⟨by rw [h.1], h.2⟩, if_pos h]
  · rw [if_neg (fun q => h ⟨Option.some.inj q.1, q.2⟩), if_neg h]
    split
    · rfl
    · split <;> rfl
theorem mod_g {m n c : Int} : g3 m n (rr c n) = g3 m n c := by
  obtain ⟨k, hk⟩ := @rr_dvd c n
  refine eq_of_dvd (Int.natCast_nonneg _) (Int.natCast_nonneg _) ?_ ?_
  · obtain ⟨d1, d2, d3⟩ := g3_dvd'.mp (Int.dvd_refl (g3 m n (rr c n)))
    refine g3_dvd'.mpr ⟨d1, d2, ?_⟩
    have := Int.dvd_sub d3 (Int.dvd_trans d2 (Int.dvd_mul_right n k))
    rwa [show rr c n - n * k = c by omega] at this
  · obtain ⟨d1, d2, d3⟩ := g3_dvd'.mp (Int.dvd_refl (g3 m n c))
    refine g3_dvd'.mpr ⟨d1, d2, ?_⟩
    have := Int.dvd_add d3 (Int.dvd_trans d2 (Int.dvd_mul_right n k))
    rwa [show c + n * k = rr c n by omega] at this
section
variable {X Y : List Int} {a z m c w n : Int} (s : Sv X a z m) (t : Sv Y c w n)
include s t
theorem gcd_pos (hc : c ≠ 0) : 1 ≤ g3 m n c := by
  have := g3_nn m n c
  by_cases h : g3 m n c = 0
  · exact absurd (g3_zero h).2.2 hc
  · omega
theorem mod_d2 {x y : Int} (hx : x ∈ X) (hy : y ∈ Y) : g3 m n c ∣ x.fmod y - a := by
  obtain ⟨d1, d2, d3⟩ := g3_dvd'.mp (Int.dvd_refl (g3 m n c))
  have e1 := Int.dvd_trans d1 (s.is hx)
  have e2 := Int.dvd_add (Int.dvd_trans d2 (t.is hy)) d3
  rw [show y - c + c = y by omega] at e2
  rw [Int.fmod_def, show x - y * x.fdiv y - a = (x - a) - y * x.fdiv y by omega]
  exact Int.dvd_sub e1 (Int.dvd_trans e2 (Int.dvd_mul_right _ _))
theorem mod_bd {x y : Int} (hc : 1 ≤ c) (hx : x ∈ X) (hy : y ∈ Y) : (remI a z c w).1 ≤ x.fmod y ∧ x.fmod y ≤ (remI a z c w).2 := by
  have h1 := s.bd x hx; have h2 := t.bd y hy
  have := rem_in (a := some a) (b := some z) (q := some w) (p := c) (n := x) (m := y) hc h2.1 (fun y' e => by cases e; exact h2.2) (by simp [insB]; exact h1)
  rw [rem_is] at this
  simpa [insB] using this
/-- divisors above 0 -/
theorem mod_pos (hc : 1 ≤ c) (nb : ¬ (m = 0 ∧ n = 0)) : ∃ A B M R, voD (some (remI a z c w).1) (some (remI a z c w).2) (g3 m n c) (a.fmod (g3 m n c)) = vD (some A) (some B) M R ∧ setD (some (remI a z c w).1) (some (remI a z c w).2) (g3 m n c) (a.fmod (g3 m n c)) = vD (some A) (some B) M R ∧
    Ok (some A) (some B) M R ∧ (∀ v, v ∈ resL (fun x y => x.fmod y) X Y → inQ A B M R v) ∧ M ≤ g3 m n c := by
  have gp := gcd_pos s t (by omega)
  have b := fm_r (x := a) (m := g3 m n c) (by omega)
  have k := mod_bd s t hc s.ha t.ha
  have d := fun {x y : Int} (hx : x ∈ X) (hy : y ∈ Y) => mod_eq gp (mod_d2 s t hx hy)
  obtain ⟨M, R, h1, h2, h3, h4, h5⟩ := set_vo gp b.1 b.2 k.1 k.2 (d s.ha t.ha)
  refine ⟨_, _, M, R, h1, h2, h3, fun v hv => ?_, by rcases h5 with ⟨e, _⟩ | ⟨e, _⟩ <;> omega⟩
  obtain ⟨x, hx, y, hy, rfl⟩ := res_mem.mp hv
  have k := mod_bd s t hc hx hy
  exact h4 _ k.1 k.2 (d hx hy)
end
theorem turn_up {R R' m y : Int} (hm : 1 ≤ m) (h : m ∣ R + R') : upR R m (-y) = -dnR R' m y := by
  unfold upR dnR
  have : (R - -y).fmod m = (y - R').fmod m := mod_eq hm (by rwa [show R - -y - (y - R') = R + R' by omega])
  rw [this]; omega
theorem turn_dn {R R' m y : Int} (hm : 1 ≤ m) (h : m ∣ R + R') : dnR R m (-y) = -upR R' m y := by
  unfold upR dnR
  have : (-y - R).fmod m = (R' - y).fmod m := mod_eq hm (by
    have := Int.dvd_neg.mpr h
    rwa [show -(R + R') = -y - R - (R' - y) by omega] at this)
  rw [this]; omega
def turnR (m r : Int) : Int := if m > 0 then (0 - r).fmod m else 0 - r
section
variable {X Y : List Int} {a z m c w n : Int} (s : Sv X a z m) (t : Sv Y c w n)
include s t
theorem g3_neg : g3 m n (-w) = g3 m n c := by
  obtain ⟨k, hk⟩ := t.is t.hz
  refine eq_of_dvd (Int.natCast_nonneg _) (Int.natCast_nonneg _) ?_ ?_
  · obtain ⟨d1, d2, d3⟩ := g3_dvd'.mp (Int.dvd_refl (g3 m n (-w)))
    refine g3_dvd'.mpr ⟨d1, d2, ?_⟩
    have := Int.dvd_sub (Int.dvd_neg.mpr d3) (Int.dvd_trans d2 (Int.dvd_mul_right n k))
    rwa [show - -w - n * k = c by omega] at this
  · obtain ⟨d1, d2, d3⟩ := g3_dvd'.mp (Int.dvd_refl (g3 m n c))
    refine g3_dvd'.mpr ⟨d1, d2, ?_⟩
    have := Int.dvd_neg.mpr (Int.dvd_add d3 (Int.dvd_trans d2 (Int.dvd_mul_right n k)))
    rwa [show -(c + n * k) = -w by omega] at this
/-- divisors below 0 -/
theorem mod_neg (hw : w ≤ -1) (nb : ¬ (m = 0 ∧ n = 0)) : ∃ A B M R, setD (some (remI (-z) (-a) (-w) (-c)).1) (some (remI (-z) (-a) (-w) (-c)).2) (g3 m n (-w)) ((-z).fmod (g3 m n (-w))) = vD (some A) (some B) M R ∧
    voD (some (-(remI (-z) (-a) (-w) (-c)).2)) (some (-(remI (-z) (-a) (-w) (-c)).1)) (g3 m n c) (a.fmod (g3 m n c)) = vD (some (0 - B)) (some (0 - A)) M (turnR M R) ∧
    Ok (some (0 - B)) (some (0 - A)) M (turnR M R) ∧ (∀ v, v ∈ resL (fun x y => x.fmod y) X Y → inQ (0 - B) (0 - A) M (turnR M R) v) ∧ M ≤ g3 m n c := by
  have eg := g3_neg s t
  have gp := gcd_pos s t (by have := t.bd c t.ha; omega)
  have fn : ∀ x y : Int, (-x).fmod (-y) = -(x.fmod y) := fun x y => Int.neg_fmod_neg x y
  rw [eg]
  have b := fm_r (x := -z) (m := g3 m n c) (by omega)
  have b' := fm_r (x := a) (m := g3 m n c) (by omega)
  have hza : g3 m n c ∣ z - a := Int.dvd_trans (g3_dvd'.mp (Int.dvd_refl (g3 m n c))).1 (s.is s.hz)
  have hRR : g3 m n c ∣ a.fmod (g3 m n c) + (-z).fmod (g3 m n c) := by
    have d1 := @dvd_mod a (g3 m n c)
    have d2 := @dvd_mod (-z) (g3 m n c)
    have := Int.dvd_neg.mpr (Int.dvd_add (Int.dvd_add d1 d2) hza)
    rwa [show -(a - a.fmod (g3 m n c) + (-z - (-z).fmod (g3 m n c)) + (z - a)) = a.fmod (g3 m n c) + (-z).fmod (g3 m n c) by omega] at this
  have nd := fun {x y : Int} (hx : x ∈ X) (hy : y ∈ Y) => mod_d2 s.neg t.neg (ng_mem.mpr (show - -x ∈ X by rwa [Int.neg_neg])) (ng_mem.mpr (show - -y ∈ Y by rwa [Int.neg_neg]))
  rw [eg] at nd
  have nbd := fun {x y : Int} (hx : x ∈ X) (hy : y ∈ Y) => mod_bd s.neg t.neg (by omega) (ng_mem.mpr (show - -x ∈ X by rwa [Int.neg_neg])) (ng_mem.mpr (show - -y ∈ Y by rwa [Int.neg_neg]))
  obtain ⟨M, R, h1, h2, h3, h4, h5⟩ := set_vo gp b.1 b.2 (nbd s.ha t.ha).1 (nbd s.ha t.ha).2 (mod_eq gp (nd s.ha t.ha))
  have k0 := nbd s.ha t.ha
  rw [fn] at k0
  have d' := fun {x y : Int} (hx : x ∈ X) (hy : y ∈ Y) => mod_eq gp (mod_d2 s t hx hy)
  obtain ⟨M', R', i1, i2, i3, i4, i5⟩ := set_vo (lo := -(remI (-z) (-a) (-w) (-c)).2) (hi := -(remI (-z) (-a) (-w) (-c)).1) gp b'.1 b'.2 (x0 := a.fmod c) (by omega) (by omega) (d' s.ha t.ha)
  rw [turn_up gp hRR, turn_dn gp hRR] at i1 i3 i4 i5
  have hM : M ≤ g3 m n c := by rcases h5 with ⟨e, _⟩ | ⟨e, _⟩ <;> omega
  have same : M' = M ∧ R' = turnR M R := by
    have e3 := h3.h
    have f3 := i3.h
    rcases h5 with ⟨rfl, rfl⟩ | ⟨rfl, q, rfl⟩
    · rcases i5 with ⟨rfl, rfl⟩ | ⟨rfl, q', rfl⟩
      · refine ⟨rfl, ?_⟩
        unfold turnR
        rw [if_pos (by omega), ← Int.emod_eq_of_lt b'.1 b'.2, ← fe gp]
        exact mod_eq gp (by rwa [show a.fmod (g3 m n c) - (0 - (-z).fmod (g3 m n c)) = a.fmod (g3 m n c) + (-z).fmod (g3 m n c) by omega])
      · exfalso
        rcases e3 with ⟨e, _⟩ | ⟨_, _, _, _, _, lt⟩
        · omega
        · have := lt _ _ rfl rfl; omega
    · rcases i5 with ⟨rfl, rfl⟩ | ⟨rfl, q', rfl⟩
      · exfalso
        rcases f3 with ⟨e, _⟩ | ⟨_, _, _, _, _, lt⟩
        · omega
        · have := lt _ _ rfl rfl; omega
      · refine ⟨rfl, ?_⟩
        unfold turnR
        rw [if_neg (by decide)]; omega
  obtain ⟨rfl, rfl⟩ := same
  refine ⟨_, _, M', R, h2, ?_, ?_, fun v hv => ?_, hM⟩
  · rw [i1, Int.zero_sub, Int.zero_sub]
  · rw [Int.zero_sub, Int.zero_sub]; exact i3
  · obtain ⟨x, hx, y, hy, rfl⟩ := res_mem.mp hv
    have k := nbd hx hy
    rw [fn] at k
    rw [Int.zero_sub, Int.zero_sub]
    exact i4 _ (by omega) (by omega) (d' hx hy)
end
end Sh
set_option Elab.async false
set_option linter.all false
set_option maxRecDepth 100000
set_option maxHeartbeats 4000000
namespace Sh
open PySem PySem.Spec PyProof.Rows L2
def topS (i : Nat) : Stmt := PySem.Challenge.pw_shadowruns_k33_results_with_open_ends.main.body.getD i (.Pass ⟨0, 0, 0, 0⟩)
abbrev sBox : Stmt := topS 52
abbrev sTake : Stmt := topS 53
abbrev sCells : Stmt := topS 54
abbrev sOf : Stmt := topS 55
theorem scBox : FnScope ["_law_script", "_law_k", "_law_cell"] ["_law_script", "_law_k"] (defScope sBox) := ⟨rfl, rfl, rfl, by decide +kernel, rfl, by decide +kernel, by decide +kernel⟩
theorem scTake : FnScope ["_law_box_here", "_law_below", "_law_found", "_law_once", "_law_twice"] ["_law_box_here", "_law_below"] (defScope sTake) := ⟨rfl, rfl, rfl, by decide +kernel, rfl, by decide +kernel, by decide +kernel⟩
theorem scCells : FnScope ["_law_script", "_law_most", "_law_cells_here", "_law_k", "_law_cell"] ["_law_script", "_law_most"] (defScope sCells) := ⟨rfl, rfl, rfl, by decide +kernel, rfl, by decide +kernel, by decide +kernel⟩
/-! numbers -/
theorem fm0 {a b : Int} (h : 0 < b) : 0 ≤ a.fmod b := Int.fmod_nonneg_of_pos a h
theorem fm1 {a b : Int} (h : 0 < b) : a.fmod b < b := Int.fmod_lt_of_pos a h
theorem fd0 {a b : Int} (h : 0 ≤ a) (hb : 0 ≤ b) : 0 ≤ a.fdiv b := Int.fdiv_nonneg h hb
theorem fdle {a b : Int} (h : 0 ≤ a) (hb : 0 < b) : a.fdiv b ≤ a := by
  rw [Int.fdiv_eq_ediv_of_nonneg _ (by omega)]
  exact Int.ediv_le_self b h
theorem b01 (c : Bool) : (if c = true then (1 : Int) else 0) = 0 ∨ (if c = true then (1 : Int) else 0) = 1 := by cases c <;> simp
theorem b01s (c : Bool) : -(2 ^ 64) < (if c = true then (1 : Int) else 0) ∧ (if c = true then (1 : Int) else 0) < 2 ^ 64 := by cases c <;> decide
theorem nz (k : Int) (h : decide (k = 0) = false := by decide) : k ≠ 0 := of_decide_eq_false h
theorem But.of {b : Addr} {H H' : Hp} (h : Same H H') : But b H H' := fun a o _ e => h a o e
theorem But.refl {b : Addr} {H : Hp} : But b H H := fun _ _ _ e => e
theorem But.trans {b : Addr} {H H1 H2 : Hp} (x : But b H H1) (y : But b H1 H2) : But b H H2 := fun a o n e => y a o n (x a o n e)
section
variable {P : Program} {w : World} {K : PySem.W.Frag} {mg : Str → Option Value} {base : Heap}
/-! ### _law_box -/
def spBox (K : PySem.W.Frag) : Sp := fun vs H Q _ => ∃ (a : Addr) (ns : List Int) (k : Int), vs = [.ref a, .int k] ∧ SqL K H a (ns.map V.int) ∧ ns.length ≤ 1000 ∧ 0 ≤ k ∧ k ≤ 1000 ∧
  ∀ p x y, H p = none → 0 ≤ x → 0 ≤ y → y < 4611686018427387904 → Q (.ref p) (upd H p (.lst [.int x, .int y, .int 0]))
/-- what is left behind the cell z -/
theorem box_tail {H : Hp} {Q : VK} {k z : Int} (hq : ∀ p x y, H p = none → 0 ≤ x → 0 ≤ y → y < 4611686018427387904 → Q (.ref p) (upd H p (.lst [.int x, .int y, .int 0]))) (k0 : 0 ≤ k) (k1 : k ≤ 1000)
    {p : Addr} (hp : H p = none) (j : Int) (hj : j = 0 ∨ j = 1) : Q (.ref p) (upd H p (.lst [.int ((if z < 0 then -z else z) * j), .int (z.fmod 2305843009213693951 + 39373 * k + 71), .int 0])) := by
  have e0 : (0 : Int) ≤ z.fmod 2305843009213693951 := fm0 (by decide)
  have e1 : z.fmod 2305843009213693951 < 2305843009213693951 := fm1 (by decide)
  refine hq p _ _ hp ?_ (by omega) (by omega)
  have a0 : 0 ≤ (if z < 0 then -z else z) := by split <;> omega
  rcases hj with rfl | rfl
  · rw [Int.mul_zero] <;> decide
  · rw [Int.mul_one]; exact a0
theorem ok_box {f : Addr} {fd : FuncData} {n : Nat} (F : Fun K "_law_box" "_law_box" sBox f fd) (ml : mg "len" = none) (ma : mg "abs" = none) (mi : mg "int" = none) : FnOk P w K mg base CX0 (n + 1) f fd ["_law_script", "_law_k"] (spBox K) := by
  refine F.ok scBox (fun vs H Q E h => ?_) (fun cdv A outer s H vs Q E hr h => ?_)
  · obtain ⟨a, ns, k, rfl, _⟩ := h
    rfl
  obtain ⟨a, ns, k, rfl, hS, hlen, k0, k1, q⟩ := h
  refine ⟨_, pss_cons (ps_set (i := 2) scBox.nd rfl (Or.inl rfl) (pe_ifExp (pt_cmpR op_lt (pv 1) (pe_callB call_len_seq rfl ml PySem.boot_len (pa_cons (pv 0) pa_nil)) (nomark _)) (pe_ix ix_list (pv 0) (pv 1) (fun _ _ => rfl)) pe_int))
    (pss_one (ps_ret (pe_lst (pa_cons (pe_op op_mul (pe_callB call_abs rfl ma (by decide +kernel) (pa_cons (pv 2) pa_nil)) (pe_callTy call_int1 rfl mi (by decide +kernel) (pa_cons (pe_cmpR op_ge (pe_callB call_abs rfl ma (by decide +kernel) (pa_cons (pv 2) pa_nil)) (pe_op op_pow pe_int pe_int) (nomark _)) pa_nil)))
      (pa_cons (pe_op op_add (pe_op op_add (pe_op op_modN (pv 2) pe_int) (pe_op op_mul pe_int (pv 1))) pe_int) (pa_cons pe_int pa_nil)))))), ?_⟩
  have hl : (ns.map V.int).length = ns.length := List.length_map _
  refine ⟨_, rfl, _, rfl, a, _, rfl, .inl hS, _, _, rfl, rfl, _, rfl, ?_⟩
  have hr64 : (0 : Int) < 2305843009213693951 := by decide
  refine ite2 (fun c => ?_) (fun c => ?_)
  have c' : k < (((ns.map V.int).length : Nat) : Int) := of_decide_eq_true c
  rw [hl] at c'
  have hk : k.toNat < ns.length := by omega
  have ek : k = ((k.toNat : Nat) : Int) := by omega
  have g : atI (ns.map V.int) k = some (.int ns[k.toNat]) := at_of ek (by rw [List.getElem?_map, List.getElem?_eq_getElem hk] <;> rfl)
  refine ⟨_, rfl, _, rfl, a, _, _, _, rfl, rfl, hS, g, ?_⟩
  generalize ns[k.toNat] = z
  all_goals
    refine ⟨_, rfl, _, rfl, _, rfl, _, rfl, _, _, rfl, rfl, ⟨by decide, by decide, by decide⟩, _, _, rfl, rfl, .inr ⟨_, rfl, _, _, rfl, rfl, .inr (b01s _), ?_⟩⟩
    refine ⟨_, rfl, _, _, rfl, rfl, (nz _), _, rfl, _, _, rfl, rfl, .inl ⟨by decide, by decide⟩, _, _, rfl, rfl, _, _, rfl, rfl, (by show 3 ≤ sizeLine; decide), fun p hp => ?_⟩
    exact box_tail q k0 k1 hp _ (b01 _)
/-! ### _law_take -/
def spTake : Sp := fun vs H Q _ => ∃ (b : Addr) (m y c : Int), vs = [.ref b, .int m] ∧ Bx H b y c ∧ 0 ≤ c ∧ c < 1000000000000 ∧ 1 ≤ m ∧ m ≤ 10000000 ∧
  ∀ v c' H', 0 ≤ v → v < m → c ≤ c' → c' ≤ c + 1 → Bx H' b y c' → But b H H' → Q (.int v) H'
theorem bx_up {H : Hp} {b : Addr} {x y c : Int} {xs : List V} (e : xs = [.int x, .int y, .int c]) (h : 0 ≤ x) (h1 : 0 ≤ y) (h2 : y < 4611686018427387904) : Bx (upd H b (.lst xs)) b y c := ⟨x, by rw [e, upd_same], h, h1, h2⟩
theorem tw_ok {o c y : Int} (c0 : 0 ≤ c) (c1 : c < 1000000000000) (y0 : 0 ≤ y) (y1 : y < 4611686018427387904) : -(2 ^ 64) < o.fmod 2147483647 + (c + 1) + y.fdiv 1000003 ∧ o.fmod 2147483647 + (c + 1) + y.fdiv 1000003 < 2 ^ 64 := by
  have h0 : (0 : Int) ≤ o.fmod 2147483647 := fm0 (by decide)
  have h1 : o.fmod 2147483647 < 2147483647 := fm1 (by decide)
  have h2 : 0 ≤ y.fdiv 1000003 := fd0 y0 (by decide)
  have h3 : y.fdiv 1000003 ≤ y := fdle y0 (by decide)
  refine ⟨?_, ?_⟩ <;> omega
theorem tw_ok2 {o : Int} : -(2 ^ 64) < o.fmod 2147483629 ∧ o.fmod 2147483629 < 2 ^ 64 := by
  have h0 : (0 : Int) ≤ o.fmod 2147483629 := fm0 (by decide)
  have h1 : o.fmod 2147483629 < 2147483629 := fm1 (by decide)
  refine ⟨?_, ?_⟩ <;> omega
theorem ok_take {f : Addr} {fd : FuncData} {n : Nat} (F : Fun K "_law_take" "_law_take" sTake f fd) : FnOk P w K mg base CX0 (n + 1) f fd ["_law_box_here", "_law_below"] spTake := by
  refine F.ok scTake (fun vs H Q E h => ?_) (fun cdv A outer s H vs Q E hr h => ?_)
  · obtain ⟨b, m, y, c, rfl, _⟩ := h
    rfl
  obtain ⟨b, m, y, c, rfl, ⟨x, hB, x0, y0, y1⟩, c0, c1, m0, m1, q⟩ := h
  refine ⟨_, pss_cons (ps_if (pt_cmpR op_gt (pe_ix ix_list (pv 0) pe_int (fun _ _ => rfl)) pe_int (nomark _))
      (pss_cons (ps_set (i := 2) scTake.nd rfl (Or.inl rfl) (pe_op op_modN (pe_ix ix_list (pv 0) pe_int (fun _ _ => rfl)) (pv 1)))
      (pss_cons (ps_asg (pe_op op_fdivN (pe_ix ix_list (pv 0) pe_int (fun _ _ => rfl)) (pv 1)) (pg_sub (pv 0) pe_int set_list))
      (pss_one (ps_ret (pv 2))))) pss_nil)
    (pss_cons (ps_if (pt_cmpR op_gt (pv 1) (pe_op op_pow pe_int pe_int) (nomark _)) pss_never pss_nil)
    (pss_cons (ps_asg (pe_op op_add (pe_ix ix_list (pv 0) pe_int (fun _ _ => rfl)) pe_int) (pg_sub (pv 0) pe_int set_list))
    (pss_cons (ps_set (i := 3) scTake.nd rfl (Or.inl rfl) (pe_op op_modN (pe_op op_mul (pe_op op_add (pe_ix ix_list (pv 0) pe_int (fun _ _ => rfl)) (pe_op op_mul pe_int (pe_ix ix_list (pv 0) pe_int (fun _ _ => rfl)))) (pe_op op_add pe_int (pe_ix ix_list (pv 0) pe_int (fun _ _ => rfl)))) pe_int))
    (pss_cons (ps_set (i := 4) scTake.nd rfl (Or.inl rfl) (pe_op op_modN (pe_op op_mul (pe_op op_add (pe_op op_add (pv 3) (pe_ix ix_list (pv 0) pe_int (fun _ _ => rfl))) (pe_op op_fdivN (pe_ix ix_list (pv 0) pe_int (fun _ _ => rfl)) pe_int)) (pe_op op_add (pe_op op_modN (pv 3) pe_int) pe_int)) pe_int))
    (pss_one (ps_ret (pe_op op_modN (pe_op op_fdivN (pe_op op_modN (pe_op op_add (pe_op op_mul (pv 4) pe_int) (pv 3)) pe_int) pe_int) (pv 1)))))))), ?_⟩
  refine ⟨_, rfl, b, _, _, _, rfl, rfl, SqL.of hB, at_of (j := 0) rfl rfl, _, _, rfl, rfl, _, rfl, ?_⟩
  refine ite2 (fun t => ?_) (fun t => ?_)
  · have t' : x > 0 := of_decide_eq_true t
    refine ⟨_, rfl, b, _, _, _, rfl, rfl, SqL.of hB, at_of (j := 0) rfl rfl, _, rfl, _, _, rfl, rfl, (by omega), ?_⟩
    refine ⟨_, rfl, b, _, _, _, rfl, rfl, SqL.of hB, at_of (j := 0) rfl rfl, _, rfl, _, _, rfl, rfl, ⟨by omega, by omega⟩, ?_⟩
    refine ⟨_, rfl, b, _, _, 0, rfl, rfl, hB, rfl, _, rfl, ?_⟩
    exact q _ c _ (fm0 (by omega)) (fm1 (by omega)) (by omega) (by omega) (bx_up rfl (fd0 x0 (by omega)) y0 y1) but_upd
  · refine ⟨_, rfl, _, _, rfl, rfl, ⟨by decide, by decide, by decide⟩, _, _, rfl, rfl, _, rfl, ?_⟩
    refine ite2 (fun t2 => ?_) (fun t2 => ?_)
    · exfalso
      have t3 : m > 10 ^ 7 := of_decide_eq_true t2
      have t4 : (10 : Int) ^ 7 = 10000000 := by decide
      omega
    · have hB1 : (upd H b (.lst [.int x, .int y, .int (c + 1)])) b = some (.lst [.int x, .int y, .int (c + 1)]) := upd_same
      refine ⟨_, rfl, b, _, _, _, rfl, rfl, SqL.of hB, at_of (j := 2) rfl rfl, _, _, rfl, rfl, _, rfl, b, _, _, 2, rfl, rfl, hB, rfl, ?_⟩
      refine ⟨_, rfl, b, _, _, _, rfl, rfl, SqL.of hB1, at_of (j := 1) rfl rfl, _, rfl, b, _, _, _, rfl, rfl, SqL.of hB1, at_of (j := 2) rfl rfl, _, _, rfl, rfl, .inl ⟨by decide, by decide⟩, _, _, rfl, rfl,
        _, rfl, b, _, _, _, rfl, rfl, SqL.of hB1, at_of (j := 2) rfl rfl, _, _, rfl, rfl, _, _, rfl, rfl, .inl ⟨by omega, by omega⟩, _, _, rfl, rfl, (nz _), ?_⟩
      refine ⟨_, rfl, _, rfl, b, _, _, _, rfl, rfl, SqL.of hB1, at_of (j := 2) rfl rfl, _, _, rfl, rfl, _, rfl, b, _, _, _, rfl, rfl, SqL.of hB1, at_of (j := 1) rfl rfl, _, _, rfl, rfl, ⟨by decide, by decide⟩, _, _, rfl, rfl,
        _, rfl, _, _, rfl, rfl, (nz _), _, _, rfl, rfl, _, _, rfl, rfl, .inl (tw_ok c0 c1 y0 y1), _, _, rfl, rfl, (nz _), ?_⟩
      refine ⟨_, rfl, _, _, rfl, rfl, .inl tw_ok2, _, rfl, _, _, rfl, rfl, _, _, rfl, rfl, (nz _), _, _, rfl, rfl, ⟨by decide, by decide⟩, _, rfl, _, _, rfl, rfl, (by omega), ?_⟩
      exact q _ (c + 1) _ (fm0 (by omega)) (fm1 (by omega)) (by omega) (by omega) (bx_up rfl x0 y0 y1) but_upd
/-! ### _law_of -/
theorem But.seq {b a : Addr} {H H' : Hp} {xs : List V} (e : But b H H') (n : a ≠ b) (h : SqL K H a xs) : SqL K H' a xs := by
  rcases h with (h | ⟨o, h⟩) | h
  · exact .inl (.inl (e _ _ n h))
  · exact .inl (.inr ⟨o, e _ _ n h⟩)
  · exact .inr h
/-! ### _law_cells -/
theorem fm_nat (i m : Nat) : (i : Int).fmod (m : Int) = ((i % m : Nat) : Int) := by
  rw [Int.fmod_eq_emod_of_nonneg _ (Int.natCast_nonneg m)]; exact (Int.natCast_emod i m).symm
theorem cut_to (ns : List Int) (m : Nat) : cutV (ns.map V.int) none (some (m : Int)) = (ns.take m).map V.int := by
  unfold cutV
  rw [HT.sIx_none, HT.sIx_nat, List.length_map, List.drop_zero, Nat.sub_zero, List.map_take]
  by_cases h : m ≤ ns.length
  · rw [Nat.min_eq_left h]
  · rw [Nat.min_eq_right (by omega), List.take_of_length_le (by rw [List.length_map]; exact Nat.le_refl _), List.take_of_length_le (by rw [List.length_map]; omega)]
theorem cut_from (ns : List Int) (m : Nat) (h : ns.length ≤ 63) : cutV (ns.map V.int) (some (m : Int)) (some 63) = (ns.drop m).map V.int := by
  unfold cutV
  have e63 : HT.sIx (ns.map V.int).length (ns.map V.int).length (some 63) = min 63 (ns.map V.int).length := HT.sIx_nat _ _ 63
  rw [HT.sIx_nat, e63, List.length_map, Nat.min_eq_right h, List.map_drop]
  by_cases hm : m ≤ ns.length
  · rw [Nat.min_eq_left hm, List.take_of_length_le (by rw [List.length_drop, List.length_map]; exact Nat.le_refl _)]
  · rw [Nat.min_eq_right (by omega), List.drop_eq_nil_of_le (by rw [List.length_map]; exact Nat.le_refl _), List.drop_eq_nil_of_le (by rw [List.length_map]; omega), List.take_nil]
def cells0 (ns : List Int) (m : Nat) : List Int := if ns.take m = [] then [0] else ns.take m
theorem cells0_pos {ns : List Int} {m : Nat} : 1 ≤ (cells0 ns m).length := by
  unfold cells0
  split
  · exact Nat.le_refl _
  · rename_i h
    exact List.length_pos_iff.mpr h
theorem cells0_le {ns : List Int} {m : Nat} (hm : 1 ≤ m) : (cells0 ns m).length ≤ m := by
  unfold cells0
  split
  · exact hm
  · rw [List.length_take]; omega
theorem cells0_full {ns : List Int} {m : Nat} (hm : 1 ≤ m) (h : m ≤ ns.length) : (cells0 ns m).length = m := by
  unfold cells0
  have e : (ns.take m).length = m := by rw [List.length_take]; omega
  rw [if_neg (fun z => by rw [z] at e; simp at e; omega), e]
def spCells (K : PySem.W.Frag) : Sp := fun vs H Q _ => ∃ (a : Addr) (ns : List Int) (m : Nat), vs = [.ref a, .int (m : Int)] ∧ SqL K H a (ns.map V.int) ∧ ns.length ≤ 63 ∧ 1 ≤ m ∧ m ≤ 63 ∧
  ∀ p (ms : List Int) H', H p = none → Same H H' → H' p = some (.lst (ms.map V.int)) → 1 ≤ ms.length → ms.length ≤ m → Q (.ref p) H'
theorem ok_cells {f : Addr} {fd : FuncData} {n : Nat} (F : Fun K "_law_cells" "_law_cells" sCells f fd) (ml : mg "list" = none) (me : mg "enumerate" = none) : FnOk P w K mg base CX0 (n + 1) f fd ["_law_script", "_law_most"] (spCells K) := by
  refine F.ok scCells (fun vs H Q E h => ?_) (fun cdv A outer s H vs Q E hr h => ?_)
  · obtain ⟨a, ns, m, rfl, _⟩ := h
    rfl
  obtain ⟨a, ns, m, rfl, hS, hn, m1, m2, q⟩ := h
  refine ⟨_, pss_cons (ps_set (i := 2) scCells.nd rfl (Or.inl rfl) (pe_orT (pe_callTy call_list_of rfl ml (by decide +kernel) (pa_cons (pe_slice sl_list (pv 0) po_none (po_some (pv 1))) pa_nil)) (pe_one (pe_lst (pa_cons pe_int pa_nil)))))
    (pss_cons (ps_for PassesOwn.never rfl (pi_enum rfl me (pa_cons (pe_slice sl_list (pv 0) (po_some (pv 1)) (po_some pe_int)) pa_nil)) (pg_tup rfl (pgs_cons (pg_name (i := 3) scCells.nd rfl (Or.inl rfl)) (pgs_cons (pg_name (i := 4) scCells.nd rfl (Or.inl rfl)) pgs_nil)))
      (pss_one (ps_asg (pe_op op_add (pe_ix ix_list (pv 2) (pe_op op_modN (pv 3) (pv 1)) (fun _ _ => rfl)) (pe_op op_mul (pv 4) (pe_op op_add (pv 3) pe_int))) (pg_sub (pv 2) (pe_op op_modN (pv 3) (pv 1)) set_list))))
    (pss_one (ps_ret (pv 2)))), ?_⟩
  refine ⟨_, rfl, _, rfl, _, rfl, a, _, rfl, hS, fun c nc => ?_⟩
  rw [cut_to]
  refine ⟨c, _, rfl, .inl (SqL.of upd_same), fun l nl => ?_⟩
  have sc1 : Same H (upd H c (.lst ((ns.take m).map V.int))) := same_up nc
  have sl1 := sc1.trans (same_up (o := .lst ((ns.take m).map V.int)) nl)
  have nl0 : H l = none := sc1.free nl
  refine ⟨_, .inl ⟨_, SqL.of upd_same, rfl⟩, ?_⟩
  refine ite2 (fun t => ?_) (fun t => ?_)
  rotate_left
  have et : ns.take m = [] := by
    cases e : ns.take m with
    | nil => rfl
    | cons z r => rw [e] at t; exact absurd rfl t
  refine ⟨by show 1 ≤ sizeLine; decide, fun p np => ?_⟩
  have nl0 : H p = none := sl1.free np
  have sl1 := sl1.trans (same_up (o := .lst [.int 0]) np)
  have hp : (upd (upd (upd H c (.lst ((ns.take m).map V.int))) l (.lst ((ns.take m).map V.int))) p (.lst [.int 0])) p = some (.lst ((cells0 ns m).map V.int)) := by rw [upd_same, cells0, if_pos et]; rfl
  generalize upd (upd (upd H c (.lst ((ns.take m).map V.int))) l (.lst ((ns.take m).map V.int))) p (.lst [.int 0]) = H1 at hp sl1 ⊢
  rotate_left
  have et : ns.take m ≠ [] := fun e => by
    rw [e] at t
    exact absurd t (by decide)
  have hp : (upd (upd H c (.lst ((ns.take m).map V.int))) l (.lst ((ns.take m).map V.int))) l = some (.lst ((cells0 ns m).map V.int)) := by rw [upd_same, cells0, if_neg et]
  generalize upd (upd H c (.lst ((ns.take m).map V.int))) l (.lst ((ns.take m).map V.int)) = H1 at hp sl1 ⊢
  obtain ⟨p, ep⟩ : ∃ p, p = l := ⟨_, rfl⟩
  subst ep
  all_goals
    refine ⟨_, rfl, _, rfl, _, rfl, 63, rfl, a, _, rfl, sl1.seq hS, fun d nd => ?_⟩
    rw [cut_from ns m hn]
    have sd := sl1.trans (same_up (o := .lst ((ns.drop m).map V.int)) nd)
    have hd : (upd H1 d (.lst ((ns.drop m).map V.int))) d = some (.lst ((ns.drop m).map V.int)) := upd_same
    have hpd : (upd H1 d (.lst ((ns.drop m).map V.int))) p = some (.lst ((cells0 ns m).map V.int)) := by rw [upd_ne (ne_of_none hp nd)]; exact hp
    have ndp : d ≠ p := (ne_of_none hp nd).symm
    generalize upd H1 d (.lst ((ns.drop m).map V.int)) = H2 at sd hd hpd ⊢
    refine ⟨d, _, rfl, SqL.of hd, for_it walk_enum (fun i σ H3 => ∃ y3 y4, ∃ ms : List Int, σ = [some (.ref a), some (.int (m : Int)), some (.ref p), y3, y4] ∧ Same H H3 ∧ H3 d = some (.lst ((ns.drop m).map V.int)) ∧ H3 p = some (.lst (ms.map V.int)) ∧ ms.length = (cells0 ns m).length)
      ⟨none, none, _, rfl, sd, hd, hpd, rfl⟩ (fun i σ H3 _ ⟨_, _, _, _, _, e, _⟩ => SqL.of e) ?_ ?_⟩
    · rintro i x σ H3 H4 hi ⟨y3, y4, ms, rfl, s3, e3, ep, el⟩ ⟨T, v1, v2, rfl, nT, rfl, f1, f2⟩
      cases f1
      have hi' : i < (ns.drop m).length := by rw [List.length_map] at hi; exact hi
      have f2' : some (V.int (ns.drop m)[i]) = some v2 := by rw [← f2]; show _ = (List.map V.int (List.drop m ns))[i]?; rw [List.getElem?_map, List.getElem?_eq_getElem hi'] <;> rfl
      cases f2'
      rw [List.length_drop] at hi'
      have lm : ms.length = m := by rw [el]; exact cells0_full m1 (by omega)
      have hk : i % m < ms.length := by rw [lm]; exact Nat.mod_lt _ (by omega)
      have hA : atI (ms.map V.int) ((i : Int).fmod (m : Int)) = some (.int ms[i % m]) := at_of (fm_nat i m) (by rw [List.getElem?_map, List.getElem?_eq_getElem hk] <;> rfl)
      have hX : ixN (ms.map V.int).length ((i : Int).fmod (m : Int)) = some (i % m) := by
        rw [fm_nat]
        unfold ixN
        rw [if_pos (Int.natCast_nonneg _), if_pos (by rw [List.length_map]; exact Int.ofNat_lt.mpr hk), Int.toNat_natCast]
      have mz : (m : Int) ≠ 0 := by omega
      have sT : Same H3 (upd H3 T (.tup [.int (i : Int), .int (ns.drop m)[i]])) := same_up nT
      have eT := sT _ _ ep
      refine ⟨T, _, rfl, .inl (.inl upd_same), rfl, _, _, rfl, _, _, rfl, rfl, ?_⟩
      refine ⟨_, rfl, _, rfl, _, rfl, _, _, rfl, rfl, mz, p, _, _, _, rfl, rfl, SqL.of eT, hA, _, rfl, _, rfl, _, _, rfl, rfl, _, _, rfl, rfl, .inr ⟨by omega, by omega⟩, _, _, rfl, rfl, _, rfl, _, rfl, _, rfl, _, _, rfl, rfl, mz, p, _, _, _, rfl, rfl, eT, hX, ?_⟩
      refine ⟨_, _, ms.set (i % m) (ms[i % m] + (ns.drop m)[i] * ((i : Int) + 2)), rfl, fun b z e => ?_, ?_, ?_, ?_⟩
      rotate_left 2
      · rw [upd_same, List.map_set]
      · rw [List.length_set]; exact el
      · rw [upd_ne (ne_of_none e nl0)]; exact sT _ _ (s3 _ _ e)
      · rw [upd_ne ndp]; exact sT _ _ e3
    · rintro σ H3 ⟨y3, y4, ms, rfl, s3, e3, ep, el⟩
      exact ⟨_, rfl, q p ms H3 nl0 s3 ep (by rw [el]; exact cells0_pos) (by rw [el]; exact cells0_le m1)⟩
abbrev p_l_take : List Str := ["_law_box_here", "_law_below"]
/-! the layer's promises of them -/
def domT (ds : List Dt) : Prop := ∃ m : Int, ds = [.int m] ∧ 1 ≤ m ∧ m ≤ 10000000
def postT (ds : List Dt) (d : Dt) : Prop := ∃ m v : Int, ds = [.int m] ∧ d = .int v ∧ 0 ≤ v ∧ v < m
theorem take_B {f : Addr} {fd : FuncData} {n : Nat} {ps : List Str} (C : FnOk P w K mg base CX0 n f fd ps spTake) : FnOk P w K mg base CX0 n f fd ps (spB K 1 domT postT) := C.imp fun vs H Q E h => by
  obtain ⟨G, ds, b, us, y, c, F, rfl, sm, hb, c0, c1, gb, rd, ⟨m, rfl, m1, m2⟩, q⟩ := h
  obtain ⟨x, rfl, e⟩ := rd.one
  have c2 : c + ((F + 1 : Nat) : Int) ≤ 1000000000000 := c1
  refine ⟨b, m, y, c, by rw [show x = V.int m from e], hb, c0, by omega, m1, m2, fun v c' H' v0 v1 e0 e1 hb' bt => ?_⟩
  refine q (.int v) (.int v) G H' y c' ⟨Same.refl _, fun a o z => bt a o (fun w => by rw [w, gb] at z; cases z) (sm _ _ z), bt, fun a h1 h2 => h1⟩ hb' (by omega) ?_ rfl ⟨m, v, rfl, rfl, v0, v1⟩
  show c' + (F : Int) ≤ 1000000000000
  omega
theorem ae_take {ρ : List En} {Ψ : Dt → List En → Prop} {E : XK} {te : TE} {i : Nat} {b : Addr} {f0 : Nat} (e0 : ρ[i]? = some (.bx b f0))
    (h : AE K te ρ fun d ρ1 => ∃ m : Int, d = .int m ∧ 1 ≤ m ∧ m ≤ 10000000 ∧ ∃ F, ρ1[i]? = some (.bx b (F + 1)) ∧ ∀ v : Int, 0 ≤ v → v < m → Ψ (.int v) (ρ1.set i (.bx b F))) : AE K (tCall (spB K 1 domT postT) [] E (tCons (tVar i) (tCons te tNil))) ρ Ψ :=
  ae_draw e0 (aa_cons (ae_mono h fun d ρ1 ⟨m, e, m1, m2, F, e1, k⟩ => aa_nil ⟨⟨m, by rw [e], m1, m2⟩, F, e1, fun d' hp => by
    obtain ⟨m', v, z1, z2, z3, z4⟩ := hp
    rw [e] at z1
    cases z1
    rw [z2]; exact k v z3 z4⟩))
def domO (ds : List Dt) : Prop := ∃ k l, ds = [sq k l] ∧ 1 ≤ l.length ∧ l.length ≤ 1000
def postO (ds : List Dt) (d : Dt) : Prop := ∀ k l, ds = [sq k l] → d ∈ l
theorem sq_inj {k k' : Bool} {l l' : List Dt} (h : sq k l = sq k' l') : l = l' := by
  cases k <;> cases k' <;> first | (cases h; rfl) | (exact absurd h (fun z => nomatch z))
theorem ae_ofL {ρ : List En} {Ψ : Dt → List En → Prop} {E : XK} {te : TE} {i : Nat} {b : Addr} {f0 : Nat} (e0 : ρ[i]? = some (.bx b f0))
    (h : AE K te ρ fun d ρ1 => ∃ l, d = .lst l ∧ 1 ≤ l.length ∧ l.length ≤ 1000 ∧ ∃ F, ρ1[i]? = some (.bx b (F + 1)) ∧ ∀ d, d ∈ l → Ψ d (ρ1.set i (.bx b F))) : AE K (tCall (spB K 1 domO postO) [] E (tCons (tVar i) (tCons te tNil))) ρ Ψ :=
  ae_draw e0 (aa_cons (ae_mono h fun d ρ1 ⟨l, e, m1, m2, F, e1, k⟩ => aa_nil ⟨⟨false, l, by rw [e]; rfl, m1, m2⟩, F, e1, fun d' hp => k d' (hp false l (by rw [e]; rfl))⟩))
abbrev s_l_of : Stmt := topS 55
abbrev N_l_of : List Str := ["_law_box_here", "_law_some"]
abbrev p_l_of : List Str := ["_law_box_here", "_law_some"]
theorem sc_l_of : FnScope N_l_of p_l_of (defScope s_l_of) := ⟨rfl, rfl, rfl, by decide +kernel, rfl, by decide +kernel, by decide +kernel⟩
theorem ok_l_of (bl : Blts mg) {g_l_take : Addr} {d_l_take : FuncData} (c_l_take : Cal P w K mg base 2 "_law_take" p_l_take (spB K 1 domT postT) g_l_take d_l_take)  {f : Addr} {fd : FuncData} (F : Fun K "_law_of" "_law_of" s_l_of f fd) : FnOk P w K mg base CX0 3 f fd p_l_of (spB K 1 (domO) (postO)) := by
  refine okB F sc_l_of (fun ds h => ?_) (fun cdv A outer s H E hr ds h => ?_)
  · obtain ⟨k, l, rfl, l0, l1⟩ := h
    rfl
  obtain ⟨k, l, rfl, l0, l1⟩ := h
  refine ⟨_, (pss_one (ps_ret (pe_ix ix_seq (pv 1) (pe_call c_l_take.ok (hr.mono (by decide)) rfl c_l_take.mg c_l_take.kp c_l_take.bi .nil pass0 (pa_cons (pv 0) (pa_cons (pe_callB call_len_seq rfl bl.len (by decide +kernel) (pa_cons (pv 1) pa_nil)) pa_nil))) (fun _ _ => rfl)))), fun b F => ?_⟩
  change AS K _ [En.bx _ _, En.da _] _ _
  try simp only [cxOf_K, cxOf_w]
  repeat' (first
    | ((with_reducible apply ae_take); · rfl)
    | with_reducible apply ac_len
    | refine ⟨_, rfl, by omega, by omega, _, rfl, fun v v0 v1 => ?_⟩
    | with_reducible apply as_seq
    | with_reducible apply as_ret
    | with_reducible apply as_next
    | with_reducible apply as_if
    | with_reducible apply as_set
    | with_reducible apply as_par
    | with_reducible apply as_par3
    | with_reducible apply as_asg
    | ((with_reducible apply ae_var); · rfl)
    | with_reducible apply ae_int
    | with_reducible apply ae_non
    | with_reducible apply ae_bl
    | with_reducible apply ae_str
    | with_reducible apply ae_ty
    | with_reducible apply ae_isi2
    | with_reducible apply ae_op
    | with_reducible apply ae_un
    | with_reducible apply aa_nil
    | with_reducible apply aa_cons
    | with_reducible apply ae_cb
    | with_reducible apply ae_tup
    | with_reducible apply ae_lst
    | with_reducible apply ae_if
    | with_reducible apply at_test
    | with_reducible apply at_b
    | with_reducible apply at_and
    | with_reducible apply at_or
    | with_reducible apply at_not
    | with_reducible apply at_yes
    | with_reducible apply ae_andV
    | with_reducible apply ae_orV
    | with_reducible apply ae_notV
    | with_reducible apply ar_I0i
    | with_reducible apply ar_I0b
    | with_reducible apply ar_isN
    | with_reducible apply ar_notN
    | with_reducible apply au_Ui
    | ((with_reducible apply ar_ixTs); · rfl)
    | ((with_reducible apply ar_ixLs); · rfl)
    | ((with_reducible apply ar_ix); · rfl)
    | ((with_reducible apply ar_ixT); · rfl)
    | ((with_reducible apply ar_ixL); · rfl)
    | with_reducible apply ac_abs
    | with_reducible apply ac_max2
    | with_reducible apply ac_min2
    | with_reducible apply ac_lenT
    | with_reducible apply ac_lenL
    | with_reducible apply ac_listT
    | with_reducible apply ac_listL
    | with_reducible apply ac_tupL
    | with_reducible apply ac_tupT
    | with_reducible apply ac_int
    | with_reducible apply ac_intB
    | ((with_reducible apply ar_eq3); · exact ⟨rfl, rfl, rfl⟩)
    | ((with_reducible apply ar_ne3); · exact ⟨rfl, rfl, rfl⟩)
    | with_reducible apply ag_name
    | with_reducible apply ags_nil
    | with_reducible apply ags_cons
    | ((with_reducible apply ag_tup); · rfl)
    | refine ⟨sz60 (Nat.le_of_ble_eq_true rfl), ?_⟩
    | refine ⟨_, rfl, ?_⟩
    | refine ⟨_, _, rfl, ?_⟩
    | refine ⟨_, _, _, rfl, ?_⟩
    | (refine ⟨fun hc => ?_, fun hc => ?_⟩ <;> (first | (exfalso; exact absurd (show false = true from hc) (by decide)) | (exfalso; exact absurd (show true = false from hc) (by decide)) | (exfalso; simp at hc; done) | skip))
    | rfl
    | exact trivial
    | simp only [oD_some, oD_none])
  have hv : v.toNat < l.length := by omega
  have ev : v = ((v.toNat : Nat) : Int) := by omega
  refine ar_ix (d := l[v.toNat]) ?_ ?_
  · have e := atI_nat (List.getElem?_eq_getElem hv)
    rw [← ev] at e; exact e
  · refine ⟨fun k' l' z => ?_, _, rfl, Nat.le_refl _⟩
    rw [← sq_inj (List.cons.inj z).1]
    exact List.getElem_mem hv
end
end Sh
set_option Elab.async false
set_option linter.all false
set_option maxRecDepth 100000
set_option maxHeartbeats 4000000
namespace Sh
open PySem PySem.Spec PyProof.Rows L2
def bgI (x : Int) : Prop := -(10 ^ 50) ≤ x ∧ x ≤ 10 ^ 50
def Bd (a : Option Int) : Prop := ∀ x, a = some x → bgI x
theorem mulW {i j : Int} (h : -(10 ^ 60) ≤ i ∧ i ≤ 10 ^ 60) (k : -(10 ^ 60) ≤ j ∧ j ≤ 10 ^ 60) : CMulW i j := by
  refine wide_mul (a := 200) (b := 200) ?_ ?_ (by decide) (by decide) (by decide)
  · exact Nat.lt_of_le_of_lt (show i.natAbs ≤ 10 ^ 60 by have : (10 : Int) ^ 60 = ((10 ^ 60 : Nat) : Int) := by decide
                                                         omega) (by decide +kernel)
  · exact Nat.lt_of_le_of_lt (show j.natAbs ≤ 10 ^ 60 by have : (10 : Int) ^ 60 = ((10 ^ 60 : Nat) : Int) := by decide
                                                         omega) (by decide +kernel)
theorem bg60 {x : Int} (h : bgI x) : -(10 ^ 60) ≤ x ∧ x ≤ 10 ^ 60 := by unfold bgI at h; omega
def Vd (m r : Int) : Prop := (m = 0 ∧ bgI r) ∨ (1 ≤ m ∧ m ≤ 10 ^ 50 ∧ 0 ≤ r ∧ r < m)
theorem Vd.b {m r : Int} (h : Vd m r) : 0 ≤ m ∧ m ≤ 10 ^ 50 ∧ -(10 ^ 50) ≤ r ∧ r ≤ 10 ^ 50 := by
  unfold Vd bgI at h
  rcases h with ⟨h1, h2, h3⟩ | ⟨h1, h2, h3, h4⟩ <;> omega
def pO : Option IP → Dt
  | none => .non
  | some p => pD p
abbrev spD (a b : Option Int) : Dt := .tup [oD a, oD b]
def soD : Option (Option Int × Option Int) → Dt
  | none => .non
  | some (a, b) => .tup [oD a, oD b]
def S2 (g : Option Int → Option Int → Option Int) (ds : List Dt) (r : Dt) : Prop := ∃ a b, ds = [oD a, oD b] ∧ r = oD (g a b)
def S2b (g : Option Int → Option Int → Bool) (ds : List Dt) (r : Dt) : Prop := ∃ a b, ds = [oD a, oD b] ∧ r = .bl (g a b)
def S_lets (ds : List Dt) (r : Dt) : Prop := ∃ a b n, ds = [oD a, oD b, .int n] ∧ r = .bl (letsB a b n)
def S_neg (ds : List Dt) (r : Dt) : Prop := ∃ a, ds = [oD a] ∧ r = oD (negB a)
def meetD : Option Int → Option Int → Dt
  | some a, some b => if a > b then .non else .tup [.int a, .int b]
  | a, b => .tup [oD a, oD b]
def S_negs (ds : List Dt) (r : Dt) : Prop := ∃ k a b, ds = [sq k [oD a, oD b]] ∧ r = spD (negB b) (negB a)
def S_add (ds : List Dt) (r : Dt) : Prop := ∃ k k' a b c d, ds = [sq k [oD a, oD b], sq k' [oD c, oD d]] ∧ r = spD (addB a c) (addB b d)
def S_sub (ds : List Dt) (r : Dt) : Prop := ∃ k k' a b c d, ds = [sq k [oD a, oD b], sq k' [oD c, oD d]] ∧ r = spD (addB a (negB d)) (addB b (negB c))
def S_dir (ds : List Dt) (r : Dt) : Prop := ∃ p, ds = [pD p] ∧ r = .int (dirP p)
def S_bnd (ds : List Dt) (r : Dt) : Prop := ∃ p, ds = [pD p] ∧ r = oD (bndP p)
def S_times (ds : List Dt) (r : Dt) : Prop := ∃ p q, ds = [pD p, pD q] ∧ bgI p.2 ∧ bgI q.2 ∧ r = pD (timP p q)
def S_ends (ds : List Dt) (r : Dt) : Prop := ∃ k a b, ds = [sq k [oD a, oD b]] ∧ r = .lst [pD (loE a), pD (hiE b)]
def S_mul (ds : List Dt) (r : Dt) : Prop := ∃ k k' a b c d, ds = [sq k [oD a, oD b], sq k' [oD c, oD d]] ∧ (Bd a ∧ Bd b ∧ Bd c ∧ Bd d) ∧ r = spD (mulL a b c d) (mulH a b c d)
def S_join (ds : List Dt) (r : Dt) : Prop := ∃ k k' a b c d, ds = [sq k [oD a, oD b], sq k' [oD c, oD d]] ∧ r = spD (lowJ a c) (highJ b d)
def S_meet (ds : List Dt) (r : Dt) : Prop := ∃ k k' a b c d, ds = [sq k [oD a, oD b], sq k' [oD c, oD d]] ∧ r = meetD (lowM a c) (highM b d)
/-- bounds in order, of no great size -/
structure Lq (c d : Option Int) : Prop where
  lo : Bd c
  hi : Bd d
  ord : ∀ x y, c = some x → d = some y → x ≤ y
def posD (c d : Option Int) : Dt := if pos d then spD (some (fstP c)) d else .non
def S_wz (ds : List Dt) (r : Dt) : Prop := ∃ k c d, ds = [sq k [oD c, oD d]] ∧ Lq c d ∧ r = .tup [posD c d, if pos (negB c) then spD c (some (-fstP (negB d))) else .non]
def S_jnd (ds : List Dt) (r : Dt) : Prop := ∃ x c d, ds = [x, spD c d] ∧ ((x = .non ∧ r = spD c d) ∨ ∃ a b, x = spD a b ∧ r = spD (lowJ a c) (highJ b d))
def okd (q : Option Int) : Prop := ∀ y, q = some y → 1 ≤ y ∧ y ≤ 10 ^ 50
def S_quo (ds : List Dt) (r : Dt) : Prop := ∃ n q, ds = [.int n, oD q] ∧ okd q ∧ r = .int (quo n q)
def S_quos (ds : List Dt) (r : Dt) : Prop := ∃ k a b p q, ds = [sq k [oD a, oD b], spD (some p) q] ∧ (1 ≤ p ∧ p ≤ 10 ^ 50) ∧ okd q ∧ r = spD (quoL a p q) (quoH b p q)
def S_rems (ds : List Dt) (r : Dt) : Prop := ∃ k a b p q, ds = [sq k [oD a, oD b], spD (some p) q] ∧ (1 ≤ p ∧ p ≤ 10 ^ 50) ∧ r = spD (remB a b p q).1 (remB a b p q).2
def divS (a b c d : Option Int) : Option (Option Int × Option Int) := if pos d || pos (negB c) then some (divL a b c d, divH a b c d) else none
def modS (a b c d : Option Int) : Option (Option Int × Option Int) := if pos d || pos (negB c) then some (modL a b c d, modH a b c d) else none
def S_div (ds : List Dt) (r : Dt) : Prop := ∃ k k' a b c d, ds = [sq k [oD a, oD b], sq k' [oD c, oD d]] ∧ Lq c d ∧ r = soD (divS a b c d)
def S_mod (ds : List Dt) (r : Dt) : Prop := ∃ k k' a b c d, ds = [sq k [oD a, oD b], sq k' [oD c, oD d]] ∧ Lq c d ∧ r = soD (modS a b c d)
theorem eqv_P (p q : IP) : PyData.eqv (pD p).pd (pD q).pd = decide (p = q) := PySem.W.Datum.eqv p q
theorem ar_eqP {K : PySem.W.Frag} {Φ : Dt → Prop} {a b c d : Int} (h : Φ (.bl (decide (((a, b) : IP) = (c, d))))) : AR K (rEqD K) (.tup [.int a, .int b]) (.tup [.int c, .int d]) Φ :=
  ar_eqD rfl rfl rfl rfl (by rw [show PyData.eqv (Dt.tup [.int a, .int b]).pd (Dt.tup [.int c, .int d]).pd = _ from eqv_P (a, b) (c, d)]; exact h)
theorem dir_small (p : IP) : -1 ≤ dirP p ∧ dirP p ≤ 1 := by
  unfold dirP
  split
  · exact ⟨by decide, by decide⟩
  · split <;> exact ⟨by decide, by decide⟩
theorem cmul_dir {p q : IP} : CMulW (dirP p) (dirP q) := mulW (by have := dir_small p; omega) (by have := dir_small q; omega)
theorem lo_b {a : Option Int} (h : Bd a) : bgI (loE a).2 := by
  cases a with
  | none => unfold bgI; exact ⟨by decide, by decide⟩
  | some x => exact h x rfl
theorem hi_b {a : Option Int} (h : Bd a) : bgI (hiE a).2 := by
  cases a with
  | none => unfold bgI; exact ⟨by decide, by decide⟩
  | some x => exact h x rfl
theorem neg_b {a : Option Int} (h : Bd a) : Bd (negB a) := fun x e => by
  cases a with
  | none => cases e
  | some y =>
    have e' : -y = x := Option.some.inj e
    subst e'
    have := h y rfl; unfold bgI at *; omega
theorem Lq.neg {c d : Option Int} (t : Lq c d) : Lq (negB d) (negB c) := ⟨neg_b t.hi, neg_b t.lo, fun x y e f => by
  cases c with
  | none => cases f
  | some u => cases d with
    | none => cases e
    | some v =>
      have e' : -v = x := Option.some.inj e
      have f' : -u = y := Option.some.inj f
      have := t.ord u v rfl rfl; omega⟩
theorem fst_b {c : Option Int} (h : Bd c) : 1 ≤ fstP c ∧ fstP c ≤ 10 ^ 50 := by
  cases c with
  | none => exact ⟨by decide, by decide⟩
  | some x => have := h x rfl; unfold bgI at this; unfold fstP; dsimp only; split <;> omega
def S_ro (ds : List Dt) (res : Dt) : Prop := ∃ m n : Int, ds = [.int m, .int n] ∧ res = pD (restO m n)
def S2r (f : Int → Int → Int → Int → Option IP) (ds : List Dt) (res : Dt) : Prop := ∃ k k', ∃ m r n s : Int, ds = [sq k [.int m, .int r], sq k' [.int n, .int s]] ∧ Vd m r ∧ Vd n s ∧ res = pO (f m r n s)
def fJoin (m r n s : Int) : Option IP := some (restO (g3 m n (r - s)) r)
def fAdd (m r n s : Int) : Option IP := some (restO (g2 m n) (r + s))
def fSub (m r n s : Int) : Option IP := some (restO (g2 m n) (r - s))
def fMul (m r n s : Int) : Option IP := some (restO (g3 (r * n) (s * m) (m * n)) (r * s))
def fDiv (m r n d : Int) : Option IP := if n = 0 ∧ d = 0 then none else if n ≠ 0 ∨ m.fmod d ≠ 0 then some (1, 0) else some (restO ((m.fdiv d).natAbs : Int) (r.fdiv d))
def fMod (m r n s : Int) : Option IP := if n = 0 ∧ s = 0 then none else if m = 0 ∧ n = 0 then some (0, r.fmod s) else some (restO (g3 m n s) r)
theorem vne {x y : Int} (h : x ≠ y) : decide (V.int x = V.int y) = false := decide_eq_false (fun z => h (V.int.inj z))
theorem vnn {x y : Int} (h : x ≠ y) : (!decide (V.int x = V.int y)) = true := by rw [vne h]; rfl
theorem vee {x y : Int} (h : x = y) : (!decide (V.int x = V.int y)) = false := by rw [h]; simp
theorem fDiv_n {m r s : Int} (hs : s ≠ 0) (hm : m.fmod s = 0) : fDiv m r 0 s = some (restO ((m.fdiv s).natAbs : Int) (r.fdiv s)) := by
  unfold fDiv; rw [if_neg (by omega), if_neg (by omega)]
theorem fDiv_1 {m r n d : Int} (h : n ≠ 0 ∨ m.fmod d ≠ 0) (h0 : ¬ (n = 0 ∧ d = 0)) : fDiv m r n d = some (1, 0) := by
  unfold fDiv; rw [if_neg h0, if_pos h]
theorem abs_n {x : Int} : (if x < 0 then -x else x) = (x.natAbs : Int) := by split <;> omega
abbrev s_loosest_low : Stmt := topS 2
abbrev N_loosest_low : List Str := ["one", "other"]
abbrev p_loosest_low : List Str := ["one", "other"]
theorem sc_loosest_low : FnScope N_loosest_low p_loosest_low (defScope s_loosest_low) := ⟨rfl, rfl, rfl, by decide +kernel, rfl, by decide +kernel, by decide +kernel⟩
abbrev s_tightest_low : Stmt := topS 3
abbrev N_tightest_low : List Str := ["one", "other"]
abbrev p_tightest_low : List Str := ["one", "other"]
theorem sc_tightest_low : FnScope N_tightest_low p_tightest_low (defScope s_tightest_low) := ⟨rfl, rfl, rfl, by decide +kernel, rfl, by decide +kernel, by decide +kernel⟩
abbrev s_loosest_high : Stmt := topS 4
abbrev N_loosest_high : List Str := ["one", "other"]
abbrev p_loosest_high : List Str := ["one", "other"]
theorem sc_loosest_high : FnScope N_loosest_high p_loosest_high (defScope s_loosest_high) := ⟨rfl, rfl, rfl, by decide +kernel, rfl, by decide +kernel, by decide +kernel⟩
abbrev s_tightest_high : Stmt := topS 5
abbrev N_tightest_high : List Str := ["one", "other"]
abbrev p_tightest_high : List Str := ["one", "other"]
theorem sc_tightest_high : FnScope N_tightest_high p_tightest_high (defScope s_tightest_high) := ⟨rfl, rfl, rfl, by decide +kernel, rfl, by decide +kernel, by decide +kernel⟩
abbrev s_low_within : Stmt := topS 6
abbrev N_low_within : List Str := ["one", "other"]
abbrev p_low_within : List Str := ["one", "other"]
theorem sc_low_within : FnScope N_low_within p_low_within (defScope s_low_within) := ⟨rfl, rfl, rfl, by decide +kernel, rfl, by decide +kernel, by decide +kernel⟩
abbrev s_high_within : Stmt := topS 7
abbrev N_high_within : List Str := ["one", "other"]
abbrev p_high_within : List Str := ["one", "other"]
theorem sc_high_within : FnScope N_high_within p_high_within (defScope s_high_within) := ⟨rfl, rfl, rfl, by decide +kernel, rfl, by decide +kernel, by decide +kernel⟩
abbrev s_lets_in : Stmt := topS 8
abbrev N_lets_in : List Str := ["low", "high", "n"]
abbrev p_lets_in : List Str := ["low", "high", "n"]
theorem sc_lets_in : FnScope N_lets_in p_lets_in (defScope s_lets_in) := ⟨rfl, rfl, rfl, by decide +kernel, rfl, by decide +kernel, by decide +kernel⟩
abbrev s_total : Stmt := topS 9
abbrev N_total : List Str := ["one", "other"]
abbrev p_total : List Str := ["one", "other"]
theorem sc_total : FnScope N_total p_total (defScope s_total) := ⟨rfl, rfl, rfl, by decide +kernel, rfl, by decide +kernel, by decide +kernel⟩
abbrev s_opposite : Stmt := topS 10
abbrev N_opposite : List Str := ["bound"]
abbrev p_opposite : List Str := ["bound"]
theorem sc_opposite : FnScope N_opposite p_opposite (defScope s_opposite) := ⟨rfl, rfl, rfl, by decide +kernel, rfl, by decide +kernel, by decide +kernel⟩
abbrev s_rest_join : Stmt := topS 12
abbrev N_rest_join : List Str := ["one", "other", "m", "r", "n", "s"]
abbrev p_rest_join : List Str := ["one", "other"]
theorem sc_rest_join : FnScope N_rest_join p_rest_join (defScope s_rest_join) := ⟨rfl, rfl, rfl, by decide +kernel, rfl, by decide +kernel, by decide +kernel⟩
abbrev s_rest_add : Stmt := topS 13
abbrev N_rest_add : List Str := ["one", "other", "m", "r", "n", "s"]
abbrev p_rest_add : List Str := ["one", "other"]
theorem sc_rest_add : FnScope N_rest_add p_rest_add (defScope s_rest_add) := ⟨rfl, rfl, rfl, by decide +kernel, rfl, by decide +kernel, by decide +kernel⟩
abbrev s_rest_sub : Stmt := topS 14
abbrev N_rest_sub : List Str := ["one", "other", "m", "r", "n", "s"]
abbrev p_rest_sub : List Str := ["one", "other"]
theorem sc_rest_sub : FnScope N_rest_sub p_rest_sub (defScope s_rest_sub) := ⟨rfl, rfl, rfl, by decide +kernel, rfl, by decide +kernel, by decide +kernel⟩
abbrev s_rest_mul : Stmt := topS 15
abbrev N_rest_mul : List Str := ["one", "other", "m", "r", "n", "s"]
abbrev p_rest_mul : List Str := ["one", "other"]
theorem sc_rest_mul : FnScope N_rest_mul p_rest_mul (defScope s_rest_mul) := ⟨rfl, rfl, rfl, by decide +kernel, rfl, by decide +kernel, by decide +kernel⟩
abbrev s_rest_div : Stmt := topS 16
abbrev N_rest_div : List Str := ["one", "other", "m", "r", "n", "d"]
abbrev p_rest_div : List Str := ["one", "other"]
theorem sc_rest_div : FnScope N_rest_div p_rest_div (defScope s_rest_div) := ⟨rfl, rfl, rfl, by decide +kernel, rfl, by decide +kernel, by decide +kernel⟩
abbrev s_rest_mod : Stmt := topS 17
abbrev N_rest_mod : List Str := ["one", "other", "m", "r", "n", "s"]
abbrev p_rest_mod : List Str := ["one", "other"]
theorem sc_rest_mod : FnScope N_rest_mod p_rest_mod (defScope s_rest_mod) := ⟨rfl, rfl, rfl, by decide +kernel, rfl, by decide +kernel, by decide +kernel⟩
abbrev s_rest_of : Stmt := topS 18
abbrev N_rest_of : List Str := ["m", "n"]
abbrev p_rest_of : List Str := ["m", "n"]
theorem sc_rest_of : FnScope N_rest_of p_rest_of (defScope s_rest_of) := ⟨rfl, rfl, rfl, by decide +kernel, rfl, by decide +kernel, by decide +kernel⟩
abbrev s_span_join : Stmt := topS 21
abbrev N_span_join : List Str := ["one", "other"]
abbrev p_span_join : List Str := ["one", "other"]
theorem sc_span_join : FnScope N_span_join p_span_join (defScope s_span_join) := ⟨rfl, rfl, rfl, by decide +kernel, rfl, by decide +kernel, by decide +kernel⟩
abbrev s_span_meet : Stmt := topS 22
abbrev N_span_meet : List Str := ["one", "other", "low", "high"]
abbrev p_span_meet : List Str := ["one", "other"]
theorem sc_span_meet : FnScope N_span_meet p_span_meet (defScope s_span_meet) := ⟨rfl, rfl, rfl, by decide +kernel, rfl, by decide +kernel, by decide +kernel⟩
abbrev s_span_add : Stmt := topS 23
abbrev N_span_add : List Str := ["one", "other"]
abbrev p_span_add : List Str := ["one", "other"]
theorem sc_span_add : FnScope N_span_add p_span_add (defScope s_span_add) := ⟨rfl, rfl, rfl, by decide +kernel, rfl, by decide +kernel, by decide +kernel⟩
abbrev s_span_sub : Stmt := topS 24
abbrev N_span_sub : List Str := ["one", "other"]
abbrev p_span_sub : List Str := ["one", "other"]
theorem sc_span_sub : FnScope N_span_sub p_span_sub (defScope s_span_sub) := ⟨rfl, rfl, rfl, by decide +kernel, rfl, by decide +kernel, by decide +kernel⟩
abbrev s_span_mul : Stmt := topS 25
abbrev N_span_mul : List Str := ["one", "other", "corners", "a", "b"]
abbrev p_span_mul : List Str := ["one", "other"]
theorem sc_span_mul : FnScope N_span_mul p_span_mul (defScope s_span_mul) := ⟨rfl, rfl, rfl, by decide +kernel, rfl, by decide +kernel, by decide +kernel⟩
abbrev s_span_div : Stmt := topS 26
abbrev N_span_div : List Str := ["one", "other", "found", "above", "below"]
abbrev p_span_div : List Str := ["one", "other"]
theorem sc_span_div : FnScope N_span_div p_span_div (defScope s_span_div) := ⟨rfl, rfl, rfl, by decide +kernel, rfl, by decide +kernel, by decide +kernel⟩
abbrev s_span_mod : Stmt := topS 27
abbrev N_span_mod : List Str := ["one", "other", "found", "above", "below"]
abbrev p_span_mod : List Str := ["one", "other"]
theorem sc_span_mod : FnScope N_span_mod p_span_mod (defScope s_span_mod) := ⟨rfl, rfl, rfl, by decide +kernel, rfl, by decide +kernel, by decide +kernel⟩
abbrev s_negatives : Stmt := topS 28
abbrev N_negatives : List Str := ["span"]
abbrev p_negatives : List Str := ["span"]
theorem sc_negatives : FnScope N_negatives p_negatives (defScope s_negatives) := ⟨rfl, rfl, rfl, by decide +kernel, rfl, by decide +kernel, by decide +kernel⟩
abbrev s_without_zero : Stmt := topS 29
abbrev N_without_zero : List Str := ["span"]
abbrev p_without_zero : List Str := ["span"]
theorem sc_without_zero : FnScope N_without_zero p_without_zero (defScope s_without_zero) := ⟨rfl, rfl, rfl, by decide +kernel, rfl, by decide +kernel, by decide +kernel⟩
abbrev s_joined_spans : Stmt := topS 30
abbrev N_joined_spans : List Str := ["one", "other"]
abbrev p_joined_spans : List Str := ["one", "other"]
theorem sc_joined_spans : FnScope N_joined_spans p_joined_spans (defScope s_joined_spans) := ⟨rfl, rfl, rfl, by decide +kernel, rfl, by decide +kernel, by decide +kernel⟩
abbrev s_ends : Stmt := topS 32
abbrev N_ends : List Str := ["span", "low", "high"]
abbrev p_ends : List Str := ["span"]
theorem sc_ends : FnScope N_ends p_ends (defScope s_ends) := ⟨rfl, rfl, rfl, by decide +kernel, rfl, by decide +kernel, by decide +kernel⟩
abbrev s_bound_of : Stmt := topS 33
abbrev N_bound_of : List Str := ["place"]
abbrev p_bound_of : List Str := ["place"]
theorem sc_bound_of : FnScope N_bound_of p_bound_of (defScope s_bound_of) := ⟨rfl, rfl, rfl, by decide +kernel, rfl, by decide +kernel, by decide +kernel⟩
abbrev s_direction : Stmt := topS 34
abbrev N_direction : List Str := ["place"]
abbrev p_direction : List Str := ["place"]
theorem sc_direction : FnScope N_direction p_direction (defScope s_direction) := ⟨rfl, rfl, rfl, by decide +kernel, rfl, by decide +kernel, by decide +kernel⟩
abbrev s_times : Stmt := topS 35
abbrev N_times : List Str := ["one", "other"]
abbrev p_times : List Str := ["one", "other"]
theorem sc_times : FnScope N_times p_times (defScope s_times) := ⟨rfl, rfl, rfl, by decide +kernel, rfl, by decide +kernel, by decide +kernel⟩
abbrev s_quotients : Stmt := topS 36
abbrev N_quotients : List Str := ["span", "divisors", "low", "high", "least", "most"]
abbrev p_quotients : List Str := ["span", "divisors"]
theorem sc_quotients : FnScope N_quotients p_quotients (defScope s_quotients) := ⟨rfl, rfl, rfl, by decide +kernel, rfl, by decide +kernel, by decide +kernel⟩
abbrev s_quotient : Stmt := topS 37
abbrev N_quotient : List Str := ["n", "divisor"]
abbrev p_quotient : List Str := ["n", "divisor"]
theorem sc_quotient : FnScope N_quotient p_quotient (defScope s_quotient) := ⟨rfl, rfl, rfl, by decide +kernel, rfl, by decide +kernel, by decide +kernel⟩
abbrev s_remainders : Stmt := topS 38
abbrev N_remainders : List Str := ["span", "divisors", "known", "positive", "top", "low", "high", "least", "most"]
abbrev p_remainders : List Str := ["span", "divisors"]
theorem sc_remainders : FnScope N_remainders p_remainders (defScope s_remainders) := ⟨rfl, rfl, rfl, by decide +kernel, rfl, by decide +kernel, by decide +kernel⟩
abbrev s_single : Stmt := topS 41
abbrev N_single : List Str := ["n"]
abbrev p_single : List Str := ["n"]
theorem sc_single : FnScope N_single p_single (defScope s_single) := ⟨rfl, rfl, rfl, by decide +kernel, rfl, by decide +kernel, by decide +kernel⟩
abbrev s_value_of : Stmt := topS 42
abbrev N_value_of : List Str := ["low", "high", "m", "r"]
abbrev p_value_of : List Str := ["low", "high", "m", "r"]
theorem sc_value_of : FnScope N_value_of p_value_of (defScope s_value_of) := ⟨rfl, rfl, rfl, by decide +kernel, rfl, by decide +kernel, by decide +kernel⟩
abbrev s_value_join : Stmt := topS 44
abbrev N_value_join : List Str := ["one", "other"]
abbrev p_value_join : List Str := ["one", "other"]
theorem sc_value_join : FnScope N_value_join p_value_join (defScope s_value_join) := ⟨rfl, rfl, rfl, by decide +kernel, rfl, by decide +kernel, by decide +kernel⟩
abbrev s_value_apply : Stmt := topS 45
abbrev N_value_apply : List Str := ["sign", "one", "other", "found", "divisors"]
abbrev p_value_apply : List Str := ["sign", "one", "other"]
theorem sc_value_apply : FnScope N_value_apply p_value_apply (defScope s_value_apply) := ⟨rfl, rfl, rfl, by decide +kernel, rfl, by decide +kernel, by decide +kernel⟩
abbrev s_value_cut : Stmt := topS 46
abbrev N_value_cut : List Str := ["value", "low", "high"]
abbrev p_value_cut : List Str := ["value", "low", "high"]
theorem sc_value_cut : FnScope N_value_cut p_value_cut (defScope s_value_cut) := ⟨rfl, rfl, rfl, by decide +kernel, rfl, by decide +kernel, by decide +kernel⟩
abbrev s_value_from : Stmt := topS 47
abbrev N_value_from : List Str := ["span", "rest"]
abbrev p_value_from : List Str := ["span", "rest"]
theorem sc_value_from : FnScope N_value_from p_value_from (defScope s_value_from) := ⟨rfl, rfl, rfl, by decide +kernel, rfl, by decide +kernel, by decide +kernel⟩
abbrev s_joined_values : Stmt := topS 48
abbrev N_joined_values : List Str := ["one", "other"]
abbrev p_joined_values : List Str := ["one", "other"]
theorem sc_joined_values : FnScope N_joined_values p_joined_values (defScope s_joined_values) := ⟨rfl, rfl, rfl, by decide +kernel, rfl, by decide +kernel, by decide +kernel⟩
abbrev s_applied : Stmt := topS 50
abbrev N_applied : List Str := ["sign", "one", "other", "left", "right", "rest", "second"]
abbrev p_applied : List Str := ["sign", "one", "other"]
theorem sc_applied : FnScope N_applied p_applied (defScope s_applied) := ⟨rfl, rfl, rfl, by decide +kernel, rfl, by decide +kernel, by decide +kernel⟩
section
variable {P : Program} {w : World} {K : PySem.W.Frag} {mg : Str → Option Value} {base : Heap}
theorem ok_loosest_low (bl : Blts mg)   {f : Addr} {fd : FuncData} (F : Fun K "loosest_low" "loosest_low" s_loosest_low f fd) : FnOk P w K mg base CX0 1 f fd p_loosest_low (spP K (S2 lowJ)) := by
  refine okP F sc_loosest_low (fun ds r h => ?_) (fun cdv A outer s H E hr ds r h => ?_)
  · obtain ⟨a, b, rfl, rfl⟩ := h
    rfl
  obtain ⟨a, b, rfl, rfl⟩ := h
  refine ⟨_, (pss_cons (ps_if (PW.pt (pw_or (pt_cmpR op_isN (pv 0) pe_non (nomark _)) (pw_or1 (pt_cmpR op_isN (pv 1) pe_non (nomark _))))) (pss_one (ps_ret pe_non)) pss_nil)
    (pss_one (ps_ret (pe_callB (call_min2 rfl) rfl bl.min (by decide +kernel) (pa_cons (pv 0) (pa_cons (pv 1) pa_nil)))))), ?_⟩
  change AS K _ [En.da _, En.da _] _ _
  try simp only [cxOf_K]
  cases a <;> cases b
  all_goals
    repeat' (first
      | with_reducible apply as_seq
      | with_reducible apply as_ret
      | with_reducible apply as_next
      | with_reducible apply as_if
      | ((with_reducible apply ae_var); · rfl)
      | with_reducible apply ae_non
      | with_reducible apply ae_op
      | with_reducible apply aa_nil
      | with_reducible apply aa_cons
      | with_reducible apply ae_cb
      | with_reducible apply at_test
      | with_reducible apply at_or
      | with_reducible apply ar_isN
      | with_reducible apply ac_min2
      | refine ⟨_, rfl, ?_⟩
      | (refine ⟨fun hc => ?_, fun hc => ?_⟩ <;> (first | (exfalso; exact absurd (show false = true from hc) (by decide)) | (exfalso; exact absurd (show true = false from hc) (by decide)) | (exfalso; simp at hc; done) | skip))
      | rfl
      | simp only [oD_some, oD_none]
      | fail)
theorem ok_loosest_high (bl : Blts mg)   {f : Addr} {fd : FuncData} (F : Fun K "loosest_high" "loosest_high" s_loosest_high f fd) : FnOk P w K mg base CX0 1 f fd p_loosest_high (spP K (S2 highJ)) := by
  refine okP F sc_loosest_high (fun ds r h => ?_) (fun cdv A outer s H E hr ds r h => ?_)
  · obtain ⟨a, b, rfl, rfl⟩ := h
    rfl
  obtain ⟨a, b, rfl, rfl⟩ := h
  refine ⟨_, (pss_cons (ps_if (PW.pt (pw_or (pt_cmpR op_isN (pv 0) pe_non (nomark _)) (pw_or1 (pt_cmpR op_isN (pv 1) pe_non (nomark _))))) (pss_one (ps_ret pe_non)) pss_nil)
    (pss_one (ps_ret (pe_callB (call_max2 rfl) rfl bl.max (by decide +kernel) (pa_cons (pv 0) (pa_cons (pv 1) pa_nil)))))), ?_⟩
  change AS K _ [En.da _, En.da _] _ _
  try simp only [cxOf_K]
  cases a <;> cases b
  all_goals
    repeat' (first
      | with_reducible apply as_seq
      | with_reducible apply as_ret
      | with_reducible apply as_next
      | with_reducible apply as_if
      | ((with_reducible apply ae_var); · rfl)
      | with_reducible apply ae_non
      | with_reducible apply ae_op
      | with_reducible apply aa_nil
      | with_reducible apply aa_cons
      | with_reducible apply ae_cb
      | with_reducible apply at_test
      | with_reducible apply at_or
      | with_reducible apply ar_isN
      | with_reducible apply ac_max2
      | refine ⟨_, rfl, ?_⟩
      | (refine ⟨fun hc => ?_, fun hc => ?_⟩ <;> (first | (exfalso; exact absurd (show false = true from hc) (by decide)) | (exfalso; exact absurd (show true = false from hc) (by decide)) | (exfalso; simp at hc; done) | skip))
      | rfl
      | simp only [oD_some, oD_none]
      | fail)
theorem ok_tightest_low (bl : Blts mg)   {f : Addr} {fd : FuncData} (F : Fun K "tightest_low" "tightest_low" s_tightest_low f fd) : FnOk P w K mg base CX0 1 f fd p_tightest_low (spP K (S2 lowM)) := by
  refine okP F sc_tightest_low (fun ds r h => ?_) (fun cdv A outer s H E hr ds r h => ?_)
  · obtain ⟨a, b, rfl, rfl⟩ := h
    rfl
  obtain ⟨a, b, rfl, rfl⟩ := h
  refine ⟨_, (pss_cons (ps_if (pt_cmpR op_isN (pv 0) pe_non (nomark _)) (pss_one (ps_ret (pv 1))) pss_nil)
    (pss_cons (ps_if (pt_cmpR op_isN (pv 1) pe_non (nomark _)) (pss_one (ps_ret (pv 0))) pss_nil)
    (pss_one (ps_ret (pe_callB (call_max2 rfl) rfl bl.max (by decide +kernel) (pa_cons (pv 0) (pa_cons (pv 1) pa_nil))))))), ?_⟩
  change AS K _ [En.da _, En.da _] _ _
  try simp only [cxOf_K]
  cases a <;> cases b
  all_goals
    repeat' (first
      | with_reducible apply as_seq
      | with_reducible apply as_ret
      | with_reducible apply as_next
      | with_reducible apply as_if
      | ((with_reducible apply ae_var); · rfl)
      | with_reducible apply ae_non
      | with_reducible apply ae_op
      | with_reducible apply aa_nil
      | with_reducible apply aa_cons
      | with_reducible apply ae_cb
      | with_reducible apply at_test
      | with_reducible apply ar_isN
      | with_reducible apply ac_max2
      | refine ⟨_, rfl, ?_⟩
      | (refine ⟨fun hc => ?_, fun hc => ?_⟩ <;> (first | (exfalso; exact absurd (show false = true from hc) (by decide)) | (exfalso; exact absurd (show true = false from hc) (by decide)) | (exfalso; simp at hc; done) | skip))
      | rfl
      | simp only [oD_some, oD_none]
      | fail)
theorem ok_tightest_high (bl : Blts mg)   {f : Addr} {fd : FuncData} (F : Fun K "tightest_high" "tightest_high" s_tightest_high f fd) : FnOk P w K mg base CX0 1 f fd p_tightest_high (spP K (S2 highM)) := by
  refine okP F sc_tightest_high (fun ds r h => ?_) (fun cdv A outer s H E hr ds r h => ?_)
  · obtain ⟨a, b, rfl, rfl⟩ := h
    rfl
  obtain ⟨a, b, rfl, rfl⟩ := h
  refine ⟨_, (pss_cons (ps_if (pt_cmpR op_isN (pv 0) pe_non (nomark _)) (pss_one (ps_ret (pv 1))) pss_nil)
    (pss_cons (ps_if (pt_cmpR op_isN (pv 1) pe_non (nomark _)) (pss_one (ps_ret (pv 0))) pss_nil)
    (pss_one (ps_ret (pe_callB (call_min2 rfl) rfl bl.min (by decide +kernel) (pa_cons (pv 0) (pa_cons (pv 1) pa_nil))))))), ?_⟩
  change AS K _ [En.da _, En.da _] _ _
  try simp only [cxOf_K]
  cases a <;> cases b
  all_goals
    repeat' (first
      | with_reducible apply as_seq
      | with_reducible apply as_ret
      | with_reducible apply as_next
      | with_reducible apply as_if
      | ((with_reducible apply ae_var); · rfl)
      | with_reducible apply ae_non
      | with_reducible apply ae_op
      | with_reducible apply aa_nil
      | with_reducible apply aa_cons
      | with_reducible apply ae_cb
      | with_reducible apply at_test
      | with_reducible apply ar_isN
      | with_reducible apply ac_min2
      | refine ⟨_, rfl, ?_⟩
      | (refine ⟨fun hc => ?_, fun hc => ?_⟩ <;> (first | (exfalso; exact absurd (show false = true from hc) (by decide)) | (exfalso; exact absurd (show true = false from hc) (by decide)) | (exfalso; simp at hc; done) | skip))
      | rfl
      | simp only [oD_some, oD_none]
      | fail)
theorem ok_low_within (bl : Blts mg)   {f : Addr} {fd : FuncData} (F : Fun K "low_within" "low_within" s_low_within f fd) : FnOk P w K mg base CX0 1 f fd p_low_within (spP K (S2b lwB)) := by
  refine okP F sc_low_within (fun ds r h => ?_) (fun cdv A outer s H E hr ds r h => ?_)
  · obtain ⟨a, b, rfl, rfl⟩ := h
    rfl
  obtain ⟨a, b, rfl, rfl⟩ := h
  refine ⟨_, (pss_one (ps_ret (pe_or (pe_cmpR op_isN (pv 1) pe_non (nomark _)) (pe_one (pe_and (pe_cmpR op_notN (pv 0) pe_non (nomark _)) (pe_one (pe_cmpR op_ge (pv 0) (pv 1) (nomark _)))))))), ?_⟩
  change AS K _ [En.da _, En.da _] _ _
  try simp only [cxOf_K]
  cases a <;> cases b
  all_goals
    repeat' (first
      | with_reducible apply as_ret
      | ((with_reducible apply ae_var); · rfl)
      | with_reducible apply ae_non
      | with_reducible apply ae_op
      | with_reducible apply ae_andV
      | with_reducible apply ae_orV
      | with_reducible apply ar_I0b
      | with_reducible apply ar_isN
      | with_reducible apply ar_notN
      | refine ⟨_, rfl, ?_⟩
      | (refine ⟨fun hc => ?_, fun hc => ?_⟩ <;> (first | (exfalso; exact absurd (show false = true from hc) (by decide)) | (exfalso; exact absurd (show true = false from hc) (by decide)) | (exfalso; simp at hc; done) | skip))
      | rfl
      | simp only [oD_some, oD_none]
      | fail)
theorem ok_high_within (bl : Blts mg)   {f : Addr} {fd : FuncData} (F : Fun K "high_within" "high_within" s_high_within f fd) : FnOk P w K mg base CX0 1 f fd p_high_within (spP K (S2b hwB)) := by
  refine okP F sc_high_within (fun ds r h => ?_) (fun cdv A outer s H E hr ds r h => ?_)
  · obtain ⟨a, b, rfl, rfl⟩ := h
    rfl
  obtain ⟨a, b, rfl, rfl⟩ := h
  refine ⟨_, (pss_one (ps_ret (pe_or (pe_cmpR op_isN (pv 1) pe_non (nomark _)) (pe_one (pe_and (pe_cmpR op_notN (pv 0) pe_non (nomark _)) (pe_one (pe_cmpR op_le (pv 0) (pv 1) (nomark _)))))))), ?_⟩
  change AS K _ [En.da _, En.da _] _ _
  try simp only [cxOf_K]
  cases a <;> cases b
  all_goals
    repeat' (first
      | with_reducible apply as_ret
      | ((with_reducible apply ae_var); · rfl)
      | with_reducible apply ae_non
      | with_reducible apply ae_op
      | with_reducible apply ae_andV
      | with_reducible apply ae_orV
      | with_reducible apply ar_I0b
      | with_reducible apply ar_isN
      | with_reducible apply ar_notN
      | refine ⟨_, rfl, ?_⟩
      | (refine ⟨fun hc => ?_, fun hc => ?_⟩ <;> (first | (exfalso; exact absurd (show false = true from hc) (by decide)) | (exfalso; exact absurd (show true = false from hc) (by decide)) | (exfalso; simp at hc; done) | skip))
      | rfl
      | simp only [oD_some, oD_none]
      | fail)
theorem ok_total (bl : Blts mg)   {f : Addr} {fd : FuncData} (F : Fun K "total" "total" s_total f fd) : FnOk P w K mg base CX0 1 f fd p_total (spP K (S2 addB)) := by
  refine okP F sc_total (fun ds r h => ?_) (fun cdv A outer s H E hr ds r h => ?_)
  · obtain ⟨a, b, rfl, rfl⟩ := h
    rfl
  obtain ⟨a, b, rfl, rfl⟩ := h
  refine ⟨_, (pss_cons (ps_if (PW.pt (pw_or (pt_cmpR op_isN (pv 0) pe_non (nomark _)) (pw_or1 (pt_cmpR op_isN (pv 1) pe_non (nomark _))))) (pss_one (ps_ret pe_non)) pss_nil)
    (pss_one (ps_ret (pe_op op_add (pv 0) (pv 1))))), ?_⟩
  change AS K _ [En.da _, En.da _] _ _
  try simp only [cxOf_K]
  cases a <;> cases b
  all_goals
    repeat' (first
      | with_reducible apply as_seq
      | with_reducible apply as_ret
      | with_reducible apply as_next
      | with_reducible apply as_if
      | ((with_reducible apply ae_var); · rfl)
      | with_reducible apply ae_non
      | with_reducible apply ae_op
      | with_reducible apply at_test
      | with_reducible apply at_or
      | with_reducible apply ar_I0i
      | with_reducible apply ar_isN
      | refine ⟨_, rfl, ?_⟩
      | (refine ⟨fun hc => ?_, fun hc => ?_⟩ <;> (first | (exfalso; exact absurd (show false = true from hc) (by decide)) | (exfalso; exact absurd (show true = false from hc) (by decide)) | (exfalso; simp at hc; done) | skip))
      | rfl
      | simp only [oD_some, oD_none]
      | fail)
theorem ok_opposite (bl : Blts mg)   {f : Addr} {fd : FuncData} (F : Fun K "opposite" "opposite" s_opposite f fd) : FnOk P w K mg base CX0 1 f fd p_opposite (spP K (S_neg)) := by
  refine okP F sc_opposite (fun ds r h => ?_) (fun cdv A outer s H E hr ds r h => ?_)
  · obtain ⟨a, rfl, rfl⟩ := h
    rfl
  obtain ⟨a, rfl, rfl⟩ := h
  refine ⟨_, (pss_cons (ps_if (pt_cmpR op_isN (pv 0) pe_non (nomark _)) (pss_one (ps_ret pe_non)) pss_nil)
    (pss_one (ps_ret (pe_un un_neg (pv 0))))), ?_⟩
  change AS K _ [En.da _] _ _
  try simp only [cxOf_K]
  cases a
  all_goals
    repeat' (first
      | with_reducible apply as_seq
      | with_reducible apply as_ret
      | with_reducible apply as_next
      | with_reducible apply as_if
      | ((with_reducible apply ae_var); · rfl)
      | with_reducible apply ae_non
      | with_reducible apply ae_op
      | with_reducible apply ae_un
      | with_reducible apply at_test
      | with_reducible apply ar_isN
      | with_reducible apply au_Ui
      | refine ⟨_, rfl, ?_⟩
      | (refine ⟨fun hc => ?_, fun hc => ?_⟩ <;> (first | (exfalso; exact absurd (show false = true from hc) (by decide)) | (exfalso; exact absurd (show true = false from hc) (by decide)) | (exfalso; simp at hc; done) | skip))
      | rfl
      | simp only [oD_some, oD_none]
      | fail)
theorem ok_lets_in (bl : Blts mg) {g_low_within : Addr} {d_low_within : FuncData} (c_low_within : Cal P w K mg base 1 "low_within" p_low_within (spP K (S2b lwB)) g_low_within d_low_within) {g_high_within : Addr} {d_high_within : FuncData} (c_high_within : Cal P w K mg base 1 "high_within" p_high_within (spP K (S2b hwB)) g_high_within d_high_within)  {f : Addr} {fd : FuncData} (F : Fun K "lets_in" "lets_in" s_lets_in f fd) : FnOk P w K mg base CX0 2 f fd p_lets_in (spP K (S_lets)) := by
  refine okP F sc_lets_in (fun ds r h => ?_) (fun cdv A outer s H E hr ds r h => ?_)
  · obtain ⟨a, b, n, rfl, rfl⟩ := h
    rfl
  obtain ⟨a, b, n, rfl, rfl⟩ := h
  refine ⟨_, (pss_one (ps_ret (pe_and (pe_call c_low_within.ok (hr.mono (by decide)) rfl c_low_within.mg c_low_within.kp c_low_within.bi .nil pass0 (pa_cons (pv 2) (pa_cons (pv 0) pa_nil))) (pe_one (pe_call c_high_within.ok (hr.mono (by decide)) rfl c_high_within.mg c_high_within.kp c_high_within.bi .nil pass0 (pa_cons (pv 2) (pa_cons (pv 1) pa_nil))))))), ?_⟩
  change AS K _ [En.da _, En.da _, En.da _] _ _
  try simp only [cxOf_K]
  repeat' (first
    | with_reducible apply ae_call
    | (refine ⟨_, ⟨some _, _, rfl, rfl⟩, ?_⟩)
    | with_reducible apply as_ret
    | ((with_reducible apply ae_var); · rfl)
    | with_reducible apply aa_nil
    | with_reducible apply aa_cons
    | with_reducible apply ae_andV
    | refine ⟨_, rfl, ?_⟩
    | (refine ⟨fun hc => ?_, fun hc => ?_⟩ <;> (first | (exfalso; exact absurd (show false = true from hc) (by decide)) | (exfalso; exact absurd (show true = false from hc) (by decide)) | (exfalso; simp at hc; done) | skip))
    | fail)
  all_goals (unfold letsB; first | (rw [show lwB (some n) a = true from hc]; rfl) | (rw [show lwB (some n) a = false from hc]; rfl) | trace_state)
theorem ok_rest_of (bl : Blts mg)   {f : Addr} {fd : FuncData} (F : Fun K "rest_of" "rest_of" s_rest_of f fd) : FnOk P w K mg base CX0 1 f fd p_rest_of (spP K (S_ro)) := by
  refine okP F sc_rest_of (fun ds r h => ?_) (fun cdv A outer s H E hr ds r h => ?_)
  · obtain ⟨m, n, rfl, rfl⟩ := h
    rfl
  obtain ⟨m, n, rfl, rfl⟩ := h
  refine ⟨_, (pss_cons (ps_if (pt_cmpR op_eq (pv 0) pe_int (nomark _)) (pss_one (ps_ret (pe_tup (pa_cons pe_int (pa_cons (pv 1) pa_nil))))) pss_nil)
    (pss_one (ps_ret (pe_tup (pa_cons (pv 0) (pa_cons (pe_op op_modN (pv 1) (pv 0)) pa_nil)))))), ?_⟩
  change AS K _ [En.da _, En.da _] _ _
  try simp only [cxOf_K]
  by_cases h0 : m = 0
  · subst h0
    repeat' (first
      | with_reducible apply as_seq
      | with_reducible apply as_ret
      | with_reducible apply as_if
      | ((with_reducible apply ae_var); · rfl)
      | with_reducible apply ae_int
      | with_reducible apply ae_op
      | with_reducible apply aa_nil
      | with_reducible apply aa_cons
      | with_reducible apply ae_tup
      | with_reducible apply at_test
      | ((with_reducible apply ar_eq3); · exact ⟨rfl, rfl, rfl⟩)
      | refine ⟨sz60 (Nat.le_of_ble_eq_true rfl), ?_⟩
      | refine ⟨_, rfl, ?_⟩
      | (refine ⟨fun hc => ?_, fun hc => ?_⟩ <;> (first | (exfalso; exact absurd (show false = true from hc) (by decide)) | (exfalso; exact absurd (show true = false from hc) (by decide)) | (exfalso; simp at hc; done) | skip))
      | rfl
      | fail)
  · have hd : decide (V.int m = V.int 0) = false := decide_eq_false (fun z => h0 (by cases z; rfl))
    repeat' (first
      | (refine ⟨_, rfl, ?_⟩; rw [hd]; refine ⟨fun hc => (nomatch hc), fun hc => ?_⟩)
      | refine ar_Ii (C := fun _ j => j ≠ 0) (by first | assumption | omega) ?_
      | with_reducible apply as_seq
      | with_reducible apply as_ret
      | with_reducible apply as_next
      | with_reducible apply as_if
      | ((with_reducible apply ae_var); · rfl)
      | with_reducible apply ae_int
      | with_reducible apply ae_op
      | with_reducible apply aa_nil
      | with_reducible apply aa_cons
      | with_reducible apply ae_tup
      | with_reducible apply at_test
      | ((with_reducible apply ar_eq3); · exact ⟨rfl, rfl, rfl⟩)
      | refine ⟨sz60 (Nat.le_of_ble_eq_true rfl), ?_⟩
      | fail)
    all_goals (show _ = pD (restO m n); unfold restO; rw [if_neg h0])
theorem ok_rest_join (bl : Blts mg) {g_rest_of : Addr} {d_rest_of : FuncData} (c_rest_of : Cal P w K mg base 1 "rest_of" p_rest_of (spP K S_ro) g_rest_of d_rest_of) (hgcd : mg "gcd" = some (.builtin "math.gcd")) {f : Addr} {fd : FuncData} (F : Fun K "rest_join" "rest_join" s_rest_join f fd) : FnOk P w K mg base CX0 2 f fd p_rest_join (spP K (S2r fJoin)) := by
  refine okP F sc_rest_join (fun ds r h => ?_) (fun cdv A outer s H E hr ds r h => ?_)
  · obtain ⟨k, k', m, r, n, s, rfl, v1, v2, rfl⟩ := h
    rfl
  obtain ⟨k, k', m, r, n, s, rfl, v1, v2, rfl⟩ := h
  refine ⟨_, (pss_cons (ps_asg (pv 0) (pg_or (pg_tup rfl (pgs_cons (pg_name (i := 2) sc_rest_join.nd rfl (by first | exact Or.inl rfl | exact Or.inr rfl)) (pgs_cons (pg_name (i := 3) sc_rest_join.nd rfl (by first | exact Or.inl rfl | exact Or.inr rfl)) pgs_nil))) (pg_unl rfl (pgs_cons (pg_name (i := 2) sc_rest_join.nd rfl (by first | exact Or.inl rfl | exact Or.inr rfl)) (pgs_cons (pg_name (i := 3) sc_rest_join.nd rfl (by first | exact Or.inl rfl | exact Or.inr rfl)) pgs_nil)))))
    (pss_cons (ps_asg (pv 1) (pg_or (pg_tup rfl (pgs_cons (pg_name (i := 4) sc_rest_join.nd rfl (by first | exact Or.inl rfl | exact Or.inr rfl)) (pgs_cons (pg_name (i := 5) sc_rest_join.nd rfl (by first | exact Or.inl rfl | exact Or.inr rfl)) pgs_nil))) (pg_unl rfl (pgs_cons (pg_name (i := 4) sc_rest_join.nd rfl (by first | exact Or.inl rfl | exact Or.inr rfl)) (pgs_cons (pg_name (i := 5) sc_rest_join.nd rfl (by first | exact Or.inl rfl | exact Or.inr rfl)) pgs_nil)))))
    (pss_one (ps_ret (pe_call c_rest_of.ok (hr.mono (by decide)) rfl c_rest_of.mg c_rest_of.kp c_rest_of.bi .nil pass0 (pa_cons (pe_callBfun cr_gcd3 rfl hgcd (pa_cons (pv 2) (pa_cons (pv 4) (pa_cons (pe_op op_sub (pv 3) (pv 5)) pa_nil)))) (pa_cons (pv 3) pa_nil))))))), ?_⟩
  change AS K _ [En.da _, En.da _, En.no, En.no, En.no, En.no] _ _
  try simp only [cxOf_K]
  repeat' (first
    | ((with_reducible apply ag_seq); · rfl)
    | with_reducible apply ae_call
    | (refine ⟨_, ⟨_, _, rfl, rfl⟩, ?_⟩)
    | with_reducible apply ac_gcd3
    | with_reducible apply as_seq
    | with_reducible apply as_ret
    | with_reducible apply as_asg
    | ((with_reducible apply ae_var); · rfl)
    | with_reducible apply ae_op
    | with_reducible apply aa_nil
    | with_reducible apply aa_cons
    | with_reducible apply ae_cb
    | with_reducible apply ar_I0i
    | with_reducible apply ag_name
    | with_reducible apply ags_nil
    | with_reducible apply ags_cons
    | rfl
    | fail)
theorem ok_rest_add (bl : Blts mg) {g_rest_of : Addr} {d_rest_of : FuncData} (c_rest_of : Cal P w K mg base 1 "rest_of" p_rest_of (spP K S_ro) g_rest_of d_rest_of) (hgcd : mg "gcd" = some (.builtin "math.gcd")) {f : Addr} {fd : FuncData} (F : Fun K "rest_add" "rest_add" s_rest_add f fd) : FnOk P w K mg base CX0 2 f fd p_rest_add (spP K (S2r fAdd)) := by
  refine okP F sc_rest_add (fun ds r h => ?_) (fun cdv A outer s H E hr ds r h => ?_)
  · obtain ⟨k, k', m, r, n, s, rfl, v1, v2, rfl⟩ := h
    rfl
  obtain ⟨k, k', m, r, n, s, rfl, v1, v2, rfl⟩ := h
  refine ⟨_, (pss_cons (ps_asg (pv 0) (pg_or (pg_tup rfl (pgs_cons (pg_name (i := 2) sc_rest_add.nd rfl (by first | exact Or.inl rfl | exact Or.inr rfl)) (pgs_cons (pg_name (i := 3) sc_rest_add.nd rfl (by first | exact Or.inl rfl | exact Or.inr rfl)) pgs_nil))) (pg_unl rfl (pgs_cons (pg_name (i := 2) sc_rest_add.nd rfl (by first | exact Or.inl rfl | exact Or.inr rfl)) (pgs_cons (pg_name (i := 3) sc_rest_add.nd rfl (by first | exact Or.inl rfl | exact Or.inr rfl)) pgs_nil)))))
    (pss_cons (ps_asg (pv 1) (pg_or (pg_tup rfl (pgs_cons (pg_name (i := 4) sc_rest_add.nd rfl (by first | exact Or.inl rfl | exact Or.inr rfl)) (pgs_cons (pg_name (i := 5) sc_rest_add.nd rfl (by first | exact Or.inl rfl | exact Or.inr rfl)) pgs_nil))) (pg_unl rfl (pgs_cons (pg_name (i := 4) sc_rest_add.nd rfl (by first | exact Or.inl rfl | exact Or.inr rfl)) (pgs_cons (pg_name (i := 5) sc_rest_add.nd rfl (by first | exact Or.inl rfl | exact Or.inr rfl)) pgs_nil)))))
    (pss_one (ps_ret (pe_call c_rest_of.ok (hr.mono (by decide)) rfl c_rest_of.mg c_rest_of.kp c_rest_of.bi .nil pass0 (pa_cons (pe_callBfun cr_gcd rfl hgcd (pa_cons (pv 2) (pa_cons (pv 4) pa_nil))) (pa_cons (pe_op op_add (pv 3) (pv 5)) pa_nil))))))), ?_⟩
  change AS K _ [En.da _, En.da _, En.no, En.no, En.no, En.no] _ _
  try simp only [cxOf_K]
  repeat' (first
    | ((with_reducible apply ag_seq); · rfl)
    | with_reducible apply ae_call
    | (refine ⟨_, ⟨_, _, rfl, rfl⟩, ?_⟩)
    | with_reducible apply ac_gcd2
    | with_reducible apply as_seq
    | with_reducible apply as_ret
    | with_reducible apply as_asg
    | ((with_reducible apply ae_var); · rfl)
    | with_reducible apply ae_op
    | with_reducible apply aa_nil
    | with_reducible apply aa_cons
    | with_reducible apply ae_cb
    | with_reducible apply ar_I0i
    | with_reducible apply ag_name
    | with_reducible apply ags_nil
    | with_reducible apply ags_cons
    | rfl
    | fail)
theorem ok_rest_sub (bl : Blts mg) {g_rest_of : Addr} {d_rest_of : FuncData} (c_rest_of : Cal P w K mg base 1 "rest_of" p_rest_of (spP K S_ro) g_rest_of d_rest_of) (hgcd : mg "gcd" = some (.builtin "math.gcd")) {f : Addr} {fd : FuncData} (F : Fun K "rest_sub" "rest_sub" s_rest_sub f fd) : FnOk P w K mg base CX0 2 f fd p_rest_sub (spP K (S2r fSub)) := by
  refine okP F sc_rest_sub (fun ds r h => ?_) (fun cdv A outer s H E hr ds r h => ?_)
  · obtain ⟨k, k', m, r, n, s, rfl, v1, v2, rfl⟩ := h
    rfl
  obtain ⟨k, k', m, r, n, s, rfl, v1, v2, rfl⟩ := h
  refine ⟨_, (pss_cons (ps_asg (pv 0) (pg_or (pg_tup rfl (pgs_cons (pg_name (i := 2) sc_rest_sub.nd rfl (by first | exact Or.inl rfl | exact Or.inr rfl)) (pgs_cons (pg_name (i := 3) sc_rest_sub.nd rfl (by first | exact Or.inl rfl | exact Or.inr rfl)) pgs_nil))) (pg_unl rfl (pgs_cons (pg_name (i := 2) sc_rest_sub.nd rfl (by first | exact Or.inl rfl | exact Or.inr rfl)) (pgs_cons (pg_name (i := 3) sc_rest_sub.nd rfl (by first | exact Or.inl rfl | exact Or.inr rfl)) pgs_nil)))))
    (pss_cons (ps_asg (pv 1) (pg_or (pg_tup rfl (pgs_cons (pg_name (i := 4) sc_rest_sub.nd rfl (by first | exact Or.inl rfl | exact Or.inr rfl)) (pgs_cons (pg_name (i := 5) sc_rest_sub.nd rfl (by first | exact Or.inl rfl | exact Or.inr rfl)) pgs_nil))) (pg_unl rfl (pgs_cons (pg_name (i := 4) sc_rest_sub.nd rfl (by first | exact Or.inl rfl | exact Or.inr rfl)) (pgs_cons (pg_name (i := 5) sc_rest_sub.nd rfl (by first | exact Or.inl rfl | exact Or.inr rfl)) pgs_nil)))))
    (pss_one (ps_ret (pe_call c_rest_of.ok (hr.mono (by decide)) rfl c_rest_of.mg c_rest_of.kp c_rest_of.bi .nil pass0 (pa_cons (pe_callBfun cr_gcd rfl hgcd (pa_cons (pv 2) (pa_cons (pv 4) pa_nil))) (pa_cons (pe_op op_sub (pv 3) (pv 5)) pa_nil))))))), ?_⟩
  change AS K _ [En.da _, En.da _, En.no, En.no, En.no, En.no] _ _
  try simp only [cxOf_K]
  repeat' (first
    | ((with_reducible apply ag_seq); · rfl)
    | with_reducible apply ae_call
    | (refine ⟨_, ⟨_, _, rfl, rfl⟩, ?_⟩)
    | with_reducible apply ac_gcd2
    | with_reducible apply as_seq
    | with_reducible apply as_ret
    | with_reducible apply as_asg
    | ((with_reducible apply ae_var); · rfl)
    | with_reducible apply ae_op
    | with_reducible apply aa_nil
    | with_reducible apply aa_cons
    | with_reducible apply ae_cb
    | with_reducible apply ar_I0i
    | with_reducible apply ag_name
    | with_reducible apply ags_nil
    | with_reducible apply ags_cons
    | rfl
    | fail)
theorem ok_rest_mul (bl : Blts mg) {g_rest_of : Addr} {d_rest_of : FuncData} (c_rest_of : Cal P w K mg base 1 "rest_of" p_rest_of (spP K S_ro) g_rest_of d_rest_of) (hgcd : mg "gcd" = some (.builtin "math.gcd")) {f : Addr} {fd : FuncData} (F : Fun K "rest_mul" "rest_mul" s_rest_mul f fd) : FnOk P w K mg base CX0 2 f fd p_rest_mul (spP K (S2r fMul)) := by
  refine okP F sc_rest_mul (fun ds r h => ?_) (fun cdv A outer s H E hr ds r h => ?_)
  · obtain ⟨k, k', m, r, n, s, rfl, v1, v2, rfl⟩ := h
    rfl
  obtain ⟨k, k', m, r, n, s, rfl, v1, v2, rfl⟩ := h
  refine ⟨_, (pss_cons (ps_asg (pv 0) (pg_or (pg_tup rfl (pgs_cons (pg_name (i := 2) sc_rest_mul.nd rfl (by first | exact Or.inl rfl | exact Or.inr rfl)) (pgs_cons (pg_name (i := 3) sc_rest_mul.nd rfl (by first | exact Or.inl rfl | exact Or.inr rfl)) pgs_nil))) (pg_unl rfl (pgs_cons (pg_name (i := 2) sc_rest_mul.nd rfl (by first | exact Or.inl rfl | exact Or.inr rfl)) (pgs_cons (pg_name (i := 3) sc_rest_mul.nd rfl (by first | exact Or.inl rfl | exact Or.inr rfl)) pgs_nil)))))
    (pss_cons (ps_asg (pv 1) (pg_or (pg_tup rfl (pgs_cons (pg_name (i := 4) sc_rest_mul.nd rfl (by first | exact Or.inl rfl | exact Or.inr rfl)) (pgs_cons (pg_name (i := 5) sc_rest_mul.nd rfl (by first | exact Or.inl rfl | exact Or.inr rfl)) pgs_nil))) (pg_unl rfl (pgs_cons (pg_name (i := 4) sc_rest_mul.nd rfl (by first | exact Or.inl rfl | exact Or.inr rfl)) (pgs_cons (pg_name (i := 5) sc_rest_mul.nd rfl (by first | exact Or.inl rfl | exact Or.inr rfl)) pgs_nil)))))
    (pss_one (ps_ret (pe_call c_rest_of.ok (hr.mono (by decide)) rfl c_rest_of.mg c_rest_of.kp c_rest_of.bi .nil pass0 (pa_cons (pe_callBfun cr_gcd3 rfl hgcd (pa_cons (pe_op op_mulW (pv 3) (pv 4)) (pa_cons (pe_op op_mulW (pv 5) (pv 2)) (pa_cons (pe_op op_mulW (pv 2) (pv 4)) pa_nil)))) (pa_cons (pe_op op_mulW (pv 3) (pv 5)) pa_nil))))))), ?_⟩
  change AS K _ [En.da _, En.da _, En.no, En.no, En.no, En.no] _ _
  try simp only [cxOf_K]
  have b1 := v1.b
  have b2 := v2.b
  repeat' (first
    | ((with_reducible apply ag_seq); · rfl)
    | with_reducible apply ae_call
    | (refine ⟨_, ⟨_, _, rfl, rfl⟩, ?_⟩)
    | with_reducible apply ac_gcd3
    | refine ar_Ii (C := CMulW) (mulW (by omega) (by omega)) ?_
    | with_reducible apply as_seq
    | with_reducible apply as_ret
    | with_reducible apply as_asg
    | ((with_reducible apply ae_var); · rfl)
    | with_reducible apply ae_op
    | with_reducible apply aa_nil
    | with_reducible apply aa_cons
    | with_reducible apply ae_cb
    | with_reducible apply ag_name
    | with_reducible apply ags_nil
    | with_reducible apply ags_cons
    | rfl
    | fail)
theorem ok_rest_div (bl : Blts mg) {g_rest_of : Addr} {d_rest_of : FuncData} (c_rest_of : Cal P w K mg base 1 "rest_of" p_rest_of (spP K S_ro) g_rest_of d_rest_of)  {f : Addr} {fd : FuncData} (F : Fun K "rest_div" "rest_div" s_rest_div f fd) : FnOk P w K mg base CX0 2 f fd p_rest_div (spP K (S2r fDiv)) := by
  refine okP F sc_rest_div (fun ds r h => ?_) (fun cdv A outer s H E hr ds r h => ?_)
  · obtain ⟨k, k', m, r, n, s, rfl, v1, v2, rfl⟩ := h
    rfl
  obtain ⟨k, k', m, r, n, s, rfl, v1, v2, rfl⟩ := h
  refine ⟨_, (pss_cons (ps_asg (pv 0) (pg_or (pg_tup rfl (pgs_cons (pg_name (i := 2) sc_rest_div.nd rfl (by first | exact Or.inl rfl | exact Or.inr rfl)) (pgs_cons (pg_name (i := 3) sc_rest_div.nd rfl (by first | exact Or.inl rfl | exact Or.inr rfl)) pgs_nil))) (pg_unl rfl (pgs_cons (pg_name (i := 2) sc_rest_div.nd rfl (by first | exact Or.inl rfl | exact Or.inr rfl)) (pgs_cons (pg_name (i := 3) sc_rest_div.nd rfl (by first | exact Or.inl rfl | exact Or.inr rfl)) pgs_nil)))))
    (pss_cons (ps_asg (pv 1) (pg_or (pg_tup rfl (pgs_cons (pg_name (i := 4) sc_rest_div.nd rfl (by first | exact Or.inl rfl | exact Or.inr rfl)) (pgs_cons (pg_name (i := 5) sc_rest_div.nd rfl (by first | exact Or.inl rfl | exact Or.inr rfl)) pgs_nil))) (pg_unl rfl (pgs_cons (pg_name (i := 4) sc_rest_div.nd rfl (by first | exact Or.inl rfl | exact Or.inr rfl)) (pgs_cons (pg_name (i := 5) sc_rest_div.nd rfl (by first | exact Or.inl rfl | exact Or.inr rfl)) pgs_nil)))))
    (pss_cons (ps_if (PW.pt (pw_and (pt_cmpR op_eq (pv 4) pe_int (nomark _)) (pw_and1 (pt_cmpR op_eq (pv 5) pe_int (nomark _))))) (pss_one (ps_ret pe_non)) pss_nil)
    (pss_cons (ps_if (PW.pt (pw_or (pt_cmpR op_ne (pv 4) pe_int (nomark _)) (pw_or1 (pt_cmpR op_ne (pe_op op_modN (pv 2) (pv 5)) pe_int (nomark _))))) (pss_one (ps_ret (pe_tup (pa_cons pe_int (pa_cons pe_int pa_nil))))) pss_nil)
    (pss_one (ps_ret (pe_call c_rest_of.ok (hr.mono (by decide)) rfl c_rest_of.mg c_rest_of.kp c_rest_of.bi .nil pass0 (pa_cons (pe_callB call_abs rfl bl.abs (by decide +kernel) (pa_cons (pe_op op_fdivB (pv 2) (pv 5)) pa_nil)) (pa_cons (pe_op op_fdivB (pv 3) (pv 5)) pa_nil))))))))), ?_⟩
  change AS K _ [En.da _, En.da _, En.no, En.no, En.no, En.no] _ _
  try simp only [cxOf_K]
  have b1 := v1.b
  have b2 := v2.b
  by_cases hn : n = 0
  · subst hn
    by_cases hs : s = 0
    · subst hs
      repeat' (first
        | ((with_reducible apply ag_seq); · rfl)
        | with_reducible apply as_seq
        | with_reducible apply as_ret
        | with_reducible apply as_if
        | with_reducible apply as_asg
        | ((with_reducible apply ae_var); · rfl)
        | with_reducible apply ae_int
        | with_reducible apply ae_non
        | with_reducible apply ae_op
        | with_reducible apply at_test
        | with_reducible apply at_and
        | ((with_reducible apply ar_eq3); · exact ⟨rfl, rfl, rfl⟩)
        | with_reducible apply ag_name
        | with_reducible apply ags_nil
        | with_reducible apply ags_cons
        | refine ⟨_, rfl, ?_⟩
        | (refine ⟨fun hc => ?_, fun hc => ?_⟩ <;> (first | (exfalso; exact absurd (show false = true from hc) (by decide)) | (exfalso; exact absurd (show true = false from hc) (by decide)) | (exfalso; simp at hc; done) | skip))
        | rfl
        | fail)
    · have zs : decide (V.int s = V.int 0) = false := vne hs
      have ys : (!decide (V.int s = V.int 0)) = true := vnn hs
      by_cases hm : m.fmod s = 0
      · have zm : (!decide (V.int (m.fmod s) = V.int 0)) = false := vee hm
        repeat' (first
          | ((with_reducible apply ag_seq); · rfl)
          | (refine ⟨_, rfl, ?_⟩; rw [zs]; refine ⟨fun hc => (nomatch hc), fun hc => ?_⟩)
          | (refine ⟨_, rfl, ?_⟩; rw [zm]; refine ⟨fun hc => (nomatch hc), fun hc => ?_⟩)
          | refine ar_Ii (C := fun _ j => j ≠ 0) (by first | assumption | omega) ?_
          | refine ar_Ii (C := CDivB) (divB (by first | assumption | omega) (by omega) (by omega)) ?_
          | with_reducible apply ae_call
          | (refine ⟨_, ⟨_, _, rfl, rfl⟩, ?_⟩)
          | with_reducible apply as_seq
          | with_reducible apply as_ret
          | with_reducible apply as_next
          | with_reducible apply as_if
          | with_reducible apply as_asg
          | ((with_reducible apply ae_var); · rfl)
          | with_reducible apply ae_int
          | with_reducible apply ae_op
          | with_reducible apply aa_nil
          | with_reducible apply aa_cons
          | with_reducible apply ae_cb
          | with_reducible apply at_test
          | with_reducible apply at_and
          | with_reducible apply at_or
          | with_reducible apply ac_abs
          | ((with_reducible apply ar_eq3); · exact ⟨rfl, rfl, rfl⟩)
          | ((with_reducible apply ar_ne3); · exact ⟨rfl, rfl, rfl⟩)
          | with_reducible apply ag_name
          | with_reducible apply ags_nil
          | with_reducible apply ags_cons
          | refine ⟨_, rfl, ?_⟩
          | (refine ⟨fun hc => ?_, fun hc => ?_⟩ <;> (first | (exfalso; exact absurd (show false = true from hc) (by decide)) | (exfalso; exact absurd (show true = false from hc) (by decide)) | (exfalso; simp at hc; done) | skip))
          | fail)
        all_goals (rw [fDiv_n hs hm, abs_n]; rfl)
      · have zm : (!decide (V.int (m.fmod s) = V.int 0)) = true := vnn hm
        repeat' (first
          | ((with_reducible apply ag_seq); · rfl)
          | (refine ⟨_, rfl, ?_⟩; rw [zs]; refine ⟨fun hc => (nomatch hc), fun hc => ?_⟩)
          | (refine ⟨_, rfl, ?_⟩; rw [zm]; refine ⟨fun hc => ?_, fun hc => (nomatch hc)⟩)
          | refine ar_Ii (C := fun _ j => j ≠ 0) (by first | assumption | omega) ?_
          | with_reducible apply as_seq
          | with_reducible apply as_ret
          | with_reducible apply as_next
          | with_reducible apply as_if
          | with_reducible apply as_asg
          | ((with_reducible apply ae_var); · rfl)
          | with_reducible apply ae_int
          | with_reducible apply ae_op
          | with_reducible apply aa_nil
          | with_reducible apply aa_cons
          | with_reducible apply ae_tup
          | with_reducible apply at_test
          | with_reducible apply at_and
          | with_reducible apply at_or
          | ((with_reducible apply ar_eq3); · exact ⟨rfl, rfl, rfl⟩)
          | ((with_reducible apply ar_ne3); · exact ⟨rfl, rfl, rfl⟩)
          | with_reducible apply ag_name
          | with_reducible apply ags_nil
          | with_reducible apply ags_cons
          | refine ⟨sz60 (Nat.le_of_ble_eq_true rfl), ?_⟩
          | refine ⟨_, rfl, ?_⟩
          | (refine ⟨fun hc => ?_, fun hc => ?_⟩ <;> (first | (exfalso; exact absurd (show false = true from hc) (by decide)) | (exfalso; exact absurd (show true = false from hc) (by decide)) | (exfalso; simp at hc; done) | skip))
          | fail)
        all_goals (rw [fDiv_1 (.inr hm) (by omega)]; rfl)
  · have zn : decide (V.int n = V.int 0) = false := vne hn
    have yn : (!decide (V.int n = V.int 0)) = true := vnn hn
    repeat' (first
      | ((with_reducible apply ag_seq); · rfl)
      | (refine ⟨_, rfl, ?_⟩; rw [yn]; refine ⟨fun hc => ?_, fun hc => (nomatch hc)⟩)
      | (refine ⟨_, rfl, ?_⟩; rw [zn]; refine ⟨fun hc => (nomatch hc), fun hc => ?_⟩)
      | with_reducible apply as_seq
      | with_reducible apply as_ret
      | with_reducible apply as_next
      | with_reducible apply as_if
      | with_reducible apply as_asg
      | ((with_reducible apply ae_var); · rfl)
      | with_reducible apply ae_int
      | with_reducible apply ae_op
      | with_reducible apply aa_nil
      | with_reducible apply aa_cons
      | with_reducible apply ae_tup
      | with_reducible apply at_test
      | with_reducible apply at_and
      | with_reducible apply at_or
      | ((with_reducible apply ar_eq3); · exact ⟨rfl, rfl, rfl⟩)
      | ((with_reducible apply ar_ne3); · exact ⟨rfl, rfl, rfl⟩)
      | with_reducible apply ag_name
      | with_reducible apply ags_nil
      | with_reducible apply ags_cons
      | refine ⟨sz60 (Nat.le_of_ble_eq_true rfl), ?_⟩
      | (refine ⟨fun hc => ?_, fun hc => ?_⟩ <;> (first | (exfalso; exact absurd (show false = true from hc) (by decide)) | (exfalso; exact absurd (show true = false from hc) (by decide)) | (exfalso; simp at hc; done) | skip))
      | fail)
    all_goals (rw [fDiv_1 (.inl hn) (by omega)]; rfl)
theorem ok_rest_mod (bl : Blts mg) {g_rest_of : Addr} {d_rest_of : FuncData} (c_rest_of : Cal P w K mg base 1 "rest_of" p_rest_of (spP K S_ro) g_rest_of d_rest_of) (hgcd : mg "gcd" = some (.builtin "math.gcd")) {f : Addr} {fd : FuncData} (F : Fun K "rest_mod" "rest_mod" s_rest_mod f fd) : FnOk P w K mg base CX0 2 f fd p_rest_mod (spP K (S2r fMod)) := by
  refine okP F sc_rest_mod (fun ds r h => ?_) (fun cdv A outer s H E hr ds r h => ?_)
  · obtain ⟨k, k', m, r, n, s, rfl, v1, v2, rfl⟩ := h
    rfl
  obtain ⟨k, k', m, r, n, s, rfl, v1, v2, rfl⟩ := h
  refine ⟨_, (pss_cons (ps_asg (pv 0) (pg_or (pg_tup rfl (pgs_cons (pg_name (i := 2) sc_rest_mod.nd rfl (by first | exact Or.inl rfl | exact Or.inr rfl)) (pgs_cons (pg_name (i := 3) sc_rest_mod.nd rfl (by first | exact Or.inl rfl | exact Or.inr rfl)) pgs_nil))) (pg_unl rfl (pgs_cons (pg_name (i := 2) sc_rest_mod.nd rfl (by first | exact Or.inl rfl | exact Or.inr rfl)) (pgs_cons (pg_name (i := 3) sc_rest_mod.nd rfl (by first | exact Or.inl rfl | exact Or.inr rfl)) pgs_nil)))))
    (pss_cons (ps_asg (pv 1) (pg_or (pg_tup rfl (pgs_cons (pg_name (i := 4) sc_rest_mod.nd rfl (by first | exact Or.inl rfl | exact Or.inr rfl)) (pgs_cons (pg_name (i := 5) sc_rest_mod.nd rfl (by first | exact Or.inl rfl | exact Or.inr rfl)) pgs_nil))) (pg_unl rfl (pgs_cons (pg_name (i := 4) sc_rest_mod.nd rfl (by first | exact Or.inl rfl | exact Or.inr rfl)) (pgs_cons (pg_name (i := 5) sc_rest_mod.nd rfl (by first | exact Or.inl rfl | exact Or.inr rfl)) pgs_nil)))))
    (pss_cons (ps_if (PW.pt (pw_and (pt_cmpR op_eq (pv 4) pe_int (nomark _)) (pw_and1 (pt_cmpR op_eq (pv 5) pe_int (nomark _))))) (pss_one (ps_ret pe_non)) pss_nil)
    (pss_cons (ps_if (PW.pt (pw_and (pt_cmpR op_eq (pv 2) pe_int (nomark _)) (pw_and1 (pt_cmpR op_eq (pv 4) pe_int (nomark _))))) (pss_one (ps_ret (pe_tup (pa_cons pe_int (pa_cons (pe_op op_modN (pv 3) (pv 5)) pa_nil))))) pss_nil)
    (pss_one (ps_ret (pe_call c_rest_of.ok (hr.mono (by decide)) rfl c_rest_of.mg c_rest_of.kp c_rest_of.bi .nil pass0 (pa_cons (pe_callBfun cr_gcd3 rfl hgcd (pa_cons (pv 2) (pa_cons (pv 4) (pa_cons (pv 5) pa_nil)))) (pa_cons (pv 3) pa_nil))))))))), ?_⟩
  change AS K _ [En.da _, En.da _, En.no, En.no, En.no, En.no] _ _
  try simp only [cxOf_K]
  by_cases hn : n = 0
  · subst hn
    by_cases hs : s = 0
    · subst hs
      repeat' (first
        | ((with_reducible apply ag_seq); · rfl)
        | with_reducible apply as_seq
        | with_reducible apply as_ret
        | with_reducible apply as_if
        | with_reducible apply as_asg
        | ((with_reducible apply ae_var); · rfl)
        | with_reducible apply ae_int
        | with_reducible apply ae_non
        | with_reducible apply ae_op
        | with_reducible apply at_test
        | with_reducible apply at_and
        | ((with_reducible apply ar_eq3); · exact ⟨rfl, rfl, rfl⟩)
        | with_reducible apply ag_name
        | with_reducible apply ags_nil
        | with_reducible apply ags_cons
        | refine ⟨_, rfl, ?_⟩
        | (refine ⟨fun hc => ?_, fun hc => ?_⟩ <;> (first | (exfalso; exact absurd (show false = true from hc) (by decide)) | (exfalso; exact absurd (show true = false from hc) (by decide)) | (exfalso; simp at hc; done) | skip))
        | rfl
        | fail)
    · have zs : decide (V.int s = V.int 0) = false := vne hs
      have ys : (!decide (V.int s = V.int 0)) = true := vnn hs
      by_cases hm : m = 0
      · subst hm
        repeat' (first
          | ((with_reducible apply ag_seq); · rfl)
          | (refine ⟨_, rfl, ?_⟩; rw [zs]; refine ⟨fun hc => (nomatch hc), fun hc => ?_⟩)
          | refine ar_Ii (C := fun _ j => j ≠ 0) (by first | assumption | omega) ?_
          | with_reducible apply as_seq
          | with_reducible apply as_ret
          | with_reducible apply as_next
          | with_reducible apply as_if
          | with_reducible apply as_asg
          | ((with_reducible apply ae_var); · rfl)
          | with_reducible apply ae_int
          | with_reducible apply ae_op
          | with_reducible apply aa_nil
          | with_reducible apply aa_cons
          | with_reducible apply ae_tup
          | with_reducible apply at_test
          | with_reducible apply at_and
          | ((with_reducible apply ar_eq3); · exact ⟨rfl, rfl, rfl⟩)
          | with_reducible apply ag_name
          | with_reducible apply ags_nil
          | with_reducible apply ags_cons
          | refine ⟨sz60 (Nat.le_of_ble_eq_true rfl), ?_⟩
          | refine ⟨_, rfl, ?_⟩
          | (refine ⟨fun hc => ?_, fun hc => ?_⟩ <;> (first | (exfalso; exact absurd (show false = true from hc) (by decide)) | (exfalso; exact absurd (show true = false from hc) (by decide)) | (exfalso; simp at hc; done) | skip))
          | fail)
        all_goals (show _ = pO (fMod 0 r 0 s); unfold fMod; rw [if_neg (by omega), if_pos ⟨rfl, rfl⟩]; rfl)
      · have zm : decide (V.int m = V.int 0) = false := vne hm
        have ym : (!decide (V.int m = V.int 0)) = true := vnn hm
        repeat' (first
          | ((with_reducible apply ag_seq); · rfl)
          | (refine ⟨_, rfl, ?_⟩; rw [zs]; refine ⟨fun hc => (nomatch hc), fun hc => ?_⟩)
          | (refine ⟨_, rfl, ?_⟩; rw [zm]; refine ⟨fun hc => (nomatch hc), fun hc => ?_⟩)
          | with_reducible apply ae_call
          | (refine ⟨_, ⟨_, _, rfl, rfl⟩, ?_⟩)
          | with_reducible apply ac_gcd3
          | with_reducible apply as_seq
          | with_reducible apply as_ret
          | with_reducible apply as_next
          | with_reducible apply as_if
          | with_reducible apply as_asg
          | ((with_reducible apply ae_var); · rfl)
          | with_reducible apply ae_int
          | with_reducible apply ae_op
          | with_reducible apply aa_nil
          | with_reducible apply aa_cons
          | with_reducible apply ae_cb
          | with_reducible apply at_test
          | with_reducible apply at_and
          | ((with_reducible apply ar_eq3); · exact ⟨rfl, rfl, rfl⟩)
          | with_reducible apply ag_name
          | with_reducible apply ags_nil
          | with_reducible apply ags_cons
          | refine ⟨_, rfl, ?_⟩
          | (refine ⟨fun hc => ?_, fun hc => ?_⟩ <;> (first | (exfalso; exact absurd (show false = true from hc) (by decide)) | (exfalso; exact absurd (show true = false from hc) (by decide)) | (exfalso; simp at hc; done) | skip))
          | fail)
        all_goals (show _ = pO (fMod m r 0 s); unfold fMod; rw [if_neg (by omega), if_neg (by omega)]; rfl)
  · have zn : decide (V.int n = V.int 0) = false := vne hn
    have yn : (!decide (V.int n = V.int 0)) = true := vnn hn
    by_cases hm : m = 0
    · subst hm
      repeat' (first
        | ((with_reducible apply ag_seq); · rfl)
        | (refine ⟨_, rfl, ?_⟩; rw [zn]; refine ⟨fun hc => (nomatch hc), fun hc => ?_⟩)
        | with_reducible apply ae_call
        | (refine ⟨_, ⟨_, _, rfl, rfl⟩, ?_⟩)
        | with_reducible apply ac_gcd3
        | with_reducible apply as_seq
        | with_reducible apply as_ret
        | with_reducible apply as_next
        | with_reducible apply as_if
        | with_reducible apply as_asg
        | ((with_reducible apply ae_var); · rfl)
        | with_reducible apply ae_int
        | with_reducible apply ae_op
        | with_reducible apply aa_nil
        | with_reducible apply aa_cons
        | with_reducible apply ae_cb
        | with_reducible apply at_test
        | with_reducible apply at_and
        | ((with_reducible apply ar_eq3); · exact ⟨rfl, rfl, rfl⟩)
        | with_reducible apply ag_name
        | with_reducible apply ags_nil
        | with_reducible apply ags_cons
        | refine ⟨_, rfl, ?_⟩
        | (refine ⟨fun hc => ?_, fun hc => ?_⟩ <;> (first | (exfalso; exact absurd (show false = true from hc) (by decide)) | (exfalso; exact absurd (show true = false from hc) (by decide)) | (exfalso; simp at hc; done) | skip))
        | fail)
      all_goals (show _ = pO (fMod 0 r n s); unfold fMod; rw [if_neg (by omega), if_neg (by omega)]; rfl)
    · have zm : decide (V.int m = V.int 0) = false := vne hm
      have ym : (!decide (V.int m = V.int 0)) = true := vnn hm
      repeat' (first
        | ((with_reducible apply ag_seq); · rfl)
        | (refine ⟨_, rfl, ?_⟩; rw [zn]; refine ⟨fun hc => (nomatch hc), fun hc => ?_⟩)
        | (refine ⟨_, rfl, ?_⟩; rw [zm]; refine ⟨fun hc => (nomatch hc), fun hc => ?_⟩)
        | with_reducible apply ae_call
        | (refine ⟨_, ⟨_, _, rfl, rfl⟩, ?_⟩)
        | with_reducible apply ac_gcd3
        | with_reducible apply as_seq
        | with_reducible apply as_ret
        | with_reducible apply as_next
        | with_reducible apply as_if
        | with_reducible apply as_asg
        | ((with_reducible apply ae_var); · rfl)
        | with_reducible apply ae_int
        | with_reducible apply ae_op
        | with_reducible apply aa_nil
        | with_reducible apply aa_cons
        | with_reducible apply ae_cb
        | with_reducible apply at_test
        | with_reducible apply at_and
        | ((with_reducible apply ar_eq3); · exact ⟨rfl, rfl, rfl⟩)
        | with_reducible apply ag_name
        | with_reducible apply ags_nil
        | with_reducible apply ags_cons
        | (refine ⟨fun hc => ?_, fun hc => ?_⟩ <;> (first | (exfalso; exact absurd (show false = true from hc) (by decide)) | (exfalso; exact absurd (show true = false from hc) (by decide)) | (exfalso; simp at hc; done) | skip))
        | fail)
      all_goals (show _ = pO (fMod m r n s); unfold fMod; rw [if_neg (by omega), if_neg (by omega)]; rfl)
theorem ar_eqPD {K : PySem.W.Frag} {Φ : Dt → Prop} {p : IP} {c d : Int} (h : Φ (.bl (decide (p = (c, d))))) : AR K (rEqD K) (pD p) (.tup [.int c, .int d]) Φ := ar_eqP h
theorem ar_gtPD {K : PySem.W.Frag} {Φ : Dt → Prop} {p : IP} {c d : Int} (h : Φ (.bl (ltP (c, d) p))) : AR K (rGtP K) (pD p) (.tup [.int c, .int d]) Φ := ar_gtP h
def fT : Dt → Dt → Dt
  | .tup [.int u, .int v], .tup [.int x, .int y] => pD (timP (u, v) (x, y))
  | d, _ => d
theorem ok_direction (bl : Blts mg)   {f : Addr} {fd : FuncData} (F : Fun K "direction" "direction" s_direction f fd) : FnOk P w K mg base CX0 1 f fd p_direction (spP K (S_dir)) := by
  refine okP F sc_direction (fun ds r h => ?_) (fun cdv A outer s H E hr ds r h => ?_)
  · obtain ⟨p, rfl, rfl⟩ := h
    rfl
  obtain ⟨p, rfl, rfl⟩ := h
  refine ⟨_, (pss_cons (ps_if (pt_cmpR (op_eqD hr.units) (pv 0) (pe_tup (pa_cons pe_int (pa_cons pe_int pa_nil))) (nomark _)) (pss_one (ps_ret pe_int)) pss_nil)
    (pss_one (ps_ret (pe_ifExp (pt_cmpR (op_gtP hr.units) (pv 0) (pe_tup (pa_cons pe_int (pa_cons pe_int pa_nil))) (nomark _)) pe_int (pe_un un_neg pe_int))))), ?_⟩
  change AS K _ [En.da _] _ _
  try simp only [cxOf_K]
  repeat' (first
    | refine ar_eqPD ?_
    | refine ar_gtPD ?_
    | with_reducible apply as_seq
    | with_reducible apply as_ret
    | with_reducible apply as_next
    | with_reducible apply as_if
    | ((with_reducible apply ae_var); · rfl)
    | with_reducible apply ae_int
    | with_reducible apply ae_op
    | with_reducible apply ae_un
    | with_reducible apply aa_nil
    | with_reducible apply aa_cons
    | with_reducible apply ae_tup
    | with_reducible apply ae_if
    | with_reducible apply at_test
    | with_reducible apply au_Ui
    | refine ⟨sz60 (Nat.le_of_ble_eq_true rfl), ?_⟩
    | refine ⟨_, rfl, ?_⟩
    | (refine ⟨fun hc => ?_, fun hc => ?_⟩ <;> (first | (exfalso; exact absurd (show false = true from hc) (by decide)) | (exfalso; exact absurd (show true = false from hc) (by decide)) | (exfalso; simp at hc; done) | skip))
    | fail)
  all_goals (simp_all [dirP])
theorem ok_bound_of (bl : Blts mg)   {f : Addr} {fd : FuncData} (F : Fun K "bound_of" "bound_of" s_bound_of f fd) : FnOk P w K mg base CX0 1 f fd p_bound_of (spP K (S_bnd)) := by
  refine okP F sc_bound_of (fun ds r h => ?_) (fun cdv A outer s H E hr ds r h => ?_)
  · obtain ⟨p, rfl, rfl⟩ := h
    rfl
  obtain ⟨p, rfl, rfl⟩ := h
  refine ⟨_, (pss_one (ps_ret (pe_ifExp (pt_cmpR op_eq (pe_ix ix_tup (pv 0) pe_int (fun _ _ => rfl)) pe_int (nomark _)) (pe_ix ix_tup (pv 0) pe_int (fun _ _ => rfl)) pe_non))), ?_⟩
  change AS K _ [En.da _] _ _
  try simp only [cxOf_K]
  repeat' (first
    | with_reducible apply as_ret
    | ((with_reducible apply ae_var); · rfl)
    | with_reducible apply ae_int
    | with_reducible apply ae_non
    | with_reducible apply ae_op
    | with_reducible apply ae_if
    | with_reducible apply at_test
    | ((with_reducible apply ar_ixT); · rfl)
    | ((with_reducible apply ar_eq3); · exact ⟨rfl, rfl, rfl⟩)
    | refine ⟨_, rfl, ?_⟩
    | (refine ⟨fun hc => ?_, fun hc => ?_⟩ <;> (first | (exfalso; exact absurd (show false = true from hc) (by decide)) | (exfalso; exact absurd (show true = false from hc) (by decide)) | (exfalso; simp at hc; done) | skip))
    | fail)
  all_goals (simp_all [bndP, oD])
theorem ok_times (bl : Blts mg) {g_direction : Addr} {d_direction : FuncData} (c_direction : Cal P w K mg base 1 "direction" p_direction (spP K S_dir) g_direction d_direction)  {f : Addr} {fd : FuncData} (F : Fun K "times" "times" s_times f fd) : FnOk P w K mg base CX0 2 f fd p_times (spP K (S_times)) := by
  refine okP F sc_times (fun ds r h => ?_) (fun cdv A outer s H E hr ds r h => ?_)
  · obtain ⟨p, q, rfl, hc0, hc1, rfl⟩ := h
    rfl
  obtain ⟨p, q, rfl, hc0, hc1, rfl⟩ := h
  refine ⟨_, (pss_cons (ps_if (PW.pt (pw_and (pt_cmpR op_eq (pe_ix ix_tup (pv 0) pe_int (fun _ _ => rfl)) pe_int (nomark _)) (pw_and1 (pt_cmpR op_eq (pe_ix ix_tup (pv 1) pe_int (fun _ _ => rfl)) pe_int (nomark _))))) (pss_one (ps_ret (pe_tup (pa_cons pe_int (pa_cons (pe_op op_mulW (pe_ix ix_tup (pv 0) pe_int (fun _ _ => rfl)) (pe_ix ix_tup (pv 1) pe_int (fun _ _ => rfl))) pa_nil))))) pss_nil)
    (pss_one (ps_ret (pe_tup (pa_cons (pe_op op_mulW (pe_call c_direction.ok (hr.mono (by decide)) rfl c_direction.mg c_direction.kp c_direction.bi .nil pass0 (pa_cons (pv 0) pa_nil)) (pe_call c_direction.ok (hr.mono (by decide)) rfl c_direction.mg c_direction.kp c_direction.bi .nil pass0 (pa_cons (pv 1) pa_nil))) (pa_cons pe_int pa_nil)))))), ?_⟩
  change AS K _ [En.da _, En.da _] _ _
  try simp only [cxOf_K]
  repeat' (first
    | with_reducible apply ae_call
    | (refine ⟨_, ⟨_, rfl, rfl⟩, ?_⟩)
    | refine ar_Ii (C := CMulW) (mulW (bg60 (by assumption)) (bg60 (by assumption))) ?_
    | refine ar_Ii (C := CMulW) cmul_dir ?_
    | with_reducible apply as_seq
    | with_reducible apply as_ret
    | with_reducible apply as_next
    | with_reducible apply as_if
    | ((with_reducible apply ae_var); · rfl)
    | with_reducible apply ae_int
    | with_reducible apply ae_op
    | with_reducible apply aa_nil
    | with_reducible apply aa_cons
    | with_reducible apply ae_tup
    | with_reducible apply at_test
    | with_reducible apply at_and
    | ((with_reducible apply ar_ixT); · rfl)
    | ((with_reducible apply ar_eq3); · exact ⟨rfl, rfl, rfl⟩)
    | refine ⟨sz60 (Nat.le_of_ble_eq_true rfl), ?_⟩
    | refine ⟨_, rfl, ?_⟩
    | (refine ⟨fun hc => ?_, fun hc => ?_⟩ <;> (first | (exfalso; exact absurd (show false = true from hc) (by decide)) | (exfalso; exact absurd (show true = false from hc) (by decide)) | (exfalso; simp at hc; done) | skip))
    | fail)
  all_goals (simp_all [timP])
theorem ok_ends (bl : Blts mg)   {f : Addr} {fd : FuncData} (F : Fun K "ends" "ends" s_ends f fd) : FnOk P w K mg base CX0 1 f fd p_ends (spP K (S_ends)) := by
  refine okP F sc_ends (fun ds r h => ?_) (fun cdv A outer s H E hr ds r h => ?_)
  · obtain ⟨k, a, b, rfl, rfl⟩ := h
    rfl
  obtain ⟨k, a, b, rfl, rfl⟩ := h
  refine ⟨_, (pss_cons (ps_set (i := 1) sc_ends.nd rfl (by first | exact Or.inl rfl | exact Or.inr rfl) (pe_ifExp (pt_cmpR op_isN (pe_ix ix_seq (pv 0) pe_int (fun _ _ => rfl)) pe_non (nomark _)) (pe_tup (pa_cons (pe_un un_neg pe_int) (pa_cons pe_int pa_nil))) (pe_tup (pa_cons pe_int (pa_cons (pe_ix ix_seq (pv 0) pe_int (fun _ _ => rfl)) pa_nil)))))
    (pss_cons (ps_set (i := 2) sc_ends.nd rfl (by first | exact Or.inl rfl | exact Or.inr rfl) (pe_ifExp (pt_cmpR op_isN (pe_ix ix_seq (pv 0) pe_int (fun _ _ => rfl)) pe_non (nomark _)) (pe_tup (pa_cons pe_int (pa_cons pe_int pa_nil))) (pe_tup (pa_cons pe_int (pa_cons (pe_ix ix_seq (pv 0) pe_int (fun _ _ => rfl)) pa_nil)))))
    (pss_one (ps_ret (pe_lst (pa_cons (pv 1) (pa_cons (pv 2) pa_nil))))))), ?_⟩
  change AS K _ [En.da _, En.no, En.no] _ _
  try simp only [cxOf_K]
  cases a <;> cases b
  all_goals
    repeat' (first
      | with_reducible apply as_seq
      | with_reducible apply as_ret
      | with_reducible apply as_set
      | ((with_reducible apply ae_var); · rfl)
      | with_reducible apply ae_int
      | with_reducible apply ae_non
      | with_reducible apply ae_op
      | with_reducible apply ae_un
      | with_reducible apply aa_nil
      | with_reducible apply aa_cons
      | with_reducible apply ae_tup
      | with_reducible apply ae_lst
      | with_reducible apply ae_if
      | with_reducible apply at_test
      | with_reducible apply ar_isN
      | with_reducible apply au_Ui
      | ((with_reducible apply ar_ix); · rfl)
      | refine ⟨sz60 (Nat.le_of_ble_eq_true rfl), ?_⟩
      | refine ⟨_, rfl, ?_⟩
      | (refine ⟨fun hc => ?_, fun hc => ?_⟩ <;> (first | (exfalso; exact absurd (show false = true from hc) (by decide)) | (exfalso; exact absurd (show true = false from hc) (by decide)) | (exfalso; simp at hc; done) | skip))
      | rfl
      | fail)
theorem ok_negatives (bl : Blts mg) {g_opposite : Addr} {d_opposite : FuncData} (c_opposite : Cal P w K mg base 1 "opposite" p_opposite (spP K S_neg) g_opposite d_opposite)  {f : Addr} {fd : FuncData} (F : Fun K "negatives" "negatives" s_negatives f fd) : FnOk P w K mg base CX0 2 f fd p_negatives (spP K (S_negs)) := by
  refine okP F sc_negatives (fun ds r h => ?_) (fun cdv A outer s H E hr ds r h => ?_)
  · obtain ⟨k, a, b, rfl, rfl⟩ := h
    rfl
  obtain ⟨k, a, b, rfl, rfl⟩ := h
  refine ⟨_, (pss_one (ps_ret (pe_tup (pa_cons (pe_call c_opposite.ok (hr.mono (by decide)) rfl c_opposite.mg c_opposite.kp c_opposite.bi .nil pass0 (pa_cons (pe_ix ix_seq (pv 0) pe_int (fun _ _ => rfl)) pa_nil)) (pa_cons (pe_call c_opposite.ok (hr.mono (by decide)) rfl c_opposite.mg c_opposite.kp c_opposite.bi .nil pass0 (pa_cons (pe_ix ix_seq (pv 0) pe_int (fun _ _ => rfl)) pa_nil)) pa_nil))))), ?_⟩
  change AS K _ [En.da _] _ _
  try simp only [cxOf_K]
  repeat' (first
    | with_reducible apply ae_call
    | (refine ⟨_, ⟨_, rfl, rfl⟩, ?_⟩)
    | with_reducible apply as_ret
    | ((with_reducible apply ae_var); · rfl)
    | with_reducible apply ae_int
    | with_reducible apply ae_op
    | with_reducible apply aa_nil
    | with_reducible apply aa_cons
    | with_reducible apply ae_tup
    | ((with_reducible apply ar_ix); · rfl)
    | refine ⟨sz60 (Nat.le_of_ble_eq_true rfl), ?_⟩
    | rfl
    | fail)
theorem ok_span_add (bl : Blts mg) {g_total : Addr} {d_total : FuncData} (c_total : Cal P w K mg base 1 "total" p_total (spP K (S2 addB)) g_total d_total)  {f : Addr} {fd : FuncData} (F : Fun K "span_add" "span_add" s_span_add f fd) : FnOk P w K mg base CX0 2 f fd p_span_add (spP K (S_add)) := by
  refine okP F sc_span_add (fun ds r h => ?_) (fun cdv A outer s H E hr ds r h => ?_)
  · obtain ⟨k, k', a, b, c, d, rfl, rfl⟩ := h
    rfl
  obtain ⟨k, k', a, b, c, d, rfl, rfl⟩ := h
  refine ⟨_, (pss_one (ps_ret (pe_tup (pa_cons (pe_call c_total.ok (hr.mono (by decide)) rfl c_total.mg c_total.kp c_total.bi .nil pass0 (pa_cons (pe_ix ix_seq (pv 0) pe_int (fun _ _ => rfl)) (pa_cons (pe_ix ix_seq (pv 1) pe_int (fun _ _ => rfl)) pa_nil))) (pa_cons (pe_call c_total.ok (hr.mono (by decide)) rfl c_total.mg c_total.kp c_total.bi .nil pass0 (pa_cons (pe_ix ix_seq (pv 0) pe_int (fun _ _ => rfl)) (pa_cons (pe_ix ix_seq (pv 1) pe_int (fun _ _ => rfl)) pa_nil))) pa_nil))))), ?_⟩
  change AS K _ [En.da _, En.da _] _ _
  try simp only [cxOf_K]
  repeat' (first
    | with_reducible apply ae_call
    | (refine ⟨_, ⟨_, _, rfl, rfl⟩, ?_⟩)
    | with_reducible apply as_ret
    | ((with_reducible apply ae_var); · rfl)
    | with_reducible apply ae_int
    | with_reducible apply ae_op
    | with_reducible apply aa_nil
    | with_reducible apply aa_cons
    | with_reducible apply ae_tup
    | ((with_reducible apply ar_ix); · rfl)
    | refine ⟨sz60 (Nat.le_of_ble_eq_true rfl), ?_⟩
    | rfl
    | fail)
theorem ok_span_sub (bl : Blts mg) {g_negatives : Addr} {d_negatives : FuncData} (c_negatives : Cal P w K mg base 2 "negatives" p_negatives (spP K S_negs) g_negatives d_negatives) {g_span_add : Addr} {d_span_add : FuncData} (c_span_add : Cal P w K mg base 2 "span_add" p_span_add (spP K S_add) g_span_add d_span_add)  {f : Addr} {fd : FuncData} (F : Fun K "span_sub" "span_sub" s_span_sub f fd) : FnOk P w K mg base CX0 3 f fd p_span_sub (spP K (S_sub)) := by
  refine okP F sc_span_sub (fun ds r h => ?_) (fun cdv A outer s H E hr ds r h => ?_)
  · obtain ⟨k, k', a, b, c, d, rfl, rfl⟩ := h
    rfl
  obtain ⟨k, k', a, b, c, d, rfl, rfl⟩ := h
  refine ⟨_, (pss_one (ps_ret (pe_call c_span_add.ok (hr.mono (by decide)) rfl c_span_add.mg c_span_add.kp c_span_add.bi .nil pass0 (pa_cons (pv 0) (pa_cons (pe_call c_negatives.ok (hr.mono (by decide)) rfl c_negatives.mg c_negatives.kp c_negatives.bi .nil pass0 (pa_cons (pv 1) pa_nil)) pa_nil))))), ?_⟩
  change AS K _ [En.da _, En.da _] _ _
  try simp only [cxOf_K]
  repeat' (first
    | with_reducible apply ae_call
    | (refine ⟨_, ⟨_, _, _, rfl, rfl⟩, ?_⟩)
    | (refine ⟨_, ⟨_, true, _, _, _, _, rfl, rfl⟩, ?_⟩)
    | with_reducible apply as_ret
    | ((with_reducible apply ae_var); · rfl)
    | with_reducible apply aa_nil
    | with_reducible apply aa_cons
    | rfl
    | fail)
theorem ok_span_mul (bl : Blts mg) {g_times : Addr} {d_times : FuncData} (c_times : Cal P w K mg base 2 "times" p_times (spP K S_times) g_times d_times) {g_ends : Addr} {d_ends : FuncData} (c_ends : Cal P w K mg base 1 "ends" p_ends (spP K S_ends) g_ends d_ends) {g_bound_of : Addr} {d_bound_of : FuncData} (c_bound_of : Cal P w K mg base 1 "bound_of" p_bound_of (spP K S_bnd) g_bound_of d_bound_of)  {f : Addr} {fd : FuncData} (F : Fun K "span_mul" "span_mul" s_span_mul f fd) : FnOk P w K mg base CX0 4 f fd p_span_mul (spP K (S_mul)) := by
  refine okP F sc_span_mul (fun ds r h => ?_) (fun cdv A outer s H E hr ds r h => ?_)
  · obtain ⟨k, k', a, b, c, d, rfl, sm, rfl⟩ := h
    rfl
  obtain ⟨k, k', a, b, c, d, rfl, sm, rfl⟩ := h
  refine ⟨_, (pss_cons (ps_setLc2 (i := 2) (own := [("a", 3), ("b", 4)]) (vs1 := [4]) (g := (gName 3)) (g1 := (gName 4)) (tt := tYes) (tt1 := tYes) (te := (tCall (spP K S_times) [] E0 (tCons (tVar 3) (tCons (tVar 4) tNil)))) (wi1 := (iList K (tCall (spP K S_ends) [] E0 (tCons (tVar 1) tNil)))) rfl sc_span_mul.nd rfl rfl (sw_true rfl rfl rfl (by decide +kernel)) (pi_list (pe_call c_ends.ok (hr.mono (by decide)) rfl c_ends.mg c_ends.kp c_ends.bi .nil pass0 (pa_cons (pv 0) pa_nil))) (blkOk_by (N := N_span_mul) (sc := defScope s_span_mul) (by decide +kernel)) (by decide) (fun _ _ _ _ _ => (pg_name (i := 3) sc_span_mul.nd rfl (by first | exact Or.inl rfl | exact Or.inr rfl))) (fun _ _ _ _ _ => pts_nil) (fun _ _ _ _ _ => (pi_list (pe_call c_ends.ok (hr.mono (by decide)) rfl c_ends.mg c_ends.kp c_ends.bi .nil pass0 (pa_cons (pv 1) pa_nil)))) (fun _ _ _ _ _ => (pg_name (i := 4) sc_span_mul.nd rfl (by first | exact Or.inl rfl | exact Or.inr rfl))) (fun _ _ _ _ _ => pts_nil) (fun _ _ _ _ _ => (pe_call c_times.ok (hr.mono (by decide)) rfl c_times.mg c_times.kp c_times.bi .nil pass0 (pa_cons (pv 3) (pa_cons (pv 4) pa_nil)))))
    (pss_one (ps_ret (pe_tup (pa_cons (pe_call c_bound_of.ok (hr.mono (by decide)) rfl c_bound_of.mg c_bound_of.kp c_bound_of.bi .nil pass0 (pa_cons (pe_callB (cr_minP rfl hr.units) rfl bl.min (by decide +kernel) (pa_cons (pv 2) pa_nil)) pa_nil)) (pa_cons (pe_call c_bound_of.ok (hr.mono (by decide)) rfl c_bound_of.mg c_bound_of.kp c_bound_of.bi .nil pass0 (pa_cons (pe_callB (cr_maxP rfl hr.units) rfl bl.max (by decide +kernel) (pa_cons (pv 2) pa_nil)) pa_nil)) pa_nil)))))), ?_⟩
  change AS K _ [En.da _, En.da _, En.no, En.no, En.no] _ _
  try simp only [cxOf_K]
  have hm : ∀ p, p ∈ [loE a, hiE b] → ∀ q, q ∈ [loE c, hiE d] → bgI p.2 ∧ bgI q.2 := fun p hp q hq => by
    simp only [List.mem_cons, List.not_mem_nil, or_false] at hp hq
    obtain ⟨h1, h2, h3, h4⟩ := sm
    refine ⟨?_, ?_⟩
    · rcases hp with rfl | rfl
      · exact lo_b h1
      · exact hi_b h2
    · rcases hq with rfl | rfl
      · exact lo_b h3
      · exact hi_b h4
  have inP : ∀ {dd : Dt}, dd ∈ [pD (loE a), pD (hiE b)] → ∃ p, p ∈ [loE a, hiE b] ∧ dd = pD p := fun h => by
    simp only [List.mem_cons, List.not_mem_nil, or_false] at h
    rcases h with rfl | rfl
    · exact ⟨_, by simp, rfl⟩
    · exact ⟨_, by simp, rfl⟩
  have inQ : ∀ {dd : Dt}, dd ∈ [pD (loE c), pD (hiE d)] → ∃ p, p ∈ [loE c, hiE d] ∧ dd = pD p := fun h => by
    simp only [List.mem_cons, List.not_mem_nil, or_false] at h
    rcases h with rfl | rfl
    · exact ⟨_, by simp, rfl⟩
    · exact ⟨_, by simp, rfl⟩
  repeat' (first
    | (with_reducible refine ae_lc2Map fT (fun _ => [pD (loE c), pD (hiE d)]) (by decide) ?_)
    | with_reducible apply ai_list
    | with_reducible apply ae_call
    | (refine ⟨_, ⟨_, _, _, rfl, rfl⟩, ?_⟩)
    | refine ac_minP (p := timP (loE a) (loE c)) (ps := corn a b c d) ?_
    | refine ac_maxP (p := timP (loE a) (loE c)) (ps := corn a b c d) ?_
    | (refine ⟨_, ⟨_, rfl, rfl⟩, ?_⟩)
    | (refine ⟨sz60' (Nat.le_of_ble_eq_true rfl), ?_, ?_⟩)
    | (intro dd (hd : dd ∈ _); obtain ⟨p, hp, rfl⟩ := inP hd)
    | (refine ⟨rfl, rfl, ?_⟩)
    | (intro d1 (hd1 : d1 ∈ _); obtain ⟨q, hq, rfl⟩ := inQ hd1)
    | ((with_reducible apply agv_name); · decide)
    | refine ⟨_, ⟨p, q, rfl, (hm p hp q hq).1, (hm p hp q hq).2, rfl⟩, ?_⟩
    | exact ⟨rfl, rfl⟩
    | with_reducible apply as_seq
    | with_reducible apply as_ret
    | with_reducible apply as_set
    | ((with_reducible apply ae_var); · rfl)
    | with_reducible apply aa_nil
    | with_reducible apply aa_cons
    | with_reducible apply ae_cb
    | with_reducible apply ae_tup
    | refine ⟨sz60 (Nat.le_of_ble_eq_true rfl), ?_⟩
    | refine ⟨_, rfl, ?_⟩
    | rfl
    | fail)
theorem ok_span_join (bl : Blts mg) {g_loosest_low : Addr} {d_loosest_low : FuncData} (c_loosest_low : Cal P w K mg base 1 "loosest_low" p_loosest_low (spP K (S2 lowJ)) g_loosest_low d_loosest_low) {g_loosest_high : Addr} {d_loosest_high : FuncData} (c_loosest_high : Cal P w K mg base 1 "loosest_high" p_loosest_high (spP K (S2 highJ)) g_loosest_high d_loosest_high)  {f : Addr} {fd : FuncData} (F : Fun K "span_join" "span_join" s_span_join f fd) : FnOk P w K mg base CX0 2 f fd p_span_join (spP K (S_join)) := by
  refine okP F sc_span_join (fun ds r h => ?_) (fun cdv A outer s H E hr ds r h => ?_)
  · obtain ⟨k, k', a, b, c, d, rfl, rfl⟩ := h
    rfl
  obtain ⟨k, k', a, b, c, d, rfl, rfl⟩ := h
  refine ⟨_, (pss_one (ps_ret (pe_tup (pa_cons (pe_call c_loosest_low.ok (hr.mono (by decide)) rfl c_loosest_low.mg c_loosest_low.kp c_loosest_low.bi .nil pass0 (pa_cons (pe_ix ix_seq (pv 0) pe_int (fun _ _ => rfl)) (pa_cons (pe_ix ix_seq (pv 1) pe_int (fun _ _ => rfl)) pa_nil))) (pa_cons (pe_call c_loosest_high.ok (hr.mono (by decide)) rfl c_loosest_high.mg c_loosest_high.kp c_loosest_high.bi .nil pass0 (pa_cons (pe_ix ix_seq (pv 0) pe_int (fun _ _ => rfl)) (pa_cons (pe_ix ix_seq (pv 1) pe_int (fun _ _ => rfl)) pa_nil))) pa_nil))))), ?_⟩
  change AS K _ [En.da _, En.da _] _ _
  try simp only [cxOf_K]
  repeat' (first
    | with_reducible apply ae_call
    | (refine ⟨_, ⟨_, _, rfl, rfl⟩, ?_⟩)
    | with_reducible apply as_ret
    | ((with_reducible apply ae_var); · rfl)
    | with_reducible apply ae_int
    | with_reducible apply ae_op
    | with_reducible apply aa_nil
    | with_reducible apply aa_cons
    | with_reducible apply ae_tup
    | ((with_reducible apply ar_ix); · rfl)
    | refine ⟨sz60 (Nat.le_of_ble_eq_true rfl), ?_⟩
    | rfl
    | fail)
theorem ok_span_meet (bl : Blts mg) {g_tightest_low : Addr} {d_tightest_low : FuncData} (c_tightest_low : Cal P w K mg base 1 "tightest_low" p_tightest_low (spP K (S2 lowM)) g_tightest_low d_tightest_low) {g_tightest_high : Addr} {d_tightest_high : FuncData} (c_tightest_high : Cal P w K mg base 1 "tightest_high" p_tightest_high (spP K (S2 highM)) g_tightest_high d_tightest_high)  {f : Addr} {fd : FuncData} (F : Fun K "span_meet" "span_meet" s_span_meet f fd) : FnOk P w K mg base CX0 2 f fd p_span_meet (spP K (S_meet)) := by
  refine okP F sc_span_meet (fun ds r h => ?_) (fun cdv A outer s H E hr ds r h => ?_)
  · obtain ⟨k, k', a, b, c, d, rfl, rfl⟩ := h
    rfl
  obtain ⟨k, k', a, b, c, d, rfl, rfl⟩ := h
  refine ⟨_, (pss_cons (ps_set (i := 2) sc_span_meet.nd rfl (by first | exact Or.inl rfl | exact Or.inr rfl) (pe_call c_tightest_low.ok (hr.mono (by decide)) rfl c_tightest_low.mg c_tightest_low.kp c_tightest_low.bi .nil pass0 (pa_cons (pe_ix ix_seq (pv 0) pe_int (fun _ _ => rfl)) (pa_cons (pe_ix ix_seq (pv 1) pe_int (fun _ _ => rfl)) pa_nil))))
    (pss_cons (ps_set (i := 3) sc_span_meet.nd rfl (by first | exact Or.inl rfl | exact Or.inr rfl) (pe_call c_tightest_high.ok (hr.mono (by decide)) rfl c_tightest_high.mg c_tightest_high.kp c_tightest_high.bi .nil pass0 (pa_cons (pe_ix ix_seq (pv 0) pe_int (fun _ _ => rfl)) (pa_cons (pe_ix ix_seq (pv 1) pe_int (fun _ _ => rfl)) pa_nil))))
    (pss_cons (ps_if (PW.pt (pw_and (pt_cmpR op_notN (pv 2) pe_non (nomark _)) (pw_and (pt_cmpR op_notN (pv 3) pe_non (nomark _)) (pw_and1 (pt_cmpR op_gt (pv 2) (pv 3) (nomark _)))))) (pss_one (ps_ret pe_non)) pss_nil)
    (pss_one (ps_ret (pe_tup (pa_cons (pv 2) (pa_cons (pv 3) pa_nil)))))))), ?_⟩
  change AS K _ [En.da _, En.da _, En.no, En.no] _ _
  try simp only [cxOf_K]
  repeat' (first
    | with_reducible apply ae_call
    | (refine ⟨_, ⟨_, _, rfl, rfl⟩, ?_⟩)
    | with_reducible apply as_seq
    | with_reducible apply as_ret
    | with_reducible apply as_next
    | with_reducible apply as_if
    | with_reducible apply as_set
    | ((with_reducible apply ae_var); · rfl)
    | with_reducible apply ae_int
    | with_reducible apply ae_non
    | with_reducible apply ae_op
    | with_reducible apply aa_nil
    | with_reducible apply aa_cons
    | with_reducible apply ae_tup
    | with_reducible apply at_test
    | with_reducible apply at_and
    | with_reducible apply ar_notN
    | ((with_reducible apply ar_ix); · rfl)
    | refine ⟨sz60 (Nat.le_of_ble_eq_true rfl), ?_⟩
    | refine ⟨_, rfl, ?_⟩
    | (refine ⟨fun hc => ?_, fun hc => ?_⟩ <;> (first | (exfalso; exact absurd (show false = true from hc) (by decide)) | (exfalso; exact absurd (show true = false from hc) (by decide)) | (exfalso; simp at hc; done) | skip))
    | fail)
  all_goals
    generalize lowM a c = x at *
    generalize highM b d = y at *
    cases x <;> cases y <;> (first | (exfalso; rename_i h1 h2; exact absurd (show false = true from h1) (by decide)) | (exfalso; rename_i h1 h2; exact absurd (show true = false from h1) (by decide)) | (exfalso; rename_i h2; exact absurd (show false = true from h2) (by decide)) | (exfalso; exact absurd (show false = true from hc) (by decide)) | (exfalso; exact absurd (show true = false from hc) (by decide)) | skip)
  all_goals
    repeat' (first
      | with_reducible apply as_ret
      | with_reducible apply as_next
      | ((with_reducible apply ae_var); · rfl)
      | with_reducible apply ae_non
      | with_reducible apply aa_nil
      | with_reducible apply aa_cons
      | with_reducible apply ae_tup
      | with_reducible apply ar_I0b
      | refine ⟨sz60 (Nat.le_of_ble_eq_true rfl), ?_⟩
      | refine ⟨_, rfl, ?_⟩
      | (refine ⟨fun hc => ?_, fun hc => ?_⟩ <;> (first | (exfalso; exact absurd (show false = true from hc) (by decide)) | (exfalso; exact absurd (show true = false from hc) (by decide)) | (exfalso; simp at hc; done) | skip))
      | rfl
      | simp only [oD_some, oD_none]
      | fail)
  all_goals
    show _ = (if (_ : Int) > _ then Dt.non else Dt.tup [_, _])
    split <;> first | rfl | (exfalso; simp at hc; omega)
theorem wz_pos {c d : Option Int} (t : Lq c d) : meetD (lowM c (some 1)) (highM d none) = posD c d := by
  have e : lowM c (some 1) = some (fstP c) := by cases c <;> rfl
  have e2 : highM d none = d := by cases d <;> rfl
  rw [e, e2]
  unfold posD
  cases d with
  | none => rfl
  | some y =>
    have k : fstP c ≤ y ↔ 1 ≤ y := by
      cases c with
      | none => exact Iff.rfl
      | some x => have := t.ord x y rfl rfl; unfold fstP; dsimp only; split <;> omega
    show (if fstP c > y then Dt.non else Dt.tup [.int (fstP c), .int y]) = if decide (1 ≤ y) = true then _ else _
    by_cases h : 1 ≤ y
    · have hd : decide (1 ≤ y) = true := decide_eq_true h
      rw [if_pos hd, if_neg (by have := k.mpr h; omega)]; rfl
    · have hd : ¬ decide (1 ≤ y) = true := by simpa using h
      rw [if_neg hd, if_pos (by have := mt k.mp h; omega)]
theorem wz_neg {c d : Option Int} (t : Lq c d) : meetD (lowM c none) (highM d (some (-1))) = if pos (negB c) then spD c (some (-fstP (negB d))) else .non := by
  have e : lowM c none = c := by cases c <;> rfl
  have e2 : highM d (some (-1)) = some (-fstP (negB d)) := by
    cases d with
    | none => rfl
    | some y => show some (if -1 < y then -1 else y) = some (-(if 1 > -y then 1 else -y)); split <;> split <;> first | rfl | (congr 1; omega) | omega
  rw [e, e2]
  cases c with
  | none => rfl
  | some x =>
    have k : x ≤ -fstP (negB d) ↔ 1 ≤ -x := by
      cases d with
      | none => show x ≤ -1 ↔ 1 ≤ -x; omega
      | some y => have := t.ord x y rfl rfl; show x ≤ -(if 1 > -y then 1 else -y) ↔ 1 ≤ -x; split <;> omega
    show (if x > -fstP (negB d) then Dt.non else Dt.tup [.int x, .int (-fstP (negB d))]) = if decide (1 ≤ -x) = true then _ else _
    by_cases h : 1 ≤ -x
    · have hd : decide (1 ≤ -x) = true := decide_eq_true h
      rw [if_pos hd, if_neg (by have := k.mpr h; omega)]; rfl
    · have hd : ¬ decide (1 ≤ -x) = true := by simpa using h
      rw [if_neg hd, if_pos (by have := mt k.mp h; omega)]
theorem ok_without_zero (bl : Blts mg) {g_span_meet : Addr} {d_span_meet : FuncData} (c_span_meet : Cal P w K mg base 2 "span_meet" p_span_meet (spP K S_meet) g_span_meet d_span_meet)  {f : Addr} {fd : FuncData} (F : Fun K "without_zero" "without_zero" s_without_zero f fd) : FnOk P w K mg base CX0 3 f fd p_without_zero (spP K (S_wz)) := by
  refine okP F sc_without_zero (fun ds r h => ?_) (fun cdv A outer s H E hr ds r h => ?_)
  · obtain ⟨k, c, d, rfl, t, rfl⟩ := h
    rfl
  obtain ⟨k, c, d, rfl, t, rfl⟩ := h
  refine ⟨_, (pss_one (ps_ret (pe_tup (pa_cons (pe_call c_span_meet.ok (hr.mono (by decide)) rfl c_span_meet.mg c_span_meet.kp c_span_meet.bi .nil pass0 (pa_cons (pv 0) (pa_cons (pe_tup (pa_cons pe_int (pa_cons pe_non pa_nil))) pa_nil))) (pa_cons (pe_call c_span_meet.ok (hr.mono (by decide)) rfl c_span_meet.mg c_span_meet.kp c_span_meet.bi .nil pass0 (pa_cons (pv 0) (pa_cons (pe_tup (pa_cons pe_non (pa_cons (pe_un un_neg pe_int) pa_nil))) pa_nil))) pa_nil))))), ?_⟩
  change AS K _ [En.da _] _ _
  try simp only [cxOf_K]
  repeat' (first
    | with_reducible apply ae_call
    | (refine ⟨_, ⟨k, true, c, d, some 1, none, rfl, rfl⟩, ?_⟩)
    | (refine ⟨_, ⟨k, true, c, d, none, some (-1), rfl, rfl⟩, ?_⟩)
    | with_reducible apply as_ret
    | ((with_reducible apply ae_var); · rfl)
    | with_reducible apply ae_int
    | with_reducible apply ae_non
    | with_reducible apply ae_un
    | with_reducible apply aa_nil
    | with_reducible apply aa_cons
    | with_reducible apply ae_tup
    | with_reducible apply au_Ui
    | refine ⟨sz60 (Nat.le_of_ble_eq_true rfl), ?_⟩
    | fail)
  all_goals (try rw [wz_pos t, wz_neg t])
theorem ok_joined_spans (bl : Blts mg) {g_span_join : Addr} {d_span_join : FuncData} (c_span_join : Cal P w K mg base 2 "span_join" p_span_join (spP K S_join) g_span_join d_span_join)  {f : Addr} {fd : FuncData} (F : Fun K "joined" "joined" s_joined_spans f fd) : FnOk P w K mg base CX0 3 f fd p_joined_spans (spP K (S_jnd)) := by
  refine okP F sc_joined_spans (fun ds r h => ?_) (fun cdv A outer s H E hr ds r h => ?_)
  · obtain ⟨x, c, d, rfl, hx⟩ := h
    rfl
  obtain ⟨x, c, d, rfl, hx⟩ := h
  refine ⟨_, (pss_cons (ps_if (pt_cmpR op_isN (pv 0) pe_non (nomark _)) (pss_one (ps_ret (pv 1))) pss_nil)
    (pss_one (ps_ret (pe_call c_span_join.ok (hr.mono (by decide)) rfl c_span_join.mg c_span_join.kp c_span_join.bi .nil pass0 (pa_cons (pv 0) (pa_cons (pv 1) pa_nil)))))), ?_⟩
  change AS K _ [En.da _, En.da _] _ _
  try simp only [cxOf_K]
  rcases hx with ⟨rfl, rfl⟩ | ⟨a, b, rfl, rfl⟩
  all_goals
    repeat' (first
      | with_reducible apply ae_call
      | (refine ⟨_, ⟨true, true, _, _, _, _, rfl, rfl⟩, ?_⟩)
      | with_reducible apply as_seq
      | with_reducible apply as_ret
      | with_reducible apply as_next
      | with_reducible apply as_if
      | ((with_reducible apply ae_var); · rfl)
      | with_reducible apply ae_non
      | with_reducible apply ae_op
      | with_reducible apply aa_nil
      | with_reducible apply aa_cons
      | with_reducible apply at_test
      | with_reducible apply ar_isN
      | refine ⟨_, rfl, ?_⟩
      | (refine ⟨fun hc => ?_, fun hc => ?_⟩ <;> (first | (exfalso; exact absurd (show false = true from hc) (by decide)) | (exfalso; exact absurd (show true = false from hc) (by decide)) | (exfalso; simp at hc; done) | skip))
      | rfl
      | fail)
theorem ok_quotient (bl : Blts mg)   {f : Addr} {fd : FuncData} (F : Fun K "quotient" "quotient" s_quotient f fd) : FnOk P w K mg base CX0 1 f fd p_quotient (spP K (S_quo)) := by
  refine okP F sc_quotient (fun ds r h => ?_) (fun cdv A outer s H E hr ds r h => ?_)
  · obtain ⟨n, q, rfl, hq, rfl⟩ := h
    rfl
  obtain ⟨n, q, rfl, hq, rfl⟩ := h
  refine ⟨_, (pss_cons (ps_if (pt_cmpR op_isN (pv 1) pe_non (nomark _)) (pss_one (ps_ret (pe_ifExp (pt_cmpR op_ge (pv 0) pe_int (nomark _)) pe_int (pe_un un_neg pe_int)))) pss_nil)
    (pss_one (ps_ret (pe_op op_fdivB (pv 0) (pv 1))))), ?_⟩
  change AS K _ [En.da _, En.da _] _ _
  try simp only [cxOf_K]
  cases q with
  | none =>
    repeat' (first
      | with_reducible apply as_seq
      | with_reducible apply as_ret
      | with_reducible apply as_if
      | ((with_reducible apply ae_var); · rfl)
      | with_reducible apply ae_int
      | with_reducible apply ae_non
      | with_reducible apply ae_op
      | with_reducible apply ae_un
      | with_reducible apply ae_if
      | with_reducible apply at_test
      | with_reducible apply ar_I0b
      | with_reducible apply ar_isN
      | with_reducible apply au_Ui
      | refine ⟨_, rfl, ?_⟩
      | (refine ⟨fun hc => ?_, fun hc => ?_⟩ <;> (first | (exfalso; exact absurd (show false = true from hc) (by decide)) | (exfalso; exact absurd (show true = false from hc) (by decide)) | (exfalso; simp at hc; done) | skip))
      | fail)
    all_goals first | rfl | (simp_all [quo]; done) | (simp_all [quo]; omega)
  | some y =>
    have := hq y rfl
    repeat' (first
      | refine ar_Ii (C := CDivB) (divB (by omega) (by omega) (by omega)) ?_
      | with_reducible apply as_seq
      | with_reducible apply as_ret
      | with_reducible apply as_next
      | with_reducible apply as_if
      | ((with_reducible apply ae_var); · rfl)
      | with_reducible apply ae_non
      | with_reducible apply ae_op
      | with_reducible apply at_test
      | with_reducible apply ar_isN
      | refine ⟨_, rfl, ?_⟩
      | (refine ⟨fun hc => ?_, fun hc => ?_⟩ <;> (first | (exfalso; exact absurd (show false = true from hc) (by decide)) | (exfalso; exact absurd (show true = false from hc) (by decide)) | (exfalso; simp at hc; done) | skip))
      | rfl
      | fail)
theorem ok_quotients (bl : Blts mg) {g_quotient : Addr} {d_quotient : FuncData} (c_quotient : Cal P w K mg base 1 "quotient" p_quotient (spP K S_quo) g_quotient d_quotient)  {f : Addr} {fd : FuncData} (F : Fun K "quotients" "quotients" s_quotients f fd) : FnOk P w K mg base CX0 2 f fd p_quotients (spP K (S_quos)) := by
  refine okP F sc_quotients (fun ds r h => ?_) (fun cdv A outer s H E hr ds r h => ?_)
  · obtain ⟨k, a, b, p, q, rfl, hp, hq, rfl⟩ := h
    rfl
  obtain ⟨k, a, b, p, q, rfl, hp, hq, rfl⟩ := h
  refine ⟨_, (pss_cons (ps_asg (pv 0) (pg_or (pg_tup rfl (pgs_cons (pg_name (i := 2) sc_quotients.nd rfl (by first | exact Or.inl rfl | exact Or.inr rfl)) (pgs_cons (pg_name (i := 3) sc_quotients.nd rfl (by first | exact Or.inl rfl | exact Or.inr rfl)) pgs_nil))) (pg_unl rfl (pgs_cons (pg_name (i := 2) sc_quotients.nd rfl (by first | exact Or.inl rfl | exact Or.inr rfl)) (pgs_cons (pg_name (i := 3) sc_quotients.nd rfl (by first | exact Or.inl rfl | exact Or.inr rfl)) pgs_nil)))))
    (pss_cons (ps_asg (pv 1) (pg_tup rfl (pgs_cons (pg_name (i := 4) sc_quotients.nd rfl (by first | exact Or.inl rfl | exact Or.inr rfl)) (pgs_cons (pg_name (i := 5) sc_quotients.nd rfl (by first | exact Or.inl rfl | exact Or.inr rfl)) pgs_nil))))
    (pss_cons (ps_if (pt_cmpR op_notN (pv 2) pe_non (nomark _)) (pss_one (ps_set (i := 2) sc_quotients.nd rfl (by first | exact Or.inl rfl | exact Or.inr rfl) (pe_ifExp (pt_cmpR op_ge (pv 2) pe_int (nomark _)) (pe_call c_quotient.ok (hr.mono (by decide)) rfl c_quotient.mg c_quotient.kp c_quotient.bi .nil pass0 (pa_cons (pv 2) (pa_cons (pv 5) pa_nil))) (pe_op op_fdivB (pv 2) (pv 4))))) pss_nil)
    (pss_cons (ps_if (pt_cmpR op_notN (pv 3) pe_non (nomark _)) (pss_one (ps_set (i := 3) sc_quotients.nd rfl (by first | exact Or.inl rfl | exact Or.inr rfl) (pe_ifExp (pt_cmpR op_ge (pv 3) pe_int (nomark _)) (pe_op op_fdivB (pv 3) (pv 4)) (pe_call c_quotient.ok (hr.mono (by decide)) rfl c_quotient.mg c_quotient.kp c_quotient.bi .nil pass0 (pa_cons (pv 3) (pa_cons (pv 5) pa_nil)))))) pss_nil)
    (pss_one (ps_ret (pe_tup (pa_cons (pv 2) (pa_cons (pv 3) pa_nil))))))))), ?_⟩
  change AS K _ [En.da _, En.da _, En.no, En.no, En.no, En.no] _ _
  try simp only [cxOf_K]
  cases a <;> cases b
  all_goals
    repeat' (first
      | with_reducible apply ae_call
      | (refine ⟨_, ⟨_, _, rfl, hq, rfl⟩, ?_⟩)
      | refine ar_Ii (C := CDivB) (divB (by omega) (by omega) (by omega)) ?_
      | ((with_reducible apply ag_seq); · rfl)
      | with_reducible apply as_seq
      | with_reducible apply as_ret
      | with_reducible apply as_next
      | with_reducible apply as_if
      | with_reducible apply as_set
      | with_reducible apply as_asg
      | ((with_reducible apply ae_var); · rfl)
      | with_reducible apply ae_int
      | with_reducible apply ae_non
      | with_reducible apply ae_op
      | with_reducible apply aa_nil
      | with_reducible apply aa_cons
      | with_reducible apply ae_tup
      | with_reducible apply ae_if
      | with_reducible apply at_test
      | with_reducible apply ar_I0b
      | with_reducible apply ar_notN
      | with_reducible apply ag_name
      | with_reducible apply ags_nil
      | with_reducible apply ags_cons
      | ((with_reducible apply ag_tup); · rfl)
      | refine ⟨sz60 (Nat.le_of_ble_eq_true rfl), ?_⟩
      | refine ⟨_, rfl, ?_⟩
      | (refine ⟨fun hc => ?_, fun hc => ?_⟩ <;> (first | (exfalso; exact absurd (show false = true from hc) (by decide)) | (exfalso; exact absurd (show true = false from hc) (by decide)) | (exfalso; simp at hc; done) | skip))
      | rfl
      | simp only [oD_some, oD_none]
      | fail)
  all_goals first | rfl | (simp_all [quoL, quoH, oD]; done) | (simp_all [quoL, quoH, oD]; omega)
theorem ok_remainders (bl : Blts mg) {g_tightest_high : Addr} {d_tightest_high : FuncData} (c_tightest_high : Cal P w K mg base 1 "tightest_high" p_tightest_high (spP K (S2 highM)) g_tightest_high d_tightest_high)  {f : Addr} {fd : FuncData} (F : Fun K "remainders" "remainders" s_remainders f fd) : FnOk P w K mg base CX0 2 f fd p_remainders (spP K (S_rems)) := by
  refine okP F sc_remainders (fun ds r h => ?_) (fun cdv A outer s H E hr ds r h => ?_)
  · obtain ⟨k, a, b, p, q, rfl, hp, rfl⟩ := h
    rfl
  obtain ⟨k, a, b, p, q, rfl, hp, rfl⟩ := h
  refine ⟨_, (pss_cons (ps_asg (pv 0) (pg_or (pg_tup rfl (pgs_cons (pg_name (i := 5) sc_remainders.nd rfl (by first | exact Or.inl rfl | exact Or.inr rfl)) (pgs_cons (pg_name (i := 6) sc_remainders.nd rfl (by first | exact Or.inl rfl | exact Or.inr rfl)) pgs_nil))) (pg_unl rfl (pgs_cons (pg_name (i := 5) sc_remainders.nd rfl (by first | exact Or.inl rfl | exact Or.inr rfl)) (pgs_cons (pg_name (i := 6) sc_remainders.nd rfl (by first | exact Or.inl rfl | exact Or.inr rfl)) pgs_nil)))))
    (pss_cons (ps_asg (pv 1) (pg_tup rfl (pgs_cons (pg_name (i := 7) sc_remainders.nd rfl (by first | exact Or.inl rfl | exact Or.inr rfl)) (pgs_cons (pg_name (i := 8) sc_remainders.nd rfl (by first | exact Or.inl rfl | exact Or.inr rfl)) pgs_nil))))
    (pss_cons (ps_set (i := 2) sc_remainders.nd rfl (by first | exact Or.inl rfl | exact Or.inr rfl) (pe_and (pe_cmpR op_notN (pv 5) pe_non (nomark _)) (pe_one (pe_cmpR op_notN (pv 6) pe_non (nomark _)))))
    (pss_cons (ps_if (PW.pt (pw_and (pt_val (pv 2)) (pw_and (pt_cmpR op_eq (pv 7) (pv 8) (nomark _)) (pw_and1 (pt_cmpR op_eq (pe_op op_fdivB (pv 5) (pv 7)) (pe_op op_fdivB (pv 6) (pv 7)) (nomark _)))))) (pss_one (ps_ret (pe_tup (pa_cons (pe_op op_modN (pv 5) (pv 7)) (pa_cons (pe_op op_modN (pv 6) (pv 7)) pa_nil))))) pss_nil)
    (pss_cons (ps_set (i := 3) sc_remainders.nd rfl (by first | exact Or.inl rfl | exact Or.inr rfl) (pe_and (pe_cmpR op_notN (pv 5) pe_non (nomark _)) (pe_one (pe_cmpR op_ge (pv 5) pe_int (nomark _)))))
    (pss_cons (ps_if (PW.pt (pw_and (pt_val (pv 3)) (pw_and (pt_cmpR op_notN (pv 6) pe_non (nomark _)) (pw_and1 (pt_cmpR op_lt (pv 6) (pv 7) (nomark _)))))) (pss_one (ps_ret (pe_tup (pa_cons (pv 5) (pa_cons (pv 6) pa_nil))))) pss_nil)
    (pss_cons (ps_set (i := 4) sc_remainders.nd rfl (by first | exact Or.inl rfl | exact Or.inr rfl) (pe_ifExp (pt_cmpR op_isN (pv 8) pe_non (nomark _)) pe_non (pe_op op_sub (pv 8) pe_int)))
    (pss_cons (ps_if (pt_val (pv 3)) (pss_one (ps_set (i := 4) sc_remainders.nd rfl (by first | exact Or.inl rfl | exact Or.inr rfl) (pe_call c_tightest_high.ok (hr.mono (by decide)) rfl c_tightest_high.mg c_tightest_high.kp c_tightest_high.bi .nil pass0 (pa_cons (pv 4) (pa_cons (pv 6) pa_nil))))) pss_nil)
    (pss_one (ps_ret (pe_tup (pa_cons pe_int (pa_cons (pv 4) pa_nil))))))))))))), ?_⟩
  change AS K _ [En.da _, En.da _, En.no, En.no, En.no, En.no, En.no, En.no, En.no] _ _
  try simp only [cxOf_K]
  cases a <;> cases b <;> cases q
  all_goals
    repeat' (first
      | with_reducible apply ae_call
      | (refine ⟨_, ⟨some _, some _, rfl, rfl⟩, ?_⟩)
      | (refine ⟨_, ⟨some _, none, rfl, rfl⟩, ?_⟩)
      | (refine ⟨_, ⟨none, some _, rfl, rfl⟩, ?_⟩)
      | (refine ⟨_, ⟨none, none, rfl, rfl⟩, ?_⟩)
      | refine ar_Ii (C := CDivB) (divB (by omega) (by omega) (by omega)) ?_
      | refine ar_Ii (C := fun _ j => j ≠ 0) (by omega) ?_
      | ((with_reducible apply ag_seq); · rfl)
      | with_reducible apply as_seq
      | with_reducible apply as_ret
      | with_reducible apply as_next
      | with_reducible apply as_if
      | with_reducible apply as_set
      | with_reducible apply as_asg
      | ((with_reducible apply ae_var); · rfl)
      | with_reducible apply ae_int
      | with_reducible apply ae_non
      | with_reducible apply ae_op
      | with_reducible apply aa_nil
      | with_reducible apply aa_cons
      | with_reducible apply ae_tup
      | with_reducible apply ae_if
      | with_reducible apply at_test
      | with_reducible apply at_b
      | with_reducible apply at_and
      | with_reducible apply ae_andV
      | with_reducible apply ar_I0i
      | with_reducible apply ar_I0b
      | with_reducible apply ar_isN
      | with_reducible apply ar_notN
      | ((with_reducible apply ar_eq3); · exact ⟨rfl, rfl, rfl⟩)
      | with_reducible apply ag_name
      | with_reducible apply ags_nil
      | with_reducible apply ags_cons
      | ((with_reducible apply ag_tup); · rfl)
      | refine ⟨sz60 (Nat.le_of_ble_eq_true rfl), ?_⟩
      | refine ⟨_, rfl, ?_⟩
      | (refine ⟨fun hc => ?_, fun hc => ?_⟩ <;> (first | (exfalso; exact absurd (show false = true from hc) (by decide)) | (exfalso; exact absurd (show true = false from hc) (by decide)) | (exfalso; simp at hc; done) | skip))
      | rfl
      | simp only [oD_some, oD_none]
      | fail)
  all_goals clear F hr c_tightest_high bl
  all_goals try (simp_all [remB, highM, predB, oD]; done)
  all_goals try simp_all [remB, highM, predB, oD]
  all_goals (repeat (first | rw [if_neg (by omega)] | rw [if_pos (by omega)])); (try exact ⟨rfl, rfl⟩)
theorem ok_span_div (bl : Blts mg) {g_without_zero : Addr} {d_without_zero : FuncData} (c_without_zero : Cal P w K mg base 3 "without_zero" p_without_zero (spP K S_wz) g_without_zero d_without_zero) {g_negatives : Addr} {d_negatives : FuncData} (c_negatives : Cal P w K mg base 2 "negatives" p_negatives (spP K S_negs) g_negatives d_negatives) {g_quotients : Addr} {d_quotients : FuncData} (c_quotients : Cal P w K mg base 2 "quotients" p_quotients (spP K S_quos) g_quotients d_quotients) {g_joined_spans : Addr} {d_joined_spans : FuncData} (c_joined_spans : Cal P w K mg base 3 "joined_spans" p_joined_spans (spP K S_jnd) g_joined_spans d_joined_spans)  {f : Addr} {fd : FuncData} (F : Fun K "span_div" "span_div" s_span_div f fd) : FnOk P w K mg base CX0 4 f fd p_span_div (spP K (S_div)) := by
  refine okP F sc_span_div (fun ds r h => ?_) (fun cdv A outer s H E hr ds r h => ?_)
  · obtain ⟨k, k', a, b, c, d, rfl, t, rfl⟩ := h
    rfl
  obtain ⟨k, k', a, b, c, d, rfl, t, rfl⟩ := h
  refine ⟨_, (pss_cons (ps_asg (pe_call c_without_zero.ok (hr.mono (by decide)) rfl c_without_zero.mg c_without_zero.kp c_without_zero.bi .nil pass0 (pa_cons (pv 1) pa_nil)) (pg_tup rfl (pgs_cons (pg_name (i := 3) sc_span_div.nd rfl (by first | exact Or.inl rfl | exact Or.inr rfl)) (pgs_cons (pg_name (i := 4) sc_span_div.nd rfl (by first | exact Or.inl rfl | exact Or.inr rfl)) pgs_nil))))
    (pss_cons (ps_set (i := 2) sc_span_div.nd rfl (by first | exact Or.inl rfl | exact Or.inr rfl) pe_non)
    (pss_cons (ps_if (pt_cmpR op_notN (pv 3) pe_non (nomark _)) (pss_one (ps_set (i := 2) sc_span_div.nd rfl (by first | exact Or.inl rfl | exact Or.inr rfl) (pe_call c_quotients.ok (hr.mono (by decide)) rfl c_quotients.mg c_quotients.kp c_quotients.bi .nil pass0 (pa_cons (pv 0) (pa_cons (pv 3) pa_nil))))) pss_nil)
    (pss_cons (ps_if (pt_cmpR op_notN (pv 4) pe_non (nomark _)) (pss_one (ps_set (i := 2) sc_span_div.nd rfl (by first | exact Or.inl rfl | exact Or.inr rfl) (pe_call c_joined_spans.ok (hr.mono (by decide)) rfl c_joined_spans.mg c_joined_spans.kp c_joined_spans.bi .nil pass0 (pa_cons (pv 2) (pa_cons (pe_call c_quotients.ok (hr.mono (by decide)) rfl c_quotients.mg c_quotients.kp c_quotients.bi .nil pass0 (pa_cons (pe_call c_negatives.ok (hr.mono (by decide)) rfl c_negatives.mg c_negatives.kp c_negatives.bi .nil pass0 (pa_cons (pv 0) pa_nil)) (pa_cons (pe_call c_negatives.ok (hr.mono (by decide)) rfl c_negatives.mg c_negatives.kp c_negatives.bi .nil pass0 (pa_cons (pv 4) pa_nil)) pa_nil))) pa_nil))))) pss_nil)
    (pss_one (ps_ret (pv 2))))))), ?_⟩
  change AS K _ [En.da _, En.da _, En.no, En.no, En.no] _ _
  try simp only [cxOf_K]
  have f1 := fst_b t.lo
  have f2 := fst_b t.neg.lo
  have okp : pos d = true → okd d := fun h y e => by have := t.hi y e; subst e; have : 1 ≤ y := of_decide_eq_true h; unfold bgI at *; omega
  have okn : pos (negB c) = true → okd (negB c) := fun h y e => by have := t.neg.hi y e; rw [e] at h; have : 1 ≤ y := of_decide_eq_true h; unfold bgI at *; omega
  cases hp : pos d <;> cases hn : pos (negB c)
  all_goals
    repeat' (first
      | with_reducible apply ae_call
      | (refine ⟨.tup [spD (some (fstP c)) d, spD c (some (-fstP (negB d)))], ⟨_, _, _, rfl, t, by unfold posD; rw [hp, hn]; rfl⟩, ?_⟩)
      | (refine ⟨.tup [spD (some (fstP c)) d, .non], ⟨_, _, _, rfl, t, by unfold posD; rw [hp, hn]; rfl⟩, ?_⟩)
      | (refine ⟨.tup [.non, spD c (some (-fstP (negB d)))], ⟨_, _, _, rfl, t, by unfold posD; rw [hp, hn]; rfl⟩, ?_⟩)
      | (refine ⟨.tup [.non, .non], ⟨_, _, _, rfl, t, by unfold posD; rw [hp, hn]; rfl⟩, ?_⟩)
      | (refine ⟨spD (some (fstP (negB d))) (negB c), ⟨true, c, some (-fstP (negB d)), rfl, by show _ = spD (some (- -fstP (negB d))) _; rw [Int.neg_neg]⟩, ?_⟩)
      | (refine ⟨spD (negB b) (negB a), ⟨k, a, b, rfl, rfl⟩, ?_⟩)
      | (refine ⟨_, ⟨k, a, b, fstP c, d, rfl, ⟨by omega, by omega⟩, okp hp, rfl⟩, ?_⟩)
      | (refine ⟨_, ⟨true, negB b, negB a, fstP (negB d), negB c, rfl, ⟨by omega, by omega⟩, okn hn, rfl⟩, ?_⟩)
      | (refine ⟨_, ⟨_, _, _, rfl, .inl ⟨rfl, rfl⟩⟩, ?_⟩)
      | (refine ⟨_, ⟨_, _, _, rfl, .inr ⟨_, _, rfl, rfl⟩⟩, ?_⟩)
      | with_reducible apply as_seq
      | with_reducible apply as_ret
      | with_reducible apply as_next
      | with_reducible apply as_if
      | with_reducible apply as_set
      | with_reducible apply as_asg
      | ((with_reducible apply ae_var); · rfl)
      | with_reducible apply ae_non
      | with_reducible apply ae_op
      | with_reducible apply aa_nil
      | with_reducible apply aa_cons
      | with_reducible apply at_test
      | with_reducible apply ar_notN
      | with_reducible apply ag_name
      | with_reducible apply ags_nil
      | with_reducible apply ags_cons
      | ((with_reducible apply ag_tup); · rfl)
      | refine ⟨_, rfl, ?_⟩
      | (refine ⟨fun hc => ?_, fun hc => ?_⟩ <;> (first | (exfalso; exact absurd (show false = true from hc) (by decide)) | (exfalso; exact absurd (show true = false from hc) (by decide)) | (exfalso; simp at hc; done) | skip))
      | fail)
  all_goals simp [divS, soD, divL, divH, hp, hn]
theorem ok_span_mod (bl : Blts mg) {g_without_zero : Addr} {d_without_zero : FuncData} (c_without_zero : Cal P w K mg base 3 "without_zero" p_without_zero (spP K S_wz) g_without_zero d_without_zero) {g_negatives : Addr} {d_negatives : FuncData} (c_negatives : Cal P w K mg base 2 "negatives" p_negatives (spP K S_negs) g_negatives d_negatives) {g_remainders : Addr} {d_remainders : FuncData} (c_remainders : Cal P w K mg base 2 "remainders" p_remainders (spP K S_rems) g_remainders d_remainders) {g_joined_spans : Addr} {d_joined_spans : FuncData} (c_joined_spans : Cal P w K mg base 3 "joined_spans" p_joined_spans (spP K S_jnd) g_joined_spans d_joined_spans)  {f : Addr} {fd : FuncData} (F : Fun K "span_mod" "span_mod" s_span_mod f fd) : FnOk P w K mg base CX0 4 f fd p_span_mod (spP K (S_mod)) := by
  refine okP F sc_span_mod (fun ds r h => ?_) (fun cdv A outer s H E hr ds r h => ?_)
  · obtain ⟨k, k', a, b, c, d, rfl, t, rfl⟩ := h
    rfl
  obtain ⟨k, k', a, b, c, d, rfl, t, rfl⟩ := h
  refine ⟨_, (pss_cons (ps_asg (pe_call c_without_zero.ok (hr.mono (by decide)) rfl c_without_zero.mg c_without_zero.kp c_without_zero.bi .nil pass0 (pa_cons (pv 1) pa_nil)) (pg_tup rfl (pgs_cons (pg_name (i := 3) sc_span_mod.nd rfl (by first | exact Or.inl rfl | exact Or.inr rfl)) (pgs_cons (pg_name (i := 4) sc_span_mod.nd rfl (by first | exact Or.inl rfl | exact Or.inr rfl)) pgs_nil))))
    (pss_cons (ps_set (i := 2) sc_span_mod.nd rfl (by first | exact Or.inl rfl | exact Or.inr rfl) pe_non)
    (pss_cons (ps_if (pt_cmpR op_notN (pv 3) pe_non (nomark _)) (pss_one (ps_set (i := 2) sc_span_mod.nd rfl (by first | exact Or.inl rfl | exact Or.inr rfl) (pe_call c_remainders.ok (hr.mono (by decide)) rfl c_remainders.mg c_remainders.kp c_remainders.bi .nil pass0 (pa_cons (pv 0) (pa_cons (pv 3) pa_nil))))) pss_nil)
    (pss_cons (ps_if (pt_cmpR op_notN (pv 4) pe_non (nomark _)) (pss_one (ps_set (i := 2) sc_span_mod.nd rfl (by first | exact Or.inl rfl | exact Or.inr rfl) (pe_call c_joined_spans.ok (hr.mono (by decide)) rfl c_joined_spans.mg c_joined_spans.kp c_joined_spans.bi .nil pass0 (pa_cons (pv 2) (pa_cons (pe_call c_negatives.ok (hr.mono (by decide)) rfl c_negatives.mg c_negatives.kp c_negatives.bi .nil pass0 (pa_cons (pe_call c_remainders.ok (hr.mono (by decide)) rfl c_remainders.mg c_remainders.kp c_remainders.bi .nil pass0 (pa_cons (pe_call c_negatives.ok (hr.mono (by decide)) rfl c_negatives.mg c_negatives.kp c_negatives.bi .nil pass0 (pa_cons (pv 0) pa_nil)) (pa_cons (pe_call c_negatives.ok (hr.mono (by decide)) rfl c_negatives.mg c_negatives.kp c_negatives.bi .nil pass0 (pa_cons (pv 4) pa_nil)) pa_nil))) pa_nil)) pa_nil))))) pss_nil)
    (pss_one (ps_ret (pv 2))))))), ?_⟩
  change AS K _ [En.da _, En.da _, En.no, En.no, En.no] _ _
  try simp only [cxOf_K]
  have f1 := fst_b t.lo
  have f2 := fst_b t.neg.lo
  have okp : pos d = true → okd d := fun h y e => by have := t.hi y e; subst e; have : 1 ≤ y := of_decide_eq_true h; unfold bgI at *; omega
  have okn : pos (negB c) = true → okd (negB c) := fun h y e => by have := t.neg.hi y e; rw [e] at h; have : 1 ≤ y := of_decide_eq_true h; unfold bgI at *; omega
  cases hp : pos d <;> cases hn : pos (negB c)
  all_goals
    repeat' (first
      | with_reducible apply ae_call
      | (refine ⟨.tup [spD (some (fstP c)) d, spD c (some (-fstP (negB d)))], ⟨_, _, _, rfl, t, by unfold posD; rw [hp, hn]; rfl⟩, ?_⟩)
      | (refine ⟨.tup [spD (some (fstP c)) d, .non], ⟨_, _, _, rfl, t, by unfold posD; rw [hp, hn]; rfl⟩, ?_⟩)
      | (refine ⟨.tup [.non, spD c (some (-fstP (negB d)))], ⟨_, _, _, rfl, t, by unfold posD; rw [hp, hn]; rfl⟩, ?_⟩)
      | (refine ⟨.tup [.non, .non], ⟨_, _, _, rfl, t, by unfold posD; rw [hp, hn]; rfl⟩, ?_⟩)
      | (refine ⟨spD (some (fstP (negB d))) (negB c), ⟨true, c, some (-fstP (negB d)), rfl, by show _ = spD (some (- -fstP (negB d))) _; rw [Int.neg_neg]⟩, ?_⟩)
      | (refine ⟨spD (negB b) (negB a), ⟨k, a, b, rfl, rfl⟩, ?_⟩)
      | (refine ⟨_, ⟨k, a, b, fstP c, d, rfl, ⟨by omega, by omega⟩, rfl⟩, ?_⟩)
      | (refine ⟨_, ⟨true, negB b, negB a, fstP (negB d), negB c, rfl, ⟨by omega, by omega⟩, rfl⟩, ?_⟩)
      | (refine ⟨_, ⟨true, _, _, rfl, rfl⟩, ?_⟩)
      | (refine ⟨_, ⟨_, _, _, rfl, .inl ⟨rfl, rfl⟩⟩, ?_⟩)
      | (refine ⟨_, ⟨_, _, _, rfl, .inr ⟨_, _, rfl, rfl⟩⟩, ?_⟩)
      | with_reducible apply as_seq
      | with_reducible apply as_ret
      | with_reducible apply as_next
      | with_reducible apply as_if
      | with_reducible apply as_set
      | with_reducible apply as_asg
      | ((with_reducible apply ae_var); · rfl)
      | with_reducible apply ae_non
      | with_reducible apply ae_op
      | with_reducible apply aa_nil
      | with_reducible apply aa_cons
      | with_reducible apply at_test
      | with_reducible apply ar_notN
      | with_reducible apply ag_name
      | with_reducible apply ags_nil
      | with_reducible apply ags_cons
      | ((with_reducible apply ag_tup); · rfl)
      | refine ⟨_, rfl, ?_⟩
      | (refine ⟨fun hc => ?_, fun hc => ?_⟩ <;> (first | (exfalso; exact absurd (show false = true from hc) (by decide)) | (exfalso; exact absurd (show true = false from hc) (by decide)) | (exfalso; simp at hc; done) | skip))
      | fail)
  all_goals simp [modS, soD, modL, modH, hp, hn]
end
end Sh
set_option Elab.async false
set_option linter.all false
set_option maxRecDepth 100000
set_option maxHeartbeats 4000000
namespace Sh
open PySem PySem.Spec PyProof.Rows L2
/-- a loop over what is written there -/
def Unr (K : PySem.W.Frag) (g : TG) (tb : TS) (R : Dt → List En → Prop) : List Dt → List En → (List En → Prop) → Prop
  | [], ρ, N => N ρ
  | d :: l, ρ, N => AG K g d ρ fun ρ1 => AS K tb ρ1 (fun ρ2 => Unr K g tb R l ρ2 N) R
section
variable {K : PySem.W.Frag} {ρ : List En} {N : List En → Prop} {R : Dt → List En → Prop}
theorem as_forU {wi : TI} {g : TG} {tb : TS} (h : AI K wi ρ fun l ρ1 => Unr K g tb R l ρ1 N) : AS K (tFor wi g tb) ρ N R :=
  as_for (fun B σ G H m Rr q => h B σ G H m Rr fun J l ρ' G' H' m' s t w p => q J l ρ' G' H' m' s t w ⟨fun i ρ => Unr K g tb R (l.drop i) ρ N, p, fun i d ρ2 hi hI => by
    have hlt := (List.getElem?_eq_some_iff.mp hi).1
    have e : l.drop i = d :: l.drop (i + 1) := by
      have := (List.getElem?_eq_some_iff.mp hi).2
      rw [List.drop_eq_getElem_cons hlt, this]
    have hI' : Unr K g tb R (l.drop i) ρ2 N := hI
    rw [e] at hI'
    exact hI', fun ρ2 hI => by
    have hI' : Unr K g tb R (l.drop l.length) ρ2 N := hI
    rw [List.drop_length] at hI'
    exact hI'⟩)
theorem un_cons {g : TG} {tb : TS} {d : Dt} {l : List Dt} (h : AG K g d ρ fun ρ1 => AS K tb ρ1 (fun ρ2 => Unr K g tb R l ρ2 N) R) : Unr K g tb R (d :: l) ρ N := h
theorem un_nil {g : TG} {tb : TS} (h : N ρ) : Unr K g tb R [] ρ N := h
theorem ar_eqWt {s t : Str} {Φ : Dt → Prop} (e : decide (V.str s = V.str t) = true) (h : Φ (.bl true)) : AR K rEq (.str s) (.str t) Φ := ar_eq3 ⟨rfl, rfl, rfl⟩ (by rw [e]; exact h)
theorem ar_eqWf {s t : Str} {Φ : Dt → Prop} (e : decide (V.str s = V.str t) = false) (h : Φ (.bl false)) : AR K rEq (.str s) (.str t) Φ := ar_eq3 ⟨rfl, rfl, rfl⟩ (by rw [e]; exact h)
theorem ar_inW {neg b : Bool} {s : Str} {l : List Dt} {xs : List V} {Φ : Dt → Prop} (c : vs? l = some xs ∧ xs.all flatV = true) (e : (if neg then !L2.inV (.str s) xs else L2.inV (.str s) xs) = b) (h : Φ (.bl b)) : AR K (rIn K neg) (.str s) (.tup l) Φ :=
  ar_inT (x := .str s) rfl c.1 rfl c.2 (by rw [e]; exact h)
end
inductive Wd where
  | add | sub | mul | div | mod
def Wd.s : Wd → Str
  | .add => "add" | .sub => "sub" | .mul => "mul" | .div => "div" | .mod => "mod"
structure Vq (a b : Option Int) (m r : Int) : Prop where
  lq : Lq a b
  vd : Vd m r
def spanF (w : Wd) (a b c d : Option Int) : Option (Option Int × Option Int) := match w with
  | .add => some (addB a c, addB b d)
  | .sub => some (addB a (negB d), addB b (negB c))
  | .mul => some (mulL a b c d, mulH a b c d)
  | .div => divS a b c d
  | .mod => modS a b c d
def restF (w : Wd) (m r n s : Int) : Option IP := match w with
  | .add => fAdd m r n s
  | .sub => fSub m r n s
  | .mul => fMul m r n s
  | .div => fDiv m r n s
  | .mod => fMod m r n s
def vfD : Option (Option Int × Option Int) → Option IP → Dt
  | some (a, b), some (m, r) => voD a b m r
  | _, _ => .non
def apD (w : Wd) (a b : Option Int) (m r : Int) (c d : Option Int) (n s : Int) : Dt := vfD (spanF w a b c d) (restF w m r n s)
def jnD (a b : Option Int) (m r : Int) (c d : Option Int) (n s : Int) : Dt := voD (lowJ a c) (highJ b d) (restO (g3 m n (r - s)) r).1 (restO (g3 m n (r - s)) r).2
def S_sing (ds : List Dt) (res : Dt) : Prop := ∃ n : Int, ds = [.int n] ∧ res = vD (some n) (some n) 0 n
def S_vo (ds : List Dt) (res : Dt) : Prop := ∃ lo hi, ∃ m r : Int, ds = [oD lo, oD hi, .int m, .int r] ∧ res = voD lo hi m r
def S_vf2 (ds : List Dt) (res : Dt) : Prop := ∃ p q, ds = [soD p, pO q] ∧ res = vfD p q
def S_vj (ds : List Dt) (res : Dt) : Prop := ∃ k k' a b c d, ∃ m r n s : Int, ds = [sq k [oD a, oD b, .int m, .int r], sq k' [oD c, oD d, .int n, .int s]] ∧ Vd m r ∧ Vd n s ∧ res = jnD a b m r c d n s
def S_jv (ds : List Dt) (res : Dt) : Prop := ∃ x c d n s, ds = [x, vD c d n s] ∧ ((x = .non ∧ res = vD c d n s) ∨ ∃ a b m r, x = vD a b m r ∧ Vd m r ∧ Vd n s ∧ res = jnD a b m r c d n s)
def S_cut (ds : List Dt) (res : Dt) : Prop := ∃ k c d n s lo hi, ds = [sq k [oD c, oD d, .int n, .int s], oD lo, oD hi] ∧ res = voD (lowM c lo) (highM d hi) n s
def S_app (ds : List Dt) (res : Dt) : Prop := ∃ (w : Wd), ∃ k k' a b c d, ∃ m r n s : Int, ds = [.str w.s, sq k [oD a, oD b, .int m, .int r], sq k' [oD c, oD d, .int n, .int s]] ∧ Vq a b m r ∧ Vq c d n s ∧ res = apD w a b m r c d n s
/-- both sides of 0 -/
def Two (F : Option Int → Option Int → Int → Int → Dt) (p q res : Dt) : Prop :=
  (p = .non ∧ q = .non ∧ res = .non) ∨
  (∃ c d n s x y m r, p = vD c d n s ∧ Vq c d n s ∧ q = .non ∧ F c d n s = vD x y m r ∧ res = vD x y m r) ∨
  (∃ c d n s x y m r, p = .non ∧ q = vD c d n s ∧ Vq c d n s ∧ F c d n s = vD x y m r ∧ res = vD x y m r) ∨
  ∃ c d n s c' d' n' s' x y m r x' y' m' r', p = vD c d n s ∧ Vq c d n s ∧ q = vD c' d' n' s' ∧ Vq c' d' n' s' ∧ F c d n s = vD x y m r ∧ F c' d' n' s' = vD x' y' m' r' ∧ Vd m r ∧ Vd m' r' ∧ res = jnD x y m r x' y' m' r'
def S_va (ds : List Dt) (res : Dt) : Prop := ∃ (w : Wd), ∃ k k' a b c d, ∃ m r n s : Int, ds = [.str w.s, sq k [oD a, oD b, .int m, .int r], sq k' [oD c, oD d, .int n, .int s]] ∧ Vq a b m r ∧ Vq c d n s ∧
  (match w with
   | .div | .mod => Two (apD w a b m r) (voD (lowM c (some 1)) (highM d none) n s) (voD (lowM c none) (highM d (some (-1))) n s) res
   | _ => res = apD w a b m r c d n s)
def S_has (ds : List Dt) (res : Dt) : Prop := ∃ k, ∃ m r n : Int, ds = [sq k [.int m, .int r], .int n] ∧ res = .bl (hasB m r n)
def S_con (ds : List Dt) (res : Dt) : Prop := ∃ k lo hi, ∃ m r n : Int, ds = [sq k [oD lo, oD hi, .int m, .int r], .int n] ∧ res = .bl (letsB lo hi n && hasB m r n)
abbrev s_rest_has : Stmt := topS 19
abbrev N_rest_has : List Str := ["rest", "n", "m", "r"]
abbrev p_rest_has : List Str := ["rest", "n"]
theorem sc_rest_has : FnScope N_rest_has p_rest_has (defScope s_rest_has) := ⟨rfl, rfl, rfl, by decide +kernel, rfl, by decide +kernel, by decide +kernel⟩
abbrev s_contains : Stmt := topS 43
abbrev N_contains : List Str := ["value", "n"]
abbrev p_contains : List Str := ["value", "n"]
theorem sc_contains : FnScope N_contains p_contains (defScope s_contains) := ⟨rfl, rfl, rfl, by decide +kernel, rfl, by decide +kernel, by decide +kernel⟩
section
variable {P : Program} {w : World} {K : PySem.W.Frag} {mg : Str → Option Value} {base : Heap}
theorem ok_single (bl : Blts mg)   {f : Addr} {fd : FuncData} (F : Fun K "single" "single" s_single f fd) : FnOk P w K mg base CX0 1 f fd p_single (spP K (S_sing)) := by
  refine okP F sc_single (fun ds r h => ?_) (fun cdv A outer s H E hr ds r h => ?_)
  · obtain ⟨n, rfl, rfl⟩ := h
    rfl
  obtain ⟨n, rfl, rfl⟩ := h
  refine ⟨_, (pss_one (ps_ret (pe_tup (pa_cons (pv 0) (pa_cons (pv 0) (pa_cons pe_int (pa_cons (pv 0) pa_nil))))))), ?_⟩
  change AS K _ [En.da _] _ _
  try simp only [cxOf_K]
  repeat' (first
    | with_reducible apply as_ret
    | ((with_reducible apply ae_var); · rfl)
    | with_reducible apply ae_int
    | with_reducible apply aa_nil
    | with_reducible apply aa_cons
    | with_reducible apply ae_tup
    | refine ⟨sz60 (Nat.le_of_ble_eq_true rfl), ?_⟩
    | rfl
    | fail)
theorem ok_value_of (bl : Blts mg) {g_lets_in : Addr} {d_lets_in : FuncData} (c_lets_in : Cal P w K mg base 2 "lets_in" p_lets_in (spP K S_lets) g_lets_in d_lets_in) {g_single : Addr} {d_single : FuncData} (c_single : Cal P w K mg base 1 "single" p_single (spP K S_sing) g_single d_single)  {f : Addr} {fd : FuncData} (F : Fun K "value_of" "value_of" s_value_of f fd) : FnOk P w K mg base CX0 3 f fd p_value_of (spP K (S_vo)) := by
  refine okP F sc_value_of (fun ds r h => ?_) (fun cdv A outer s H E hr ds r h => ?_)
  · obtain ⟨lo, hi, m, r, rfl, rfl⟩ := h
    rfl
  obtain ⟨lo, hi, m, r, rfl, rfl⟩ := h
  refine ⟨_, (pss_cons (ps_if (pt_cmpR op_eq (pv 2) pe_int (nomark _)) (pss_one (ps_ret (pe_ifExp (pt_val (pe_call c_lets_in.ok (hr.mono (by decide)) rfl c_lets_in.mg c_lets_in.kp c_lets_in.bi .nil pass0 (pa_cons (pv 0) (pa_cons (pv 1) (pa_cons (pv 3) pa_nil))))) (pe_call c_single.ok (hr.mono (by decide)) rfl c_single.mg c_single.kp c_single.bi .nil pass0 (pa_cons (pv 3) pa_nil)) pe_non))) pss_nil)
    (pss_cons (ps_if (pt_cmpR op_notN (pv 0) pe_non (nomark _)) (pss_one (ps_set (i := 0) sc_value_of.nd rfl (by first | exact Or.inl rfl | exact Or.inr rfl) (pe_op op_add (pv 0) (pe_op op_modN (pe_op op_sub (pv 3) (pv 0)) (pv 2))))) pss_nil)
    (pss_cons (ps_if (pt_cmpR op_notN (pv 1) pe_non (nomark _)) (pss_one (ps_set (i := 1) sc_value_of.nd rfl (by first | exact Or.inl rfl | exact Or.inr rfl) (pe_op op_sub (pv 1) (pe_op op_modN (pe_op op_sub (pv 1) (pv 3)) (pv 2))))) pss_nil)
    (pss_cons (ps_if (PW.pt (pw_and (pt_cmpR op_notN (pv 0) pe_non (nomark _)) (pw_and (pt_cmpR op_notN (pv 1) pe_non (nomark _)) (pw_and1 (pt_cmpR op_ge (pv 0) (pv 1) (nomark _)))))) (pss_one (ps_ret (pe_ifExp (pt_cmpR op_eq (pv 0) (pv 1) (nomark _)) (pe_call c_single.ok (hr.mono (by decide)) rfl c_single.mg c_single.kp c_single.bi .nil pass0 (pa_cons (pv 0) pa_nil)) pe_non))) pss_nil)
    (pss_one (ps_ret (pe_tup (pa_cons (pv 0) (pa_cons (pv 1) (pa_cons (pv 2) (pa_cons (pv 3) pa_nil))))))))))), ?_⟩
  change AS K _ [En.da _, En.da _, En.da _, En.da _] _ _
  try simp only [cxOf_K]
  by_cases h0 : m = 0
  · subst h0
    cases hl : letsB lo hi r
    all_goals
      repeat' (first
        | with_reducible apply ae_call
        | (refine ⟨.bl true, ⟨lo, hi, r, rfl, (congrArg Dt.bl hl.symm)⟩, ?_⟩)
        | (refine ⟨.bl false, ⟨lo, hi, r, rfl, (congrArg Dt.bl hl.symm)⟩, ?_⟩)
        | (refine ⟨_, ⟨_, rfl, rfl⟩, ?_⟩)
        | with_reducible apply as_seq
        | with_reducible apply as_ret
        | with_reducible apply as_if
        | ((with_reducible apply ae_var); · rfl)
        | with_reducible apply ae_int
        | with_reducible apply ae_non
        | with_reducible apply ae_op
        | with_reducible apply aa_nil
        | with_reducible apply aa_cons
        | with_reducible apply ae_if
        | with_reducible apply at_test
        | with_reducible apply at_b
        | ((with_reducible apply ar_eq3); · exact ⟨rfl, rfl, rfl⟩)
        | refine ⟨_, rfl, ?_⟩
        | (refine ⟨fun hc => ?_, fun hc => ?_⟩ <;> (first | (exfalso; exact absurd (show false = true from hc) (by decide)) | (exfalso; exact absurd (show true = false from hc) (by decide)) | (exfalso; simp at hc; done) | skip))
        | fail)
    all_goals simp [voD, hl]
  · have hd : decide (V.int m = V.int 0) = false := decide_eq_false (fun z => h0 (by cases z; rfl))
    cases lo with
    | none => cases hi with
      | none =>
        repeat' (first
          | (refine ⟨_, rfl, ?_⟩; rw [hd]; refine ⟨fun hc => (nomatch hc), fun hc => ?_⟩)
          | with_reducible apply as_seq
          | with_reducible apply as_ret
          | with_reducible apply as_next
          | with_reducible apply as_if
          | ((with_reducible apply ae_var); · rfl)
          | with_reducible apply ae_int
          | with_reducible apply ae_non
          | with_reducible apply ae_op
          | with_reducible apply aa_nil
          | with_reducible apply aa_cons
          | with_reducible apply ae_tup
          | with_reducible apply at_test
          | with_reducible apply at_and
          | with_reducible apply ar_notN
          | ((with_reducible apply ar_eq3); · exact ⟨rfl, rfl, rfl⟩)
          | refine ⟨sz60 (Nat.le_of_ble_eq_true rfl), ?_⟩
          | refine ⟨_, rfl, ?_⟩
          | (refine ⟨fun hc => ?_, fun hc => ?_⟩ <;> (first | (exfalso; exact absurd (show false = true from hc) (by decide)) | (exfalso; exact absurd (show true = false from hc) (by decide)) | (exfalso; simp at hc; done) | skip))
          | simp only [oD_some, oD_none]
          | fail)
        all_goals (simp [voD, h0, oD]; done)
      | some y =>
        repeat' (first
          | (refine ⟨_, rfl, ?_⟩; rw [hd]; refine ⟨fun hc => (nomatch hc), fun hc => ?_⟩)
          | refine ar_Ii (C := fun _ j => j ≠ 0) (by first | assumption | omega) ?_
          | with_reducible apply as_seq
          | with_reducible apply as_ret
          | with_reducible apply as_next
          | with_reducible apply as_if
          | with_reducible apply as_set
          | ((with_reducible apply ae_var); · rfl)
          | with_reducible apply ae_int
          | with_reducible apply ae_non
          | with_reducible apply ae_op
          | with_reducible apply aa_nil
          | with_reducible apply aa_cons
          | with_reducible apply ae_tup
          | with_reducible apply at_test
          | with_reducible apply at_and
          | with_reducible apply ar_I0i
          | with_reducible apply ar_notN
          | ((with_reducible apply ar_eq3); · exact ⟨rfl, rfl, rfl⟩)
          | refine ⟨sz60 (Nat.le_of_ble_eq_true rfl), ?_⟩
          | refine ⟨_, rfl, ?_⟩
          | (refine ⟨fun hc => ?_, fun hc => ?_⟩ <;> (first | (exfalso; exact absurd (show false = true from hc) (by decide)) | (exfalso; exact absurd (show true = false from hc) (by decide)) | (exfalso; simp at hc; done) | skip))
          | simp only [oD_some, oD_none]
          | fail)
        all_goals (simp [voD, h0, dnR, oD]; done)
    | some x => cases hi with
      | none =>
        repeat' (first
          | (refine ⟨_, rfl, ?_⟩; rw [hd]; refine ⟨fun hc => (nomatch hc), fun hc => ?_⟩)
          | refine ar_Ii (C := fun _ j => j ≠ 0) (by first | assumption | omega) ?_
          | with_reducible apply as_seq
          | with_reducible apply as_ret
          | with_reducible apply as_next
          | with_reducible apply as_if
          | with_reducible apply as_set
          | ((with_reducible apply ae_var); · rfl)
          | with_reducible apply ae_int
          | with_reducible apply ae_non
          | with_reducible apply ae_op
          | with_reducible apply aa_nil
          | with_reducible apply aa_cons
          | with_reducible apply ae_tup
          | with_reducible apply at_test
          | with_reducible apply at_and
          | with_reducible apply ar_I0i
          | with_reducible apply ar_notN
          | ((with_reducible apply ar_eq3); · exact ⟨rfl, rfl, rfl⟩)
          | refine ⟨sz60 (Nat.le_of_ble_eq_true rfl), ?_⟩
          | refine ⟨_, rfl, ?_⟩
          | (refine ⟨fun hc => ?_, fun hc => ?_⟩ <;> (first | (exfalso; exact absurd (show false = true from hc) (by decide)) | (exfalso; exact absurd (show true = false from hc) (by decide)) | (exfalso; simp at hc; done) | skip))
          | simp only [oD_some, oD_none]
          | fail)
        all_goals (simp [voD, h0, upR, oD]; done)
      | some y =>
        repeat' (first
          | (refine ⟨_, rfl, ?_⟩; rw [hd]; refine ⟨fun hc => (nomatch hc), fun hc => ?_⟩)
          | refine ar_Ii (C := fun _ j => j ≠ 0) (by first | assumption | omega) ?_
          | with_reducible apply ae_call
          | (refine ⟨_, ⟨_, rfl, rfl⟩, ?_⟩)
          | with_reducible apply as_seq
          | with_reducible apply as_ret
          | with_reducible apply as_next
          | with_reducible apply as_if
          | with_reducible apply as_set
          | ((with_reducible apply ae_var); · rfl)
          | with_reducible apply ae_int
          | with_reducible apply ae_non
          | with_reducible apply ae_op
          | with_reducible apply aa_nil
          | with_reducible apply aa_cons
          | with_reducible apply ae_tup
          | with_reducible apply ae_if
          | with_reducible apply at_test
          | with_reducible apply at_and
          | with_reducible apply ar_I0i
          | with_reducible apply ar_I0b
          | with_reducible apply ar_notN
          | ((with_reducible apply ar_eq3); · exact ⟨rfl, rfl, rfl⟩)
          | refine ⟨sz60 (Nat.le_of_ble_eq_true rfl), ?_⟩
          | refine ⟨_, rfl, ?_⟩
          | (refine ⟨fun hc => ?_, fun hc => ?_⟩ <;> (first | (exfalso; exact absurd (show false = true from hc) (by decide)) | (exfalso; exact absurd (show true = false from hc) (by decide)) | (exfalso; simp at hc; done) | skip))
          | simp only [oD_some, oD_none]
          | fail)
        all_goals (clear F hr c_lets_in c_single bl; unfold voD; rw [if_neg h0]; simp_all [upR, dnR, oD])
        all_goals (repeat (first | rw [if_neg (by omega)] | rw [if_pos (by omega)])); (try rfl)
theorem ok_value_from (bl : Blts mg) {g_value_of : Addr} {d_value_of : FuncData} (c_value_of : Cal P w K mg base 3 "value_of" p_value_of (spP K S_vo) g_value_of d_value_of)  {f : Addr} {fd : FuncData} (F : Fun K "value_from" "value_from" s_value_from f fd) : FnOk P w K mg base CX0 4 f fd p_value_from (spP K (S_vf2)) := by
  refine okP F sc_value_from (fun ds r h => ?_) (fun cdv A outer s H E hr ds r h => ?_)
  · obtain ⟨p, q, rfl, rfl⟩ := h
    rfl
  obtain ⟨p, q, rfl, rfl⟩ := h
  refine ⟨_, (pss_cons (ps_if (PW.pt (pw_or (pt_cmpR op_isN (pv 0) pe_non (nomark _)) (pw_or1 (pt_cmpR op_isN (pv 1) pe_non (nomark _))))) (pss_one (ps_ret pe_non)) pss_nil)
    (pss_one (ps_ret (pe_call c_value_of.ok (hr.mono (by decide)) rfl c_value_of.mg c_value_of.kp c_value_of.bi .nil pass0 (pa_cons (pe_ix ix_seq (pv 0) pe_int (fun _ _ => rfl)) (pa_cons (pe_ix ix_seq (pv 0) pe_int (fun _ _ => rfl)) (pa_cons (pe_ix ix_seq (pv 1) pe_int (fun _ _ => rfl)) (pa_cons (pe_ix ix_seq (pv 1) pe_int (fun _ _ => rfl)) pa_nil)))))))), ?_⟩
  change AS K _ [En.da _, En.da _] _ _
  try simp only [cxOf_K]
  cases p with
  | none => cases q
            all_goals
              repeat' (first
                | with_reducible apply as_seq
                | with_reducible apply as_ret
                | with_reducible apply as_if
                | ((with_reducible apply ae_var); · rfl)
                | with_reducible apply ae_non
                | with_reducible apply ae_op
                | with_reducible apply at_test
                | with_reducible apply at_or
                | with_reducible apply ar_isN
                | refine ⟨_, rfl, ?_⟩
                | (refine ⟨fun hc => ?_, fun hc => ?_⟩ <;> (first | (exfalso; exact absurd (show false = true from hc) (by decide)) | (exfalso; exact absurd (show true = false from hc) (by decide)) | (exfalso; simp at hc; done) | skip))
                | rfl
                | fail)
  | some p => cases q with
    | none =>
      repeat' (first
        | with_reducible apply as_seq
        | with_reducible apply as_ret
        | with_reducible apply as_if
        | ((with_reducible apply ae_var); · rfl)
        | with_reducible apply ae_non
        | with_reducible apply ae_op
        | with_reducible apply at_test
        | with_reducible apply at_or
        | with_reducible apply ar_isN
        | refine ⟨_, rfl, ?_⟩
        | (refine ⟨fun hc => ?_, fun hc => ?_⟩ <;> (first | (exfalso; exact absurd (show false = true from hc) (by decide)) | (exfalso; exact absurd (show true = false from hc) (by decide)) | (exfalso; simp at hc; done) | skip))
        | rfl
        | fail)
    | some q =>
      obtain ⟨a, b⟩ := p
      obtain ⟨m, r⟩ := q
      change AS K _ [En.da (sq true [oD a, oD b]), En.da (sq true [.int m, .int r])] _ _
      repeat' (first
        | with_reducible apply ae_call
        | (refine ⟨_, ⟨a, b, m, r, rfl, rfl⟩, ?_⟩)
        | with_reducible apply as_seq
        | with_reducible apply as_ret
        | with_reducible apply as_next
        | with_reducible apply as_if
        | ((with_reducible apply ae_var); · rfl)
        | with_reducible apply ae_int
        | with_reducible apply ae_non
        | with_reducible apply ae_op
        | with_reducible apply aa_nil
        | with_reducible apply aa_cons
        | with_reducible apply at_test
        | with_reducible apply at_or
        | with_reducible apply ar_isN
        | ((with_reducible apply ar_ix); · rfl)
        | refine ⟨_, rfl, ?_⟩
        | (refine ⟨fun hc => ?_, fun hc => ?_⟩ <;> (first | (exfalso; exact absurd (show false = true from hc) (by decide)) | (exfalso; exact absurd (show true = false from hc) (by decide)) | (exfalso; simp at hc; done) | skip))
        | rfl
        | fail)
theorem ok_value_join (bl : Blts mg) {g_span_join : Addr} {d_span_join : FuncData} (c_span_join : Cal P w K mg base 2 "span_join" p_span_join (spP K S_join) g_span_join d_span_join) {g_rest_join : Addr} {d_rest_join : FuncData} (c_rest_join : Cal P w K mg base 2 "rest_join" p_rest_join (spP K (S2r fJoin)) g_rest_join d_rest_join) {g_value_from : Addr} {d_value_from : FuncData} (c_value_from : Cal P w K mg base 4 "value_from" p_value_from (spP K S_vf2) g_value_from d_value_from)  {f : Addr} {fd : FuncData} (F : Fun K "value_join" "value_join" s_value_join f fd) : FnOk P w K mg base CX0 5 f fd p_value_join (spP K (S_vj)) := by
  refine okP F sc_value_join (fun ds r h => ?_) (fun cdv A outer s H E hr ds r h => ?_)
  · obtain ⟨k, k', a, b, c, d, m, r, n, s, rfl, v1, v2, rfl⟩ := h
    rfl
  obtain ⟨k, k', a, b, c, d, m, r, n, s, rfl, v1, v2, rfl⟩ := h
  refine ⟨_, (pss_one (ps_ret (pe_call c_value_from.ok (hr.mono (by decide)) rfl c_value_from.mg c_value_from.kp c_value_from.bi .nil pass0 (pa_cons (pe_call c_span_join.ok (hr.mono (by decide)) rfl c_span_join.mg c_span_join.kp c_span_join.bi .nil pass0 (pa_cons (pe_slice sl_seq (pv 0) po_none (po_some pe_int)) (pa_cons (pe_slice sl_seq (pv 1) po_none (po_some pe_int)) pa_nil))) (pa_cons (pe_call c_rest_join.ok (hr.mono (by decide)) rfl c_rest_join.mg c_rest_join.kp c_rest_join.bi .nil pass0 (pa_cons (pe_slice sl_seq (pv 0) (po_some pe_int) po_none) (pa_cons (pe_slice sl_seq (pv 1) (po_some pe_int) po_none) pa_nil))) pa_nil))))), ?_⟩
  change AS K _ [En.da _, En.da _] _ _
  try simp only [cxOf_K]
  repeat' (first
    | with_reducible apply ae_call
    | with_reducible apply ae_slFrom
    | with_reducible apply ae_slTo
    | (refine ⟨_, _, _, _, _, rfl, ?_⟩)
    | (refine ⟨_, ⟨k, k', a, b, c, d, rfl, rfl⟩, ?_⟩)
    | (refine ⟨_, ⟨k, k', m, r, n, s, rfl, v1, v2, rfl⟩, ?_⟩)
    | (refine ⟨_, ⟨some (lowJ a c, highJ b d), fJoin m r n s, rfl, rfl⟩, ?_⟩)
    | with_reducible apply as_ret
    | ((with_reducible apply ae_var); · rfl)
    | with_reducible apply aa_nil
    | with_reducible apply aa_cons
    | rfl
    | fail)
theorem ok_joined_values (bl : Blts mg) {g_value_join : Addr} {d_value_join : FuncData} (c_value_join : Cal P w K mg base 5 "value_join" p_value_join (spP K S_vj) g_value_join d_value_join)  {f : Addr} {fd : FuncData} (F : Fun K "joined" "joined" s_joined_values f fd) : FnOk P w K mg base CX0 6 f fd p_joined_values (spP K (S_jv)) := by
  refine okP F sc_joined_values (fun ds r h => ?_) (fun cdv A outer s H E hr ds r h => ?_)
  · obtain ⟨x, c, d, n, s, rfl, hx⟩ := h
    rfl
  obtain ⟨x, c, d, n, s, rfl, hx⟩ := h
  refine ⟨_, (pss_cons (ps_if (pt_cmpR op_isN (pv 0) pe_non (nomark _)) (pss_one (ps_ret (pv 1))) pss_nil)
    (pss_one (ps_ret (pe_call c_value_join.ok (hr.mono (by decide)) rfl c_value_join.mg c_value_join.kp c_value_join.bi .nil pass0 (pa_cons (pv 0) (pa_cons (pv 1) pa_nil)))))), ?_⟩
  change AS K _ [En.da _, En.da _] _ _
  try simp only [cxOf_K]
  rcases hx with ⟨rfl, rfl⟩ | ⟨a, b, m, r, rfl, v1, v2, rfl⟩
  all_goals
    repeat' (first
      | with_reducible apply ae_call
      | (refine ⟨_, ⟨true, true, _, _, _, _, _, _, _, _, rfl, v1, v2, rfl⟩, ?_⟩)
      | with_reducible apply as_seq
      | with_reducible apply as_ret
      | with_reducible apply as_next
      | with_reducible apply as_if
      | ((with_reducible apply ae_var); · rfl)
      | with_reducible apply ae_non
      | with_reducible apply ae_op
      | with_reducible apply aa_nil
      | with_reducible apply aa_cons
      | with_reducible apply at_test
      | with_reducible apply ar_isN
      | refine ⟨_, rfl, ?_⟩
      | (refine ⟨fun hc => ?_, fun hc => ?_⟩ <;> (first | (exfalso; exact absurd (show false = true from hc) (by decide)) | (exfalso; exact absurd (show true = false from hc) (by decide)) | (exfalso; simp at hc; done) | skip))
      | rfl
      | fail)
theorem ok_value_cut (bl : Blts mg) {g_tightest_low : Addr} {d_tightest_low : FuncData} (c_tightest_low : Cal P w K mg base 1 "tightest_low" p_tightest_low (spP K (S2 lowM)) g_tightest_low d_tightest_low) {g_tightest_high : Addr} {d_tightest_high : FuncData} (c_tightest_high : Cal P w K mg base 1 "tightest_high" p_tightest_high (spP K (S2 highM)) g_tightest_high d_tightest_high) {g_value_of : Addr} {d_value_of : FuncData} (c_value_of : Cal P w K mg base 3 "value_of" p_value_of (spP K S_vo) g_value_of d_value_of)  {f : Addr} {fd : FuncData} (F : Fun K "value_cut" "value_cut" s_value_cut f fd) : FnOk P w K mg base CX0 4 f fd p_value_cut (spP K (S_cut)) := by
  refine okP F sc_value_cut (fun ds r h => ?_) (fun cdv A outer s H E hr ds r h => ?_)
  · obtain ⟨k, c, d, n, s, lo, hi, rfl, rfl⟩ := h
    rfl
  obtain ⟨k, c, d, n, s, lo, hi, rfl, rfl⟩ := h
  refine ⟨_, (pss_one (ps_ret (pe_call c_value_of.ok (hr.mono (by decide)) rfl c_value_of.mg c_value_of.kp c_value_of.bi .nil pass0 (pa_cons (pe_call c_tightest_low.ok (hr.mono (by decide)) rfl c_tightest_low.mg c_tightest_low.kp c_tightest_low.bi .nil pass0 (pa_cons (pe_ix ix_seq (pv 0) pe_int (fun _ _ => rfl)) (pa_cons (pv 1) pa_nil))) (pa_cons (pe_call c_tightest_high.ok (hr.mono (by decide)) rfl c_tightest_high.mg c_tightest_high.kp c_tightest_high.bi .nil pass0 (pa_cons (pe_ix ix_seq (pv 0) pe_int (fun _ _ => rfl)) (pa_cons (pv 2) pa_nil))) (pa_cons (pe_ix ix_seq (pv 0) pe_int (fun _ _ => rfl)) (pa_cons (pe_ix ix_seq (pv 0) pe_int (fun _ _ => rfl)) pa_nil))))))), ?_⟩
  change AS K _ [En.da _, En.da _, En.da _] _ _
  try simp only [cxOf_K]
  repeat' (first
    | with_reducible apply ae_call
    | (refine ⟨oD (lowM c lo), ⟨c, lo, rfl, rfl⟩, ?_⟩)
    | (refine ⟨oD (highM d hi), ⟨d, hi, rfl, rfl⟩, ?_⟩)
    | (refine ⟨_, ⟨_, _, _, _, rfl, rfl⟩, ?_⟩)
    | with_reducible apply as_ret
    | ((with_reducible apply ae_var); · rfl)
    | with_reducible apply ae_int
    | with_reducible apply ae_op
    | with_reducible apply aa_nil
    | with_reducible apply aa_cons
    | ((with_reducible apply ar_ix); · rfl)
    | rfl
    | fail)
theorem ok_applied (bl : Blts mg) {g_span_add : Addr} {d_span_add : FuncData} (c_span_add : Cal P w K mg base 2 "span_add" p_span_add (spP K S_add) g_span_add d_span_add) {g_span_sub : Addr} {d_span_sub : FuncData} (c_span_sub : Cal P w K mg base 3 "span_sub" p_span_sub (spP K S_sub) g_span_sub d_span_sub) {g_span_mul : Addr} {d_span_mul : FuncData} (c_span_mul : Cal P w K mg base 4 "span_mul" p_span_mul (spP K S_mul) g_span_mul d_span_mul) {g_span_div : Addr} {d_span_div : FuncData} (c_span_div : Cal P w K mg base 4 "span_div" p_span_div (spP K S_div) g_span_div d_span_div) {g_span_mod : Addr} {d_span_mod : FuncData} (c_span_mod : Cal P w K mg base 4 "span_mod" p_span_mod (spP K S_mod) g_span_mod d_span_mod) {g_rest_add : Addr} {d_rest_add : FuncData} (c_rest_add : Cal P w K mg base 2 "rest_add" p_rest_add (spP K (S2r fAdd)) g_rest_add d_rest_add) {g_rest_sub : Addr} {d_rest_sub : FuncData} (c_rest_sub : Cal P w K mg base 2 "rest_sub" p_rest_sub (spP K (S2r fSub)) g_rest_sub d_rest_sub) {g_rest_mul : Addr} {d_rest_mul : FuncData} (c_rest_mul : Cal P w K mg base 2 "rest_mul" p_rest_mul (spP K (S2r fMul)) g_rest_mul d_rest_mul) {g_rest_div : Addr} {d_rest_div : FuncData} (c_rest_div : Cal P w K mg base 2 "rest_div" p_rest_div (spP K (S2r fDiv)) g_rest_div d_rest_div) {g_rest_mod : Addr} {d_rest_mod : FuncData} (c_rest_mod : Cal P w K mg base 2 "rest_mod" p_rest_mod (spP K (S2r fMod)) g_rest_mod d_rest_mod) {g_value_from : Addr} {d_value_from : FuncData} (c_value_from : Cal P w K mg base 4 "value_from" p_value_from (spP K S_vf2) g_value_from d_value_from)  {f : Addr} {fd : FuncData} (F : Fun K "applied" "applied" s_applied f fd) : FnOk P w K mg base CX0 5 f fd p_applied (spP K (S_app)) := by
  refine okP F sc_applied (fun ds r h => ?_) (fun cdv A outer s H E hr ds r h => ?_)
  · obtain ⟨w, k, k', a, b, c, d, m, r, n, s, rfl, q1, q2, rfl⟩ := h
    rfl
  obtain ⟨w, k, k', a, b, c, d, m, r, n, s, rfl, q1, q2, rfl⟩ := h
  refine ⟨_, (pss_cons (ps_par (i := 3) (j := 4) (by rfl) sc_applied.nd rfl rfl (by decide) rfl rfl (pa_cons (pe_slice sl_seq (pv 1) po_none (po_some pe_int)) (pa_cons (pe_slice sl_seq (pv 2) po_none (po_some pe_int)) pa_nil)) (by rfl))
    (pss_cons (ps_par (i := 5) (j := 6) (by rfl) sc_applied.nd rfl rfl (by decide) rfl rfl (pa_cons (pe_slice sl_seq (pv 1) (po_some pe_int) po_none) (pa_cons (pe_slice sl_seq (pv 2) (po_some pe_int) po_none) pa_nil)) (by rfl))
    (pss_cons (ps_if (pt_cmpR op_eq (pv 0) pe_str (nomark _)) (pss_one (ps_ret (pe_call c_value_from.ok (hr.mono (by decide)) rfl c_value_from.mg c_value_from.kp c_value_from.bi .nil pass0 (pa_cons (pe_call c_span_add.ok (hr.mono (by decide)) rfl c_span_add.mg c_span_add.kp c_span_add.bi .nil pass0 (pa_cons (pv 3) (pa_cons (pv 4) pa_nil))) (pa_cons (pe_call c_rest_add.ok (hr.mono (by decide)) rfl c_rest_add.mg c_rest_add.kp c_rest_add.bi .nil pass0 (pa_cons (pv 5) (pa_cons (pv 6) pa_nil))) pa_nil))))) pss_nil)
    (pss_cons (ps_if (pt_cmpR op_eq (pv 0) pe_str (nomark _)) (pss_one (ps_ret (pe_call c_value_from.ok (hr.mono (by decide)) rfl c_value_from.mg c_value_from.kp c_value_from.bi .nil pass0 (pa_cons (pe_call c_span_sub.ok (hr.mono (by decide)) rfl c_span_sub.mg c_span_sub.kp c_span_sub.bi .nil pass0 (pa_cons (pv 3) (pa_cons (pv 4) pa_nil))) (pa_cons (pe_call c_rest_sub.ok (hr.mono (by decide)) rfl c_rest_sub.mg c_rest_sub.kp c_rest_sub.bi .nil pass0 (pa_cons (pv 5) (pa_cons (pv 6) pa_nil))) pa_nil))))) pss_nil)
    (pss_cons (ps_if (pt_cmpR op_eq (pv 0) pe_str (nomark _)) (pss_one (ps_ret (pe_call c_value_from.ok (hr.mono (by decide)) rfl c_value_from.mg c_value_from.kp c_value_from.bi .nil pass0 (pa_cons (pe_call c_span_mul.ok (hr.mono (by decide)) rfl c_span_mul.mg c_span_mul.kp c_span_mul.bi .nil pass0 (pa_cons (pv 3) (pa_cons (pv 4) pa_nil))) (pa_cons (pe_call c_rest_mul.ok (hr.mono (by decide)) rfl c_rest_mul.mg c_rest_mul.kp c_rest_mul.bi .nil pass0 (pa_cons (pv 5) (pa_cons (pv 6) pa_nil))) pa_nil))))) pss_nil)
    (pss_cons (ps_if (pt_cmpR op_eq (pv 0) pe_str (nomark _)) (pss_one (ps_ret (pe_call c_value_from.ok (hr.mono (by decide)) rfl c_value_from.mg c_value_from.kp c_value_from.bi .nil pass0 (pa_cons (pe_call c_span_div.ok (hr.mono (by decide)) rfl c_span_div.mg c_span_div.kp c_span_div.bi .nil pass0 (pa_cons (pv 3) (pa_cons (pv 4) pa_nil))) (pa_cons (pe_call c_rest_div.ok (hr.mono (by decide)) rfl c_rest_div.mg c_rest_div.kp c_rest_div.bi .nil pass0 (pa_cons (pv 5) (pa_cons (pv 6) pa_nil))) pa_nil))))) pss_nil)
    (pss_one (ps_ret (pe_call c_value_from.ok (hr.mono (by decide)) rfl c_value_from.mg c_value_from.kp c_value_from.bi .nil pass0 (pa_cons (pe_call c_span_mod.ok (hr.mono (by decide)) rfl c_span_mod.mg c_span_mod.kp c_span_mod.bi .nil pass0 (pa_cons (pv 3) (pa_cons (pv 4) pa_nil))) (pa_cons (pe_call c_rest_mod.ok (hr.mono (by decide)) rfl c_rest_mod.mg c_rest_mod.kp c_rest_mod.bi .nil pass0 (pa_cons (pv 5) (pa_cons (pv 6) pa_nil))) pa_nil))))))))))), ?_⟩
  change AS K _ [En.da _, En.da _, En.da _, En.no, En.no, En.no, En.no] _ _
  try simp only [cxOf_K]
  cases w
  ·
    repeat' (first
      | with_reducible apply ae_call
      | with_reducible apply ae_slFrom
      | with_reducible apply ae_slTo
      | (refine ⟨_, _, _, _, _, rfl, ?_⟩)
      | (refine ⟨soD (some (addB a c, addB b d)), ⟨k, k', a, b, c, d, rfl, rfl⟩, ?_⟩)
      | (refine ⟨pO (fAdd m r n s), ⟨k, k', m, r, n, s, rfl, q1.vd, q2.vd, rfl⟩, ?_⟩)
      | (refine ⟨_, ⟨some (addB a c, addB b d), fAdd m r n s, rfl, rfl⟩, ?_⟩)
      | ((apply ar_eqWt); · decide +kernel)
      | with_reducible apply as_seq
      | with_reducible apply as_ret
      | with_reducible apply as_if
      | with_reducible apply as_par
      | ((with_reducible apply ae_var); · rfl)
      | with_reducible apply ae_str
      | with_reducible apply ae_op
      | with_reducible apply aa_nil
      | with_reducible apply aa_cons
      | with_reducible apply at_test
      | refine ⟨_, rfl, ?_⟩
      | refine ⟨_, _, rfl, ?_⟩
      | (refine ⟨fun hc => ?_, fun hc => ?_⟩ <;> (first | (exfalso; exact absurd (show false = true from hc) (by decide)) | (exfalso; exact absurd (show true = false from hc) (by decide)) | (exfalso; simp at hc; done) | skip))
      | rfl
      | fail)
  ·
    repeat' (first
      | with_reducible apply ae_call
      | with_reducible apply ae_slFrom
      | with_reducible apply ae_slTo
      | (refine ⟨_, _, _, _, _, rfl, ?_⟩)
      | (refine ⟨soD (some (addB a (negB d), addB b (negB c))), ⟨k, k', a, b, c, d, rfl, rfl⟩, ?_⟩)
      | (refine ⟨pO (fSub m r n s), ⟨k, k', m, r, n, s, rfl, q1.vd, q2.vd, rfl⟩, ?_⟩)
      | (refine ⟨_, ⟨some (addB a (negB d), addB b (negB c)), fSub m r n s, rfl, rfl⟩, ?_⟩)
      | ((apply ar_eqWt); · decide +kernel)
      | ((apply ar_eqWf); · decide +kernel)
      | with_reducible apply as_seq
      | with_reducible apply as_ret
      | with_reducible apply as_next
      | with_reducible apply as_if
      | with_reducible apply as_par
      | ((with_reducible apply ae_var); · rfl)
      | with_reducible apply ae_str
      | with_reducible apply ae_op
      | with_reducible apply aa_nil
      | with_reducible apply aa_cons
      | with_reducible apply at_test
      | refine ⟨_, rfl, ?_⟩
      | refine ⟨_, _, rfl, ?_⟩
      | (refine ⟨fun hc => ?_, fun hc => ?_⟩ <;> (first | (exfalso; exact absurd (show false = true from hc) (by decide)) | (exfalso; exact absurd (show true = false from hc) (by decide)) | (exfalso; simp at hc; done) | skip))
      | rfl
      | fail)
  ·
    repeat' (first
      | with_reducible apply ae_call
      | with_reducible apply ae_slFrom
      | with_reducible apply ae_slTo
      | (refine ⟨_, _, _, _, _, rfl, ?_⟩)
      | (refine ⟨soD (some (mulL a b c d, mulH a b c d)), ⟨k, k', a, b, c, d, rfl, ⟨q1.lq.lo, q1.lq.hi, q2.lq.lo, q2.lq.hi⟩, rfl⟩, ?_⟩)
      | (refine ⟨pO (fMul m r n s), ⟨k, k', m, r, n, s, rfl, q1.vd, q2.vd, rfl⟩, ?_⟩)
      | (refine ⟨_, ⟨some (mulL a b c d, mulH a b c d), fMul m r n s, rfl, rfl⟩, ?_⟩)
      | ((apply ar_eqWt); · decide +kernel)
      | ((apply ar_eqWf); · decide +kernel)
      | with_reducible apply as_seq
      | with_reducible apply as_ret
      | with_reducible apply as_next
      | with_reducible apply as_if
      | with_reducible apply as_par
      | ((with_reducible apply ae_var); · rfl)
      | with_reducible apply ae_str
      | with_reducible apply ae_op
      | with_reducible apply aa_nil
      | with_reducible apply aa_cons
      | with_reducible apply at_test
      | refine ⟨_, rfl, ?_⟩
      | refine ⟨_, _, rfl, ?_⟩
      | (refine ⟨fun hc => ?_, fun hc => ?_⟩ <;> (first | (exfalso; exact absurd (show false = true from hc) (by decide)) | (exfalso; exact absurd (show true = false from hc) (by decide)) | (exfalso; simp at hc; done) | skip))
      | rfl
      | fail)
  ·
    repeat' (first
      | with_reducible apply ae_call
      | with_reducible apply ae_slFrom
      | with_reducible apply ae_slTo
      | (refine ⟨_, _, _, _, _, rfl, ?_⟩)
      | (refine ⟨soD (divS a b c d), ⟨k, k', a, b, c, d, rfl, q2.lq, rfl⟩, ?_⟩)
      | (refine ⟨pO (fDiv m r n s), ⟨k, k', m, r, n, s, rfl, q1.vd, q2.vd, rfl⟩, ?_⟩)
      | (refine ⟨_, ⟨divS a b c d, fDiv m r n s, rfl, rfl⟩, ?_⟩)
      | ((apply ar_eqWt); · decide +kernel)
      | ((apply ar_eqWf); · decide +kernel)
      | with_reducible apply as_seq
      | with_reducible apply as_ret
      | with_reducible apply as_next
      | with_reducible apply as_if
      | with_reducible apply as_par
      | ((with_reducible apply ae_var); · rfl)
      | with_reducible apply ae_str
      | with_reducible apply ae_op
      | with_reducible apply aa_nil
      | with_reducible apply aa_cons
      | with_reducible apply at_test
      | refine ⟨_, rfl, ?_⟩
      | refine ⟨_, _, rfl, ?_⟩
      | (refine ⟨fun hc => ?_, fun hc => ?_⟩ <;> (first | (exfalso; exact absurd (show false = true from hc) (by decide)) | (exfalso; exact absurd (show true = false from hc) (by decide)) | (exfalso; simp at hc; done) | skip))
      | rfl
      | fail)
  ·
    repeat' (first
      | with_reducible apply ae_call
      | with_reducible apply ae_slFrom
      | with_reducible apply ae_slTo
      | (refine ⟨_, _, _, _, _, rfl, ?_⟩)
      | (refine ⟨soD (modS a b c d), ⟨k, k', a, b, c, d, rfl, q2.lq, rfl⟩, ?_⟩)
      | (refine ⟨pO (fMod m r n s), ⟨k, k', m, r, n, s, rfl, q1.vd, q2.vd, rfl⟩, ?_⟩)
      | (refine ⟨_, ⟨modS a b c d, fMod m r n s, rfl, rfl⟩, ?_⟩)
      | ((apply ar_eqWf); · decide +kernel)
      | with_reducible apply as_seq
      | with_reducible apply as_ret
      | with_reducible apply as_next
      | with_reducible apply as_if
      | with_reducible apply as_par
      | ((with_reducible apply ae_var); · rfl)
      | with_reducible apply ae_str
      | with_reducible apply ae_op
      | with_reducible apply aa_nil
      | with_reducible apply aa_cons
      | with_reducible apply at_test
      | refine ⟨_, rfl, ?_⟩
      | refine ⟨_, _, rfl, ?_⟩
      | (refine ⟨fun hc => ?_, fun hc => ?_⟩ <;> (first | (exfalso; exact absurd (show false = true from hc) (by decide)) | (exfalso; exact absurd (show true = false from hc) (by decide)) | (exfalso; simp at hc; done) | skip))
      | rfl
      | fail)
theorem ok_value_apply (bl : Blts mg) {g_applied : Addr} {d_applied : FuncData} (c_applied : Cal P w K mg base 5 "applied" p_applied (spP K S_app) g_applied d_applied) {g_value_cut : Addr} {d_value_cut : FuncData} (c_value_cut : Cal P w K mg base 4 "value_cut" p_value_cut (spP K S_cut) g_value_cut d_value_cut) {g_joined_values : Addr} {d_joined_values : FuncData} (c_joined_values : Cal P w K mg base 6 "joined_values" p_joined_values (spP K S_jv) g_joined_values d_joined_values)  {f : Addr} {fd : FuncData} (F : Fun K "value_apply" "value_apply" s_value_apply f fd) : FnOk P w K mg base CX0 7 f fd p_value_apply (spP K (S_va)) := by
  refine okP F sc_value_apply (fun ds r h => ?_) (fun cdv A outer s H E hr ds r h => ?_)
  · obtain ⟨w, k, k', a, b, c, d, m, r, n, s, rfl, q1, q2, hr2⟩ := h
    rfl
  obtain ⟨w, k, k', a, b, c, d, m, r, n, s, rfl, q1, q2, hr2⟩ := h
  refine ⟨_, (pss_cons (ps_if (pt_cmpR op_notIn_seq (pv 0) (pe_tup (pa_cons pe_str (pa_cons pe_str pa_nil))) rfl) (pss_one (ps_ret (pe_call c_applied.ok (hr.mono (by decide)) rfl c_applied.mg c_applied.kp c_applied.bi .nil pass0 (pa_cons (pv 0) (pa_cons (pv 1) (pa_cons (pv 2) pa_nil)))))) pss_nil)
    (pss_cons (ps_set (i := 3) sc_value_apply.nd rfl (by first | exact Or.inl rfl | exact Or.inr rfl) pe_non)
    (pss_cons (ps_for PassesOwn.never rfl (pi_tup (pe_tup (pa_cons (pe_call c_value_cut.ok (hr.mono (by decide)) rfl c_value_cut.mg c_value_cut.kp c_value_cut.bi .nil pass0 (pa_cons (pv 2) (pa_cons pe_int (pa_cons pe_non pa_nil)))) (pa_cons (pe_call c_value_cut.ok (hr.mono (by decide)) rfl c_value_cut.mg c_value_cut.kp c_value_cut.bi .nil pass0 (pa_cons (pv 2) (pa_cons pe_non (pa_cons (pe_un un_neg pe_int) pa_nil)))) pa_nil)))) (pg_name (i := 4) sc_value_apply.nd rfl (by first | exact Or.inl rfl | exact Or.inr rfl)) (pss_one (ps_if (pt_cmpR op_notN (pv 4) pe_non (nomark _)) (pss_one (ps_set (i := 3) sc_value_apply.nd rfl (by first | exact Or.inl rfl | exact Or.inr rfl) (pe_call c_joined_values.ok (hr.mono (by decide)) rfl c_joined_values.mg c_joined_values.kp c_joined_values.bi .nil pass0 (pa_cons (pv 3) (pa_cons (pe_call c_applied.ok (hr.mono (by decide)) rfl c_applied.mg c_applied.kp c_applied.bi .nil pass0 (pa_cons (pv 0) (pa_cons (pv 1) (pa_cons (pv 4) pa_nil)))) pa_nil))))) pss_nil)))
    (pss_one (ps_ret (pv 3)))))), ?_⟩
  change AS K _ [En.da _, En.da _, En.da _, En.no, En.no] _ _
  try simp only [cxOf_K]
  cases w
  · subst hr2
    repeat' (first
      | with_reducible apply ae_call
      | ((apply ar_inW (b := true) ⟨rfl, rfl⟩); · decide +kernel)
      | (refine ⟨_, ⟨.add, k, k', a, b, c, d, m, r, n, s, rfl, q1, q2, rfl⟩, ?_⟩)
      | with_reducible apply as_seq
      | with_reducible apply as_ret
      | with_reducible apply as_if
      | ((with_reducible apply ae_var); · rfl)
      | with_reducible apply ae_str
      | with_reducible apply ae_op
      | with_reducible apply aa_nil
      | with_reducible apply aa_cons
      | with_reducible apply ae_tup
      | with_reducible apply at_test
      | refine ⟨sz60 (Nat.le_of_ble_eq_true rfl), ?_⟩
      | refine ⟨_, rfl, ?_⟩
      | (refine ⟨fun hc => ?_, fun hc => ?_⟩ <;> (first | (exfalso; exact absurd (show false = true from hc) (by decide)) | (exfalso; exact absurd (show true = false from hc) (by decide)) | (exfalso; simp at hc; done) | skip))
      | rfl
      | fail)
  · subst hr2
    repeat' (first
      | with_reducible apply ae_call
      | ((apply ar_inW (b := true) ⟨rfl, rfl⟩); · decide +kernel)
      | (refine ⟨_, ⟨.sub, k, k', a, b, c, d, m, r, n, s, rfl, q1, q2, rfl⟩, ?_⟩)
      | with_reducible apply as_seq
      | with_reducible apply as_ret
      | with_reducible apply as_if
      | ((with_reducible apply ae_var); · rfl)
      | with_reducible apply ae_str
      | with_reducible apply ae_op
      | with_reducible apply aa_nil
      | with_reducible apply aa_cons
      | with_reducible apply ae_tup
      | with_reducible apply at_test
      | refine ⟨sz60 (Nat.le_of_ble_eq_true rfl), ?_⟩
      | refine ⟨_, rfl, ?_⟩
      | (refine ⟨fun hc => ?_, fun hc => ?_⟩ <;> (first | (exfalso; exact absurd (show false = true from hc) (by decide)) | (exfalso; exact absurd (show true = false from hc) (by decide)) | (exfalso; simp at hc; done) | skip))
      | rfl
      | fail)
  · subst hr2
    repeat' (first
      | with_reducible apply ae_call
      | ((apply ar_inW (b := true) ⟨rfl, rfl⟩); · decide +kernel)
      | (refine ⟨_, ⟨.mul, k, k', a, b, c, d, m, r, n, s, rfl, q1, q2, rfl⟩, ?_⟩)
      | with_reducible apply as_seq
      | with_reducible apply as_ret
      | with_reducible apply as_if
      | ((with_reducible apply ae_var); · rfl)
      | with_reducible apply ae_str
      | with_reducible apply ae_op
      | with_reducible apply aa_nil
      | with_reducible apply aa_cons
      | with_reducible apply ae_tup
      | with_reducible apply at_test
      | refine ⟨sz60 (Nat.le_of_ble_eq_true rfl), ?_⟩
      | refine ⟨_, rfl, ?_⟩
      | (refine ⟨fun hc => ?_, fun hc => ?_⟩ <;> (first | (exfalso; exact absurd (show false = true from hc) (by decide)) | (exfalso; exact absurd (show true = false from hc) (by decide)) | (exfalso; simp at hc; done) | skip))
      | rfl
      | fail)
  · dsimp only at hr2
    obtain ⟨p, e1⟩ : ∃ p, p = voD (lowM c (some 1)) (highM d none) n s := ⟨_, rfl⟩
    obtain ⟨q, e2⟩ : ∃ q, q = voD (lowM c none) (highM d (some (-1))) n s := ⟨_, rfl⟩
    rw [← e1, ← e2] at hr2
    rcases hr2 with ⟨rfl, rfl, rfl⟩ | ⟨c1, d1, n1, s1, x, y, m1, r1, rfl, v1, rfl, f1, rfl⟩ | ⟨c1, d1, n1, s1, x, y, m1, r1, rfl, rfl, v1, f1, rfl⟩ | ⟨c1, d1, n1, s1, c2, d2, n2, s2, x, y, m1, r1, x2, y2, m2, r2, rfl, v1, rfl, v2, f1, f2, u1, u2, rfl⟩
    all_goals
      repeat' (first
        | with_reducible apply ae_call
        | ((apply ar_inW (b := false) ⟨rfl, rfl⟩); · decide +kernel)
        | with_reducible apply as_forU
        | with_reducible apply ai_tup
        | with_reducible apply un_cons
        | with_reducible apply un_nil
        | (refine ⟨.non, ⟨k', c, d, n, s, some 1, none, rfl, e1⟩, ?_⟩)
        | (refine ⟨(vD c1 d1 n1 s1), ⟨k', c, d, n, s, some 1, none, rfl, e1⟩, ?_⟩)
        | (refine ⟨.non, ⟨k', c, d, n, s, none, some (-1), rfl, e2⟩, ?_⟩)
        | (refine ⟨(vD c1 d1 n1 s1), ⟨k', c, d, n, s, none, some (-1), rfl, e2⟩, ?_⟩)
        | (refine ⟨(vD c2 d2 n2 s2), ⟨k', c, d, n, s, none, some (-1), rfl, e2⟩, ?_⟩)
        | (refine ⟨vD x y m1 r1, ⟨.div, k, true, a, b, c1, d1, m, r, n1, s1, rfl, q1, v1, f1.symm⟩, ?_⟩)
        | (refine ⟨vD x2 y2 m2 r2, ⟨.div, k, true, a, b, c2, d2, m, r, n2, s2, rfl, q1, v2, f2.symm⟩, ?_⟩)
        | (refine ⟨vD x y m1 r1, ⟨.non, x, y, m1, r1, rfl, .inl ⟨rfl, rfl⟩⟩, ?_⟩)
        | (refine ⟨jnD x y m1 r1 x2 y2 m2 r2, ⟨vD x y m1 r1, x2, y2, m2, r2, rfl, .inr ⟨x, y, m1, r1, rfl, u1, u2, rfl⟩⟩, ?_⟩)
        | with_reducible apply as_seq
        | with_reducible apply as_ret
        | with_reducible apply as_next
        | with_reducible apply as_if
        | with_reducible apply as_set
        | ((with_reducible apply ae_var); · rfl)
        | with_reducible apply ae_int
        | with_reducible apply ae_non
        | with_reducible apply ae_str
        | with_reducible apply ae_op
        | with_reducible apply ae_un
        | with_reducible apply aa_nil
        | with_reducible apply aa_cons
        | with_reducible apply ae_tup
        | with_reducible apply at_test
        | with_reducible apply ar_notN
        | with_reducible apply au_Ui
        | with_reducible apply ag_name
        | refine ⟨sz60 (Nat.le_of_ble_eq_true rfl), ?_⟩
        | refine ⟨_, rfl, ?_⟩
        | (refine ⟨fun hc => ?_, fun hc => ?_⟩ <;> (first | (exfalso; exact absurd (show false = true from hc) (by decide)) | (exfalso; exact absurd (show true = false from hc) (by decide)) | (exfalso; simp at hc; done) | skip))
        | rfl
        | fail)
  · dsimp only at hr2
    obtain ⟨p, e1⟩ : ∃ p, p = voD (lowM c (some 1)) (highM d none) n s := ⟨_, rfl⟩
    obtain ⟨q, e2⟩ : ∃ q, q = voD (lowM c none) (highM d (some (-1))) n s := ⟨_, rfl⟩
    rw [← e1, ← e2] at hr2
    rcases hr2 with ⟨rfl, rfl, rfl⟩ | ⟨c1, d1, n1, s1, x, y, m1, r1, rfl, v1, rfl, f1, rfl⟩ | ⟨c1, d1, n1, s1, x, y, m1, r1, rfl, rfl, v1, f1, rfl⟩ | ⟨c1, d1, n1, s1, c2, d2, n2, s2, x, y, m1, r1, x2, y2, m2, r2, rfl, v1, rfl, v2, f1, f2, u1, u2, rfl⟩
    all_goals
      repeat' (first
        | with_reducible apply ae_call
        | ((apply ar_inW (b := false) ⟨rfl, rfl⟩); · decide +kernel)
        | with_reducible apply as_forU
        | with_reducible apply ai_tup
        | with_reducible apply un_cons
        | with_reducible apply un_nil
        | (refine ⟨.non, ⟨k', c, d, n, s, some 1, none, rfl, e1⟩, ?_⟩)
        | (refine ⟨(vD c1 d1 n1 s1), ⟨k', c, d, n, s, some 1, none, rfl, e1⟩, ?_⟩)
        | (refine ⟨.non, ⟨k', c, d, n, s, none, some (-1), rfl, e2⟩, ?_⟩)
        | (refine ⟨(vD c1 d1 n1 s1), ⟨k', c, d, n, s, none, some (-1), rfl, e2⟩, ?_⟩)
        | (refine ⟨(vD c2 d2 n2 s2), ⟨k', c, d, n, s, none, some (-1), rfl, e2⟩, ?_⟩)
        | (refine ⟨vD x y m1 r1, ⟨.mod, k, true, a, b, c1, d1, m, r, n1, s1, rfl, q1, v1, f1.symm⟩, ?_⟩)
        | (refine ⟨vD x2 y2 m2 r2, ⟨.mod, k, true, a, b, c2, d2, m, r, n2, s2, rfl, q1, v2, f2.symm⟩, ?_⟩)
        | (refine ⟨vD x y m1 r1, ⟨.non, x, y, m1, r1, rfl, .inl ⟨rfl, rfl⟩⟩, ?_⟩)
        | (refine ⟨jnD x y m1 r1 x2 y2 m2 r2, ⟨vD x y m1 r1, x2, y2, m2, r2, rfl, .inr ⟨x, y, m1, r1, rfl, u1, u2, rfl⟩⟩, ?_⟩)
        | with_reducible apply as_seq
        | with_reducible apply as_ret
        | with_reducible apply as_next
        | with_reducible apply as_if
        | with_reducible apply as_set
        | ((with_reducible apply ae_var); · rfl)
        | with_reducible apply ae_int
        | with_reducible apply ae_non
        | with_reducible apply ae_str
        | with_reducible apply ae_op
        | with_reducible apply ae_un
        | with_reducible apply aa_nil
        | with_reducible apply aa_cons
        | with_reducible apply ae_tup
        | with_reducible apply at_test
        | with_reducible apply ar_notN
        | with_reducible apply au_Ui
        | with_reducible apply ag_name
        | refine ⟨sz60 (Nat.le_of_ble_eq_true rfl), ?_⟩
        | refine ⟨_, rfl, ?_⟩
        | (refine ⟨fun hc => ?_, fun hc => ?_⟩ <;> (first | (exfalso; exact absurd (show false = true from hc) (by decide)) | (exfalso; exact absurd (show true = false from hc) (by decide)) | (exfalso; simp at hc; done) | skip))
        | rfl
        | fail)
theorem ok_rest_has (bl : Blts mg)   {f : Addr} {fd : FuncData} (F : Fun K "rest_has" "rest_has" s_rest_has f fd) : FnOk P w K mg base CX0 1 f fd p_rest_has (spP K (S_has)) := by
  refine okP F sc_rest_has (fun ds r h => ?_) (fun cdv A outer s H E hr ds r h => ?_)
  · obtain ⟨k, m, r, n, rfl, rfl⟩ := h
    rfl
  obtain ⟨k, m, r, n, rfl, rfl⟩ := h
  refine ⟨_, (pss_cons (ps_asg (pv 0) (pg_or (pg_tup rfl (pgs_cons (pg_name (i := 2) sc_rest_has.nd rfl (by first | exact Or.inl rfl | exact Or.inr rfl)) (pgs_cons (pg_name (i := 3) sc_rest_has.nd rfl (by first | exact Or.inl rfl | exact Or.inr rfl)) pgs_nil))) (pg_unl rfl (pgs_cons (pg_name (i := 2) sc_rest_has.nd rfl (by first | exact Or.inl rfl | exact Or.inr rfl)) (pgs_cons (pg_name (i := 3) sc_rest_has.nd rfl (by first | exact Or.inl rfl | exact Or.inr rfl)) pgs_nil)))))
    (pss_cons (ps_if (pt_cmpR op_eq (pv 2) pe_int (nomark _)) (pss_one (ps_ret (pe_cmpR op_eq (pv 1) (pv 3) (nomark _)))) pss_nil)
    (pss_one (ps_ret (pe_cmpR op_eq (pe_op op_modN (pv 1) (pv 2)) (pv 3) (nomark _)))))), ?_⟩
  change AS K _ [En.da _, En.da _, En.no, En.no] _ _
  try simp only [cxOf_K]
  by_cases h0 : m = 0
  · subst h0
    repeat' (first
      | ((with_reducible apply ag_seq); · rfl)
      | with_reducible apply as_seq
      | with_reducible apply as_ret
      | with_reducible apply as_if
      | with_reducible apply as_asg
      | ((with_reducible apply ae_var); · rfl)
      | with_reducible apply ae_int
      | with_reducible apply ae_op
      | with_reducible apply at_test
      | ((with_reducible apply ar_eq3); · exact ⟨rfl, rfl, rfl⟩)
      | with_reducible apply ag_name
      | with_reducible apply ags_nil
      | with_reducible apply ags_cons
      | refine ⟨_, rfl, ?_⟩
      | (refine ⟨fun hc => ?_, fun hc => ?_⟩ <;> (first | (exfalso; exact absurd (show false = true from hc) (by decide)) | (exfalso; exact absurd (show true = false from hc) (by decide)) | (exfalso; simp at hc; done) | skip))
      | fail)
    all_goals simp [hasB]
  · have hd : decide (V.int m = V.int 0) = false := decide_eq_false (fun z => h0 (by cases z; rfl))
    repeat' (first
      | ((with_reducible apply ag_seq); · rfl)
      | (refine ⟨_, rfl, ?_⟩; rw [hd]; refine ⟨fun hc => (nomatch hc), fun hc => ?_⟩)
      | refine ar_Ii (C := fun _ j => j ≠ 0) (by first | assumption | omega) ?_
      | with_reducible apply as_seq
      | with_reducible apply as_ret
      | with_reducible apply as_next
      | with_reducible apply as_if
      | with_reducible apply as_asg
      | ((with_reducible apply ae_var); · rfl)
      | with_reducible apply ae_int
      | with_reducible apply ae_op
      | with_reducible apply at_test
      | ((with_reducible apply ar_eq3); · exact ⟨rfl, rfl, rfl⟩)
      | with_reducible apply ag_name
      | with_reducible apply ags_nil
      | with_reducible apply ags_cons
      | fail)
    all_goals simp [hasB, h0]
theorem ok_contains (bl : Blts mg) {g_lets_in : Addr} {d_lets_in : FuncData} (c_lets_in : Cal P w K mg base 2 "lets_in" p_lets_in (spP K S_lets) g_lets_in d_lets_in) {g_rest_has : Addr} {d_rest_has : FuncData} (c_rest_has : Cal P w K mg base 1 "rest_has" p_rest_has (spP K S_has) g_rest_has d_rest_has)  {f : Addr} {fd : FuncData} (F : Fun K "contains" "contains" s_contains f fd) : FnOk P w K mg base CX0 3 f fd p_contains (spP K (S_con)) := by
  refine okP F sc_contains (fun ds r h => ?_) (fun cdv A outer s H E hr ds r h => ?_)
  · obtain ⟨k, lo, hi, m, r, n, rfl, rfl⟩ := h
    rfl
  obtain ⟨k, lo, hi, m, r, n, rfl, rfl⟩ := h
  refine ⟨_, (pss_one (ps_ret (pe_and (pe_call c_lets_in.ok (hr.mono (by decide)) rfl c_lets_in.mg c_lets_in.kp c_lets_in.bi .nil pass0 (pa_cons (pe_ix ix_seq (pv 0) pe_int (fun _ _ => rfl)) (pa_cons (pe_ix ix_seq (pv 0) pe_int (fun _ _ => rfl)) (pa_cons (pv 1) pa_nil)))) (pe_one (pe_call c_rest_has.ok (hr.mono (by decide)) rfl c_rest_has.mg c_rest_has.kp c_rest_has.bi .nil pass0 (pa_cons (pe_slice sl_seq (pv 0) (po_some pe_int) po_none) (pa_cons (pv 1) pa_nil))))))), ?_⟩
  change AS K _ [En.da _, En.da _] _ _
  try simp only [cxOf_K]
  cases hl : letsB lo hi n
  all_goals
    repeat' (first
      | with_reducible apply ae_call
      | with_reducible apply ae_slFrom
      | (refine ⟨_, _, _, _, _, rfl, ?_⟩)
      | (refine ⟨.bl true, ⟨lo, hi, n, rfl, (congrArg Dt.bl hl.symm)⟩, ?_⟩)
      | (refine ⟨.bl false, ⟨lo, hi, n, rfl, (congrArg Dt.bl hl.symm)⟩, ?_⟩)
      | (refine ⟨_, ⟨k, m, r, n, rfl, rfl⟩, ?_⟩)
      | with_reducible apply as_ret
      | ((with_reducible apply ae_var); · rfl)
      | with_reducible apply ae_int
      | with_reducible apply ae_op
      | with_reducible apply aa_nil
      | with_reducible apply aa_cons
      | with_reducible apply ae_andV
      | ((with_reducible apply ar_ix); · rfl)
      | refine ⟨_, rfl, ?_⟩
      | (refine ⟨fun hc => ?_, fun hc => ?_⟩ <;> (first | (exfalso; exact absurd (show false = true from hc) (by decide)) | (exfalso; exact absurd (show true = false from hc) (by decide)) | (exfalso; simp at hc; done) | skip))
      | rfl
      | fail)
end
end Sh
set_option Elab.async false
set_option linter.all false
set_option maxRecDepth 100000
set_option maxHeartbeats 4000000
namespace Sh
open PySem PySem.Spec PyProof.Rows L2
/-! a drawn set by its list alone -/
def hd (X : List Int) : Int := X.headD 0
def ls (X : List Int) : Int := X.getLast?.getD 0
def df : List Int → Int
  | a :: b :: _ => b - a
  | _ => 0
theorem sv_by {X : List Int} {a z m : Int} (s : Sv X a z m) : hd X = a ∧ ls X = z ∧ df X = m := by
  have l := s.last
  refine ⟨?_, by unfold ls; rw [l]; rfl, ?_⟩
  · rcases s.form with ⟨_, e⟩ | ⟨_, t, e⟩ <;> rw [e] <;> rfl
  · rcases s.form with ⟨h, e⟩ | ⟨_, t, e⟩
    · rw [e, h]; rfl
    · rw [e]; show a + m - a = m; omega
/-- a drawn set, or a part of one -/
structure SetOk (X : List Int) : Prop where
  sv : Sv X (hd X) (ls X) (df X)
  len : True
  lo : -(10 ^ 22) ≤ hd X
  hi : ls X ≤ 10 ^ 22
theorem setOk {X : List Int} {a z m : Int} (s : Sv X a z m) (h1 : True) (h2 : -(10 ^ 22) ≤ a) (h3 : z ≤ 10 ^ 22) : SetOk X := by
  obtain ⟨e1, e2, e3⟩ := sv_by s
  refine ⟨?_, h1, by rw [e1]; exact h2, by rw [e2]; exact h3⟩
  rw [e1, e2, e3]; exact s
section
variable {X : List Int} (s : SetOk X)
include s
theorem SetOk.mem {x : Int} (h : x ∈ X) : -(10 ^ 22) ≤ x ∧ x ≤ 10 ^ 22 := by
  have := s.sv.bd x h; have := s.lo; have := s.hi; omega
theorem SetOk.m : 0 ≤ df X ∧ df X ≤ 2 * 10 ^ 22 := by
  have := s.lo; have := s.hi
  rcases s.sv.h with ⟨h, e⟩ | ⟨h1, h2, h3, _⟩
  · omega
  · have := Int.le_of_dvd (by omega) h3; omega
theorem SetOk.ab : -(10 ^ 22) ≤ hd X ∧ hd X ≤ 10 ^ 22 ∧ -(10 ^ 22) ≤ ls X ∧ ls X ≤ 10 ^ 22 := by
  have := s.mem s.sv.ha; have := s.mem s.sv.hz; omega
theorem rr_b : Vd (df X) (rr (hd X) (df X)) := by
  have m := s.m; have ab := s.ab
  unfold rr
  by_cases h : df X = 0
  · rw [if_pos h]; exact .inl ⟨h, by unfold bgI; omega⟩
  · rw [if_neg h]
    have b := fm_r (x := hd X) (m := df X) (by omega)
    exact .inr ⟨by omega, by omega, b.1, b.2⟩
theorem SetOk.vq : Vq (some (hd X)) (some (ls X)) (df X) (rr (hd X) (df X)) := by
  have ab := s.ab
  refine ⟨⟨fun x e => by cases e; unfold bgI; omega, fun x e => by cases e; unfold bgI; omega, fun x y e f => by cases e; cases f; exact s.sv.le⟩, rr_b s⟩
theorem SetOk.ng : SetOk (ngL X) := setOk s.sv.neg trivial (by have := s.hi; omega) (by have := s.lo; omega)
theorem SetOk.ne : X ≠ [] := fun e => by have := s.sv.ha; rw [e] at this; cases this
end
def pL (Y : List Int) : List Int := Y.filter fun x => decide (1 ≤ x)
def nL (Y : List Int) : List Int := Y.filter fun x => decide (x ≤ -1)
abbrev vX (X : List Int) : Dt := vD (some (hd X)) (some (ls X)) (df X) (rr (hd X) (df X))
def opV (w : Wd) (X Y : List Int) : Dt := apD w (some (hd X)) (some (ls X)) (df X) (rr (hd X) (df X)) (some (hd Y)) (some (ls Y)) (df Y) (rr (hd Y) (df Y))
def opW : Wd → Int → Int → Int
  | .add, x, y => x + y
  | .sub, x, y => x - y
  | .mul, x, y => x * y
  | .div, x, y => x.fdiv y
  | .mod, x, y => x.fmod y
/-- a value that has all of these -/
structure Hv (D : Dt) (L : List Int) (A B M R : Int) : Prop where
  e : D = vD (some A) (some B) M R
  ok : Ok (some A) (some B) M R
  has : ∀ v, v ∈ L → inQ A B M R v
section
variable {X Y : List Int} (s : SetOk X) (t : SetOk Y)
include s t
theorem hv_add : ∃ A B M R, Hv (opV .add X Y) (resL (opW .add) X Y) A B M R ∧ setD (some A) (some B) M R = opV .add X Y ∧ Lv (resL (opW .add) X Y) (hd X + hd Y) A B ∧ M = dL (off (resL (opW .add) X Y) (hd X + hd Y)) ∧ R = rr (hd X + hd Y) M := by
  have l := add_lv s.sv t.sv
  have e : opV .add X Y = vD (some (hd X + hd Y)) (some (ls X + ls Y)) (dL (off (resL (opW .add) X Y) (hd X + hd Y))) (rr (hd X + hd Y) (dL (off (resL (opW .add) X Y) (hd X + hd Y)))) := by
    show voD (some (hd X + hd Y)) (some (ls X + ls Y)) (restO (g2 (df X) (df Y)) (rr (hd X) (df X) + rr (hd Y) (df Y))).1 (restO (g2 (df X) (df Y)) (rr (hd X) (df X) + rr (hd Y) (df Y))).2 = _
    rw [add_r s.sv t.sv]
    exact (vo_ok l.ok).1
  exact ⟨_, _, _, _, ⟨e, l.ok, fun v hv => l.in hv⟩, (vo_ok l.ok).2.trans e.symm, l, rfl, rfl⟩
theorem hv_sub : ∃ A B M R, Hv (opV .sub X Y) (resL (opW .sub) X Y) A B M R ∧ setD (some A) (some B) M R = opV .sub X Y ∧ Lv (resL (opW .sub) X Y) (hd X - hd Y) A B ∧ M = dL (off (resL (opW .sub) X Y) (hd X - hd Y)) ∧ R = rr (hd X - hd Y) M := by
  have l := sub_lv s.sv t.sv
  have e : opV .sub X Y = vD (some (hd X - ls Y)) (some (ls X - hd Y)) (dL (off (resL (opW .sub) X Y) (hd X - hd Y))) (rr (hd X - hd Y) (dL (off (resL (opW .sub) X Y) (hd X - hd Y)))) := by
    show voD (some (hd X - ls Y)) (some (ls X - hd Y)) (restO (g2 (df X) (df Y)) (rr (hd X) (df X) - rr (hd Y) (df Y))).1 (restO (g2 (df X) (df Y)) (rr (hd X) (df X) - rr (hd Y) (df Y))).2 = _
    rw [sub_r s.sv t.sv]
    exact (vo_ok l.ok).1
  exact ⟨_, _, _, _, ⟨e, l.ok, fun v hv => l.in hv⟩, (vo_ok l.ok).2.trans e.symm, l, rfl, rfl⟩
theorem hv_mul : ∃ A B M R, Hv (opV .mul X Y) (resL (opW .mul) X Y) A B M R ∧ setD (some A) (some B) M R = opV .mul X Y ∧ Lv (resL (opW .mul) X Y) (hd X * hd Y) A B ∧ M = dL (off (resL (opW .mul) X Y) (hd X * hd Y)) ∧ R = rr (hd X * hd Y) M := by
  have l := mul_lv s.sv t.sv
  have e : opV .mul X Y = vD (some (mn4 (hd X * hd Y) (hd X * ls Y) (ls X * hd Y) (ls X * ls Y))) (some (mx4 (hd X * hd Y) (hd X * ls Y) (ls X * hd Y) (ls X * ls Y))) (dL (off (resL (opW .mul) X Y) (hd X * hd Y))) (rr (hd X * hd Y) (dL (off (resL (opW .mul) X Y) (hd X * hd Y)))) := by
    show voD (mulL (some (hd X)) (some (ls X)) (some (hd Y)) (some (ls Y))) (mulH (some (hd X)) (some (ls X)) (some (hd Y)) (some (ls Y))) (restO (g3 (rr (hd X) (df X) * df Y) (rr (hd Y) (df Y) * df X) (df X * df Y)) (rr (hd X) (df X) * rr (hd Y) (df Y))).1 (restO (g3 (rr (hd X) (df X) * df Y) (rr (hd Y) (df Y) * df X) (df X * df Y)) (rr (hd X) (df X) * rr (hd Y) (df Y))).2 = _
    rw [mul_s.1, mul_s.2, mul_r s.sv t.sv]
    exact (vo_ok l.ok).1
  exact ⟨_, _, _, _, ⟨e, l.ok, fun v hv => l.in hv⟩, (vo_ok l.ok).2.trans e.symm, l, rfl, rfl⟩
/-! quotients -/
theorem div_span : (1 ≤ hd Y → divS (some (hd X)) (some (ls X)) (some (hd Y)) (some (ls Y)) = some (some (fL (hd X) (hd Y) (ls Y)), some (fH (ls X) (hd Y) (ls Y)))) ∧
    (ls Y ≤ -1 → divS (some (hd X)) (some (ls X)) (some (hd Y)) (some (ls Y)) = some (some (fL (-ls X) (-ls Y) (-hd Y)), some (fH (-hd X) (-ls Y) (-hd Y)))) := by
  have le := t.sv.le
  constructor
  · intro h
    have p1 : pos (some (ls Y)) = true := decide_eq_true (by omega)
    have p2 : pos (negB (some (hd Y))) = false := decide_eq_false (show ¬ 1 ≤ -hd Y by omega)
    have p3 : fstP (some (hd Y)) = hd Y := by show (if 1 > hd Y then 1 else hd Y) = _; rw [if_neg (by omega)]
    unfold divS divL divH
    rw [p1, p2, p3]
    rfl
  · intro h
    have p1 : pos (some (ls Y)) = false := decide_eq_false (show ¬ 1 ≤ ls Y by omega)
    have p2 : pos (negB (some (hd Y))) = true := decide_eq_true (show 1 ≤ -hd Y by omega)
    have p3 : fstP (negB (some (ls Y))) = -ls Y := by show (if 1 > -ls Y then 1 else -ls Y) = _; rw [if_neg (by omega)]
    unfold divS divL divH
    rw [p1, p2, p3]
    rfl
theorem mod_span : (1 ≤ hd Y → modS (some (hd X)) (some (ls X)) (some (hd Y)) (some (ls Y)) = some (some (remI (hd X) (ls X) (hd Y) (ls Y)).1, some (remI (hd X) (ls X) (hd Y) (ls Y)).2)) ∧
    (ls Y ≤ -1 → modS (some (hd X)) (some (ls X)) (some (hd Y)) (some (ls Y)) = some (some (-(remI (-ls X) (-hd X) (-ls Y) (-hd Y)).2), some (-(remI (-ls X) (-hd X) (-ls Y) (-hd Y)).1))) := by
  have le := t.sv.le
  constructor
  · intro h
    have p1 : pos (some (ls Y)) = true := decide_eq_true (by omega)
    have p2 : pos (negB (some (hd Y))) = false := decide_eq_false (show ¬ 1 ≤ -hd Y by omega)
    have p3 : fstP (some (hd Y)) = hd Y := by show (if 1 > hd Y then 1 else hd Y) = _; rw [if_neg (by omega)]
    unfold modS modL modH
    rw [p1, p2, p3, rem_is]
    rfl
  · intro h
    have p1 : pos (some (ls Y)) = false := decide_eq_false (show ¬ 1 ≤ ls Y by omega)
    have p2 : pos (negB (some (hd Y))) = true := decide_eq_true (show 1 ≤ -hd Y by omega)
    have p3 : fstP (negB (some (ls Y))) = -ls Y := by show (if 1 > -ls Y then 1 else -ls Y) = _; rw [if_neg (by omega)]
    have e := @rem_is (-ls X) (-hd X) (-ls Y) (-hd Y)
    unfold modS modL modH
    rw [p1, p2, p3]
    show some (negB (remB (some (-ls X)) (some (-hd X)) (-ls Y) (some (-hd Y))).2, negB (remB (some (-ls X)) (some (-hd X)) (-ls Y) (some (-hd Y))).1) = _
    rw [e]
    rfl
/-- bounds of quotients -/
theorem div_lv2 (h : 1 ≤ hd Y ∨ ls Y ≤ -1) : ∃ lo hi, divS (some (hd X)) (some (ls X)) (some (hd Y)) (some (ls Y)) = some (some lo, some hi) ∧ Lv (resL (opW .div) X Y) ((hd X).fdiv (hd Y)) lo hi := by
  rcases h with h | h
  · exact ⟨_, _, (div_span s t).1 h, div_lv s.sv t.sv h⟩
  · exact ⟨_, _, (div_span s t).2 h, div_lvN s.sv t.sv h⟩
theorem hv_div (h : 1 ≤ hd Y ∨ ls Y ≤ -1) : ∃ A B M R, Hv (opV .div X Y) (resL (opW .div) X Y) A B M R ∧ Lv (resL (opW .div) X Y) ((hd X).fdiv (hd Y)) A B ∧
    ((df Y = 0 ∧ (df X).fmod (hd Y) = 0 ∧ setD (some A) (some B) M R = opV .div X Y ∧ M = dL (off (resL (opW .div) X Y) ((hd X).fdiv (hd Y))) ∧ R = rr ((hd X).fdiv (hd Y)) M ∧ (df X = 0 → M = 0)) ∨
     (¬ (df Y = 0 ∧ (df X).fmod (hd Y) = 0) ∧ setD (some A) (some B) 1 0 = opV .div X Y)) := by
  obtain ⟨lo, hi, e1, l⟩ := div_lv2 s t h
  have hc : hd Y ≠ 0 := by
    rcases h with h | h
    · omega
    · have := t.sv.le; omega
  by_cases k : df Y = 0 ∧ (df X).fmod (hd Y) = 0
  · obtain ⟨k1, k2⟩ := k
    have er : rr (hd Y) (df Y) = hd Y := by unfold rr; rw [if_pos k1]
    have e2 : fDiv (df X) (rr (hd X) (df X)) (df Y) (rr (hd Y) (df Y)) = some (dL (off (resL (opW .div) X Y) ((hd X).fdiv (hd Y))), rr ((hd X).fdiv (hd Y)) (dL (off (resL (opW .div) X Y) ((hd X).fdiv (hd Y))))) := by
      have q := div_r s.sv t.sv k1 hc k2
      rw [er, k1, fDiv_n hc k2]
      exact congrArg some q
    have e : opV .div X Y = vD (some lo) (some hi) (dL (off (resL (opW .div) X Y) ((hd X).fdiv (hd Y)))) (rr ((hd X).fdiv (hd Y)) (dL (off (resL (opW .div) X Y) ((hd X).fdiv (hd Y))))) := by
      show vfD (divS _ _ _ _) (fDiv _ _ _ _) = _
      rw [e1, e2]
      exact (vo_ok l.ok).1
    refine ⟨lo, hi, _, _, ⟨e, l.ok, fun v hv => l.in hv⟩, l, .inl ⟨k1, k2, (vo_ok l.ok).2.trans e.symm, rfl, rfl, fun z => ?_⟩⟩
    have q := div_r s.sv t.sv k1 hc k2
    rw [z, Int.zero_fdiv] at q
    have q' : (0, ((rr (hd X) 0).fdiv (hd Y))) = (dL (off (resL (opW .div) X Y) ((hd X).fdiv (hd Y))), rr ((hd X).fdiv (hd Y)) (dL (off (resL (opW .div) X Y) ((hd X).fdiv (hd Y))))) := q
    exact (Prod.mk.inj q').1.symm
  · have e2 : fDiv (df X) (rr (hd X) (df X)) (df Y) (rr (hd Y) (df Y)) = some (1, 0) := by
      refine fDiv_1 ?_ ?_
      · by_cases z : df Y = 0
        · have er : rr (hd Y) (df Y) = hd Y := by unfold rr; rw [if_pos z]
          rw [er]
          exact .inr (fun q => k ⟨z, q⟩)
        · exact .inl z
      · rintro ⟨z1, z2⟩
        unfold rr at z2; rw [if_pos z1] at z2; exact hc z2
    obtain ⟨M, R, v1, v2, v3, v4⟩ := one_vo (l.bd hi l.hhi).1
    have e : opV .div X Y = vD (some lo) (some hi) M R := by
      show vfD (divS _ _ _ _) (fDiv _ _ _ _) = _
      rw [e1, e2]
      exact v1
    exact ⟨lo, hi, M, R, ⟨e, v3, fun v hv => v4 v (l.bd v hv).1 (l.bd v hv).2⟩, l, .inr ⟨k, v2.trans e.symm⟩⟩
/-! remainders -/
theorem mod_rest (hc : hd Y ≠ 0) (nb : ¬ (df X = 0 ∧ df Y = 0)) : fMod (df X) (rr (hd X) (df X)) (df Y) (rr (hd Y) (df Y)) = some (g3 (df X) (df Y) (hd Y), (hd X).fmod (g3 (df X) (df Y) (hd Y))) := by
  have gp := gcd_pos s.sv t.sv hc
  have d1 := (g3_dvd'.mp (Int.dvd_refl (g3 (df X) (df Y) (hd Y)))).1
  unfold fMod
  rw [if_neg, if_neg nb, mod_g]
  · unfold restO
    rw [if_neg (by omega)]
    rw [mod_eq gp (Int.dvd_trans d1 (@rr_dvd (hd X) (df X)))]
  · rintro ⟨z1, z2⟩
    unfold rr at z2; rw [if_pos z1] at z2; exact hc z2
theorem mod_one (hc : hd Y ≠ 0) (b1 : df X = 0) (b2 : df Y = 0) : fMod (df X) (rr (hd X) (df X)) (df Y) (rr (hd Y) (df Y)) = some (0, (hd X).fmod (hd Y)) ∧ ls X = hd X ∧ ls Y = hd Y := by
  refine ⟨?_, (s.sv.one.mp b1).symm, (t.sv.one.mp b2).symm⟩
  have e1 : rr (hd X) (df X) = hd X := by unfold rr; rw [if_pos b1]
  have e2 : rr (hd Y) (df Y) = hd Y := by unfold rr; rw [if_pos b2]
  unfold fMod
  rw [e1, e2, if_neg (fun z => hc z.2), if_pos ⟨b1, b2⟩]
theorem res_one {f : Int → Int → Int} (b1 : df X = 0) (b2 : df Y = 0) {v : Int} (hv : v ∈ resL f X Y) : v = f (hd X) (hd Y) := by
  obtain ⟨x, hx, y, hy, rfl⟩ := res_mem.mp hv
  have := s.sv.one.mp b1; have := t.sv.one.mp b2
  have := s.sv.bd x hx; have := t.sv.bd y hy
  rw [show x = hd X by omega, show y = hd Y by omega]
theorem g3_leY (hc : hd Y ≠ 0) : g3 (df X) (df Y) (hd Y) ≤ 10 ^ 22 := by
  have d := (g3_dvd (df X) (df Y) (hd Y)).2.2
  have ab := t.ab
  have := Int.le_of_dvd (b := ((hd Y).natAbs : Int)) (by omega) (Int.dvd_natAbs.mpr d)
  omega
theorem hv_modP (h : 1 ≤ hd Y) : ∃ A B M R, Hv (opV .mod X Y) (resL (opW .mod) X Y) A B M R ∧ M ≤ 10 ^ 22 ∧
    ((df X = 0 ∧ df Y = 0 ∧ opV .mod X Y = vD (some ((hd X).fmod (hd Y))) (some ((hd X).fmod (hd Y))) 0 ((hd X).fmod (hd Y))) ∨
     (¬ (df X = 0 ∧ df Y = 0) ∧ setD (some (remI (hd X) (ls X) (hd Y) (ls Y)).1) (some (remI (hd X) (ls X) (hd Y) (ls Y)).2) (g3 (df X) (df Y) (hd Y)) ((hd X).fmod (g3 (df X) (df Y) (hd Y))) = opV .mod X Y)) := by
  by_cases nb : df X = 0 ∧ df Y = 0
  · obtain ⟨b1, b2⟩ := nb
    obtain ⟨e2, el, ew⟩ := mod_one s t (by omega) b1 b2
    have e : opV .mod X Y = vD (some ((hd X).fmod (hd Y))) (some ((hd X).fmod (hd Y))) 0 ((hd X).fmod (hd Y)) := by
      show vfD (modS _ _ _ _) (fMod _ _ _ _) = _
      rw [(mod_span s t).1 h, e2, el, ew]
      have q : remI (hd X) (hd X) (hd Y) (hd Y) = ((hd X).fmod (hd Y), (hd X).fmod (hd Y)) := if_pos ⟨rfl, rfl⟩
      rw [q]
      exact (vo_ok (okS _)).1
    exact ⟨_, _, _, _, ⟨e, okS _, fun v hv => by rw [res_one s t b1 b2 hv]; exact ⟨Int.le_refl _, Int.le_refl _, fun _ => rfl, fun z => absurd rfl z⟩⟩, by decide, .inl ⟨b1, b2, e⟩⟩
  · obtain ⟨A, B, M, R, h1, h2, h3, h4, h5⟩ := mod_pos s.sv t.sv h nb
    have e : opV .mod X Y = vD (some A) (some B) M R := by
      show vfD (modS _ _ _ _) (fMod _ _ _ _) = _
      rw [(mod_span s t).1 h, mod_rest s t (by omega) nb]
      exact h1
    exact ⟨A, B, M, R, ⟨e, h3, h4⟩, Int.le_trans h5 (g3_leY s t (by omega)), .inr ⟨nb, h2.trans e.symm⟩⟩
theorem hv_modN (h : ls Y ≤ -1) : ∃ A B M R, opV .mod (ngL X) (ngL Y) = vD (some A) (some B) M R ∧ 0 ≤ M ∧ M ≤ 10 ^ 22 ∧ Hv (opV .mod X Y) (resL (opW .mod) X Y) (0 - B) (0 - A) M (turnR M R) := by
  have le := t.sv.le
  obtain ⟨i1, i2, i3⟩ := sv_by s.sv.neg
  obtain ⟨j1, j2, j3⟩ := sv_by t.sv.neg
  by_cases nb : df X = 0 ∧ df Y = 0
  · obtain ⟨b1, b2⟩ := nb
    obtain ⟨e2, el, ew⟩ := mod_one s t (by omega) b1 b2
    obtain ⟨f2, fl, fw⟩ := mod_one s.ng t.ng (by omega) (by omega) (by omega)
    have e' : opV .mod (ngL X) (ngL Y) = vD (some (-((hd X).fmod (hd Y)))) (some (-((hd X).fmod (hd Y)))) 0 (-((hd X).fmod (hd Y))) := by
      show vfD (modS _ _ _ _) (fMod _ _ _ _) = _
      rw [(mod_span s.ng t.ng).1 (by omega), f2, fl, fw]
      have q : remI (hd (ngL X)) (hd (ngL X)) (hd (ngL Y)) (hd (ngL Y)) = ((hd (ngL X)).fmod (hd (ngL Y)), (hd (ngL X)).fmod (hd (ngL Y))) := if_pos ⟨rfl, rfl⟩
      have z : (hd (ngL X)).fmod (hd (ngL Y)) = -((hd X).fmod (hd Y)) := by rw [i1, j1, el, ew]; exact Int.neg_fmod_neg _ _
      rw [q, z]
      exact (vo_ok (okS _)).1
    have e : opV .mod X Y = vD (some ((hd X).fmod (hd Y))) (some ((hd X).fmod (hd Y))) 0 ((hd X).fmod (hd Y)) := by
      show vfD (modS _ _ _ _) (fMod _ _ _ _) = _
      rw [(mod_span s t).2 h, e2, el, ew]
      have q : remI (-hd X) (-hd X) (-hd Y) (-hd Y) = ((-hd X).fmod (-hd Y), (-hd X).fmod (-hd Y)) := if_pos ⟨rfl, rfl⟩
      rw [q, Int.neg_fmod_neg, Int.neg_neg]
      exact (vo_ok (okS _)).1
    have tr : turnR 0 (-((hd X).fmod (hd Y))) = (hd X).fmod (hd Y) := by unfold turnR; rw [if_neg (by decide)]; omega
    refine ⟨_, _, _, _, e', by omega, by decide, ?_⟩
    rw [show 0 - -((hd X).fmod (hd Y)) = (hd X).fmod (hd Y) by omega, tr]
    exact ⟨e, okS _, fun v hv => by rw [res_one s t b1 b2 hv]; exact ⟨Int.le_refl _, Int.le_refl _, fun _ => rfl, fun z => absurd rfl z⟩⟩
  · obtain ⟨A, B, M, R, h1, h2, h3, h4, h5⟩ := mod_neg s.sv t.sv h nb
    obtain ⟨A', B', M', R', ⟨e', ok', _⟩, _, q⟩ := hv_modP s.ng t.ng (by omega)
    have e : opV .mod X Y = vD (some (0 - B)) (some (0 - A)) M (turnR M R) := by
      show vfD (modS _ _ _ _) (fMod _ _ _ _) = _
      rw [(mod_span s t).2 h, mod_rest s t (by omega) nb]
      exact h2
    have e2 : opV .mod (ngL X) (ngL Y) = vD (some A) (some B) M R := by
      rcases q with ⟨b1, b2, _⟩ | ⟨_, q⟩
      · exact absurd ⟨by omega, by omega⟩ nb
      · rw [i1, i2, i3, j1, j2, j3] at q
        exact q.symm.trans h1
    refine ⟨A, B, M, R, e2, ?_, Int.le_trans h5 (g3_leY s t (by omega)), e, h3, h4⟩
    rcases h3.h with ⟨z, _⟩ | ⟨z, _⟩ <;> omega
end
end Sh
set_option Elab.async false
set_option linter.all false
set_option maxRecDepth 100000
set_option maxHeartbeats 4000000
namespace Sh
open PySem PySem.Spec PyProof.Rows L2
theorem vd_of {A B M R v : Int} (k : Ok (some A) (some B) M R) (hM : M ≤ 10 ^ 50) (hv : inQ A B M R v) (bv : -(10 ^ 50) ≤ v ∧ v ≤ 10 ^ 50) : Vd M R := by
  rcases k.h with ⟨e, _⟩ | ⟨m1, r0, r1, _⟩
  · have := hv.2.2.1 e
    exact .inl ⟨e, by unfold bgI; omega⟩
  · exact .inr ⟨m1, hM, r0, r1⟩
theorem sub_in {m r n s x A B C D : Int} (sb : Sub m r n s) (h : inQ A B m r x) (m0 : 0 ≤ m) (h1 : C ≤ x) (h2 : x ≤ D) : inQ C D n s x := by
  refine ⟨h1, h2, fun z => ?_, fun z => ?_⟩
  · rcases sb with ⟨_, m0, e⟩ | ⟨n1, _⟩
    · rw [e]; exact h.2.2.1 m0
    · omega
  · rcases sb with ⟨e, _⟩ | ⟨n1, d, e⟩
    · exact absurd e z
    · by_cases q : m = 0
      · rw [h.2.2.1 q, e]
      · have := h.2.2.2 q
        rw [← e]
        exact mod_trans (by omega) n1 this (Int.dvd_of_fmod_eq_zero d)
/-- the join of two values has what both have -/
theorem jn_hv {D E : Dt} {L N : List Int} {A B M R A' B' M' R' : Int} (h : Hv D L A B M R) (k : Hv E N A' B' M' R') : ∃ M2 R2, jnD (some A) (some B) M R (some A') (some B') M' R' = vD (some (if A' < A then A' else A)) (some (if B' > B then B' else B)) M2 R2 ∧
    Ok (some (if A' < A then A' else A)) (some (if B' > B then B' else B)) M2 R2 ∧ (∀ v, v ∈ L ∨ v ∈ N → inQ (if A' < A then A' else A) (if B' > B then B' else B) M2 R2 v) := by
  obtain ⟨m', r', e, o, sb⟩ := join_ok h.ok k.ok
  have m0 : 0 ≤ M := by rcases h.ok.h with ⟨e, _⟩ | ⟨e, _⟩ <;> omega
  have m0' : 0 ≤ M' := by rcases k.ok.h with ⟨e, _⟩ | ⟨e, _⟩ <;> omega
  have sb2 : Sub M' R' m' r' := by
    have e' : restO (g3 M M' (R - R')) R = (m', r') := e
    unfold restO at e'
    by_cases z : g3 M M' (R - R') = 0
    · obtain ⟨z1, z2, z3⟩ := g3_zero z
      rw [if_pos z] at e'
      cases e'
      exact .inl ⟨rfl, z2, by omega⟩
    · rw [if_neg z] at e'
      cases e'
      have nn := g3_nn M M' (R - R')
      obtain ⟨d1, d2, d3⟩ := g3_dvd M M' (R - R')
      exact .inr ⟨by omega, Int.fmod_eq_zero_of_dvd d2, (mod_eq (by omega) d3).symm⟩
  refine ⟨m', r', ?_, o, fun v hv => ?_⟩
  · have e' : restO (g3 M M' (R - R')) R = (m', r') := e
    unfold jnD
    rw [e']
    exact (vo_ok o).1
  · rcases hv with hv | hv
    · have := h.has v hv
      exact sub_in sb this m0 (by have := this.1; split <;> omega) (by have := this.2.1; split <;> omega)
    · have := k.has v hv
      exact sub_in sb2 this m0' (by have := this.1; split <;> omega) (by have := this.2.1; split <;> omega)
/-- a side of 0 -/
theorem part_pos {Y : List Int} (t : SetOk Y) : (pL Y = [] ∧ voD (lowM (some (hd Y)) (some 1)) (highM (some (ls Y)) none) (df Y) (rr (hd Y) (df Y)) = .non) ∨
    (pL Y ≠ [] ∧ SetOk (pL Y) ∧ 1 ≤ hd (pL Y) ∧ voD (lowM (some (hd Y)) (some 1)) (highM (some (ls Y)) none) (df Y) (rr (hd Y) (df Y)) = vX (pL Y)) := by
  rcases cut_pos t.sv with ⟨h, e⟩ | ⟨a', m', sv, h, e⟩
  · refine .inl ⟨?_, e⟩
    unfold pL
    rw [List.filter_eq_nil_iff]
    exact fun x hx z => h x hx (of_decide_eq_true z)
  · obtain ⟨e1, e2, e3⟩ := sv_by sv
    have so : SetOk (pL Y) := setOk sv trivial (by omega) t.hi
    refine .inr ⟨so.ne, so, by unfold pL; rw [e1]; exact h, ?_⟩
    unfold vX pL
    rw [e1, e2, e3]
    exact e
theorem part_neg' {Y : List Int} (t : SetOk Y) : (nL Y = [] ∧ voD (lowM (some (hd Y)) none) (highM (some (ls Y)) (some (-1))) (df Y) (rr (hd Y) (df Y)) = .non) ∨
    (nL Y ≠ [] ∧ SetOk (nL Y) ∧ ls (nL Y) ≤ -1 ∧ voD (lowM (some (hd Y)) none) (highM (some (ls Y)) (some (-1))) (df Y) (rr (hd Y) (df Y)) = vX (nL Y)) := by
  rcases cut_neg t.sv with ⟨h, e⟩ | ⟨z', m', sv, h, e⟩
  · refine .inl ⟨?_, e⟩
    unfold nL
    rw [List.filter_eq_nil_iff]
    exact fun x hx z => h x hx (of_decide_eq_true z)
  · obtain ⟨e1, e2, e3⟩ := sv_by sv
    have so : SetOk (nL Y) := setOk sv trivial t.lo (by omega)
    refine .inr ⟨so.ne, so, by unfold nL; rw [e2]; exact h, ?_⟩
    unfold vX nL
    rw [e1, e2, e3]
    exact e
theorem fd_abs {x y : Int} (h : y ≠ 0) (hx : -(10 ^ 22) ≤ x ∧ x ≤ 10 ^ 22) : -(10 ^ 22) ≤ x.fdiv y ∧ x.fdiv y ≤ 10 ^ 22 := by
  have key : ∀ x y : Int, 1 ≤ y → -(10 ^ 22) ≤ x → x ≤ 10 ^ 22 → -(10 ^ 22) ≤ x.fdiv y ∧ x.fdiv y ≤ 10 ^ 22 := fun x y hy h1 h2 => by
    have e := fd_one (n := x)
    by_cases p : 0 ≤ x
    · have a := fd_up (x := x) (m := 1) (n := y) (by decide) hy p
      have b := fd_nn (x := x) (m := y) (by omega) p
      omega
    · have a := fd_dn (x := x) (m := 1) (n := y) (by decide) hy (by omega)
      have b := fd_ltz (x := x) (m := y) (by omega) (by omega)
      omega
  rcases Int.lt_or_gt_of_ne h with k | k
  · rw [fd_neg k]; exact key (-x) (-y) (by omega) (by omega) (by omega)
  · exact key x y (by omega) hx.1 hx.2
theorem fm_abs {x y : Int} (h : y ≠ 0) (hy : -(10 ^ 22) ≤ y ∧ y ≤ 10 ^ 22) : -(10 ^ 22) ≤ x.fmod y ∧ x.fmod y ≤ 10 ^ 22 := by
  rcases Int.lt_or_gt_of_ne h with k | k
  · have := fm_r (x := -x) (m := -y) (by omega)
    rw [Int.neg_fmod_neg] at this
    omega
  · have := fm_r (x := x) (m := y) k
    omega
/-- divisors on one side -/
theorem hv_side {w : Wd} (hw : w = .div ∨ w = .mod) {X Y : List Int} (s : SetOk X) (t : SetOk Y) (h : 1 ≤ hd Y ∨ ls Y ≤ -1) : ∃ A B M R, Hv (opV w X Y) (resL (opW w) X Y) A B M R ∧ Vd M R := by
  have hc : hd Y ≠ 0 := by
    rcases h with h | h
    · omega
    · have := t.sv.le; omega
  have me : ∀ f : Int → Int → Int, f (hd X) (hd Y) ∈ resL f X Y := fun f => res_mem.mpr ⟨_, s.sv.ha, _, t.sv.ha, rfl⟩
  rcases hw with rfl | rfl
  · obtain ⟨A, B, M, R, hv, l, _⟩ := hv_div s t h
    have bd : ∀ v, v ∈ resL (opW .div) X Y → -(10 ^ 22) ≤ v ∧ v ≤ 10 ^ 22 := fun v hv => by
      obtain ⟨x, hx, y, hy, rfl⟩ := res_mem.mp hv
      have b := t.sv.bd y hy
      exact fd_abs (by rcases h with h | h <;> omega) (s.mem hx)
    have hA := bd A l.hlo
    have hB := bd B l.hhi
    have hM : M ≤ 10 ^ 50 := by
      rcases hv.ok.h with ⟨e, _⟩ | ⟨m1, r0, r1, ca, cb, lt⟩
      · omega
      · have := apart m1 ((ca A rfl).trans (cb B rfl).symm) (lt A B rfl rfl)
        omega
    have b0 := bd _ (me (opW .div))
    exact ⟨A, B, M, R, hv, vd_of hv.ok hM (hv.has _ (me _)) (by omega)⟩
  · have b0 := fm_abs (x := hd X) hc (by have := t.ab; omega)
    have b1 : -(10 ^ 50) ≤ opW .mod (hd X) (hd Y) ∧ opW .mod (hd X) (hd Y) ≤ 10 ^ 50 := by show -(10 ^ 50) ≤ (hd X).fmod (hd Y) ∧ (hd X).fmod (hd Y) ≤ 10 ^ 50; omega
    rcases h with h | h
    · obtain ⟨A, B, M, R, hv, hM, _⟩ := hv_modP s t h
      exact ⟨A, B, M, R, hv, vd_of hv.ok (by omega) (hv.has _ (me _)) b1⟩
    · obtain ⟨A, B, M, R, _, _, hM, hv⟩ := hv_modN s t h
      exact ⟨_, _, _, _, hv, vd_of hv.ok (by omega) (hv.has _ (me _)) b1⟩
theorem res_nil {f : Int → Int → Int} {X : List Int} {v : Int} (h : v ∈ resL f X []) : False := by cases h
end Sh
set_option Elab.async false
set_option linter.all false
set_option maxRecDepth 100000
set_option maxHeartbeats 4000000
namespace Sh
open PySem PySem.Spec PyProof.Rows L2
/-! bounds that may be open, beside both cuts -/
def RL (C D : Int) (o : Option Int) (p q : Int) : Prop := match o with
  | some x => p = x ∧ q = x ∧ -C ≤ x ∧ x ≤ C
  | none => p ≤ -D ∧ q + D ≤ p
def RH (C D : Int) (o : Option Int) (p q : Int) : Prop := match o with
  | some x => p = x ∧ q = x ∧ -C ≤ x ∧ x ≤ C
  | none => D ≤ p ∧ p + D ≤ q
structure T3 (C D : Int) (a b : Option Int) (l1 h1 l2 h2 : Int) : Prop where
  rl : RL C D a l1 l2
  rh : RH C D b h1 h2
theorem rl_neg {C D p q : Int} {o : Option Int} (h : RL C D o p q) : RH C D (negB o) (-p) (-q) := by
  cases o with
  | none => show D ≤ -p ∧ -p + D ≤ -q; have : p ≤ -D ∧ q + D ≤ p := h; omega
  | some x => show -p = -x ∧ -q = -x ∧ -C ≤ -x ∧ -x ≤ C; have : p = x ∧ q = x ∧ -C ≤ x ∧ x ≤ C := h; omega
theorem rh_neg {C D p q : Int} {o : Option Int} (h : RH C D o p q) : RL C D (negB o) (-p) (-q) := by
  cases o with
  | none => show -p ≤ -D ∧ -q + D ≤ -p; have : D ≤ p ∧ p + D ≤ q := h; omega
  | some x => show -p = -x ∧ -q = -x ∧ -C ≤ -x ∧ -x ≤ C; have : p = x ∧ q = x ∧ -C ≤ x ∧ x ≤ C := h; omega
theorem T3.neg {C D l1 h1 l2 h2 : Int} {a b : Option Int} (h : T3 C D a b l1 h1 l2 h2) : T3 C D (negB b) (negB a) (-h1) (-l1) (-h2) (-l2) := ⟨rh_neg h.rh, rl_neg h.rl⟩
theorem rl_mono {C D C' D' p q : Int} {o : Option Int} (c : C ≤ C') (d : D' ≤ D) (h : RL C D o p q) : RL C' D' o p q := by
  cases o with
  | none => show p ≤ -D' ∧ q + D' ≤ p; have : p ≤ -D ∧ q + D ≤ p := h; omega
  | some x => show p = x ∧ q = x ∧ -C' ≤ x ∧ x ≤ C'; have : p = x ∧ q = x ∧ -C ≤ x ∧ x ≤ C := h; omega
theorem rh_mono {C D C' D' p q : Int} {o : Option Int} (c : C ≤ C') (d : D' ≤ D) (h : RH C D o p q) : RH C' D' o p q := by
  cases o with
  | none => show D' ≤ p ∧ p + D' ≤ q; have : D ≤ p ∧ p + D ≤ q := h; omega
  | some x => show p = x ∧ q = x ∧ -C' ≤ x ∧ x ≤ C'; have : p = x ∧ q = x ∧ -C ≤ x ∧ x ≤ C := h; omega
theorem T3.mono {C D C' D' l1 h1 l2 h2 : Int} {a b : Option Int} (c : C ≤ C') (d : D' ≤ D) (h : T3 C D a b l1 h1 l2 h2) : T3 C' D' a b l1 h1 l2 h2 := ⟨rl_mono c d h.rl, rh_mono c d h.rh⟩
def Sm (G m r : Int) : Prop := (m = 0 ∧ -G ≤ r ∧ r ≤ G) ∨ (1 ≤ m ∧ m ≤ G ∧ 0 ≤ r ∧ r < m)
theorem Sm.b {G m r : Int} (h : Sm G m r) : 0 ≤ m ∧ m ≤ G + 1 ∧ -G ≤ r ∧ r ≤ G ∧ 0 ≤ G ∧ m ≤ G := by
  rcases h with ⟨h1, h2, h3⟩ | ⟨h1, h2, h3, h4⟩ <;> omega
/-- a value, beside the same with both cuts -/
def Tv (C D G : Int) (d d1 d2 : Dt) : Prop := ∃ a b l1 h1 l2 h2 M R, d = vD a b M R ∧ d1 = vD (some l1) (some h1) M R ∧ d2 = vD (some l2) (some h2) M R ∧ T3 C D a b l1 h1 l2 h2 ∧ Ok a b M R ∧ Ok (some l1) (some h1) M R ∧ Ok (some l2) (some h2) M R ∧ Sm G M R
theorem lw_3 {C D G p q r : Int} {o : Option Int} (h : RL C D o p q) (r0 : -G ≤ r) (d : G ≤ D) (d0 : 0 ≤ D) : lwB (some r) o = decide (p ≤ r) ∧ lwB (some r) o = decide (q ≤ r) := by
  cases o with
  | none =>
    have : p ≤ -D ∧ q + D ≤ p := h
    rw [decide_eq_true (show p ≤ r by omega), decide_eq_true (show q ≤ r by omega)]
    exact ⟨rfl, rfl⟩
  | some x =>
    have : p = x ∧ q = x ∧ -C ≤ x ∧ x ≤ C := h
    rw [this.1, this.2.1]; exact ⟨rfl, rfl⟩
theorem hw_3 {C D G p q r : Int} {o : Option Int} (h : RH C D o p q) (r0 : r ≤ G) (d : G ≤ D) (d0 : 0 ≤ D) : hwB (some r) o = decide (r ≤ p) ∧ hwB (some r) o = decide (r ≤ q) := by
  cases o with
  | none =>
    have : D ≤ p ∧ p + D ≤ q := h
    rw [decide_eq_true (show r ≤ p by omega), decide_eq_true (show r ≤ q by omega)]
    exact ⟨rfl, rfl⟩
  | some x =>
    have : p = x ∧ q = x ∧ -C ≤ x ∧ x ≤ C := h
    rw [this.1, this.2.1]; exact ⟨rfl, rfl⟩
theorem vo_1 {lo hi : Option Int} {m r : Int} (m0 : ¬ m = 0) : voD lo hi m r = match lo.map (upR r m), hi.map (dnR r m) with
  | some a, some b => if b ≤ a then (if a = b then vD (some a) (some a) 0 a else .non) else vD (some a) (some b) m r
  | a, b => vD a b m r := by unfold voD; rw [if_neg m0] <;> rfl
def Sn (C G m r : Int) : Prop := (m = 0 ∧ -(C + G) ≤ r ∧ r ≤ C + G ∧ 0 ≤ G) ∨ (1 ≤ m ∧ m ≤ G ∧ 0 ≤ r ∧ r < m)
theorem norm {C D G l1 h1 l2 h2 m r : Int} {a b : Option Int} (h : T3 C D a b l1 h1 l2 h2) (s : Sn C G m r) (hC : 0 ≤ C) (hD : 4 * G + 4 * C < D) :
    (voD a b m r = .non ∧ voD (some l1) (some h1) m r = .non ∧ voD (some l2) (some h2) m r = .non) ∨ Tv (C + G) (D - 2 * G) (C + G) (voD a b m r) (voD (some l1) (some h1) m r) (voD (some l2) (some h2) m r) := by
  rcases s with ⟨rfl, r0, r1, g0⟩ | ⟨m1, mG, r0, r1⟩
  · have e : ∀ lo hi : Option Int, voD lo hi 0 r = if (lwB (some r) lo && hwB (some r) hi) = true then vD (some r) (some r) 0 r else .non := fun lo hi => rfl
    rw [e, e, e]
    have a1 := lw_3 h.rl r0 (by omega) (by omega)
    have a2 := hw_3 h.rh r1 (by omega) (by omega)
    have b1 : lwB (some r) (some l1) = lwB (some r) a := a1.1.symm
    have b2 : lwB (some r) (some l2) = lwB (some r) a := a1.2.symm
    have b3 : hwB (some r) (some h1) = hwB (some r) b := a2.1.symm
    have b4 : hwB (some r) (some h2) = hwB (some r) b := a2.2.symm
    rw [b1, b2, b3, b4]
    by_cases q : (lwB (some r) a && hwB (some r) b) = true
    · rw [if_pos q]
      refine .inr ⟨some r, some r, r, r, r, r, 0, r, rfl, rfl, rfl, ⟨⟨rfl, rfl, by omega, by omega⟩, ⟨rfl, rfl, by omega, by omega⟩⟩, okS r, okS r, okS r, .inl ⟨rfl, by omega, by omega⟩⟩
    · rw [if_neg q]; exact .inl ⟨rfl, rfl, rfl⟩
  · have m0 : ¬ m = 0 := by omega
    have rl : RL (C + G) (D - 2 * G) (a.map (upR r m)) (upR r m l1) (upR r m l2) := by
      cases a with
      | none =>
        have k : l1 ≤ -D ∧ l2 + D ≤ l1 := h.rl
        have u1 := up_b (x := l1) (r := r) m1
        have u2 := up_b (x := l2) (r := r) m1
        show upR r m l1 ≤ -(D - 2 * G) ∧ upR r m l2 + (D - 2 * G) ≤ upR r m l1
        omega
      | some x =>
        have k : l1 = x ∧ l2 = x ∧ -C ≤ x ∧ x ≤ C := h.rl
        have u1 := up_b (x := x) (r := r) m1
        show upR r m l1 = upR r m x ∧ upR r m l2 = upR r m x ∧ -(C + G) ≤ upR r m x ∧ upR r m x ≤ C + G
        rw [k.1, k.2.1]
        exact ⟨rfl, rfl, by omega, by omega⟩
    have rh : RH (C + G) (D - 2 * G) (b.map (dnR r m)) (dnR r m h1) (dnR r m h2) := by
      cases b with
      | none =>
        have k : D ≤ h1 ∧ h1 + D ≤ h2 := h.rh
        have u1 := dn_b (x := h1) (r := r) m1
        have u2 := dn_b (x := h2) (r := r) m1
        show D - 2 * G ≤ dnR r m h1 ∧ dnR r m h1 + (D - 2 * G) ≤ dnR r m h2
        omega
      | some x =>
        have k : h1 = x ∧ h2 = x ∧ -C ≤ x ∧ x ≤ C := h.rh
        have u1 := dn_b (x := x) (r := r) m1
        show dnR r m h1 = dnR r m x ∧ dnR r m h2 = dnR r m x ∧ -(C + G) ≤ dnR r m x ∧ dnR r m x ≤ C + G
        rw [k.1, k.2.1]
        exact ⟨rfl, rfl, by omega, by omega⟩
    have mu := fun x : Int => up_mod (x := x) m1 r0 r1
    have md := fun x : Int => dn_mod (x := x) m1 r0 r1
    rw [vo_1 m0, vo_1 m0, vo_1 m0]
    show (_ ∧ (if dnR r m h1 ≤ upR r m l1 then (if upR r m l1 = dnR r m h1 then vD (some (upR r m l1)) (some (upR r m l1)) 0 (upR r m l1) else .non) else vD (some (upR r m l1)) (some (dnR r m h1)) m r) = .non ∧
      (if dnR r m h2 ≤ upR r m l2 then (if upR r m l2 = dnR r m h2 then vD (some (upR r m l2)) (some (upR r m l2)) 0 (upR r m l2) else .non) else vD (some (upR r m l2)) (some (dnR r m h2)) m r) = .non) ∨
      Tv _ _ _ _ (if dnR r m h1 ≤ upR r m l1 then (if upR r m l1 = dnR r m h1 then vD (some (upR r m l1)) (some (upR r m l1)) 0 (upR r m l1) else .non) else vD (some (upR r m l1)) (some (dnR r m h1)) m r)
      (if dnR r m h2 ≤ upR r m l2 then (if upR r m l2 = dnR r m h2 then vD (some (upR r m l2)) (some (upR r m l2)) 0 (upR r m l2) else .non) else vD (some (upR r m l2)) (some (dnR r m h2)) m r)
    have mua : ∀ x, a.map (upR r m) = some x → x.fmod m = r := fun x e => by
      obtain ⟨y, _, rfl⟩ := Option.map_eq_some_iff.mp e; exact mu y
    have mdb : ∀ x, b.map (dnR r m) = some x → x.fmod m = r := fun x e => by
      obtain ⟨y, _, rfl⟩ := Option.map_eq_some_iff.mp e; exact md y
    have mu1 := mu l1; have mu2 := mu l2; have md1 := md h1; have md2 := md h2
    generalize a.map (upR r m) = A at *
    generalize b.map (dnR r m) = B at *
    generalize upR r m l1 = u1 at *
    generalize upR r m l2 = u2 at *
    generalize dnR r m h1 = w1 at *
    generalize dnR r m h2 = w2 at *
    have far : (A = none ∨ B = none) → u1 < w1 ∧ u2 < w2 := by
      rintro (rfl | rfl)
      · have k : u1 ≤ -(D - 2 * G) ∧ u2 + (D - 2 * G) ≤ u1 := rl
        cases B with
        | none => have k2 : (D - 2 * G) ≤ w1 ∧ w1 + (D - 2 * G) ≤ w2 := rh
                  omega
        | some y => have k2 : w1 = y ∧ w2 = y ∧ -(C + G) ≤ y ∧ y ≤ C + G := rh
                    omega
      · have k : (D - 2 * G) ≤ w1 ∧ w1 + (D - 2 * G) ≤ w2 := rh
        cases A with
        | none => have k2 : u1 ≤ -(D - 2 * G) ∧ u2 + (D - 2 * G) ≤ u1 := rl
                  omega
        | some y => have k2 : u1 = y ∧ u2 = y ∧ -(C + G) ≤ y ∧ y ≤ C + G := rl
                    omega
    have okk : ∀ u w : Int, u.fmod m = r → w.fmod m = r → u < w → Ok (some u) (some w) m r := fun u w e f l => ⟨.inr ⟨m1, r0, r1, (fun x e => by cases e; assumption), (fun x e => by cases e; assumption), (fun x y e f => by cases e; cases f; exact l)⟩⟩
    have open3 : (A = none ∨ B = none) → Tv (C + G) (D - 2 * G) (C + G) (vD A B m r) (vD (some u1) (some w1) m r) (vD (some u2) (some w2) m r) := fun q =>
      ⟨A, B, u1, w1, u2, w2, m, r, rfl, rfl, rfl, ⟨rl, rh⟩, ⟨.inr ⟨m1, r0, r1, mua, mdb, fun x y e f => by rcases q with rfl | rfl <;> contradiction⟩⟩, okk _ _ mu1 md1 (far q).1, okk _ _ mu2 md2 (far q).2, .inr ⟨m1, by omega, r0, r1⟩⟩
    cases A with
    | none =>
      have f := far (.inl rfl)
      rw [if_neg (show ¬ w1 ≤ u1 by omega), if_neg (show ¬ w2 ≤ u2 by omega)]
      exact .inr (open3 (.inl rfl))
    | some x => cases B with
      | none =>
        have f := far (.inr rfl)
        rw [if_neg (show ¬ w1 ≤ u1 by omega), if_neg (show ¬ w2 ≤ u2 by omega)]
        exact .inr (open3 (.inr rfl))
      | some y =>
        obtain ⟨e1, e2, x0, x1⟩ : u1 = x ∧ u2 = x ∧ -(C + G) ≤ x ∧ x ≤ C + G := rl
        obtain ⟨f1, f2, y0, y1⟩ : w1 = y ∧ w2 = y ∧ -(C + G) ≤ y ∧ y ≤ C + G := rh
        subst u1 u2 w1 w2
        dsimp only
        by_cases l : y ≤ x
        · rw [if_pos l]
          by_cases e : x = y
          · rw [if_pos e]
            exact .inr ⟨some x, some x, x, x, x, x, 0, x, rfl, rfl, rfl, ⟨⟨rfl, rfl, x0, x1⟩, ⟨rfl, rfl, x0, x1⟩⟩, okS x, okS x, okS x, .inl ⟨rfl, x0, x1⟩⟩
          · rw [if_neg e]; exact .inl ⟨rfl, rfl, rfl⟩
        · rw [if_neg l]
          have k := okk x y mu1 md1 (by omega)
          exact .inr ⟨some x, some y, x, y, x, y, m, r, rfl, rfl, rfl, ⟨⟨rfl, rfl, x0, x1⟩, ⟨rfl, rfl, y0, y1⟩⟩, k, k, k, .inr ⟨m1, by omega, r0, r1⟩⟩
end Sh
set_option Elab.async false
set_option linter.all false
set_option maxRecDepth 100000
set_option maxHeartbeats 4000000
namespace Sh
open PySem PySem.Spec PyProof.Rows L2
abbrev E8 : Int := 800000000
abbrev F6 : Int := 5000000
section
variable {a b c d : Option Int} {l1 h1 l2 h2 k1 j1 k2 j2 : Int}
theorem sp_add (h : T3 100 E8 a b l1 h1 l2 h2) (k : T3 100 E8 c d k1 j1 k2 j2) : T3 10000 F6 (addB a c) (addB b d) (l1 + k1) (h1 + j1) (l2 + k2) (h2 + j2) := by
  obtain ⟨h, h'⟩ := h
  obtain ⟨k, k'⟩ := k
  constructor
  · cases a <;> cases c <;> simp only [RL, addB, E8, F6] at * <;> omega
  · cases b <;> cases d <;> simp only [RH, addB, E8, F6] at * <;> omega
theorem sp_sub (h : T3 100 E8 a b l1 h1 l2 h2) (k : T3 100 E8 c d k1 j1 k2 j2) : T3 10000 F6 (addB a (negB d)) (addB b (negB c)) (l1 + -j1) (h1 + -k1) (l2 + -j2) (h2 + -k2) := sp_add h k.neg
/-! corners -/
def Cr (C D : Int) (t : IP) (p q : Int) : Prop := (t.1 = 0 ∧ p = t.2 ∧ q = t.2 ∧ -C ≤ t.2 ∧ t.2 ≤ C) ∨ (t = (1, 0) ∧ D ≤ p ∧ p + D ≤ q) ∨ (t = (-1, 0) ∧ p ≤ -D ∧ q + D ≤ p)
def mnP (t t' : IP) : IP := if PySem.W.DatumOrd.lt t' t = true then t' else t
def mxP (t t' : IP) : IP := if PySem.W.DatumOrd.lt t t' = true then t' else t
theorem ltP_is {t t' : IP} : PySem.W.DatumOrd.lt t t' = ltP t t' := rfl
theorem cr_mn {t t' : IP} {p q p' q' : Int} (h : Cr 10000 E8 t p q) (k : Cr 10000 E8 t' p' q') : Cr 10000 E8 (mnP t t') (mn p p') (mn q q') := by
  obtain ⟨u, v⟩ := t
  obtain ⟨u', v'⟩ := t'
  unfold mnP mn
  rw [ltP_is]
  unfold Cr E8 at h k ⊢
  rcases h with ⟨rfl, rfl, rfl, h1, h2⟩ | ⟨e, h1, h2⟩ | ⟨e, h1, h2⟩ <;> rcases k with ⟨rfl, rfl, rfl, k1, k2⟩ | ⟨f, k1, k2⟩ | ⟨f, k1, k2⟩ <;> (try cases e) <;> (try cases f) <;> simp only [ltP] <;> (try dsimp only at *) <;> repeat' split
  all_goals first | (exfalso; simp_all; done) | (exfalso; simp_all; omega) | (left; exact ⟨rfl, by omega, by omega, by omega, by omega⟩) | (right; left; exact ⟨rfl, by omega, by omega⟩) | (right; right; exact ⟨rfl, by omega, by omega⟩)
theorem cr_mx {t t' : IP} {p q p' q' : Int} (h : Cr 10000 E8 t p q) (k : Cr 10000 E8 t' p' q') : Cr 10000 E8 (mxP t t') (mx p p') (mx q q') := by
  obtain ⟨u, v⟩ := t
  obtain ⟨u', v'⟩ := t'
  unfold mxP mx
  rw [ltP_is]
  unfold Cr E8 at h k ⊢
  rcases h with ⟨rfl, rfl, rfl, h1, h2⟩ | ⟨e, h1, h2⟩ | ⟨e, h1, h2⟩ <;> rcases k with ⟨rfl, rfl, rfl, k1, k2⟩ | ⟨f, k1, k2⟩ | ⟨f, k1, k2⟩ <;> (try cases e) <;> (try cases f) <;> simp only [ltP] <;> (try dsimp only at *) <;> repeat' split
  all_goals first | (exfalso; simp_all; done) | (exfalso; simp_all; omega) | (left; exact ⟨rfl, by omega, by omega, by omega, by omega⟩) | (right; left; exact ⟨rfl, by omega, by omega⟩) | (right; right; exact ⟨rfl, by omega, by omega⟩)
theorem dir_p {x : Int} (h : 0 < x) : dirP (0, x) = 1 := by
  unfold dirP ltP
  rw [if_neg (fun e => by cases e; omega)]
  simp [h]
theorem dir_n {x : Int} (h : x < 0) : dirP (0, x) = -1 := by
  unfold dirP ltP
  rw [if_neg (fun e => by cases e; omega)]
  simp; omega
theorem tim_sw {p q : IP} : timP p q = timP q p := by
  unfold timP
  rw [Int.mul_comm p.2, Int.mul_comm (dirP p)]
  by_cases h : p.1 = 0 ∧ q.1 = 0
  · rw [if_pos h, if_pos h.symm]
  · rw [if_neg h, if_neg fun z => h z.symm]
theorem mul_G {G x y : Int} (h1 : -G ≤ x) (h2 : x ≤ G) (k1 : -G ≤ y) (k2 : y ≤ G) : -(G * G) ≤ x * y ∧ x * y ≤ G * G := by
  have a1 := Int.mul_nonneg (show 0 ≤ x + G by omega) (show 0 ≤ y + G by omega)
  have a2 := Int.mul_nonneg (show 0 ≤ G - x by omega) (show 0 ≤ G - y by omega)
  have a3 := Int.mul_nonneg (show 0 ≤ x + G by omega) (show 0 ≤ G - y by omega)
  have a4 := Int.mul_nonneg (show 0 ≤ G - x by omega) (show 0 ≤ y + G by omega)
  rw [Int.add_mul, Int.mul_add, Int.mul_add] at a1
  rw [Int.sub_mul, Int.mul_sub, Int.mul_sub] at a2
  rw [Int.add_mul, Int.mul_sub, Int.mul_sub] at a3
  rw [Int.sub_mul, Int.mul_add, Int.mul_add] at a4
  have c1 := Int.mul_comm x G; have c2 := Int.mul_comm y G
  omega
/-- x above 0 keeps what is far -/
theorem far_mul {x p q : Int} (h : 1 ≤ x) (k1 : E8 ≤ p) (k2 : p + E8 ≤ q) : E8 ≤ x * p ∧ x * p + E8 ≤ x * q := by
  unfold E8 at *
  have a1 := Int.mul_le_mul h k1 (by decide) (by omega)
  have a2 := Int.mul_le_mul_of_nonneg_left k2 (show 0 ≤ x by omega)
  rw [Int.mul_add] at a2
  have a3 := Int.mul_le_mul_of_nonneg_right h (show (0 : Int) ≤ 800000000 by decide)
  omega
theorem cor1 {t u : IP} {x X y Y : Int} (h : t.1 = 0 ∧ x = t.2 ∧ X = t.2 ∧ -100 ≤ t.2 ∧ t.2 ≤ 100) (k : Cr 100 E8 u y Y) : Cr 10000 E8 (timP t u) (x * y) (X * Y) := by
  obtain ⟨t1, t2⟩ := t
  obtain ⟨e1, e2, e3, h1, h2⟩ := h
  dsimp only at *
  subst t1 x X
  rcases k with ⟨f1, f2, f3, k1, k2⟩ | ⟨rfl, k1, k2⟩ | ⟨rfl, k1, k2⟩
  · obtain ⟨u1, u2⟩ := u
    dsimp only at *
    subst u1 y Y
    have := mul_G h1 h2 k1 k2
    exact .inl ⟨rfl, rfl, rfl, by show -10000 ≤ t2 * u2; omega, by show t2 * u2 ≤ 10000; omega⟩
  · have e : timP (0, t2) (1, 0) = (dirP (0, t2) * 1, 0) := rfl
    rw [e]
    rcases Int.lt_trichotomy t2 0 with h | rfl | h
    · rw [dir_n h]
      have := far_mul (x := -t2) (by omega) k1 k2
      rw [Int.neg_mul, Int.neg_mul] at this
      exact .inr (.inr ⟨rfl, by omega, by omega⟩)
    · exact .inl ⟨rfl, by simp, by simp, by decide, by decide⟩
    · rw [dir_p h]
      have := far_mul (x := t2) (by omega) k1 k2
      exact .inr (.inl ⟨rfl, by omega, by omega⟩)
  · have e : timP (0, t2) (-1, 0) = (dirP (0, t2) * (-1), 0) := rfl
    rw [e]
    rcases Int.lt_trichotomy t2 0 with h | rfl | h
    · rw [dir_n h]
      have := far_mul (x := -t2) (p := -y) (q := -Y) (by omega) (by omega) (by omega)
      rw [Int.neg_mul_neg, Int.neg_mul_neg] at this
      exact .inr (.inl ⟨rfl, by omega, by omega⟩)
    · exact .inl ⟨rfl, by simp, by simp, by decide, by decide⟩
    · rw [dir_p h]
      have := far_mul (x := t2) (p := -y) (q := -Y) (by omega) (by omega) (by omega)
      rw [Int.mul_neg, Int.mul_neg] at this
      exact .inr (.inr ⟨rfl, by omega, by omega⟩)
theorem far2 {x X y Y : Int} (h1 : E8 ≤ x) (h2 : x + E8 ≤ X) (k1 : E8 ≤ y) (k2 : y + E8 ≤ Y) : E8 ≤ x * y ∧ x * y + E8 ≤ X * Y := by
  have a := far_mul (x := x) (by unfold E8 at h1; omega) k1 k2
  have b := Int.mul_le_mul_of_nonneg_right (show x ≤ X by unfold E8 at h2; omega) (show 0 ≤ Y by unfold E8 at *; omega)
  exact ⟨a.1, Int.le_trans a.2 b⟩
theorem cor {t u : IP} {x X y Y : Int} (h : Cr 100 E8 t x X) (k : Cr 100 E8 u y Y) : Cr 10000 E8 (timP t u) (x * y) (X * Y) := by
  rcases h with h | ⟨rfl, h1, h2⟩ | ⟨rfl, h1, h2⟩
  · exact cor1 h k
  · rcases k with k | ⟨rfl, k1, k2⟩ | ⟨rfl, k1, k2⟩
    · rw [tim_sw, Int.mul_comm x, Int.mul_comm X]; exact cor1 k (.inr (.inl ⟨rfl, h1, h2⟩))
    · have := far2 h1 h2 k1 k2
      exact .inr (.inl ⟨rfl, this.1, this.2⟩)
    · have := far2 (y := -y) (Y := -Y) h1 h2 (by omega) (by omega)
      rw [Int.mul_neg, Int.mul_neg] at this
      exact .inr (.inr ⟨rfl, by omega, by omega⟩)
  · rcases k with k | ⟨rfl, k1, k2⟩ | ⟨rfl, k1, k2⟩
    · rw [tim_sw, Int.mul_comm x, Int.mul_comm X]; exact cor1 k (.inr (.inr ⟨rfl, h1, h2⟩))
    · have := far2 (x := -x) (X := -X) (by omega) (by omega) k1 k2
      rw [Int.neg_mul, Int.neg_mul] at this
      exact .inr (.inr ⟨rfl, by omega, by omega⟩)
    · have := far2 (x := -x) (X := -X) (y := -y) (Y := -Y) (by omega) (by omega) (by omega) (by omega)
      rw [Int.neg_mul_neg, Int.neg_mul_neg] at this
      exact .inr (.inl ⟨rfl, this.1, this.2⟩)
theorem cr_lo {o : Option Int} {p q : Int} (h : RL 100 E8 o p q) : Cr 100 E8 (loE o) p q := by
  cases o with
  | none => exact .inr (.inr ⟨rfl, h.1, h.2⟩)
  | some x => obtain ⟨e1, e2, e3, e4⟩ := h; exact .inl ⟨rfl, e1, e2, e3, e4⟩
theorem cr_hi {o : Option Int} {p q : Int} (h : RH 100 E8 o p q) : Cr 100 E8 (hiE o) p q := by
  cases o with
  | none => exact .inr (.inl ⟨rfl, h.1, h.2⟩)
  | some x => obtain ⟨e1, e2, e3, e4⟩ := h; exact .inl ⟨rfl, e1, e2, e3, e4⟩
theorem cr_le {t : IP} {p q : Int} (h : Cr 10000 E8 t p q) (k : p ≤ 10000) : RL 10000 E8 (bndP t) p q := by
  rcases h with ⟨e, e1, e2, e3, e4⟩ | ⟨rfl, h1, h2⟩ | ⟨rfl, h1, h2⟩
  · unfold bndP; rw [if_pos e]; exact ⟨e1, e2, e3, e4⟩
  · unfold E8 at *; omega
  · exact ⟨h1, h2⟩
theorem cr_ge {t : IP} {p q : Int} (h : Cr 10000 E8 t p q) (k : -10000 ≤ p) : RH 10000 E8 (bndP t) p q := by
  rcases h with ⟨e, e1, e2, e3, e4⟩ | ⟨rfl, h1, h2⟩ | ⟨rfl, h1, h2⟩
  · unfold bndP; rw [if_pos e]; exact ⟨e1, e2, e3, e4⟩
  · exact ⟨h1, h2⟩
  · unfold E8 at *; omega
theorem sp_mul (h : T3 100 E8 a b l1 h1 l2 h2) (k : T3 100 E8 c d k1 j1 k2 j2) :
    T3 10000 F6 (mulL a b c d) (mulH a b c d) (mn4 (l1 * k1) (l1 * j1) (h1 * k1) (h1 * j1)) (mx4 (l1 * k1) (l1 * j1) (h1 * k1) (h1 * j1)) (mn4 (l2 * k2) (l2 * j2) (h2 * k2) (h2 * j2)) (mx4 (l2 * k2) (l2 * j2) (h2 * k2) (h2 * j2)) := by
  have c0 := cor (cr_lo h.rl) (cr_lo k.rl)
  have c1 := cor (cr_lo h.rl) (cr_hi k.rh)
  have c2 := cor (cr_hi h.rh) (cr_lo k.rl)
  have c3 := cor (cr_hi h.rh) (cr_hi k.rh)
  have l := cr_mn (cr_mn (cr_mn c0 c1) c2) c3
  have m := cr_mx (cr_mx (cr_mx c0 c1) c2) c3
  have n := (@mn4_is (l1 * k1) (l1 * j1) (h1 * k1) (h1 * j1)).1
  have x := (@mx4_is (l1 * k1) (l1 * j1) (h1 * k1) (h1 * j1)).1
  -- one corner is low, one is high
  have low : l1 * k1 ≤ 10000 ∨ l1 * j1 ≤ 10000 ∨ h1 * k1 ≤ 10000 ∨ h1 * j1 ≤ 10000 := by
    by_cases q : l1 ≤ 0 ∧ 0 ≤ j1
    · exact .inr (.inl (by have := Int.mul_nonneg (show 0 ≤ -l1 by omega) q.2; rw [Int.neg_mul] at this; omega))
    · by_cases q2 : 0 < l1
      · cases a with
        | none => have := h.rl.1; unfold E8 at this; omega
        | some x1 => cases c with
          | none =>
            left
            have := Int.mul_nonneg (show 0 ≤ l1 by omega) (show 0 ≤ -k1 by have := k.rl.1; unfold E8 at this; omega)
            rw [Int.mul_neg] at this; omega
          | some y1 => 
            obtain ⟨e1, _, e3, e4⟩ := h.rl
            obtain ⟨f1, _, f3, f4⟩ := k.rl
            have := mul_G (G := 100) (x := l1) (y := k1) (by omega) (by omega) (by omega) (by omega)
            left; omega
      · have q3 : j1 < 0 := by omega
        cases d with
        | none => have := k.rh.1; unfold E8 at this; omega
        | some y1 => cases b with
          | none =>
            right; right; right
            have := Int.mul_nonneg (show 0 ≤ h1 by have := h.rh.1; unfold E8 at this; omega) (show 0 ≤ -j1 by omega)
            rw [Int.mul_neg] at this; omega
          | some x1 =>
            obtain ⟨e1, _, e3, e4⟩ := h.rh
            obtain ⟨f1, _, f3, f4⟩ := k.rh
            have := mul_G (G := 100) (x := h1) (y := j1) (by omega) (by omega) (by omega) (by omega)
            right; right; right; omega
  have high : -10000 ≤ l1 * k1 ∨ -10000 ≤ l1 * j1 ∨ -10000 ≤ h1 * k1 ∨ -10000 ≤ h1 * j1 := by
    by_cases q : 0 ≤ h1 ∧ 0 ≤ j1
    · exact .inr (.inr (.inr (by have := Int.mul_nonneg q.1 q.2; omega)))
    · by_cases q2 : h1 < 0
      · cases b with
        | none => have := h.rh.1; unfold E8 at this; omega
        | some x1 => cases c with
          | none =>
            right; right; left
            have := Int.mul_nonneg (show 0 ≤ -h1 by omega) (show 0 ≤ -k1 by have := k.rl.1; unfold E8 at this; omega)
            rw [Int.neg_mul_neg] at this; omega
          | some y1 => 
            obtain ⟨e1, _, e3, e4⟩ := h.rh
            obtain ⟨f1, _, f3, f4⟩ := k.rl
            have := mul_G (G := 100) (x := h1) (y := k1) (by omega) (by omega) (by omega) (by omega)
            right; right; left; omega
      · have q3 : j1 < 0 := by omega
        cases d with
        | none => have := k.rh.1; unfold E8 at this; omega
        | some y1 => cases a with
          | none =>
            right; left
            have := Int.mul_nonneg (show 0 ≤ -l1 by have := h.rl.1; unfold E8 at this; omega) (show 0 ≤ -j1 by omega)
            rw [Int.neg_mul_neg] at this; omega
          | some x1 =>
            obtain ⟨e1, _, e3, e4⟩ := h.rl
            obtain ⟨f1, _, f3, f4⟩ := k.rh
            have := mul_G (G := 100) (x := l1) (y := j1) (by omega) (by omega) (by omega) (by omega)
            right; left; omega
  refine T3.mono (C := 10000) (D := E8) (by decide) (by decide) ⟨?_, ?_⟩
  · exact cr_le l (show mn4 (l1 * k1) (l1 * j1) (h1 * k1) (h1 * j1) ≤ 10000 by omega)
  · exact cr_ge m (show -10000 ≤ mx4 (l1 * k1) (l1 * j1) (h1 * k1) (h1 * j1) by omega)
end
end Sh
set_option Elab.async false
set_option linter.all false
set_option maxRecDepth 100000
set_option maxHeartbeats 4000000
namespace Sh
open PySem PySem.Spec PyProof.Rows L2
/-! quotients by divisors above 0 -/
theorem fd_far2 {p x y : Int} (h1 : 1 ≤ p) (h2 : p ≤ 100) (k : x + E8 ≤ y) : x.fdiv p + F6 ≤ y.fdiv p := by
  rw [le_fd (by omega), Int.add_mul]
  have a : x.fdiv p * p ≤ x := (le_fd (by omega)).mp (Int.le_refl _)
  have b := Int.mul_le_mul_of_nonneg_left h2 (show 0 ≤ F6 by decide)
  unfold E8 at k
  unfold F6 at *
  omega
theorem fd_zero {p : Int} : Int.fdiv 0 p = 0 := Int.zero_fdiv p
theorem fd_G {x y G : Int} (g : 0 ≤ G) (h : y ≠ 0) (hx : -G ≤ x ∧ x ≤ G) : -G ≤ x.fdiv y ∧ x.fdiv y ≤ G := by
  have key : ∀ x y : Int, 1 ≤ y → -G ≤ x → x ≤ G → -G ≤ x.fdiv y ∧ x.fdiv y ≤ G := fun x y hy h1 h2 => by
    have e := fd_one (n := x)
    by_cases p : 0 ≤ x
    · have a := fd_up (x := x) (m := 1) (n := y) (by decide) hy p
      have b := fd_nn (x := x) (m := y) (by omega) p
      omega
    · have a := fd_dn (x := x) (m := 1) (n := y) (by decide) hy (by omega)
      have b := fd_ltz (x := x) (m := y) (by omega) (by omega)
      omega
  rcases Int.lt_or_gt_of_ne h with k | k
  · rw [fd_neg k]; exact key (-x) (-y) (by omega) (by omega) (by omega)
  · exact key x y (by omega) hx.1 hx.2
def qL (l p k : Int) : Int := if 0 ≤ l then l.fdiv k else l.fdiv p
def qH (h p k : Int) : Int := if 0 ≤ h then h.fdiv p else h.fdiv k
section
variable {a b q : Option Int} {l1 h1 l2 h2 k1 k2 p : Int}
theorem quo3 {l : Int} (hl : -100 ≤ l ∧ l ≤ 100) (kq : RH 100 E8 q k1 k2) (q0 : ∀ y, q = some y → 1 ≤ y) : quo l q = l.fdiv k1 ∧ quo l q = l.fdiv k2 ∧ -100 ≤ quo l q ∧ quo l q ≤ 100 := by
  cases q with
  | none =>
    obtain ⟨k0, k3⟩ := kq
    unfold E8 at *
    show (if 0 ≤ l then (0 : Int) else -1) = _ ∧ (if 0 ≤ l then (0 : Int) else -1) = _ ∧ -100 ≤ (if 0 ≤ l then (0 : Int) else -1) ∧ (if 0 ≤ l then (0 : Int) else -1) ≤ 100
    by_cases g : 0 ≤ l
    · rw [if_pos g, fd_big g (by omega), fd_big g (by omega)]; decide
    · rw [if_neg g, fd_bigN (by omega) (by omega) (by omega), fd_bigN (by omega) (by omega) (by omega)]; decide
  | some y =>
    obtain ⟨e1, e2, e3, e4⟩ := kq
    have y0 := q0 y rfl
    subst k1 k2
    have := fd_G (G := 100) (by decide) (show y ≠ 0 by omega) hl
    exact ⟨rfl, rfl, this.1, this.2⟩
theorem quo_t (h : T3 100 E8 a b l1 h1 l2 h2) (kq : RH 100 E8 q k1 k2) (q0 : ∀ y, q = some y → 1 ≤ y) (p1 : 1 ≤ p) (p2 : p ≤ 100) : T3 10000 F6 (quoL a p q) (quoH b p q) (qL l1 p k1) (qH h1 p k1) (qL l2 p k2) (qH h2 p k2) := by
  have z := fd_zero (p := p)
  constructor
  · cases a with
    | none =>
      obtain ⟨a1, a2⟩ := h.rl
      have b1 := fd_far2 (x := l1) (y := 0) p1 p2 (by omega)
      have b2 := fd_far2 (x := l2) (y := l1) p1 p2 a2
      show qL l1 p k1 ≤ -F6 ∧ qL l2 p k2 + F6 ≤ qL l1 p k1
      unfold E8 at a1 a2
      unfold qL
      rw [if_neg (by omega), if_neg (by omega)]
      omega
    | some x =>
      obtain ⟨e1, e2, e3, e4⟩ := h.rl
      have t := quo3 ⟨e3, e4⟩ kq q0
      have u := fd_G (x := x) (y := p) (G := 100) (by decide) (by omega) ⟨e3, e4⟩
      subst l1 l2
      show qL x p k1 = (if 0 ≤ x then quo x q else x.fdiv p) ∧ qL x p k2 = (if 0 ≤ x then quo x q else x.fdiv p) ∧ -10000 ≤ (if 0 ≤ x then quo x q else x.fdiv p) ∧ (if 0 ≤ x then quo x q else x.fdiv p) ≤ 10000
      unfold qL
      split
      · exact ⟨t.1.symm, t.2.1.symm, by omega, by omega⟩
      · exact ⟨rfl, rfl, by omega, by omega⟩
  · cases b with
    | none =>
      obtain ⟨a1, a2⟩ := h.rh
      have b1 := fd_far2 (x := 0) (y := h1) p1 p2 (by omega)
      have b2 := fd_far2 (x := h1) (y := h2) p1 p2 a2
      show F6 ≤ qH h1 p k1 ∧ qH h1 p k1 + F6 ≤ qH h2 p k2
      unfold E8 at a1 a2
      unfold qH
      rw [if_pos (by omega), if_pos (by omega)]
      omega
    | some x =>
      obtain ⟨e1, e2, e3, e4⟩ := h.rh
      have t := quo3 ⟨e3, e4⟩ kq q0
      have u := fd_G (x := x) (y := p) (G := 100) (by decide) (by omega) ⟨e3, e4⟩
      subst h1 h2
      show qH x p k1 = (if 0 ≤ x then x.fdiv p else quo x q) ∧ qH x p k2 = (if 0 ≤ x then x.fdiv p else quo x q) ∧ -10000 ≤ (if 0 ≤ x then x.fdiv p else quo x q) ∧ (if 0 ≤ x then x.fdiv p else quo x q) ≤ 10000
      unfold qH
      split
      · exact ⟨rfl, rfl, by omega, by omega⟩
      · exact ⟨t.1.symm, t.2.1.symm, by omega, by omega⟩
/-! remainders -/
theorem remI_far {l h k : Int} (f : l + p < h) (p1 : 1 ≤ p) (n : ¬ (0 ≤ l ∧ h < p)) : remI l h p k = if 0 ≤ l then (0, if h < k - 1 then h else k - 1) else (0, k - 1) := by
  unfold remI
  have d : l.fdiv p ≠ h.fdiv p := by
    have : l.fdiv p + 1 ≤ h.fdiv p := by
      rw [le_fd (by omega), Int.add_mul]
      have a : l.fdiv p * p ≤ l := (le_fd (by omega)).mp (Int.le_refl _)
      omega
    omega
  rw [if_neg (fun z => d z.2), if_neg n]
theorem remI_b {x y k C : Int} (p1 : 1 ≤ p) (p2 : p ≤ C) (hx : -C ≤ x ∧ x ≤ C) (hy : -C ≤ y ∧ y ≤ C) (hk : 1 ≤ k ∧ k ≤ C + 1) : (-C ≤ (remI x y p k).1 ∧ (remI x y p k).1 ≤ C) ∧ -C ≤ (remI x y p k).2 ∧ (remI x y p k).2 ≤ C := by
  have a := fm_r (x := x) (m := p) (by omega)
  have b := fm_r (x := y) (m := p) (by omega)
  unfold remI
  split
  · exact ⟨⟨by dsimp only; omega, by dsimp only; omega⟩, by dsimp only; omega, by dsimp only; omega⟩
  · split
    · exact ⟨hx, hy⟩
    · split
      · refine ⟨⟨by dsimp only; omega, by dsimp only; omega⟩, ?_, ?_⟩ <;> dsimp only <;> split <;> omega
      · exact ⟨⟨by dsimp only; omega, by dsimp only; omega⟩, by dsimp only; omega, by dsimp only; omega⟩
theorem rem_t (h : T3 100 E8 a b l1 h1 l2 h2) (kq : RH 100 E8 q k1 k2) (p1 : 1 ≤ p) (p2 : p ≤ 100) (q0 : ∀ y, q = some y → p ≤ y) : T3 10000 F6 (remB a b p q).1 (remB a b p q).2 (remI l1 h1 p k1).1 (remI l1 h1 p k1).2 (remI l2 h2 p k2).1 (remI l2 h2 p k2).2 := by
  have open3 : (a = none ∨ b = none) → remB a b p q = (some 0, predB q) := by
    rintro (rfl | rfl)
    · rfl
    · cases a <;> rfl
  by_cases o : a = none ∨ b = none
  · rw [open3 o]
    have f : l1 + p < h1 ∧ l2 + p < h2 ∧ ¬ (0 ≤ l1 ∧ h1 < p) ∧ ¬ (0 ≤ l2 ∧ h2 < p) ∧ (0 ≤ l1 → E8 ≤ h1) ∧ (0 ≤ l2 → E8 ≤ h2) ∧ (0 ≤ l1 → h1 + E8 ≤ h2) ∧ (0 ≤ l1 ↔ 0 ≤ l2) := by
      cases a with
      | none => cases b with
        | none => obtain ⟨e1, e2⟩ := h.rl; obtain ⟨f1, f2⟩ := h.rh; unfold E8 at *; omega
        | some y => obtain ⟨e1, e2⟩ := h.rl; obtain ⟨f1, f2, f3, f4⟩ := h.rh; unfold E8 at *; omega
      | some x => cases b with
        | none => obtain ⟨e1, e2, e3, e4⟩ := h.rl; obtain ⟨f1, f2⟩ := h.rh; unfold E8 at *; omega
        | some y => rcases o with o | o <;> cases o
    obtain ⟨f1, f2, f3, f4, f5, f6, f7, f8⟩ := f
    rw [remI_far f1 p1 f3, remI_far f2 p1 f4]
    constructor
    · show (if 0 ≤ l1 then ((0 : Int), if h1 < k1 - 1 then h1 else k1 - 1) else (0, k1 - 1)).1 = 0 ∧ (if 0 ≤ l2 then ((0 : Int), if h2 < k2 - 1 then h2 else k2 - 1) else (0, k2 - 1)).1 = 0 ∧ -10000 ≤ (0 : Int) ∧ (0 : Int) ≤ 10000
      refine ⟨by split <;> rfl, by split <;> rfl, by decide, by decide⟩
    · cases q with
      | none =>
        obtain ⟨g1, g2⟩ := kq
        show F6 ≤ (if 0 ≤ l1 then ((0 : Int), if h1 < k1 - 1 then h1 else k1 - 1) else (0, k1 - 1)).2 ∧ (if 0 ≤ l1 then ((0 : Int), if h1 < k1 - 1 then h1 else k1 - 1) else (0, k1 - 1)).2 + F6 ≤ (if 0 ≤ l2 then ((0 : Int), if h2 < k2 - 1 then h2 else k2 - 1) else (0, k2 - 1)).2
        unfold E8 F6 at *
        by_cases g : 0 ≤ l1
        · rw [if_pos g, if_pos (f8.mp g)]
          have := f5 g; have := f7 g
          dsimp only
          split <;> split <;> omega
        · rw [if_neg g, if_neg (fun z => g (f8.mpr z))]
          dsimp only
          omega
      | some y =>
        obtain ⟨g1, g2, g3, g4⟩ := kq
        have y0 := q0 y rfl
        subst k1 k2
        show (if 0 ≤ l1 then ((0 : Int), if h1 < y - 1 then h1 else y - 1) else (0, y - 1)).2 = y - 1 ∧ (if 0 ≤ l2 then ((0 : Int), if h2 < y - 1 then h2 else y - 1) else (0, y - 1)).2 = y - 1 ∧ -10000 ≤ y - 1 ∧ y - 1 ≤ 10000
        unfold E8 at *
        by_cases g : 0 ≤ l1
        · rw [if_pos g, if_pos (f8.mp g)]
          have := f5 g; have := f6 (f8.mp g)
          dsimp only
          rw [if_neg (by omega), if_neg (by omega)]
          omega
        · rw [if_neg g, if_neg (fun z => g (f8.mpr z))]
          dsimp only
          omega
  · cases a with
    | none => exact absurd (.inl rfl) o
    | some x => cases b with
      | none => exact absurd (.inr rfl) o
      | some y =>
        obtain ⟨e1, e2, e3, e4⟩ := h.rl
        obtain ⟨f1, f2, f3, f4⟩ := h.rh
        subst l1 l2 h1 h2
        cases q with
        | some k =>
          obtain ⟨g1, g2, g3, g4⟩ := kq
          have k0 := q0 k rfl
          subst k1 k2
          rw [rem_is]
          have b := remI_b (x := x) (y := y) (k := k) (C := 100) p1 p2 ⟨e3, e4⟩ ⟨f3, f4⟩ (by omega)
          exact ⟨⟨rfl, rfl, by omega, by omega⟩, ⟨rfl, rfl, by omega, by omega⟩⟩
        | none =>
          obtain ⟨g1, g2⟩ := kq
          unfold E8 at *
          have ev : ∀ k : Int, 800000000 ≤ k → remI x y p k = if 0 ≤ x ∧ y < p then (x, y) else if 0 ≤ x then (0, y) else (0, k - 1) := fun k hk => by
            unfold remI
            rw [if_neg (fun z => by omega)]
            split
            · rfl
            · split
              · rw [if_pos (by omega)]
              · rfl
          have eb : remB (some x) (some y) p none = if 0 ≤ x ∧ y < p then (some x, some y) else if 0 ≤ x then (some 0, some y) else (some 0, none) := by
            unfold remB; dsimp only
            rw [if_neg (fun z => by cases z.1)]
            rfl
          rw [ev k1 g1, ev k2 (by omega), eb]
          unfold F6
          split
          · exact ⟨⟨rfl, rfl, by omega, by omega⟩, ⟨rfl, rfl, by omega, by omega⟩⟩
          · split
            · exact ⟨⟨rfl, rfl, by omega, by omega⟩, ⟨rfl, rfl, by omega, by omega⟩⟩
            · exact ⟨⟨rfl, rfl, by omega, by omega⟩, ⟨by dsimp only; omega, by dsimp only; omega⟩⟩
end
/-! the rests -/
theorem g3_le {x y z G : Int} (hx : -G ≤ x ∧ x ≤ G) (hy : -G ≤ y ∧ y ≤ G) (hz : -G ≤ z ∧ z ≤ G) : g3 x y z ≤ G := by
  obtain ⟨d1, d2, d3⟩ := g3_dvd x y z
  have le : ∀ v : Int, v ≠ 0 → -G ≤ v ∧ v ≤ G → g3 x y z ∣ v → g3 x y z ≤ G := fun v v0 vb d => by
    have := Int.le_of_dvd (b := ((v.natAbs : Nat) : Int)) (by omega) (Int.dvd_natAbs.mpr d)
    omega
  by_cases x0 : x = 0
  · by_cases y0 : y = 0
    · by_cases z0 : z = 0
      · subst x y z
        show (0 : Int) ≤ G
        omega
      · exact le z z0 hz d3
    · exact le y y0 hy d2
  · exact le x x0 hx d1
theorem g2_le {x y G : Int} (hx : -G ≤ x ∧ x ≤ G) (hy : -G ≤ y ∧ y ≤ G) : g2 x y ≤ G := by
  have e : g3 x y 0 = g2 x y := by
    refine eq_of_dvd (g3_nn _ _ _) (Int.natCast_nonneg _) ?_ ?_
    · obtain ⟨d1, d2, _⟩ := g3_dvd x y 0
      exact g2_dvd.mpr ⟨d1, d2⟩
    · obtain ⟨d1, d2⟩ := g2_dvd.mp (Int.dvd_refl (g2 x y))
      exact g3_dvd'.mpr ⟨d1, d2, Int.dvd_zero _⟩
  rw [← e]
  exact g3_le hx hy (by omega)
theorem sm_rest {g x G : Int} (g0 : 0 ≤ g) (g1 : g ≤ G) (hx : -G ≤ x ∧ x ≤ G) : Sm G (restO g x).1 (restO g x).2 := by
  unfold restO
  by_cases h : g = 0
  · rw [if_pos h]; exact .inl ⟨rfl, hx⟩
  · rw [if_neg h]
    have := fm_r (x := x) (m := g) (by omega)
    exact .inr ⟨by dsimp only; omega, g1, this.1, this.2⟩
theorem rest_sm {w : Wd} {m r n s : Int} (h : Sm 100 m r) (k : Sm 100 n s) (nz : (w = .div ∨ w = .mod) → n = 0 → s ≠ 0) : ∃ M R, restF w m r n s = some (M, R) ∧ Sm 10000 M R := by
  have hb := h.b; have kb := k.b
  have mk : ∀ {q : IP}, Sm 10000 q.1 q.2 → ∃ M R, some q = some (M, R) ∧ Sm 10000 M R := fun {q} sm => ⟨q.1, q.2, rfl, sm⟩
  have g0 : ∀ x y z : Int, 0 ≤ g3 x y z := g3_nn
  cases w with
  | add =>
    have := g2_le (x := m) (y := n) (G := 100) (by omega) (by omega)
    exact mk (sm_rest (Int.natCast_nonneg _) (by omega) (by omega))
  | sub =>
    have := g2_le (x := m) (y := n) (G := 100) (by omega) (by omega)
    exact mk (sm_rest (Int.natCast_nonneg _) (by omega) (by omega))
  | mul =>
    have b1 := mul_G (G := 100) (x := r) (y := n) (by omega) (by omega) (by omega) (by omega)
    have b2 := mul_G (G := 100) (x := s) (y := m) (by omega) (by omega) (by omega) (by omega)
    have b3 := mul_G (G := 100) (x := m) (y := n) (by omega) (by omega) (by omega) (by omega)
    have b4 := mul_G (G := 100) (x := r) (y := s) (by omega) (by omega) (by omega) (by omega)
    have := g3_le (x := r * n) (y := s * m) (z := m * n) (G := 10000) (by omega) (by omega) (by omega)
    exact mk (sm_rest (g0 _ _ _) this (by omega))
  | div =>
    have nz' := nz (.inl rfl)
    show ∃ M R, fDiv m r n s = some (M, R) ∧ _
    unfold fDiv
    rw [if_neg (fun z => nz' z.1 z.2)]
    by_cases c : n ≠ 0 ∨ m.fmod s ≠ 0
    · rw [if_pos c]
      exact ⟨1, 0, rfl, .inr ⟨by decide, by decide, by decide, by decide⟩⟩
    · rw [if_neg c]
      have n0 : n = 0 := by
        by_cases z : n = 0
        · exact z
        · exact absurd (.inl z) c
      have b1 := fd_G (x := m) (y := s) (G := 100) (by decide) (nz' n0) (by omega)
      have b2 := fd_G (x := r) (y := s) (G := 100) (by decide) (nz' n0) (by omega)
      exact mk (sm_rest (Int.natCast_nonneg _) (by omega) (by omega))
  | mod =>
    have nz' := nz (.inr rfl)
    show ∃ M R, fMod m r n s = some (M, R) ∧ _
    unfold fMod
    rw [if_neg (fun z => nz' z.1 z.2)]
    by_cases c : m = 0 ∧ n = 0
    · rw [if_pos c]
      have s0 := nz' c.2
      have : -100 ≤ r.fmod s ∧ r.fmod s ≤ 100 := by
        rcases Int.lt_or_gt_of_ne s0 with q | q
        · have := fm_r (x := -r) (m := -s) (by omega)
          rw [Int.neg_fmod_neg] at this; omega
        · have := fm_r (x := r) (m := s) q; omega
      exact ⟨0, _, rfl, .inl ⟨rfl, by omega, by omega⟩⟩
    · rw [if_neg c]
      have := g3_le (x := m) (y := n) (z := s) (G := 100) (by omega) (by omega) (by omega)
      exact mk (sm_rest (g0 _ _ _) (by omega) (by omega))
end Sh
set_option Elab.async false
set_option linter.all false
set_option maxRecDepth 100000
set_option maxHeartbeats 4000000
namespace Sh
open PySem PySem.Spec PyProof.Rows L2
theorem vd_inj {a b a' b' : Option Int} {m r m' r' : Int} (h : vD a b m r = vD a' b' m' r') : a = a' ∧ b = b' ∧ m = m' ∧ r = r' := by
  have o : ∀ x y : Option Int, oD x = oD y → x = y := fun x y e => by
    cases x <;> cases y <;> cases e <;> rfl
  have h' := Dt.tup.inj h
  simp only [List.cons.injEq, Dt.int.injEq, and_true] at h'
  exact ⟨o _ _ h'.1, o _ _ h'.2.1, h'.2.2.1, h'.2.2.2⟩
/-! sets of the near cut -/
theorem near_set {l h m r : Int} (k : Ok (some l) (some h) m r) (b1 : -(10 ^ 22) ≤ l) (b2 : h ≤ 10 ^ 22) : ∃ X, SetOk X ∧ hd X = l ∧ ls X = h ∧ df X = m ∧ rr l m = r ∧ ∀ x, inQ l h m r x → x ∈ X := by
  have fin : ∀ {X : List Int}, Sv X l h m → rr l m = r → (∀ x, inQ l h m r x → x ∈ X) → ∃ X, SetOk X ∧ hd X = l ∧ ls X = h ∧ df X = m ∧ rr l m = r ∧ ∀ x, inQ l h m r x → x ∈ X := fun {X} sv er mem => by
    obtain ⟨e1, e2, e3⟩ := sv_by sv
    exact ⟨X, setOk sv trivial b1 b2, e1, e2, e3, er, mem⟩
  rcases k.h with ⟨e, f, g⟩ | ⟨m1, r0, r1, hl, hh, lt⟩
  · cases f; cases g
    subst e
    have one : ∀ x, x ∈ [l] → l ≤ x ∧ x ≤ l := fun x hx => by
      have : x = l := by simpa using hx
      omega
    refine fin (X := [l]) ⟨List.pairwise_singleton _ _, by simp, by simp, fun x hx => one x hx, .inl ⟨rfl, rfl⟩⟩ (if_pos rfl) (fun x hx => by have := hx.2.2.1 rfl; simp [this])
  · have e1 := hl l rfl
    have e2 := hh h rfl
    have l1 := lt l h rfl rfl
    have dv : m ∣ h - l := by
      have d1 := @dvd_mod l m
      have d2 := @dvd_mod h m
      rw [e1] at d1; rw [e2] at d2
      have := Int.dvd_sub d2 d1
      rwa [show h - r - (l - r) = h - l by omega] at this
    obtain ⟨q, hq⟩ := dv
    have q0 : 0 ≤ q := by
      rcases Int.lt_or_le q 0 with z | z
      · have := Int.mul_neg_of_pos_of_neg (show 0 < m by omega) z; omega
      · exact z
    have mem : ∀ x, x ∈ ((List.range (q.toNat + 1)).map fun i : Nat => l + m * (i : Int)) ↔ l ≤ x ∧ x ≤ h ∧ m ∣ x - l := fun x => by
      rw [List.mem_map]
      constructor
      · rintro ⟨i, hi, rfl⟩
        have hi' := List.mem_range.mp hi
        have i1 : 0 ≤ m * (i : Int) := Int.mul_nonneg (by omega) (Int.natCast_nonneg _)
        have i2 : m * (i : Int) ≤ m * q := Int.mul_le_mul_of_nonneg_left (by omega) (by omega)
        exact ⟨by omega, by omega, ⟨i, by omega⟩⟩
      · rintro ⟨x1, x2, i, hi⟩
        have i0 : 0 ≤ i := by
          rcases Int.lt_or_le i 0 with z | z
          · have := Int.mul_neg_of_pos_of_neg (show 0 < m by omega) z; omega
          · exact z
        have iq : i ≤ q := by
          rcases Int.lt_or_le q i with z | z
          · have := Int.mul_lt_mul_of_pos_left z (show 0 < m by omega); omega
          · exact z
        exact ⟨i.toNat, List.mem_range.mpr (by omega), by rw [Int.toNat_of_nonneg i0]; omega⟩
    have er : rr l m = r := by unfold rr; rw [if_neg (by omega)]; exact e1
    refine fin (X := (List.range (q.toNat + 1)).map fun i : Nat => l + m * (i : Int)) ⟨?_, (mem l).mpr ⟨by omega, by omega, by rw [Int.sub_self]; exact Int.dvd_zero _⟩, (mem h).mpr ⟨by omega, by omega, ⟨q, hq⟩⟩, fun x hx => ⟨((mem x).mp hx).1, ((mem x).mp hx).2.1⟩, .inr ⟨m1, l1, ⟨q, hq⟩, mem⟩⟩ er (fun x hx => (mem x).mpr ⟨hx.1, hx.2.1, ?_⟩)
    · rw [List.pairwise_map]
      refine List.pairwise_lt_range.imp fun {i j} hij => ?_
      have := Int.mul_lt_mul_of_pos_left (show (i : Int) < (j : Int) by omega) (show 0 < m by omega)
      omega
    · have x1 := hx.2.2.2 (by omega)
      have d1 := @dvd_mod l m
      have d2 := @dvd_mod x m
      rw [e1] at d1; rw [x1] at d2
      have := Int.dvd_sub d2 d1
      rwa [show x - r - (l - r) = x - l by omega] at this
/-! what has a result -/
def Has (f : Dt) (v : Int) : Prop := ∃ A B M R, f = vD A B M R ∧ (letsB A B v && hasB M R v) = true
theorem tv_has {C D G : Int} {f g e : Dt} {L : List Int} {A B M R : Int} (t : Tv C D G f g e) (k : Hv g L A B M R) {v : Int} (hv : v ∈ L) : Has f v := by
  obtain ⟨a, b, l1, h1, l2, h2, m, r, e1, e2, e3, t3, o1, o2, o3, sm⟩ := t
  obtain ⟨q1, q2, q3, q4⟩ := vd_inj (e2.symm.trans k.e)
  cases q1; cases q2; subst q3 q4
  have i := k.has v hv
  refine ⟨a, b, m, r, e1, ?_⟩
  unfold letsB hasB
  have w1 : lwB (some v) a = true := by
    cases a with
    | none => rfl
    | some x => obtain ⟨y1, y2, y3, y4⟩ := t3.rl; exact decide_eq_true (by have := i.1; omega)
  have w2 : hwB (some v) b = true := by
    cases b with
    | none => rfl
    | some x => obtain ⟨y1, y2, y3, y4⟩ := t3.rh; exact decide_eq_true (by have := i.2.1; omega)
  rw [w1, w2]
  by_cases z : m = 0
  · rw [if_pos z]; simp [i.2.2.1 z]
  · rw [if_neg z]; simp [i.2.2.2 z]
theorem near_in {C a b m r l1 h1 l2 h2} (t : T3 C E8 a b l1 h1 l2 h2) {x : Int} (h : (letsB a b x && hasB m r x) = true) (bx : -(10 ^ 8) ≤ x ∧ x ≤ 10 ^ 8) : inQ l1 h1 m r x := by
  unfold letsB hasB at h
  simp only [Bool.and_eq_true] at h
  obtain ⟨⟨w1, w2⟩, w3⟩ := h
  refine ⟨?_, ?_, fun z => ?_, fun z => ?_⟩
  · cases a with
    | none => have := t.rl.1; unfold E8 at this; omega
    | some y => have := of_decide_eq_true w1; have := t.rl.1; omega
  · cases b with
    | none => have := t.rh.1; unfold E8 at this; omega
    | some y => have := of_decide_eq_true w2; have := t.rh.1; omega
  · rw [if_pos z] at w3; exact of_decide_eq_true w3
  · rw [if_neg z] at w3; exact of_decide_eq_true w3
/-! spans, one word after another -/
section
variable {a b c d : Option Int} {l1 h1 l2 h2 k1 j1 k2 j2 m r n s : Int}
def Sp3 (w : Wd) (a b c d : Option Int) (l1 h1 l2 h2 k1 j1 k2 j2 : Int) : Prop := ∃ A B x1 y1 x2 y2, spanF w a b c d = some (A, B) ∧ spanF w (some l1) (some h1) (some k1) (some j1) = some (some x1, some y1) ∧ spanF w (some l2) (some h2) (some k2) (some j2) = some (some x2, some y2) ∧ T3 10000 F6 A B x1 y1 x2 y2
theorem sp_asm {w : Wd} (hw : w ≠ .div ∧ w ≠ .mod) (h : T3 100 E8 a b l1 h1 l2 h2) (k : T3 100 E8 c d k1 j1 k2 j2) : Sp3 w a b c d l1 h1 l2 h2 k1 j1 k2 j2 := by
  cases w with
  | add => exact ⟨_, _, _, _, _, _, rfl, rfl, rfl, sp_add h k⟩
  | sub => exact ⟨_, _, _, _, _, _, rfl, rfl, rfl, sp_sub h k⟩
  | mul => exact ⟨_, _, _, _, _, _, rfl, by show some (mulL _ _ _ _, mulH _ _ _ _) = _; rw [mul_s.1, mul_s.2], by show some (mulL _ _ _ _, mulH _ _ _ _) = _; rw [mul_s.1, mul_s.2], sp_mul h k⟩
  | div => exact absurd rfl hw.1
  | mod => exact absurd rfl hw.2
def Sd (c d : Option Int) (k1 j1 k2 j2 : Int) : Prop := (∃ p, c = some p ∧ 1 ≤ p ∧ p ≤ 100 ∧ k1 = p ∧ k2 = p ∧ p ≤ j1 ∧ p ≤ j2 ∧ ∀ y, d = some y → p ≤ y) ∨
  (∃ y, d = some y ∧ y ≤ -1 ∧ -100 ≤ y ∧ j1 = y ∧ j2 = y ∧ k1 ≤ y ∧ k2 ≤ y ∧ ∀ x, c = some x → x ≤ y)
theorem side_p {p : Int} (p1 : 1 ≤ p) (q : ∀ y, d = some y → p ≤ y) : divS a b (some p) d = some (quoL a p d, quoH b p d) ∧ modS a b (some p) d = some ((remB a b p d).1, (remB a b p d).2) := by
  have e1 : pos d = true := by
    cases d with
    | none => rfl
    | some y => exact decide_eq_true (by have := q y rfl; omega)
  have e2 : pos (negB (some p)) = false := decide_eq_false (show ¬ 1 ≤ -p by omega)
  have e3 : fstP (some p) = p := by show (if 1 > p then 1 else p) = _; rw [if_neg (by omega)]
  unfold divS divL divH modS modL modH
  rw [e1, e2, e3]
  exact ⟨rfl, rfl⟩
theorem side_n {y : Int} (y1 : y ≤ -1) (q : ∀ x, c = some x → x ≤ y) : divS a b c (some y) = some (quoL (negB b) (-y) (negB c), quoH (negB a) (-y) (negB c)) ∧ modS a b c (some y) = some (negB (remB (negB b) (negB a) (-y) (negB c)).2, negB (remB (negB b) (negB a) (-y) (negB c)).1) := by
  have e1 : pos (some y) = false := decide_eq_false (show ¬ 1 ≤ y by omega)
  have e2 : pos (negB c) = true := by
    cases c with
    | none => rfl
    | some x => exact decide_eq_true (show 1 ≤ -x by have := q x rfl; omega)
  have e3 : fstP (negB (some y)) = -y := by show (if 1 > -y then 1 else -y) = _; rw [if_neg (by omega)]
  unfold divS divL divH modS modL modH
  rw [e1, e2, e3]
  exact ⟨rfl, rfl⟩
theorem sp_side {w : Wd} (hw : w = .div ∨ w = .mod) (h : T3 100 E8 a b l1 h1 l2 h2) (k : T3 100 E8 c d k1 j1 k2 j2) (q : Sd c d k1 j1 k2 j2) : Sp3 w a b c d l1 h1 l2 h2 k1 j1 k2 j2 := by
  rcases q with ⟨p, rfl, p1, p2, rfl, rfl, q1, q2, q3⟩ | ⟨y, rfl, y1, y2, e1, e2, q1, q2, q3⟩
  · have f0 := fun a b => side_p (a := a) (b := b) p1 q3
    have f1 := fun a b => side_p (a := a) (b := b) (d := some j1) p1 (fun y e => by cases e; exact q1)
    have f2 := fun a b => side_p (a := a) (b := b) (d := some j2) p1 (fun y e => by cases e; exact q2)
    rcases hw with rfl | rfl
    · exact ⟨_, _, _, _, _, _, (f0 a b).1, (f1 (some l1) (some h1)).1, (f2 (some l2) (some h2)).1, quo_t h k.rh (fun y e => by have := q3 y e; omega) p1 p2⟩
    · exact ⟨_, _, _, _, _, _, (f0 a b).2, (f1 (some l1) (some h1)).2.trans (by rw [rem_is]), (f2 (some l2) (some h2)).2.trans (by rw [rem_is]), rem_t h k.rh p1 p2 q3⟩
  · subst e1; subst e2
    have f0 := fun a b => side_n (a := a) (b := b) y1 q3
    have f1 := fun a b => side_n (a := a) (b := b) (c := some k1) y1 (fun y e => by cases e; exact q1)
    have f2 := fun a b => side_n (a := a) (b := b) (c := some k2) y1 (fun y e => by cases e; exact q2)
    have hn := h.neg
    have kn := rl_neg k.rl
    have kq : ∀ x, negB c = some x → -j2 ≤ x := fun x e => by
      cases c with
      | none => cases e
      | some z => have e' : -z = x := Option.some.inj e; have := q3 z rfl; omega
    rcases hw with rfl | rfl
    · exact ⟨_, _, _, _, _, _, (f0 a b).1, (f1 (some l1) (some h1)).1, (f2 (some l2) (some h2)).1, quo_t hn kn (fun y e => by have := kq y e; omega) (by omega) (by omega)⟩
    · refine ⟨_, _, -(remI (-h1) (-l1) (-j2) (-k1)).2, -(remI (-h1) (-l1) (-j2) (-k1)).1, -(remI (-h2) (-l2) (-j2) (-k2)).2, -(remI (-h2) (-l2) (-j2) (-k2)).1, (f0 a b).2, (f1 (some l1) (some h1)).2.trans ?_, (f2 (some l2) (some h2)).2.trans ?_, (rem_t hn kn (by omega) (by omega) kq).neg⟩
      · show some (negB (remB (some (-h1)) (some (-l1)) (-j2) (some (-k1))).2, negB (remB (some (-h1)) (some (-l1)) (-j2) (some (-k1))).1) = _
        rw [rem_is]; rfl
      · show some (negB (remB (some (-h2)) (some (-l2)) (-j2) (some (-k2))).2, negB (remB (some (-h2)) (some (-l2)) (-j2) (some (-k2))).1) = _
        rw [rem_is]; rfl
theorem ap_tv {w : Wd} (sp : Sp3 w a b c d l1 h1 l2 h2 k1 j1 k2 j2) (hs : Sm 100 m r) (ks : Sm 100 n s) (nz : (w = .div ∨ w = .mod) → n = 0 → s ≠ 0) :
    (apD w a b m r c d n s = .non ∧ apD w (some l1) (some h1) m r (some k1) (some j1) n s = .non ∧ apD w (some l2) (some h2) m r (some k2) (some j2) n s = .non) ∨
    Tv 20000 (F6 - 20000) 20000 (apD w a b m r c d n s) (apD w (some l1) (some h1) m r (some k1) (some j1) n s) (apD w (some l2) (some h2) m r (some k2) (some j2) n s) := by
  obtain ⟨A, B, x1, y1, x2, y2, e1, e2, e3, t⟩ := sp
  obtain ⟨M, R, e4, sm⟩ := rest_sm (w := w) hs ks nz
  unfold apD
  rw [e1, e2, e3, e4]
  have sn : Sn 10000 10000 M R := by
    rcases sm with ⟨q1, q2, q3⟩ | q
    · exact .inl ⟨q1, by omega, by omega, by decide⟩
    · exact .inr q
  exact norm t sn (by decide) (by decide)
end
end Sh
set_option Elab.async false
set_option linter.all false
set_option maxRecDepth 100000
set_option maxHeartbeats 4000000
namespace Sh
open PySem PySem.Spec PyProof.Rows L2
/-- a value and both cuts of it -/
structure Cut (a b : Option Int) (m r : Int) (X1 X2 : List Int) : Prop where
  s1 : SetOk X1
  s2 : SetOk X2
  m1 : df X1 = m
  r1 : rr (hd X1) (df X1) = r
  m2 : df X2 = m
  r2 : rr (hd X2) (df X2) = r
  t : T3 100 E8 a b (hd X1) (ls X1) (hd X2) (ls X2)
  ok : Ok a b m r
  sm : Sm 100 m r
structure Cut6 (a b : Option Int) (m r : Int) (X1 X2 : List Int) : Prop where
  c : Cut a b m r X1 X2
  t6 : T3 61 900000000 a b (hd X1) (ls X1) (hd X2) (ls X2)
  m6 : m ≤ 6
theorem Tv.mono {C D G C' D' G' : Int} {d e f : Dt} (h1 : C ≤ C') (h2 : D' ≤ D) (h3 : G ≤ G') (h : Tv C D G d e f) : Tv C' D' G' d e f := by
  obtain ⟨a, b, l1, h1', l2, h2', M, R, e1, e2, e3, t, o, o1, o2, s⟩ := h
  refine ⟨a, b, l1, h1', l2, h2', M, R, e1, e2, e3, t.mono h1 h2, o, o1, o2, ?_⟩
  rcases s with ⟨s1, s2, s3⟩ | ⟨s1, s2, s3, s4⟩
  · exact .inl ⟨s1, by omega, by omega⟩
  · exact .inr ⟨s1, by omega, s3, s4⟩
section
variable {a b c d : Option Int} {m r n s : Int} {X1 X2 Y1 Y2 : List Int}
theorem Cut.vq (z : Cut a b m r X1 X2) : Vq a b m r := by
  refine ⟨⟨fun x e => ?_, fun x e => ?_, fun x y e f => ok_le z.ok e f⟩, ?_⟩
  · subst e; obtain ⟨e1, e2, e3, e4⟩ := z.t.rl; unfold bgI; omega
  · subst e; obtain ⟨e1, e2, e3, e4⟩ := z.t.rh; unfold bgI; omega
  · rcases z.sm with ⟨q1, q2, q3⟩ | ⟨q1, q2, q3, q4⟩
    · exact .inl ⟨q1, by unfold bgI; omega⟩
    · exact .inr ⟨q1, by omega, q3, q4⟩
theorem Cut.op (z : Cut a b m r X1 X2) (y : Cut c d n s Y1 Y2) (w : Wd) : opV w X1 Y1 = apD w (some (hd X1)) (some (ls X1)) m r (some (hd Y1)) (some (ls Y1)) n s ∧ opV w X2 Y2 = apD w (some (hd X2)) (some (ls X2)) m r (some (hd Y2)) (some (ls Y2)) n s := by
  unfold opV
  rw [z.m1, y.m1, z.m2, y.m2]
  have := z.r1; have := z.r2; have := y.r1; have := y.r2
  rw [z.m1] at *; rw [z.m2] at *; rw [y.m1] at *; rw [y.m2] at *
  simp_all
theorem ap3 {w : Wd} (z : Cut a b m r X1 X2) (y : Cut c d n s Y1 Y2) (sp : Sp3 w a b c d (hd X1) (ls X1) (hd X2) (ls X2) (hd Y1) (ls Y1) (hd Y2) (ls Y2)) (nz : (w = .div ∨ w = .mod) → n = 0 → s ≠ 0) {L : List Int} {A B M R : Int} (hv : Hv (opV w X1 Y1) L A B M R) :
    Tv 20000 (F6 - 20000) 20000 (apD w a b m r c d n s) (opV w X1 Y1) (opV w X2 Y2) := by
  have o := z.op y w
  rcases ap_tv sp z.sm y.sm nz with ⟨_, q, _⟩ | q
  · have := hv.e
    rw [o.1, q] at this
    cases this
  · rw [o.1, o.2]; exact q
/-- divisors on one side -/
theorem side3 {w : Wd} (hw : w = .div ∨ w = .mod) (z : Cut a b m r X1 X2) (y : Cut c d n s Y1 Y2) (q : Sd c d (hd Y1) (ls Y1) (hd Y2) (ls Y2)) :
    (∃ A B M R, Hv (opV w X1 Y1) (resL (opW w) X1 Y1) A B M R ∧ Vd M R) ∧ Tv 20000 (F6 - 20000) 20000 (apD w a b m r c d n s) (opV w X1 Y1) (opV w X2 Y2) := by
  have one : 1 ≤ hd Y1 ∨ ls Y1 ≤ -1 := by
    rcases q with ⟨p, e, p1, p2, k1, k2, q1, q2, q3⟩ | ⟨v, e, y1, y2, j1, j2, q1, q2, q3⟩
    · exact .inl (by omega)
    · exact .inr (by omega)
  obtain ⟨A, B, M, R, hv, vd⟩ := hv_side hw z.s1 y.s1 one
  refine ⟨⟨A, B, M, R, hv, vd⟩, ap3 z y (sp_side hw z.t y.t q) (fun _ n0 s0 => ?_) hv⟩
  rcases y.ok.h with ⟨_, o1, o2⟩ | ⟨o1, _⟩
  · rcases q with ⟨p, e, p1, _⟩ | ⟨v, e, y1, _⟩
    · rw [o1] at e; cases e; omega
    · rw [o2] at e; cases e; omega
  · omega
theorem Cut6.sn (z : Cut6 a b m r X1 X2) : Sn 61 6 m r := by
  rcases z.c.ok.h with ⟨e, f, g⟩ | ⟨m1, r0, r1, _⟩
  · subst f
    obtain ⟨e1, e2, e3, e4⟩ := z.t6.rl
    exact .inl ⟨e, by omega, by omega, by decide⟩
  · exact .inr ⟨m1, z.m6, r0, r1⟩
def PP (a b : Option Int) (m r : Int) : Dt := voD (lowM a (some 1)) (highM b none) m r
def NN (a b : Option Int) (m r : Int) : Dt := voD (lowM a none) (highM b (some (-1))) m r
def Prt (P P1 P2 : Dt) (Z1 Z2 : List Int) : Prop := (Z1 = [] ∧ P = .non ∧ P1 = .non ∧ P2 = .non) ∨ (∃ A B M R, Cut A B M R Z1 Z2 ∧ P = vD A B M R ∧ P1 = vX Z1 ∧ P2 = vX Z2 ∧ Sd A B (hd Z1) (ls Z1) (hd Z2) (ls Z2))
theorem cut_of {P : Dt} {Z1 Z2 : List Int} (s1 : SetOk Z1) (s2 : SetOk Z2) (t : Tv 67 (900000000 - 2 * 6) 67 P (vX Z1) (vX Z2)) : ∃ A B M R, P = vD A B M R ∧ Cut A B M R Z1 Z2 := by
  obtain ⟨A, B, l1, h1, l2, h2, M, R, e1, e2, e3, t3, o, o1, o2, sm⟩ := t
  obtain ⟨q1, q2, q3, q4⟩ := vd_inj e2
  obtain ⟨u1, u2, u3, u4⟩ := vd_inj e3
  have q1 := Option.some.inj q1; have q2 := Option.some.inj q2; have u1 := Option.some.inj u1; have u2 := Option.some.inj u2
  refine ⟨A, B, M, R, e1, s1, s2, q3, q4, u3, u4, ?_, o, ?_⟩
  · rw [q1, q2, u1, u2]; exact t3.mono (by decide) (by decide)
  · rcases sm with ⟨s1, s2, s3⟩ | ⟨s1, s2, s3, s4⟩
    · exact .inl ⟨s1, by omega, by omega⟩
    · exact .inr ⟨s1, by omega, s3, s4⟩
theorem raw_p (z : Cut6 a b m r X1 X2) : T3 61 900000000 (lowM a (some 1)) (highM b none) (if 1 > hd X1 then 1 else hd X1) (ls X1) (if 1 > hd X2 then 1 else hd X2) (ls X2) := by
  constructor
  · cases a with
    | none =>
      obtain ⟨e1, e2⟩ := z.t6.rl
      show (if 1 > hd X1 then 1 else hd X1) = 1 ∧ (if 1 > hd X2 then 1 else hd X2) = 1 ∧ -61 ≤ (1 : Int) ∧ (1 : Int) ≤ 61
      rw [if_pos (by omega), if_pos (by omega)]; decide
    | some x =>
      obtain ⟨e1, e2, e3, e4⟩ := z.t6.rl
      show (if 1 > hd X1 then 1 else hd X1) = (if 1 > x then 1 else x) ∧ (if 1 > hd X2 then 1 else hd X2) = (if 1 > x then 1 else x) ∧ -61 ≤ (if 1 > x then 1 else x) ∧ (if 1 > x then 1 else x) ≤ 61
      rw [e1, e2]
      refine ⟨rfl, rfl, ?_, ?_⟩ <;> split <;> omega
  · cases b with
    | none => exact z.t6.rh
    | some y => exact z.t6.rh
theorem raw_n (z : Cut6 a b m r X1 X2) : T3 61 900000000 (lowM a none) (highM b (some (-1))) (hd X1) (if -1 < ls X1 then -1 else ls X1) (hd X2) (if -1 < ls X2 then -1 else ls X2) := by
  constructor
  · cases a with
    | none => exact z.t6.rl
    | some y => exact z.t6.rl
  · cases b with
    | none =>
      obtain ⟨e1, e2⟩ := z.t6.rh
      show (if -1 < ls X1 then -1 else ls X1) = -1 ∧ (if -1 < ls X2 then -1 else ls X2) = -1 ∧ -61 ≤ (-1 : Int) ∧ (-1 : Int) ≤ 61
      rw [if_pos (by omega), if_pos (by omega)]; decide
    | some x =>
      obtain ⟨e1, e2, e3, e4⟩ := z.t6.rh
      show (if -1 < ls X1 then -1 else ls X1) = (if -1 < x then -1 else x) ∧ (if -1 < ls X2 then -1 else ls X2) = (if -1 < x then -1 else x) ∧ -61 ≤ (if -1 < x then -1 else x) ∧ (if -1 < x then -1 else x) ≤ 61
      rw [e1, e2]
      refine ⟨rfl, rfl, ?_, ?_⟩ <;> split <;> omega
theorem part_p (z : Cut6 a b m r X1 X2) : Prt (PP a b m r) (PP (some (hd X1)) (some (ls X1)) m r) (PP (some (hd X2)) (some (ls X2)) m r) (pL X1) (pL X2) := by
  have n := norm (raw_p z) z.sn (by decide) (by decide)
  have p1 := part_pos z.c.s1
  have p2 := part_pos z.c.s2
  have e1 := z.c.r1; have e2 := z.c.r2
  rw [e1, z.c.m1] at p1
  rw [e2, z.c.m2] at p2
  rcases n with ⟨n1, n2, n3⟩ | n
  · rcases p1 with ⟨p, q⟩ | ⟨_, _, _, p⟩
    · exact .inl ⟨p, n1, n2, n3⟩
    · have := p.symm.trans n2; cases this
  · rcases p1 with ⟨p, q⟩ | ⟨_, s1, g1, p⟩
    · obtain ⟨_, _, _, _, _, _, _, _, _, e, _⟩ := n
      have := e.symm.trans q; cases this
    · rcases p2 with ⟨p', q'⟩ | ⟨_, s2, g2, p'⟩
      · obtain ⟨_, _, _, _, _, _, _, _, _, _, e, _⟩ := n
        have := e.symm.trans q'; cases this
      · have n' : Tv 67 (900000000 - 2 * 6) 67 (PP a b m r) (vX (pL X1)) (vX (pL X2)) := by
          rw [← p, ← p']; exact n
        obtain ⟨A, B, M, R, e, k⟩ := cut_of s1 s2 n'
        refine .inr ⟨A, B, M, R, k, e, p, p', .inl ?_⟩
        cases A with
        | none => have := k.t.rl.1; unfold E8 at this; omega
        | some x =>
          obtain ⟨w1, w2, w3, w4⟩ := k.t.rl
          have := s1.sv.le; have := s2.sv.le
          exact ⟨x, rfl, by omega, w4, w1, w2, by omega, by omega, fun y f => ok_le k.ok rfl f⟩
theorem part_n (z : Cut6 a b m r X1 X2) : Prt (NN a b m r) (NN (some (hd X1)) (some (ls X1)) m r) (NN (some (hd X2)) (some (ls X2)) m r) (nL X1) (nL X2) := by
  have n := norm (raw_n z) z.sn (by decide) (by decide)
  have p1 := part_neg' z.c.s1
  have p2 := part_neg' z.c.s2
  have e1 := z.c.r1; have e2 := z.c.r2
  rw [e1, z.c.m1] at p1
  rw [e2, z.c.m2] at p2
  rcases n with ⟨n1, n2, n3⟩ | n
  · rcases p1 with ⟨p, q⟩ | ⟨_, _, _, p⟩
    · exact .inl ⟨p, n1, n2, n3⟩
    · have := p.symm.trans n2; cases this
  · rcases p1 with ⟨p, q⟩ | ⟨_, s1, g1, p⟩
    · obtain ⟨_, _, _, _, _, _, _, _, _, e, _⟩ := n
      have := e.symm.trans q; cases this
    · rcases p2 with ⟨p', q'⟩ | ⟨_, s2, g2, p'⟩
      · obtain ⟨_, _, _, _, _, _, _, _, _, _, e, _⟩ := n
        have := e.symm.trans q'; cases this
      · have n' : Tv 67 (900000000 - 2 * 6) 67 (NN a b m r) (vX (nL X1)) (vX (nL X2)) := by
          rw [← p, ← p']; exact n
        obtain ⟨A, B, M, R, e, k⟩ := cut_of s1 s2 n'
        refine .inr ⟨A, B, M, R, k, e, p, p', .inr ?_⟩
        cases B with
        | none => have := k.t.rh.1; unfold E8 at this; omega
        | some x =>
          obtain ⟨w1, w2, w3, w4⟩ := k.t.rh
          have := s1.sv.le; have := s2.sv.le
          exact ⟨x, rfl, by omega, w3, w1, w2, by omega, by omega, fun y f => ok_le k.ok f rfl⟩
/-! joins -/
theorem jn3 {d0 d1 d2 e0 e1 e2 : Dt} {L N : List Int} {A B M R A' B' M' R' : Int} (h : Tv 20000 (F6 - 20000) 20000 d0 d1 d2) (k : Tv 20000 (F6 - 20000) 20000 e0 e1 e2) (hv : Hv d1 L A B M R) (hw : Hv e1 N A' B' M' R') :
    ∃ a b m r c d n s l1 h1 k1 j1 l2 h2 k2 j2, d0 = vD a b m r ∧ e0 = vD c d n s ∧ d1 = vD (some l1) (some h1) m r ∧ e1 = vD (some k1) (some j1) n s ∧ d2 = vD (some l2) (some h2) m r ∧ e2 = vD (some k2) (some j2) n s ∧ Vd m r ∧ Vd n s ∧
      Tv 60000 4000000 60000 (jnD a b m r c d n s) (jnD (some l1) (some h1) m r (some k1) (some j1) n s) (jnD (some l2) (some h2) m r (some k2) (some j2) n s) ∧
      ∃ A2 B2 M2 R2, Hv (jnD (some l1) (some h1) m r (some k1) (some j1) n s) (L ++ N) A2 B2 M2 R2 := by
  obtain ⟨a, b, l1, h1, l2, h2, m, r, q1, q2, q3, t, o, o1, o2, sm⟩ := h
  obtain ⟨c, d, k1, j1, k2, j2, n, s, u1, u2, u3, t', o', o1', o2', sm'⟩ := k
  have vd : ∀ {m r : Int}, Sm 20000 m r → Vd m r := fun sm => by
    rcases sm with ⟨q1, q2, q3⟩ | ⟨q1, q2, q3, q4⟩
    · exact .inl ⟨q1, by unfold bgI; omega⟩
    · exact .inr ⟨q1, by omega, q3, q4⟩
  obtain ⟨v1, v2, v3, v4⟩ := vd_inj (q2.symm.trans hv.e)
  obtain ⟨v5, v6, v7, v8⟩ := vd_inj (u2.symm.trans hw.e)
  have v1 := Option.some.inj v1; have v2 := Option.some.inj v2; have v5 := Option.some.inj v5; have v6 := Option.some.inj v6
  subst v1; subst v2; subst v5; subst v6; subst v3; subst v4; subst v7; subst v8
  obtain ⟨M2, R2, w1, w2, w3⟩ := jn_hv hv hw
  have raw : T3 20000 (F6 - 20000) (lowJ a c) (highJ b d) (if k1 < l1 then k1 else l1) (if j1 > h1 then j1 else h1) (if k2 < l2 then k2 else l2) (if j2 > h2 then j2 else h2) := by
    obtain ⟨x1, x2⟩ := t
    obtain ⟨y1, y2⟩ := t'
    constructor
    · cases a <;> cases c <;> simp only [RL, lowJ, F6] at * <;> (repeat' split) <;> omega
    · cases b <;> cases d <;> simp only [RH, highJ, F6] at * <;> (repeat' split) <;> omega
  have b1 := sm.b; have b2 := sm'.b
  have g := g3_le (x := m) (y := n) (z := r - s) (G := 40000) (by omega) (by omega) (by omega)
  have sr := sm_rest (g := g3 m n (r - s)) (x := r) (G := 40000) (g3_nn _ _ _) g (by omega)
  have sn : Sn 20000 40000 (restO (g3 m n (r - s)) r).1 (restO (g3 m n (r - s)) r).2 := by
    rcases sr with ⟨q1, q2, q3⟩ | q
    · exact .inl ⟨q1, by omega, by omega, by decide⟩
    · exact .inr q
  refine ⟨a, b, m, r, c, d, n, s, l1, h1, k1, j1, l2, h2, k2, j2, q1, u1, q2, u2, q3, u3, vd sm, vd sm', ?_, _, _, M2, R2, w1, w2, fun v hv => w3 v (List.mem_append.mp hv)⟩
  rcases norm raw sn (by decide) (by decide) with ⟨_, q, _⟩ | q
  · have : jnD (some l1) (some h1) m r (some k1) (some j1) n s = .non := q
    rw [w1] at this; cases this
  · exact Tv.mono (by decide) (by decide) (by decide) q
/-! all words -/
def VaP (w : Wd) (a b : Option Int) (m r : Int) (c d : Option Int) (n s : Int) (res : Dt) : Prop := match w with
  | .div | .mod => Two (apD w a b m r) (voD (lowM c (some 1)) (highM d none) n s) (voD (lowM c none) (highM d (some (-1))) n s) res
  | _ => res = apD w a b m r c d n s
def All3 (w : Wd) (a b : Option Int) (m r : Int) (c d : Option Int) (n s : Int) (X1 X2 Y1 Y2 : List Int) : Prop :=
  ∃ f g v, VaP w a b m r c d n s f ∧ VaP w (some (hd X1)) (some (ls X1)) m r (some (hd Y1)) (some (ls Y1)) n s g ∧ VaP w (some (hd X2)) (some (ls X2)) m r (some (hd Y2)) (some (ls Y2)) n s v ∧
    ((f = .non ∧ g = .non ∧ v = .non) ∨ (Tv 60000 4000000 60000 f g v ∧ ∀ x y, x ∈ X1 → y ∈ Y1 → ((w = .div ∨ w = .mod) → y ≠ 0) → Has f (opW w x y)))
theorem all_two {w : Wd} (hw : w = .div ∨ w = .mod) (z : Cut6 a b m r X1 X2) (y : Cut6 c d n s Y1 Y2) : All3 w a b m r c d n s X1 X2 Y1 Y2 := by
  have two : ∀ a b c d : Option Int, ∀ res, Two (apD w a b m r) (PP c d n s) (NN c d n s) res → VaP w a b m r c d n s res := fun a b c d res h => by
    rcases hw with rfl | rfl <;> exact h
  have my : ∀ x v, x ∈ X1 → v ∈ Y1 → v ≠ 0 → opW w x v ∈ resL (opW w) X1 (pL Y1) ∨ opW w x v ∈ resL (opW w) X1 (nL Y1) := fun x v hx hv v0 => by
    by_cases p : 1 ≤ v
    · exact .inl (res_mem.mpr ⟨x, hx, v, List.mem_filter.mpr ⟨hv, decide_eq_true p⟩, rfl⟩)
    · exact .inr (res_mem.mpr ⟨x, hx, v, List.mem_filter.mpr ⟨hv, decide_eq_true (by omega)⟩, rfl⟩)
  rcases part_p y with ⟨p0, p1, p2, p3⟩ | ⟨A, B, M, R, k, p1, p2, p3, sd⟩
  · rcases part_n y with ⟨q0, q1, q2, q3⟩ | ⟨A', B', M', R', k', q1, q2, q3, sd'⟩
    · exact ⟨.non, .non, .non, two _ _ _ _ _ (.inl ⟨p1, q1, rfl⟩), two _ _ _ _ _ (.inl ⟨p2, q2, rfl⟩), two _ _ _ _ _ (.inl ⟨p3, q3, rfl⟩), .inl ⟨rfl, rfl, rfl⟩⟩
    · obtain ⟨⟨a2, b2, m2, r2, hv, vd⟩, t⟩ := side3 hw z.c k' sd'
      have ho := z.c.op k' w
      have t' := t
      obtain ⟨x0, x1, x2, x3, x4, x5, x6, x7, f1, f2, f3, _⟩ := t'
      refine ⟨_, opV w X1 (nL Y1), opV w X2 (nL Y2), two _ _ _ _ _ (.inr (.inr (.inl ⟨_, _, _, _, _, _, _, _, p1, q1, k'.vq, f1, f1⟩))), two _ _ _ _ _ (.inr (.inr (.inl ⟨_, _, _, _, _, _, _, _, p2, q2, k'.s1.vq, ?_, f2⟩))), two _ _ _ _ _ (.inr (.inr (.inl ⟨_, _, _, _, _, _, _, _, p3, q3, k'.s2.vq, ?_, f3⟩))), .inr ⟨t.mono (by decide) (by decide) (by decide), fun x v hx hv' v0 => ?_⟩⟩
      · rw [k'.m1, ← k'.m1, k'.r1, k'.m1, ← ho.1]; exact f2
      · rw [k'.m2, ← k'.m2, k'.r2, k'.m2, ← ho.2]; exact f3
      · rcases my x v hx hv' (v0 hw) with h | h
        · rw [p0] at h; exact (res_nil h).elim
        · exact tv_has t hv h
  · obtain ⟨⟨a2, b2, m2, r2, hv, vd⟩, t⟩ := side3 hw z.c k sd
    have ho := z.c.op k w
    have t' := t
    obtain ⟨x0, x1, x2, x3, x4, x5, x6, x7, f1, f2, f3, _⟩ := t'
    rcases part_n y with ⟨q0, q1, q2, q3⟩ | ⟨A', B', M', R', k', q1, q2, q3, sd'⟩
    · refine ⟨_, opV w X1 (pL Y1), opV w X2 (pL Y2), two _ _ _ _ _ (.inr (.inl ⟨_, _, _, _, _, _, _, _, p1, k.vq, q1, f1, f1⟩)), two _ _ _ _ _ (.inr (.inl ⟨_, _, _, _, _, _, _, _, p2, k.s1.vq, q2, ?_, f2⟩)), two _ _ _ _ _ (.inr (.inl ⟨_, _, _, _, _, _, _, _, p3, k.s2.vq, q3, ?_, f3⟩)), .inr ⟨t.mono (by decide) (by decide) (by decide), fun x v hx hv' v0 => ?_⟩⟩
      · rw [k.m1, ← k.m1, k.r1, k.m1, ← ho.1]; exact f2
      · rw [k.m2, ← k.m2, k.r2, k.m2, ← ho.2]; exact f3
      · rcases my x v hx hv' (v0 hw) with h | h
        · exact tv_has t hv h
        · rw [q0] at h; exact (res_nil h).elim
    · obtain ⟨⟨a3, b3, m3, r3, hv', vd'⟩, t2⟩ := side3 hw z.c k' sd'
      have ho' := z.c.op k' w
      obtain ⟨a, b, m, r, c, d, n, s, l1, h1, k1, j1, l2, h2, k2, j2, g1, g2, g3, g4, g5, g6, v1, v2, tj, A2, B2, M2, R2, hj⟩ := jn3 t t2 hv hv'
      refine ⟨_, _, _, two _ _ _ _ _ (.inr (.inr (.inr ⟨_, _, _, _, _, _, _, _, _, _, _, _, _, _, _, _, p1, k.vq, q1, k'.vq, g1, g2, v1, v2, rfl⟩))), two _ _ _ _ _ (.inr (.inr (.inr ⟨_, _, _, _, _, _, _, _, _, _, _, _, _, _, _, _, p2, k.s1.vq, q2, k'.s1.vq, ?_, ?_, v1, v2, rfl⟩))), two _ _ _ _ _ (.inr (.inr (.inr ⟨_, _, _, _, _, _, _, _, _, _, _, _, _, _, _, _, p3, k.s2.vq, q3, k'.s2.vq, ?_, ?_, v1, v2, rfl⟩))), .inr ⟨tj, fun x v hx hv' v0 => ?_⟩⟩
      · rw [k.m1, ← k.m1, k.r1, k.m1, ← ho.1]; exact g3
      · rw [k'.m1, ← k'.m1, k'.r1, k'.m1, ← ho'.1]; exact g4
      · rw [k.m2, ← k.m2, k.r2, k.m2, ← ho.2]; exact g5
      · rw [k'.m2, ← k'.m2, k'.r2, k'.m2, ← ho'.2]; exact g6
      · exact tv_has tj hj (List.mem_append.mpr (my x v hx hv' (v0 hw)))
theorem all3 (w : Wd) (z : Cut6 a b m r X1 X2) (y : Cut6 c d n s Y1 Y2) : All3 w a b m r c d n s X1 X2 Y1 Y2 := by
  have asm : ∀ w : Wd, (w ≠ .div ∧ w ≠ .mod) → (∃ A B M R, Hv (opV w X1 Y1) (resL (opW w) X1 Y1) A B M R) → (∀ a b m r c d n s res, res = apD w a b m r c d n s → VaP w a b m r c d n s res) → All3 w a b m r c d n s X1 X2 Y1 Y2 := fun w hw ⟨A, B, M, R, hv⟩ va => by
    have t := ap3 z.c y.c (sp_asm hw z.c.t y.c.t) (fun q => by rcases q with q | q <;> simp_all) hv
    have ho := z.c.op y.c w
    exact ⟨_, _, _, va _ _ _ _ _ _ _ _ _ rfl, va _ _ _ _ _ _ _ _ _ ho.1, va _ _ _ _ _ _ _ _ _ ho.2, .inr ⟨t.mono (by decide) (by decide) (by decide), fun x v hx hv' _ => tv_has t hv (res_mem.mpr ⟨x, hx, v, hv', rfl⟩)⟩⟩
  cases w with
  | add => obtain ⟨A, B, M, R, hv, _⟩ := hv_add z.c.s1 y.c.s1; exact asm .add (by constructor <;> (intro z; cases z)) ⟨A, B, M, R, hv⟩ (fun _ _ _ _ _ _ _ _ _ e => e)
  | sub => obtain ⟨A, B, M, R, hv, _⟩ := hv_sub z.c.s1 y.c.s1; exact asm .sub (by constructor <;> (intro z; cases z)) ⟨A, B, M, R, hv⟩ (fun _ _ _ _ _ _ _ _ _ e => e)
  | mul => obtain ⟨A, B, M, R, hv, _⟩ := hv_mul z.c.s1 y.c.s1; exact asm .mul (by constructor <;> (intro z; cases z)) ⟨A, B, M, R, hv⟩ (fun _ _ _ _ _ _ _ _ _ e => e)
  | div => exact all_two (.inl rfl) z y
  | mod => exact all_two (.inr rfl) z y
end
end Sh
set_option Elab.async false
set_option linter.all false
set_option maxRecDepth 100000
set_option maxHeartbeats 4000000
namespace Sh
open PySem PySem.Spec PyProof.Rows L2
/-- a drawn value -/
structure InV (a b : Option Int) (m r : Int) : Prop where
  ok : Ok a b m r
  lo : ∀ x, a = some x → -55 ≤ x ∧ x ≤ 55
  hi : ∀ x, b = some x → -55 ≤ x ∧ x ≤ 55
  m6 : m ≤ 6
section
variable {b s k : Int} (s1 : 1 ≤ s) (s6 : s ≤ 6) (b0 : -30 ≤ b) (b1 : b ≤ 30) (k0 : 0 ≤ k) (k4 : k ≤ 4)
include s1 s6 b0 b1
theorem fm_self : 0 ≤ b.fmod s ∧ b.fmod s < s := fm_r (by omega)
theorem ov_cn : ∃ a c m r, voD (some b) none s (b.fmod s) = vD a c m r ∧ InV a c m r := by
  have f := fm_self s1 s6 b0 b1
  have k : Ok (some b) none s (b.fmod s) := ⟨.inr ⟨s1, f.1, f.2, (fun x e => by cases e; rfl), (fun x e => by cases e), (fun x y e f => by cases f)⟩⟩
  exact ⟨_, _, _, _, (vo_ok k).1, k, (fun x e => by cases e; omega), (fun x e => by cases e), s6⟩
theorem ov_nn : ∃ a c m r, voD none none s (b.fmod s) = vD a c m r ∧ InV a c m r := by
  have f := fm_self s1 s6 b0 b1
  have k : Ok none none s (b.fmod s) := ⟨.inr ⟨s1, f.1, f.2, (fun x e => by cases e), (fun x e => by cases e), (fun x y e f => by cases f)⟩⟩
  exact ⟨_, _, _, _, (vo_ok k).1, k, (fun x e => by cases e), (fun x e => by cases e), s6⟩
include k0 k4
theorem sk_b : 0 ≤ s * k ∧ s * k ≤ 24 := by
  have a := Int.mul_nonneg (show 0 ≤ s by omega) k0
  have b := Int.mul_le_mul s6 k4 k0 (by decide)
  omega
theorem ov_mod : (b + s * k).fmod s = b.fmod s := mod_eq s1 (by rw [show b + s * k - b = s * k by omega]; exact Int.dvd_mul_right _ _)
theorem ov_nc : ∃ a c m r, voD none (some (b + s * k)) s (b.fmod s) = vD a c m r ∧ InV a c m r := by
  have f := fm_self s1 s6 b0 b1
  have e := ov_mod s1 s6 b0 b1 k0 k4
  have q := sk_b s1 s6 b0 b1 k0 k4
  have k : Ok none (some (b + s * k)) s (b.fmod s) := ⟨.inr ⟨s1, f.1, f.2, (fun x e => by cases e), (fun x h => by cases h; exact e), (fun x y e f => by cases e)⟩⟩
  exact ⟨_, _, _, _, (vo_ok k).1, k, (fun x e => by cases e), (fun x e => by cases e; omega), s6⟩
theorem ov_cc : ∃ a c m r, voD (some b) (some (b + s * k)) s (b.fmod s) = vD a c m r ∧ InV a c m r := by
  have f := fm_self s1 s6 b0 b1
  have e := ov_mod s1 s6 b0 b1 k0 k4
  have q := sk_b s1 s6 b0 b1 k0 k4
  by_cases z : k = 0
  · subst z
    refine ⟨some b, some b, 0, b, ?_, okS b, fun x e => by cases e; omega, fun x e => by cases e; omega, by decide⟩
    rw [Int.mul_zero, Int.add_zero]
    rw [vo_1 (by omega)]
    show (if dnR (b.fmod s) s b ≤ upR (b.fmod s) s b then (if upR (b.fmod s) s b = dnR (b.fmod s) s b then vD (some (upR (b.fmod s) s b)) (some (upR (b.fmod s) s b)) 0 (upR (b.fmod s) s b) else .non) else _) = _
    rw [up_same s1 rfl, dn_same s1 rfl, if_pos (Int.le_refl _), if_pos rfl]
  · have p : 0 < s * k := Int.mul_pos (by omega) (by omega)
    have k : Ok (some b) (some (b + s * k)) s (b.fmod s) := ⟨.inr ⟨s1, f.1, f.2, (fun x e => by cases e; rfl), (fun x h => by cases h; exact e), (fun x y e f => by cases e; cases f; omega)⟩⟩
    exact ⟨_, _, _, _, (vo_ok k).1, k, fun x e => by cases e; omega, fun x e => by cases e; omega, s6⟩
end
def cutL (F : Int) : Option Int → Int
  | none => 0 - F
  | some x => x
def cutH (F : Int) : Option Int → Int
  | none => F
  | some x => x
theorem vo_in {p q m r l h M R : Int} (m0 : m = 0 ∨ 1 ≤ m) (e : voD (some p) (some q) m r = vD (some l) (some h) M R) : p ≤ l ∧ h ≤ q := by
  rcases m0 with rfl | m1
  · have e' : (if (lwB (some r) (some p) && hwB (some r) (some q)) = true then vD (some r) (some r) 0 r else .non) = vD (some l) (some h) M R := e
    by_cases z : (lwB (some r) (some p) && hwB (some r) (some q)) = true
    · rw [if_pos z] at e'
      obtain ⟨e1, e2, _, _⟩ := vd_inj e'
      simp only [Bool.and_eq_true] at z
      have z1 := of_decide_eq_true z.1
      have z2 := of_decide_eq_true z.2
      have e1 := Option.some.inj e1; have e2 := Option.some.inj e2
      omega
    · rw [if_neg z] at e'; cases e'
  · rw [vo_1 (by omega)] at e
    have e' : (if dnR r m q ≤ upR r m p then (if upR r m p = dnR r m q then vD (some (upR r m p)) (some (upR r m p)) 0 (upR r m p) else .non) else vD (some (upR r m p)) (some (dnR r m q)) m r) = vD (some l) (some h) M R := e
    have u := up_b (x := p) (r := r) m1
    have d := dn_b (x := q) (r := r) m1
    by_cases z : dnR r m q ≤ upR r m p
    · rw [if_pos z] at e'
      by_cases z2 : upR r m p = dnR r m q
      · rw [if_pos z2] at e'
        obtain ⟨e1, e2, _, _⟩ := vd_inj e'
        have e1 := Option.some.inj e1; have e2 := Option.some.inj e2
        omega
      · rw [if_neg z2] at e'; cases e'
    · rw [if_neg z] at e'
      obtain ⟨e1, e2, _, _⟩ := vd_inj e'
      have e1 := Option.some.inj e1; have e2 := Option.some.inj e2
      omega
section
variable {a b c d : Option Int} {m r n s : Int}
theorem cut_in (i : InV a b m r) : ∃ X1 X2, Cut6 a b m r X1 X2 ∧ voD (some (cutL 1000000000 a)) (some (cutH 1000000000 b)) m r = vD (some (hd X1)) (some (ls X1)) m r ∧ voD (some (cutL 10000000000 a)) (some (cutH 10000000000 b)) m r = vD (some (hd X2)) (some (ls X2)) m r := by
  have m01 : m = 0 ∨ 1 ≤ m := by rcases i.ok.h with ⟨e, _⟩ | ⟨e, _⟩; exact .inl e; exact .inr e
  have raw : T3 55 1000000000 a b (cutL 1000000000 a) (cutH 1000000000 b) (cutL 10000000000 a) (cutH 10000000000 b) := by
    constructor
    · cases a with
      | none => exact ⟨by decide, by decide⟩
      | some x => have := i.lo x rfl; exact ⟨rfl, rfl, this.1, this.2⟩
    · cases b with
      | none => exact ⟨by decide, by decide⟩
      | some x => have := i.hi x rfl; exact ⟨rfl, rfl, this.1, this.2⟩
  have bl : ∀ F : Int, 0 ≤ F → F ≤ 10000000000 → -(10 ^ 22) ≤ cutL F a ∧ cutH F b ≤ 10 ^ 22 := fun F f0 f1 => by
    constructor
    · cases a with
      | none => show -(10 ^ 22) ≤ 0 - F; omega
      | some x => have := i.lo x rfl; show -(10 ^ 22) ≤ x; omega
    · cases b with
      | none => show F ≤ 10 ^ 22; omega
      | some x => have := i.hi x rfl; show x ≤ 10 ^ 22; omega
  have sn : Sn 55 6 m r := by
    rcases i.ok.h with ⟨e, f, g⟩ | ⟨m1, r0, r1, _⟩
    · have := i.lo r f; exact .inl ⟨e, by omega, by omega, by decide⟩
    · exact .inr ⟨m1, i.m6, r0, r1⟩
  have self := (vo_ok i.ok).1
  rcases norm raw sn (by decide) (by decide) with ⟨q, _⟩ | ⟨A, B, l1, h1, l2, h2, M, R, e1, e2, e3, t, o, o1, o2, sm⟩
  · rw [self] at q; cases q
  · obtain ⟨q1, q2, q3, q4⟩ := vd_inj (self.symm.trans e1)
    subst q1; subst q2; subst q3; subst q4
    have i1 := vo_in m01 e2
    have i2 := vo_in m01 e3
    have b1 := bl 1000000000 (by decide) (by decide)
    have b2 := bl 10000000000 (by decide) (by decide)
    obtain ⟨X1, s1, x1, x2, x3, x4, _⟩ := near_set o1 (by omega) (by omega)
    obtain ⟨X2, s2, y1, y2, y3, y4, _⟩ := near_set o2 (by omega) (by omega)
    subst x1 x2 y1 y2
    refine ⟨X1, X2, ⟨⟨s1, s2, x3, by rw [x3]; exact x4, y3, by rw [y3]; exact y4, t.mono (by decide) (by decide), i.ok, ?_⟩, t.mono (by decide) (by decide), i.m6⟩, e2, e3⟩
    rcases sm with ⟨q1, q2, q3⟩ | ⟨q1, q2, q3, q4⟩
    · exact .inl ⟨q1, by omega, by omega⟩
    · exact .inr ⟨q1, by omega, q3, q4⟩
end
theorem SetOk.all {X : List Int} (s : SetOk X) {x : Int} (h : inQ (hd X) (ls X) (df X) (rr (hd X) (df X)) x) : x ∈ X := by
  obtain ⟨h1, h2, h3, h4⟩ := h
  rcases s.sv.h with ⟨e, f⟩ | ⟨m1, lt, dv, mem⟩
  · have := s.sv.ha
    rwa [show x = hd X by omega]
  · refine (mem x).mpr ⟨h1, h2, ?_⟩
    have e := h4 (by omega)
    unfold rr at e
    rw [if_neg (by omega)] at e
    have d1 := @dvd_mod x (df X)
    have d2 := @dvd_mod (hd X) (df X)
    rw [e] at d1
    have := Int.dvd_sub d1 d2
    rwa [show x - (hd X).fmod (df X) - (hd X - (hd X).fmod (df X)) = x - hd X by omega] at this
def inO (a b : Option Int) (m r x : Int) : Prop := (letsB a b x && hasB m r x) = true ∧ -(10 ^ 8) ≤ x ∧ x ≤ 10 ^ 8
theorem Cut6.mem {a b : Option Int} {m r : Int} {X1 X2 : List Int} (z : Cut6 a b m r X1 X2) {x : Int} (h : inO a b m r x) : x ∈ X1 := by
  refine z.c.s1.all ?_
  have := near_in z.c.t h.1 h.2
  rw [z.c.r1, z.c.m1]; exact this
end Sh
set_option Elab.async false
set_option linter.all false
set_option maxRecDepth 100000
set_option maxHeartbeats 4000000
/-! draws below greater numbers -/
namespace Sh
open PySem PySem.Spec PyProof.Rows L2
section
variable {P : Program} {w : World} {K : PySem.W.Frag} {mg : Str → Option Value} {base : Heap}
theorem fdW_ok {x m : Int} (m0 : 1 ≤ m) (m1 : m ≤ 100000000000000) : CDivW x m := ⟨by omega, (Nat.log2_lt (by omega)).mpr (Nat.lt_of_le_of_lt (show m.natAbs ≤ 100000000000000 by omega) (by decide +kernel))⟩
def spTake2 : Sp := fun vs H Q _ => ∃ (b : Addr) (m y c : Int), vs = [.ref b, .int m] ∧ Bx H b y c ∧ 0 ≤ c ∧ c + 1 < 1000000000000 ∧ 1 ≤ m ∧ m ≤ 10 ^ 14 ∧
  ∀ v c' H', 0 ≤ v → v < m → c ≤ c' → c' ≤ c + 2 → Bx H' b y c' → But b H H' → Q (.int v) H'
theorem ok_take2 {f g : Addr} {fd gd : FuncData} {n : Nat} (F : Fun K "_law_take" "_law_take" sTake f fd) (G : FnOk P w K mg base CX0 n g gd ["_law_box_here", "_law_below"] spTake) (bG : Binds K gd ["_law_box_here", "_law_below"] []) (kG : PySem.W.keepIn K (.ref g) = true)
    (mG : mg "_law_take" = some (.ref g)) : FnOk P w K mg base CX0 (n + 1) f fd ["_law_box_here", "_law_below"] spTake2 := by
  refine F.ok scTake (fun vs H Q E h => ?_) (fun cdv A outer s H vs Q E hr h => ?_)
  · obtain ⟨b, m, y, c, rfl, _⟩ := h
    rfl
  obtain ⟨b, m, y, c, rfl, ⟨x, hB, x0, y0, y1⟩, c0, c1, m0, m1, q⟩ := h
  refine ⟨_, pss_cons (ps_if (pt_cmpR op_gt (pe_ix ix_list (pv 0) pe_int (fun _ _ => rfl)) pe_int (nomark _))
      (pss_cons (ps_set (i := 2) scTake.nd rfl (Or.inl rfl) (pe_op op_modN (pe_ix ix_list (pv 0) pe_int (fun _ _ => rfl)) (pv 1)))
      (pss_cons (ps_asg (pe_op op_fdivW (pe_ix ix_list (pv 0) pe_int (fun _ _ => rfl)) (pv 1)) (pg_sub (pv 0) pe_int set_list))
      (pss_one (ps_ret (pv 2))))) pss_nil)
    (pss_cons (ps_if (pt_cmpR op_gt (pv 1) (pe_op op_pow pe_int pe_int) (nomark _))
      (pss_one (ps_ret (pe_op op_modN (pe_op op_add (pe_call G hr rfl mG kG bG .nil pass0 (pa_cons (pv 0) (pa_cons (pe_op op_pow pe_int pe_int) pa_nil))) (pe_op op_mul (pe_op op_pow pe_int pe_int) (pe_call G hr rfl mG kG bG .nil pass0 (pa_cons (pv 0) (pa_cons (pe_op op_add (pe_op op_fdivN (pe_op op_sub (pv 1) pe_int) (pe_op op_pow pe_int pe_int)) pe_int) pa_nil))))) (pv 1)))) pss_nil)
    (pss_cons (ps_asg (pe_op op_add (pe_ix ix_list (pv 0) pe_int (fun _ _ => rfl)) pe_int) (pg_sub (pv 0) pe_int set_list))
    (pss_cons (ps_set (i := 3) scTake.nd rfl (Or.inl rfl) (pe_op op_modN (pe_op op_mul (pe_op op_add (pe_ix ix_list (pv 0) pe_int (fun _ _ => rfl)) (pe_op op_mul pe_int (pe_ix ix_list (pv 0) pe_int (fun _ _ => rfl)))) (pe_op op_add pe_int (pe_ix ix_list (pv 0) pe_int (fun _ _ => rfl)))) pe_int))
    (pss_cons (ps_set (i := 4) scTake.nd rfl (Or.inl rfl) (pe_op op_modN (pe_op op_mul (pe_op op_add (pe_op op_add (pv 3) (pe_ix ix_list (pv 0) pe_int (fun _ _ => rfl))) (pe_op op_fdivN (pe_ix ix_list (pv 0) pe_int (fun _ _ => rfl)) pe_int)) (pe_op op_add (pe_op op_modN (pv 3) pe_int) pe_int)) pe_int))
    (pss_one (ps_ret (pe_op op_modN (pe_op op_fdivN (pe_op op_modN (pe_op op_add (pe_op op_mul (pv 4) pe_int) (pv 3)) pe_int) pe_int) (pv 1)))))))), ?_⟩
  have e14 : (10 : Int) ^ 14 = 100000000000000 := by decide
  have e7 : (10 : Int) ^ (7 : Int).toNat = 10000000 := by decide
  refine ⟨_, rfl, b, _, _, _, rfl, rfl, SqL.of hB, at_of (j := 0) rfl rfl, _, _, rfl, rfl, _, rfl, ?_⟩
  refine ite2 (fun t => ?_) (fun t => ?_)
  · have t' : x > 0 := of_decide_eq_true t
    refine ⟨_, rfl, b, _, _, _, rfl, rfl, SqL.of hB, at_of (j := 0) rfl rfl, _, rfl, _, _, rfl, rfl, (by omega), ?_⟩
    refine ⟨_, rfl, b, _, _, _, rfl, rfl, SqL.of hB, at_of (j := 0) rfl rfl, _, rfl, _, _, rfl, rfl, ?_, ?_⟩
    · exact fdW_ok (by omega) (by omega)
    refine ⟨_, rfl, b, _, _, 0, rfl, rfl, hB, rfl, _, rfl, ?_⟩
    exact q _ c _ (fm0 (by omega)) (fm1 (by omega)) (by omega) (by omega) (bx_up rfl (Int.ediv_nonneg x0 (by omega)) y0 y1) but_upd
  · refine ⟨_, rfl, _, _, rfl, rfl, ⟨by decide, by decide, by decide⟩, _, _, rfl, rfl, _, rfl, ?_⟩
    refine ite2 (fun t2 => ?_) (fun t2 => ?_)
    · refine ⟨_, rfl, _, _, rfl, rfl, ⟨by decide, by decide, by decide⟩, ?_⟩
      refine ⟨b, _, y, c, rfl, ⟨x, hB, x0, y0, y1⟩, c0, by omega, by decide, by decide, fun v c' H' v0 v1 d0 d1 hB' bt => ?_⟩
      refine ⟨_, _, rfl, rfl, ⟨by decide, by decide, by decide⟩, ?_⟩
      refine ⟨_, rfl, _, rfl, _, _, rfl, rfl, _, _, rfl, rfl, ⟨by decide, by decide, by decide⟩, _, _, rfl, rfl, ⟨by decide, by decide⟩, _, _, rfl, rfl, ?_⟩
      have hq0 : 0 ≤ (m - 1).fdiv (10 ^ (7 : Int).toNat) := fd0 (by omega) (by decide)
      have hq1 : (m - 1).fdiv (10 ^ (7 : Int).toNat) < 10000000 := by
        rw [e7, Int.fdiv_eq_ediv_of_nonneg _ (by decide)]; omega
      refine ⟨b, _, y, c', rfl, hB', by omega, by omega, by omega, by omega, fun v' c'' H'' v0' v1' d0' d1' hB'' bt' => ?_⟩
      refine ⟨_, _, rfl, rfl, .inl ⟨by decide, by decide⟩, _, _, rfl, rfl, _, rfl, _, _, rfl, rfl, (by omega), ?_⟩
      exact q _ c'' _ (fm0 (by omega)) (fm1 (by omega)) (by omega) (by omega) hB'' (bt.trans bt')
    · have t3 : ¬ m > 10 ^ (7 : Int).toNat := fun z => t2 (decide_eq_true z)
      rw [e7] at t3
      have hB1 : (upd H b (.lst [.int x, .int y, .int (c + 1)])) b = some (.lst [.int x, .int y, .int (c + 1)]) := upd_same
      refine ⟨_, rfl, b, _, _, _, rfl, rfl, SqL.of hB, at_of (j := 2) rfl rfl, _, _, rfl, rfl, _, rfl, b, _, _, 2, rfl, rfl, hB, rfl, ?_⟩
      refine ⟨_, rfl, b, _, _, _, rfl, rfl, SqL.of hB1, at_of (j := 1) rfl rfl, _, rfl, b, _, _, _, rfl, rfl, SqL.of hB1, at_of (j := 2) rfl rfl, _, _, rfl, rfl, .inl ⟨by decide, by decide⟩, _, _, rfl, rfl,
        _, rfl, b, _, _, _, rfl, rfl, SqL.of hB1, at_of (j := 2) rfl rfl, _, _, rfl, rfl, _, _, rfl, rfl, .inl ⟨by omega, by omega⟩, _, _, rfl, rfl, (nz _), ?_⟩
      refine ⟨_, rfl, _, rfl, b, _, _, _, rfl, rfl, SqL.of hB1, at_of (j := 2) rfl rfl, _, _, rfl, rfl, _, rfl, b, _, _, _, rfl, rfl, SqL.of hB1, at_of (j := 1) rfl rfl, _, _, rfl, rfl, ⟨by decide, by decide⟩, _, _, rfl, rfl,
        _, rfl, _, _, rfl, rfl, (nz _), _, _, rfl, rfl, _, _, rfl, rfl, .inl (tw_ok c0 (by omega) y0 y1), _, _, rfl, rfl, (nz _), ?_⟩
      refine ⟨_, rfl, _, _, rfl, rfl, .inl tw_ok2, _, rfl, _, _, rfl, rfl, _, _, rfl, rfl, (nz _), _, _, rfl, rfl, ⟨by decide, by decide⟩, _, rfl, _, _, rfl, rfl, (by omega), ?_⟩
      exact q _ (c + 1) _ (fm0 (by omega)) (fm1 (by omega)) (by omega) (by omega) (bx_up rfl x0 y0 y1) but_upd
theorem fdW_ok4 {x m : Int} (m0 : 1 ≤ m) (m1 : m ≤ 1000000000000000000000) : CDivW x m := ⟨by omega, (Nat.log2_lt (by omega)).mpr (Nat.lt_of_le_of_lt (show m.natAbs ≤ 1000000000000000000000 by omega) (by decide +kernel))⟩
def spTake4 : Sp := fun vs H Q _ => ∃ (b : Addr) (m y c : Int), vs = [.ref b, .int m] ∧ Bx H b y c ∧ 0 ≤ c ∧ c + 3 < 1000000000000 ∧ 1 ≤ m ∧ m ≤ 10 ^ 21 ∧
  ∀ v c' H', 0 ≤ v → v < m → c ≤ c' → c' ≤ c + 4 → Bx H' b y c' → But b H H' → Q (.int v) H'
theorem ok_take4 {f g : Addr} {fd gd : FuncData} {n : Nat} (F : Fun K "_law_take" "_law_take" sTake f fd) (G : FnOk P w K mg base CX0 n g gd ["_law_box_here", "_law_below"] spTake2) (bG : Binds K gd ["_law_box_here", "_law_below"] []) (kG : PySem.W.keepIn K (.ref g) = true)
    (mG : mg "_law_take" = some (.ref g)) : FnOk P w K mg base CX0 (n + 1) f fd ["_law_box_here", "_law_below"] spTake4 := by
  refine F.ok scTake (fun vs H Q E h => ?_) (fun cdv A outer s H vs Q E hr h => ?_)
  · obtain ⟨b, m, y, c, rfl, _⟩ := h
    rfl
  obtain ⟨b, m, y, c, rfl, ⟨x, hB, x0, y0, y1⟩, c0, c1, m0, m1, q⟩ := h
  refine ⟨_, pss_cons (ps_if (pt_cmpR op_gt (pe_ix ix_list (pv 0) pe_int (fun _ _ => rfl)) pe_int (nomark _))
      (pss_cons (ps_set (i := 2) scTake.nd rfl (Or.inl rfl) (pe_op op_modN (pe_ix ix_list (pv 0) pe_int (fun _ _ => rfl)) (pv 1)))
      (pss_cons (ps_asg (pe_op op_fdivW (pe_ix ix_list (pv 0) pe_int (fun _ _ => rfl)) (pv 1)) (pg_sub (pv 0) pe_int set_list))
      (pss_one (ps_ret (pv 2))))) pss_nil)
    (pss_cons (ps_if (pt_cmpR op_gt (pv 1) (pe_op op_pow pe_int pe_int) (nomark _))
      (pss_one (ps_ret (pe_op op_modN (pe_op op_add (pe_call G hr rfl mG kG bG .nil pass0 (pa_cons (pv 0) (pa_cons (pe_op op_pow pe_int pe_int) pa_nil))) (pe_op op_mul (pe_op op_pow pe_int pe_int) (pe_call G hr rfl mG kG bG .nil pass0 (pa_cons (pv 0) (pa_cons (pe_op op_add (pe_op op_fdivN (pe_op op_sub (pv 1) pe_int) (pe_op op_pow pe_int pe_int)) pe_int) pa_nil))))) (pv 1)))) pss_nil)
    (pss_cons (ps_asg (pe_op op_add (pe_ix ix_list (pv 0) pe_int (fun _ _ => rfl)) pe_int) (pg_sub (pv 0) pe_int set_list))
    (pss_cons (ps_set (i := 3) scTake.nd rfl (Or.inl rfl) (pe_op op_modN (pe_op op_mul (pe_op op_add (pe_ix ix_list (pv 0) pe_int (fun _ _ => rfl)) (pe_op op_mul pe_int (pe_ix ix_list (pv 0) pe_int (fun _ _ => rfl)))) (pe_op op_add pe_int (pe_ix ix_list (pv 0) pe_int (fun _ _ => rfl)))) pe_int))
    (pss_cons (ps_set (i := 4) scTake.nd rfl (Or.inl rfl) (pe_op op_modN (pe_op op_mul (pe_op op_add (pe_op op_add (pv 3) (pe_ix ix_list (pv 0) pe_int (fun _ _ => rfl))) (pe_op op_fdivN (pe_ix ix_list (pv 0) pe_int (fun _ _ => rfl)) pe_int)) (pe_op op_add (pe_op op_modN (pv 3) pe_int) pe_int)) pe_int))
    (pss_one (ps_ret (pe_op op_modN (pe_op op_fdivN (pe_op op_modN (pe_op op_add (pe_op op_mul (pv 4) pe_int) (pv 3)) pe_int) pe_int) (pv 1)))))))), ?_⟩
  have e14 : (10 : Int) ^ 14 = 100000000000000 := by decide
  have e21 : (10 : Int) ^ 21 = 1000000000000000000000 := by decide
  have e7 : (10 : Int) ^ (7 : Int).toNat = 10000000 := by decide
  refine ⟨_, rfl, b, _, _, _, rfl, rfl, SqL.of hB, at_of (j := 0) rfl rfl, _, _, rfl, rfl, _, rfl, ?_⟩
  refine ite2 (fun t => ?_) (fun t => ?_)
  · have t' : x > 0 := of_decide_eq_true t
    refine ⟨_, rfl, b, _, _, _, rfl, rfl, SqL.of hB, at_of (j := 0) rfl rfl, _, rfl, _, _, rfl, rfl, (by omega), ?_⟩
    refine ⟨_, rfl, b, _, _, _, rfl, rfl, SqL.of hB, at_of (j := 0) rfl rfl, _, rfl, _, _, rfl, rfl, ?_, ?_⟩
    · exact fdW_ok4 (by omega) (by omega)
    refine ⟨_, rfl, b, _, _, 0, rfl, rfl, hB, rfl, _, rfl, ?_⟩
    exact q _ c _ (fm0 (by omega)) (fm1 (by omega)) (by omega) (by omega) (bx_up rfl (Int.ediv_nonneg x0 (by omega)) y0 y1) but_upd
  · refine ⟨_, rfl, _, _, rfl, rfl, ⟨by decide, by decide, by decide⟩, _, _, rfl, rfl, _, rfl, ?_⟩
    refine ite2 (fun t2 => ?_) (fun t2 => ?_)
    · refine ⟨_, rfl, _, _, rfl, rfl, ⟨by decide, by decide, by decide⟩, ?_⟩
      refine ⟨b, _, y, c, rfl, ⟨x, hB, x0, y0, y1⟩, c0, by omega, by decide, by decide, fun v c' H' v0 v1 d0 d1 hB' bt => ?_⟩
      refine ⟨_, _, rfl, rfl, ⟨by decide, by decide, by decide⟩, ?_⟩
      refine ⟨_, rfl, _, rfl, _, _, rfl, rfl, _, _, rfl, rfl, ⟨by decide, by decide, by decide⟩, _, _, rfl, rfl, ⟨by decide, by decide⟩, _, _, rfl, rfl, ?_⟩
      have hq0 : 0 ≤ (m - 1).fdiv (10 ^ (7 : Int).toNat) := fd0 (by omega) (by decide)
      have hq1 : (m - 1).fdiv (10 ^ (7 : Int).toNat) < 100000000000000 := by
        rw [e7, Int.fdiv_eq_ediv_of_nonneg _ (by decide)]; omega
      refine ⟨b, _, y, c', rfl, hB', by omega, by omega, by omega, by omega, fun v' c'' H'' v0' v1' d0' d1' hB'' bt' => ?_⟩
      refine ⟨_, _, rfl, rfl, .inl ⟨by decide, by decide⟩, _, _, rfl, rfl, _, rfl, _, _, rfl, rfl, (by omega), ?_⟩
      exact q _ c'' _ (fm0 (by omega)) (fm1 (by omega)) (by omega) (by omega) hB'' (bt.trans bt')
    · have t3 : ¬ m > 10 ^ (7 : Int).toNat := fun z => t2 (decide_eq_true z)
      rw [e7] at t3
      have hB1 : (upd H b (.lst [.int x, .int y, .int (c + 1)])) b = some (.lst [.int x, .int y, .int (c + 1)]) := upd_same
      refine ⟨_, rfl, b, _, _, _, rfl, rfl, SqL.of hB, at_of (j := 2) rfl rfl, _, _, rfl, rfl, _, rfl, b, _, _, 2, rfl, rfl, hB, rfl, ?_⟩
      refine ⟨_, rfl, b, _, _, _, rfl, rfl, SqL.of hB1, at_of (j := 1) rfl rfl, _, rfl, b, _, _, _, rfl, rfl, SqL.of hB1, at_of (j := 2) rfl rfl, _, _, rfl, rfl, .inl ⟨by decide, by decide⟩, _, _, rfl, rfl,
        _, rfl, b, _, _, _, rfl, rfl, SqL.of hB1, at_of (j := 2) rfl rfl, _, _, rfl, rfl, _, _, rfl, rfl, .inl ⟨by omega, by omega⟩, _, _, rfl, rfl, (nz _), ?_⟩
      refine ⟨_, rfl, _, rfl, b, _, _, _, rfl, rfl, SqL.of hB1, at_of (j := 2) rfl rfl, _, _, rfl, rfl, _, rfl, b, _, _, _, rfl, rfl, SqL.of hB1, at_of (j := 1) rfl rfl, _, _, rfl, rfl, ⟨by decide, by decide⟩, _, _, rfl, rfl,
        _, rfl, _, _, rfl, rfl, (nz _), _, _, rfl, rfl, _, _, rfl, rfl, .inl (tw_ok c0 (by omega) y0 y1), _, _, rfl, rfl, (nz _), ?_⟩
      refine ⟨_, rfl, _, _, rfl, rfl, .inl tw_ok2, _, rfl, _, _, rfl, rfl, _, _, rfl, rfl, (nz _), _, _, rfl, rfl, ⟨by decide, by decide⟩, _, rfl, _, _, rfl, rfl, (by omega), ?_⟩
      exact q _ (c + 1) _ (fm0 (by omega)) (fm1 (by omega)) (by omega) (by omega) (bx_up rfl x0 y0 y1) but_upd
def domT4 (ds : List Dt) : Prop := ∃ m : Int, ds = [.int m] ∧ 1 ≤ m ∧ m ≤ 1000000000000000000000
theorem take_B4 {f : Addr} {fd : FuncData} {n : Nat} {ps : List Str} (C : FnOk P w K mg base CX0 n f fd ps spTake4) : FnOk P w K mg base CX0 n f fd ps (spB K 4 domT4 postT) := C.imp fun vs H Q E h => by
  obtain ⟨G, ds, b, us, y, c, F, rfl, sm, hb, c0, c1, gb, rd, ⟨m, rfl, m1, m2⟩, q⟩ := h
  obtain ⟨x, rfl, e⟩ := rd.one
  have c2 : c + ((F + 4 : Nat) : Int) ≤ 1000000000000 := c1
  refine ⟨b, m, y, c, by rw [show x = V.int m from e], hb, c0, by omega, m1, m2, fun v c' H' v0 v1 e0 e1 hb' bt => ?_⟩
  refine q (.int v) (.int v) G H' y c' ⟨Same.refl _, fun a o z => bt a o (fun w => by rw [w, gb] at z; cases z) (sm _ _ z), bt, fun a h1 h2 => h1⟩ hb' (by omega) ?_ rfl ⟨m, v, rfl, rfl, v0, v1⟩
  show c' + (F : Int) ≤ 1000000000000
  omega
theorem ae_take4 {ρ : List En} {Ψ : Dt → List En → Prop} {E : XK} {te : TE} {i : Nat} {b : Addr} {f0 : Nat} (e0 : ρ[i]? = some (.bx b f0))
    (h : AE K te ρ fun d ρ1 => ∃ m : Int, d = .int m ∧ 1 ≤ m ∧ m ≤ 1000000000000000000000 ∧ ∃ F, ρ1[i]? = some (.bx b (F + 4)) ∧ ∀ v : Int, 0 ≤ v → v < m → Ψ (.int v) (ρ1.set i (.bx b F))) : AE K (tCall (spB K 4 domT4 postT) [] E (tCons (tVar i) (tCons te tNil))) ρ Ψ :=
  ae_draw e0 (aa_cons (ae_mono h fun d ρ1 ⟨m, e, m1, m2, F, e1, k⟩ => aa_nil ⟨⟨m, by rw [e], m1, m2⟩, F, e1, fun d' hp => by
    obtain ⟨m', v, z1, z2, z3, z4⟩ := hp
    rw [e] at z1
    cases z1
    rw [z2]; exact k v z3 z4⟩))
end
end Sh
set_option Elab.async false
set_option linter.all false
set_option maxRecDepth 100000
set_option maxHeartbeats 4000000
namespace Sh
open PySem PySem.Spec PyProof.Rows L2
abbrev s_l_open_value : Stmt := topS 57
abbrev N_l_open_value : List Str := ["_law_box_here", "_law_is_open", "_law_sides", "_law_size", "_law_base", "_law_bottom", "_law_upper"]
abbrev p_l_open_value : List Str := ["_law_box_here", "_law_is_open"]
theorem sc_l_open_value : FnScope N_l_open_value p_l_open_value (defScope s_l_open_value) := ⟨rfl, rfl, rfl, by decide +kernel, rfl, by decide +kernel, by decide +kernel⟩
abbrev s_l_cut : Stmt := topS 58
abbrev N_l_cut : List Str := ["_law_some", "_law_far"]
abbrev p_l_cut : List Str := ["_law_some", "_law_far"]
theorem sc_l_cut : FnScope N_l_cut p_l_cut (defScope s_l_cut) := ⟨rfl, rfl, rfl, by decide +kernel, rfl, by decide +kernel, by decide +kernel⟩
abbrev s_l_members : Stmt := topS 59
abbrev N_l_members : List Str := ["_law_some", "_law_begin", "_law_away", "_law_found", "_law_k", "_law_spot"]
abbrev p_l_members : List Str := ["_law_some"]
theorem sc_l_members : FnScope N_l_members p_l_members (defScope s_l_members) := ⟨rfl, rfl, rfl, by decide +kernel, rfl, by decide +kernel, by decide +kernel⟩
abbrev s_l_result : Stmt := topS 60
abbrev N_l_result : List Str := ["_law_word", "_law_spot", "_law_mate"]
abbrev p_l_result : List Str := ["_law_word", "_law_spot", "_law_mate"]
theorem sc_l_result : FnScope N_l_result p_l_result (defScope s_l_result) := ⟨rfl, rfl, rfl, by decide +kernel, rfl, by decide +kernel, by decide +kernel⟩
abbrev s_l_ends_right : Stmt := topS 61
abbrev N_l_ends_right : List Str := ["_law_found", "_law_near", "_law_wide", "_law_at", "_law_way"]
abbrev p_l_ends_right : List Str := ["_law_found", "_law_near", "_law_wide"]
theorem sc_l_ends_right : FnScope N_l_ends_right p_l_ends_right (defScope s_l_ends_right) := ⟨rfl, rfl, rfl, by decide +kernel, rfl, by decide +kernel, by decide +kernel⟩
def domP (ds : List Dt) : Prop := ∃ k : Bool, ds = [.bl k]
def postP (ds : List Dt) (d : Dt) : Prop := ∃ a b m r, d = vD a b m r ∧ InV a b m r
theorem of_sd {d : Dt} (h : d ∈ [Dt.tup [.non, .int 0], .tup [.int 0, .non], .tup [.non, .non]]) : d = .tup [.non, .int 0] ∨ d = .tup [.int 0, .non] ∨ d = .tup [.non, .non] := by
  simpa only [List.mem_cons, List.not_mem_nil, or_false] using h
theorem of_sz {v : Int} {d : Dt} (v0 : 0 ≤ v) (v1 : v < 6) (h : d ∈ [Dt.int 1, .int 1, .int 2, .int (1 + v)]) : ∃ m : Int, d = .int m ∧ 1 ≤ m ∧ m ≤ 6 := by
  simp only [List.mem_cons, List.not_mem_nil, or_false] at h
  rcases h with rfl | rfl | rfl | rfl
  · exact ⟨_, rfl, by decide, by decide⟩
  · exact ⟨_, rfl, by decide, by decide⟩
  · exact ⟨_, rfl, by decide, by decide⟩
  · exact ⟨_, rfl, by omega, by omega⟩
def S_lcut (ds : List Dt) (res : Dt) : Prop := ∃ a b, ∃ m r F : Int, ds = [vD a b m r, .int F] ∧ res = voD (some (cutL F a)) (some (cutH F b)) m r
def begM : Option Int → Option Int → Int → Int
  | some x, _, _ => x
  | none, none, r => r
  | none, some y, _ => y
def awM : Option Int → Int
  | none => -1
  | some _ => 1
def fM (b q : Int) : Dt → Dt
  | .int k => .int (b + q * k)
  | d => d
def rawM (a b : Option Int) (m r : Int) : List Int := [begM a b r + awM a * m * 0, begM a b r + awM a * m * 1, begM a b r + awM a * m * 2, begM a b r + awM a * m * 7, begM a b r + awM a * m * 1000000] ++
  (match a, b with | none, none => [begM a b r + m * 3, begM a b r + m * 1000000] | _, _ => [])
def inB (a b : Option Int) (m r x : Int) : Bool := letsB a b x && hasB m r x
def memL (a b : Option Int) (m r : Int) : List Int := if m = 0 then [r] else (rawM a b m r).filter (inB a b m r)
theorem of_k {d : Dt} (h : d ∈ [Dt.int 0, .int 1, .int 2, .int 7, .int (10 ^ (6 : Int).toNat)]) : ∃ k : Int, d = .int k ∧ 0 ≤ k ∧ k ≤ 1000000 := by
  simp only [List.mem_cons, List.not_mem_nil, or_false] at h
  rcases h with rfl | rfl | rfl | rfl | rfl <;> exact ⟨_, rfl, by decide, by decide⟩
theorem raw_len {a b : Option Int} {m r : Int} : (rawM a b m r).length ≤ 7 := by
  cases a <;> cases b <;> exact Nat.le_of_ble_eq_true rfl
theorem mem_len {a b : Option Int} {m r : Int} : (memL a b m r).length ≤ 7 := by
  unfold memL
  split
  · exact Nat.le_of_ble_eq_true rfl
  · exact Nat.le_trans (List.length_filter_le _ _) raw_len
theorem mem_in {a b : Option Int} {m r x : Int} (i : InV a b m r) (h : x ∈ memL a b m r) : inO a b m r x := by
  unfold memL at h
  by_cases h0 : m = 0
  · rw [if_pos h0] at h
    have : x = r := by simpa using h
    subst this
    rcases i.ok.h with ⟨e, f, g⟩ | ⟨e, _⟩
    · have := i.lo x f
      refine ⟨?_, by omega, by omega⟩
      subst f; subst g
      unfold letsB hasB
      rw [if_pos h0]
      simp [lwB, hwB]
    · omega
  · rw [if_neg h0] at h
    obtain ⟨h1, h2⟩ := List.mem_filter.mp h
    have hm : 1 ≤ m ∧ 0 ≤ r ∧ r < m := by
      rcases i.ok.h with ⟨e, _⟩ | ⟨e, e2, e3, _⟩
      · exact absurd e h0
      · exact ⟨e, e2, e3⟩
    have m6 := i.m6
    have bb : -55 ≤ begM a b r ∧ begM a b r ≤ 55 := by
      cases a with
      | some x => exact i.lo x rfl
      | none => cases b with
        | some y => exact i.hi y rfl
        | none => show -55 ≤ r ∧ r ≤ 55; omega
    refine ⟨h2, ?_⟩
    unfold rawM at h1
    have aw : awM a = -1 ∨ awM a = 1 := by cases a; exact .inl rfl; exact .inr rfl
    generalize begM a b r = B at *
    rcases List.mem_append.mp h1 with h1 | h1
    · simp only [List.mem_cons, List.not_mem_nil, or_false] at h1
      rcases aw with e | e <;> rw [e] at h1 <;> rcases h1 with rfl | rfl | rfl | rfl | rfl <;> omega
    · cases a <;> cases b <;> simp only [List.mem_cons, List.not_mem_nil, or_false] at h1
      rcases h1 with rfl | rfl <;> omega
theorem fI_t {p : Int → Bool} {v : Int} (h : p v = true) : fI p (.int v) = some (.int v) := if_pos h
theorem fI_f {p : Int → Bool} {v : Int} (h : p v = false) : fI p (.int v) = none := if_neg (fun z => by rw [h] at z; cases z)
def S_mem (ds : List Dt) (res : Dt) : Prop := ∃ a b, ∃ m r : Int, ds = [vD a b m r] ∧ InV a b m r ∧ res = .lst ((memL a b m r).map Dt.int)
def S_lres (ds : List Dt) (res : Dt) : Prop := ∃ (w : Wd) (x y : Int), ds = [.str w.s, .int x, .int y] ∧ (-(10 ^ 8) ≤ x ∧ x ≤ 10 ^ 8) ∧ (-(10 ^ 8) ≤ y ∧ y ≤ 10 ^ 8) ∧ (w = .div ∨ w = .mod → y ≠ 0) ∧ res = .int (opW w x y)
def S_er (ds : List Dt) (res : Dt) : Prop := ∃ f g v, ds = [f, g, v] ∧ Tv 60000 4000000 60000 f g v ∧ res = .bl true
section
variable {P : Program} {w : World} {K : PySem.W.Frag} {mg : Str → Option Value} {base : Heap}
theorem ok_l_open_value (bl : Blts mg) {g_l_take : Addr} {d_l_take : FuncData} (c_l_take : Cal P w K mg base 4 "_law_take" p_l_take (spB K 4 domT4 postT) g_l_take d_l_take) {g_l_of : Addr} {d_l_of : FuncData} (c_l_of : Cal P w K mg base 3 "_law_of" p_l_of (spB K 1 domO postO) g_l_of d_l_of) {g_value_of : Addr} {d_value_of : FuncData} (c_value_of : Cal P w K mg base 3 "value_of" p_value_of (spP K S_vo) g_value_of d_value_of)  {f : Addr} {fd : FuncData} (F : Fun K "_law_open_value" "_law_open_value" s_l_open_value f fd) : FnOk P w K mg base CX0 5 f fd p_l_open_value (spB K 24 (domP) (postP)) := by
  refine okB F sc_l_open_value (fun ds h => ?_) (fun cdv A outer s H E hr ds h => ?_)
  · obtain ⟨k, rfl⟩ := h
    rfl
  obtain ⟨k, rfl⟩ := h
  refine ⟨_, (pss_cons (ps_set (i := 2) sc_l_open_value.nd rfl (by first | exact Or.inl rfl | exact Or.inr rfl) (pe_ifExp (pt_val (pv 1)) (pe_call c_l_of.ok (hr.mono (by decide)) rfl c_l_of.mg c_l_of.kp c_l_of.bi .nil pass0 (pa_cons (pv 0) (pa_cons (pe_lst (pa_cons (pe_tup (pa_cons pe_non (pa_cons pe_int pa_nil))) (pa_cons (pe_tup (pa_cons pe_int (pa_cons pe_non pa_nil))) (pa_cons (pe_tup (pa_cons pe_non (pa_cons pe_non pa_nil))) pa_nil)))) pa_nil))) (pe_tup (pa_cons pe_int (pa_cons pe_int pa_nil)))))
    (pss_cons (ps_set (i := 3) sc_l_open_value.nd rfl (by first | exact Or.inl rfl | exact Or.inr rfl) (pe_call c_l_of.ok (hr.mono (by decide)) rfl c_l_of.mg c_l_of.kp c_l_of.bi .nil pass0 (pa_cons (pv 0) (pa_cons (pe_lst (pa_cons pe_int (pa_cons pe_int (pa_cons pe_int (pa_cons (pe_op op_add pe_int (pe_call c_l_take.ok (hr.mono (by decide)) rfl c_l_take.mg c_l_take.kp c_l_take.bi .nil pass0 (pa_cons (pv 0) (pa_cons pe_int pa_nil)))) pa_nil))))) pa_nil))))
    (pss_cons (ps_set (i := 4) sc_l_open_value.nd rfl (by first | exact Or.inl rfl | exact Or.inr rfl) (pe_op op_sub (pe_call c_l_take.ok (hr.mono (by decide)) rfl c_l_take.mg c_l_take.kp c_l_take.bi .nil pass0 (pa_cons (pv 0) (pa_cons (pe_op op_mul (pe_op op_mul pe_int (pv 3)) pe_int) pa_nil))) (pe_op op_mul (pv 3) pe_int)))
    (pss_cons (ps_set (i := 5) sc_l_open_value.nd rfl (by first | exact Or.inl rfl | exact Or.inr rfl) (pe_ifExp (pt_cmpR op_eq (pe_ix ix_tup (pv 2) pe_int (fun _ _ => rfl)) pe_int (nomark _)) (pv 4) pe_non))
    (pss_cons (ps_set (i := 6) sc_l_open_value.nd rfl (by first | exact Or.inl rfl | exact Or.inr rfl) (pe_ifExp (pt_cmpR op_eq (pe_ix ix_tup (pv 2) pe_int (fun _ _ => rfl)) pe_int (nomark _)) (pe_op op_add (pv 4) (pe_op op_mul (pv 3) (pe_call c_l_take.ok (hr.mono (by decide)) rfl c_l_take.mg c_l_take.kp c_l_take.bi .nil pass0 (pa_cons (pv 0) (pa_cons pe_int pa_nil))))) pe_non))
    (pss_one (ps_ret (pe_call c_value_of.ok (hr.mono (by decide)) rfl c_value_of.mg c_value_of.kp c_value_of.bi .nil pass0 (pa_cons (pv 5) (pa_cons (pv 6) (pa_cons (pv 3) (pa_cons (pe_op op_modN (pv 4) (pv 3)) pa_nil)))))))))))), fun b F => ?_⟩
  change AS K _ [En.bx _ _, En.da _, En.no, En.no, En.no, En.no, En.no] _ _
  try simp only [cxOf_K, cxOf_w]
  cases k
  all_goals
    repeat' (first
      | with_reducible apply ae_call
      | ((with_reducible apply ae_take4); · rfl)
      | refine ⟨_, rfl, by omega, by omega, _, rfl, fun v v0 v1 => ?_⟩
      | ((with_reducible apply ae_ofL); · rfl)
      | (refine ⟨_, rfl, Nat.le_of_ble_eq_true rfl, Nat.le_of_ble_eq_true rfl, _, rfl, fun d hd => ?_⟩; rcases of_sd hd with rfl | rfl | rfl)
      | (refine ⟨_, rfl, Nat.le_of_ble_eq_true rfl, Nat.le_of_ble_eq_true rfl, _, rfl, fun d hd => ?_⟩; obtain ⟨sz, rfl, s1, s6⟩ := of_sz (by assumption) (by assumption) hd)
      | refine ar_Ii (C := fun _ j => j ≠ 0) (by first | assumption | omega) ?_
      | refine ar_Ii (C := CMul) (.inl ⟨by omega, by omega⟩) ?_
      | (refine ⟨_, ⟨some _, some _, _, _, rfl, rfl⟩, ?_⟩)
      | (refine ⟨_, ⟨some _, none, _, _, rfl, rfl⟩, ?_⟩)
      | (refine ⟨_, ⟨none, some _, _, _, rfl, rfl⟩, ?_⟩)
      | (refine ⟨_, ⟨none, none, _, _, rfl, rfl⟩, ?_⟩)
      | exact ⟨ov_cc (by assumption) (by assumption) (by omega) (by omega) (by assumption) (by omega), _, rfl, by omega⟩
      | exact ⟨ov_cn (by assumption) (by assumption) (by omega) (by omega), _, rfl, by omega⟩
      | exact ⟨ov_nc (by assumption) (by assumption) (by omega) (by omega) (by assumption) (by omega), _, rfl, by omega⟩
      | exact ⟨ov_nn (by assumption) (by assumption) (by omega) (by omega), _, rfl, by omega⟩
      | with_reducible apply as_seq
      | with_reducible apply as_ret
      | with_reducible apply as_set
      | ((with_reducible apply ae_var); · rfl)
      | with_reducible apply ae_int
      | with_reducible apply ae_non
      | with_reducible apply ae_op
      | with_reducible apply aa_nil
      | with_reducible apply aa_cons
      | with_reducible apply ae_tup
      | with_reducible apply ae_lst
      | with_reducible apply ae_if
      | with_reducible apply at_test
      | with_reducible apply at_b
      | with_reducible apply ar_I0i
      | ((with_reducible apply ar_ixT); · rfl)
      | ((with_reducible apply ar_eq3); · exact ⟨rfl, rfl, rfl⟩)
      | refine ⟨sz60 (Nat.le_of_ble_eq_true rfl), ?_⟩
      | refine ⟨_, rfl, ?_⟩
      | (refine ⟨fun hc => ?_, fun hc => ?_⟩ <;> (first | (exfalso; exact absurd (show false = true from hc) (by decide)) | (exfalso; exact absurd (show true = false from hc) (by decide)) | (exfalso; simp at hc; done) | skip))
      | fail)
theorem ok_l_cut (bl : Blts mg) {g_value_of : Addr} {d_value_of : FuncData} (c_value_of : Cal P w K mg base 3 "value_of" p_value_of (spP K S_vo) g_value_of d_value_of)  {f : Addr} {fd : FuncData} (F : Fun K "_law_cut" "_law_cut" s_l_cut f fd) : FnOk P w K mg base CX0 4 f fd p_l_cut (spP K (S_lcut)) := by
  refine okP F sc_l_cut (fun ds r h => ?_) (fun cdv A outer s H E hr ds r h => ?_)
  · obtain ⟨a, b, m, r, F, rfl, rfl⟩ := h
    rfl
  obtain ⟨a, b, m, r, F, rfl, rfl⟩ := h
  refine ⟨_, (pss_one (ps_ret (pe_call c_value_of.ok (hr.mono (by decide)) rfl c_value_of.mg c_value_of.kp c_value_of.bi .nil pass0 (pa_cons (pe_ifExp (pt_cmpR op_isN (pe_ix ix_tup (pv 0) pe_int (fun _ _ => rfl)) pe_non (nomark _)) (pe_op op_sub pe_int (pv 1)) (pe_ix ix_tup (pv 0) pe_int (fun _ _ => rfl))) (pa_cons (pe_ifExp (pt_cmpR op_isN (pe_ix ix_tup (pv 0) pe_int (fun _ _ => rfl)) pe_non (nomark _)) (pv 1) (pe_ix ix_tup (pv 0) pe_int (fun _ _ => rfl))) (pa_cons (pe_ix ix_tup (pv 0) pe_int (fun _ _ => rfl)) (pa_cons (pe_ix ix_tup (pv 0) pe_int (fun _ _ => rfl)) pa_nil))))))), ?_⟩
  change AS K _ [En.da _, En.da _] _ _
  try simp only [cxOf_K]
  cases a <;> cases b
  all_goals
    repeat' (first
      | with_reducible apply ae_call
      | (refine ⟨_, ⟨some _, some _, _, _, rfl, rfl⟩, ?_⟩)
      | with_reducible apply as_ret
      | ((with_reducible apply ae_var); · rfl)
      | with_reducible apply ae_int
      | with_reducible apply ae_non
      | with_reducible apply ae_op
      | with_reducible apply aa_nil
      | with_reducible apply aa_cons
      | with_reducible apply ae_if
      | with_reducible apply at_test
      | with_reducible apply ar_I0i
      | with_reducible apply ar_isN
      | ((with_reducible apply ar_ixT); · rfl)
      | refine ⟨_, rfl, ?_⟩
      | (refine ⟨fun hc => ?_, fun hc => ?_⟩ <;> (first | (exfalso; exact absurd (show false = true from hc) (by decide)) | (exfalso; exact absurd (show true = false from hc) (by decide)) | (exfalso; simp at hc; done) | skip))
      | rfl
      | fail)
theorem ok_l_members (bl : Blts mg) {g_contains : Addr} {d_contains : FuncData} (c_contains : Cal P w K mg base 3 "contains" p_contains (spP K S_con) g_contains d_contains)  {f : Addr} {fd : FuncData} (F : Fun K "_law_members" "_law_members" s_l_members f fd) : FnOk P w K mg base CX0 4 f fd p_l_members (spP K (S_mem)) := by
  refine okP F sc_l_members (fun ds r h => ?_) (fun cdv A outer s H E hr ds r h => ?_)
  · obtain ⟨a, b, m, r, rfl, i, rfl⟩ := h
    rfl
  obtain ⟨a, b, m, r, rfl, i, rfl⟩ := h
  refine ⟨_, (pss_cons (ps_if (pt_cmpR op_eq (pe_ix ix_tup (pv 0) pe_int (fun _ _ => rfl)) pe_int (nomark _)) (pss_one (ps_ret (pe_lst (pa_cons (pe_ix ix_tup (pv 0) pe_int (fun _ _ => rfl)) pa_nil)))) pss_nil)
    (pss_cons (ps_set (i := 1) sc_l_members.nd rfl (by first | exact Or.inl rfl | exact Or.inr rfl) (pe_ifExp (pt_cmpR op_notN (pe_ix ix_tup (pv 0) pe_int (fun _ _ => rfl)) pe_non (nomark _)) (pe_ix ix_tup (pv 0) pe_int (fun _ _ => rfl)) (pe_ifExp (pt_cmpR op_isN (pe_ix ix_tup (pv 0) pe_int (fun _ _ => rfl)) pe_non (nomark _)) (pe_ix ix_tup (pv 0) pe_int (fun _ _ => rfl)) (pe_ix ix_tup (pv 0) pe_int (fun _ _ => rfl)))))
    (pss_cons (ps_set (i := 2) sc_l_members.nd rfl (by first | exact Or.inl rfl | exact Or.inr rfl) (pe_ifExp (pt_cmpR op_isN (pe_ix ix_tup (pv 0) pe_int (fun _ _ => rfl)) pe_non (nomark _)) (pe_un un_neg pe_int) pe_int))
    (pss_cons (ps_setLc (i := 3) (own := [("_law_k", 4)]) (g := (gName 4)) (te := (tOp (rI0 fun i j => .int (i + j)) (tVar 1) (tOp (rI CMul fun i j => .int (i * j)) (tOp (rI CMul fun i j => .int (i * j)) (tVar 2) (tOp (rIxT K) (tVar 0) (tC (.int 2)))) (tVar 4)))) (tt := tYes) rfl sc_l_members.nd rfl rfl (sw_true rfl rfl rfl (by decide +kernel)) (pi_tup (pe_tup (pa_cons pe_int (pa_cons pe_int (pa_cons pe_int (pa_cons pe_int (pa_cons (pe_op op_pow pe_int pe_int) pa_nil))))))) (blkOk_by (N := N_l_members) (sc := defScope s_l_members) (by decide +kernel)) (fun _ _ _ _ _ => (pg_name (i := 4) sc_l_members.nd rfl (by first | exact Or.inl rfl | exact Or.inr rfl))) (fun _ _ _ _ _ => pts_nil) (fun _ _ _ _ _ => (pe_op op_add (pv 1) (pe_op op_mul (pe_op op_mul (pv 2) (pe_ix ix_tup (pv 0) pe_int (fun _ _ => rfl))) (pv 4)))))
    (pss_cons (ps_if (PW.pt (pw_and (pt_cmpR op_isN (pe_ix ix_tup (pv 0) pe_int (fun _ _ => rfl)) pe_non (nomark _)) (pw_and1 (pt_cmpR op_isN (pe_ix ix_tup (pv 0) pe_int (fun _ _ => rfl)) pe_non (nomark _))))) (pss_one (ps_set (i := 3) sc_l_members.nd rfl (by first | exact Or.inl rfl | exact Or.inr rfl) (pe_op op_cat (pv 3) (pe_lst (pa_cons (pe_op op_add (pv 1) (pe_op op_mul (pe_ix ix_tup (pv 0) pe_int (fun _ _ => rfl)) pe_int)) (pa_cons (pe_op op_add (pv 1) (pe_op op_mul (pe_ix ix_tup (pv 0) pe_int (fun _ _ => rfl)) (pe_op op_pow pe_int pe_int))) pa_nil)))))) pss_nil)
    (pss_one (ps_ret (pe_lc (own := [("_law_spot", 5)]) (g := (gName 5)) (te := (tVar 5)) rfl sc_l_members.nd (pi_list (pv 3)) (blkOk_by (N := N_l_members) (sc := defScope s_l_members) (by decide +kernel)) (fun _ _ _ _ _ => (pg_name (i := 5) sc_l_members.nd rfl (by first | exact Or.inl rfl | exact Or.inr rfl))) (fun _ _ _ _ _ => (pts_one (pt_val (pe_call c_contains.ok (hr.mono (by decide)) rfl c_contains.mg c_contains.kp c_contains.bi .nil pass0 (pa_cons (pv 0) (pa_cons (pv 5) pa_nil)))))) (fun _ _ _ _ _ => (pv 5)))))))))), ?_⟩
  change AS K _ [En.da _, En.no, En.no, En.no, En.no, En.no] _ _
  try simp only [cxOf_K]
  have hm := i.m6
  have hr0 : 0 ≤ m := by rcases i.ok.h with ⟨e, _⟩ | ⟨e, _⟩ <;> omega
  by_cases h0 : m = 0
  · have z0 : decide (V.int m = V.int 0) = true := decide_eq_true (by rw [h0])
    have e : memL a b m r = [r] := if_pos h0
    rw [e]
    repeat' (first
      | (refine ⟨_, rfl, ?_⟩; rw [z0]; refine ⟨fun hc => ?_, fun hc => (nomatch hc)⟩)
      | with_reducible apply as_seq
      | with_reducible apply as_ret
      | with_reducible apply as_if
      | ((with_reducible apply ae_var); · rfl)
      | with_reducible apply ae_int
      | with_reducible apply ae_op
      | with_reducible apply aa_nil
      | with_reducible apply aa_cons
      | with_reducible apply ae_lst
      | with_reducible apply at_test
      | ((with_reducible apply ar_ixT); · rfl)
      | ((with_reducible apply ar_eq3); · exact ⟨rfl, rfl, rfl⟩)
      | refine ⟨sz60 (Nat.le_of_ble_eq_true rfl), ?_⟩
      | rfl
      | fail)
  · have z0 : decide (V.int m = V.int 0) = false := vne h0
    have e : memL a b m r = (rawM a b m r).filter (inB a b m r) := if_neg h0
    rw [e]
    cases a <;> cases b
    ·
      repeat' (first
        | with_reducible apply ae_call
        | (refine ⟨_, rfl, ?_⟩; rw [z0]; refine ⟨fun hc => (nomatch hc), fun hc => ?_⟩)
        | (with_reducible refine ae_lcMap (fM (begM none none r) (awM none * m)) ?_)
        | with_reducible apply ai_tup
        | (refine ⟨_, rfl, Nat.le_of_ble_eq_true rfl, fun d hd => ?_, ?_⟩)
        | (obtain ⟨k, rfl, k0, k1⟩ := of_k hd)
        | ((with_reducible apply agv_name); · decide)
        | exact ⟨rfl, rfl⟩
        | (with_reducible refine ae_lcFil (fI (inB none none m r)) ?_)
        | with_reducible apply ai_list
        | (obtain ⟨v, hv, rfl⟩ := List.mem_map.mp (show d ∈ (rawM none none m r).map Dt.int from hd))
        | (show Dt.lst (((rawM none none m r).map Dt.int).filterMap (fI (inB none none m r))) = _; rw [fI_map])
        | (refine ⟨_, ⟨true, none, none, m, r, _, rfl, rfl⟩, ?_⟩)
        | refine ar_Ii (C := CPow) ⟨by decide, by decide, by decide⟩ ?_
        | refine ar_Ii (C := CMul) (.inl ⟨by omega, by omega⟩) ?_
        | (refine ar_catL (Nat.le_of_ble_eq_true rfl) ?_)
        | (refine ⟨fI_t hc, rfl⟩)
        | (refine ⟨fI_f hc, rfl⟩)
        | with_reducible apply as_seq
        | with_reducible apply as_ret
        | with_reducible apply as_next
        | with_reducible apply as_if
        | with_reducible apply as_set
        | ((with_reducible apply ae_var); · rfl)
        | with_reducible apply ae_int
        | with_reducible apply ae_non
        | with_reducible apply ae_op
        | with_reducible apply ae_un
        | with_reducible apply aa_nil
        | with_reducible apply aa_cons
        | with_reducible apply ae_tup
        | with_reducible apply ae_lst
        | with_reducible apply ae_if
        | with_reducible apply at_test
        | with_reducible apply at_b
        | with_reducible apply at_and
        | with_reducible apply ar_I0i
        | with_reducible apply ar_isN
        | with_reducible apply ar_notN
        | with_reducible apply au_Ui
        | ((with_reducible apply ar_ixT); · rfl)
        | ((with_reducible apply ar_eq3); · exact ⟨rfl, rfl, rfl⟩)
        | refine ⟨sz60 (Nat.le_of_ble_eq_true rfl), ?_⟩
        | refine ⟨_, rfl, ?_⟩
        | (refine ⟨fun hc => ?_, fun hc => ?_⟩ <;> (first | (exfalso; exact absurd (show false = true from hc) (by decide)) | (exfalso; exact absurd (show true = false from hc) (by decide)) | (exfalso; simp at hc; done) | skip))
        | fail)
    ·
      rename_i y
      repeat' (first
        | with_reducible apply ae_call
        | (refine ⟨_, rfl, ?_⟩; rw [z0]; refine ⟨fun hc => (nomatch hc), fun hc => ?_⟩)
        | (with_reducible refine ae_lcMap (fM (begM none (some y) r) (awM none * m)) ?_)
        | with_reducible apply ai_tup
        | (refine ⟨_, rfl, Nat.le_of_ble_eq_true rfl, fun d hd => ?_, ?_⟩)
        | (obtain ⟨k, rfl, k0, k1⟩ := of_k hd)
        | ((with_reducible apply agv_name); · decide)
        | exact ⟨rfl, rfl⟩
        | (with_reducible refine ae_lcFil (fI (inB none (some y) m r)) ?_)
        | with_reducible apply ai_list
        | (obtain ⟨v, hv, rfl⟩ := List.mem_map.mp (show d ∈ (rawM none (some y) m r).map Dt.int from hd))
        | (show Dt.lst (((rawM none (some y) m r).map Dt.int).filterMap (fI (inB none (some y) m r))) = _; rw [fI_map])
        | (refine ⟨_, ⟨true, none, (some y), m, r, _, rfl, rfl⟩, ?_⟩)
        | refine ar_Ii (C := CPow) ⟨by decide, by decide, by decide⟩ ?_
        | refine ar_Ii (C := CMul) (.inl ⟨by omega, by omega⟩) ?_
        | (refine ⟨fI_t hc, rfl⟩)
        | (refine ⟨fI_f hc, rfl⟩)
        | with_reducible apply as_seq
        | with_reducible apply as_ret
        | with_reducible apply as_next
        | with_reducible apply as_if
        | with_reducible apply as_set
        | ((with_reducible apply ae_var); · rfl)
        | with_reducible apply ae_int
        | with_reducible apply ae_non
        | with_reducible apply ae_op
        | with_reducible apply ae_un
        | with_reducible apply aa_nil
        | with_reducible apply aa_cons
        | with_reducible apply ae_tup
        | with_reducible apply ae_if
        | with_reducible apply at_test
        | with_reducible apply at_b
        | with_reducible apply at_and
        | with_reducible apply ar_I0i
        | with_reducible apply ar_isN
        | with_reducible apply ar_notN
        | with_reducible apply au_Ui
        | ((with_reducible apply ar_ixT); · rfl)
        | ((with_reducible apply ar_eq3); · exact ⟨rfl, rfl, rfl⟩)
        | refine ⟨sz60 (Nat.le_of_ble_eq_true rfl), ?_⟩
        | refine ⟨_, rfl, ?_⟩
        | (refine ⟨fun hc => ?_, fun hc => ?_⟩ <;> (first | (exfalso; exact absurd (show false = true from hc) (by decide)) | (exfalso; exact absurd (show true = false from hc) (by decide)) | (exfalso; simp at hc; done) | skip))
        | simp only [oD_some, oD_none]
        | fail)
    ·
      rename_i x
      repeat' (first
        | with_reducible apply ae_call
        | (refine ⟨_, rfl, ?_⟩; rw [z0]; refine ⟨fun hc => (nomatch hc), fun hc => ?_⟩)
        | (with_reducible refine ae_lcMap (fM (begM (some x) none r) (awM (some x) * m)) ?_)
        | with_reducible apply ai_tup
        | (refine ⟨_, rfl, Nat.le_of_ble_eq_true rfl, fun d hd => ?_, ?_⟩)
        | (obtain ⟨k, rfl, k0, k1⟩ := of_k hd)
        | ((with_reducible apply agv_name); · decide)
        | exact ⟨rfl, rfl⟩
        | (with_reducible refine ae_lcFil (fI (inB (some x) none m r)) ?_)
        | with_reducible apply ai_list
        | (obtain ⟨v, hv, rfl⟩ := List.mem_map.mp (show d ∈ (rawM (some x) none m r).map Dt.int from hd))
        | (show Dt.lst (((rawM (some x) none m r).map Dt.int).filterMap (fI (inB (some x) none m r))) = _; rw [fI_map])
        | (refine ⟨_, ⟨true, (some x), none, m, r, _, rfl, rfl⟩, ?_⟩)
        | refine ar_Ii (C := CPow) ⟨by decide, by decide, by decide⟩ ?_
        | refine ar_Ii (C := CMul) (.inl ⟨by omega, by omega⟩) ?_
        | (refine ⟨fI_t hc, rfl⟩)
        | (refine ⟨fI_f hc, rfl⟩)
        | with_reducible apply as_seq
        | with_reducible apply as_ret
        | with_reducible apply as_next
        | with_reducible apply as_if
        | with_reducible apply as_set
        | ((with_reducible apply ae_var); · rfl)
        | with_reducible apply ae_int
        | with_reducible apply ae_non
        | with_reducible apply ae_op
        | with_reducible apply aa_nil
        | with_reducible apply aa_cons
        | with_reducible apply ae_tup
        | with_reducible apply ae_if
        | with_reducible apply at_test
        | with_reducible apply at_b
        | with_reducible apply at_and
        | with_reducible apply ar_I0i
        | with_reducible apply ar_isN
        | with_reducible apply ar_notN
        | ((with_reducible apply ar_ixT); · rfl)
        | ((with_reducible apply ar_eq3); · exact ⟨rfl, rfl, rfl⟩)
        | refine ⟨sz60 (Nat.le_of_ble_eq_true rfl), ?_⟩
        | refine ⟨_, rfl, ?_⟩
        | (refine ⟨fun hc => ?_, fun hc => ?_⟩ <;> (first | (exfalso; exact absurd (show false = true from hc) (by decide)) | (exfalso; exact absurd (show true = false from hc) (by decide)) | (exfalso; simp at hc; done) | skip))
        | simp only [oD_some, oD_none]
        | fail)
    ·
      rename_i x y
      repeat' (first
        | with_reducible apply ae_call
        | (refine ⟨_, rfl, ?_⟩; rw [z0]; refine ⟨fun hc => (nomatch hc), fun hc => ?_⟩)
        | (with_reducible refine ae_lcMap (fM (begM (some x) (some y) r) (awM (some x) * m)) ?_)
        | with_reducible apply ai_tup
        | (refine ⟨_, rfl, Nat.le_of_ble_eq_true rfl, fun d hd => ?_, ?_⟩)
        | (obtain ⟨k, rfl, k0, k1⟩ := of_k hd)
        | ((with_reducible apply agv_name); · decide)
        | exact ⟨rfl, rfl⟩
        | (with_reducible refine ae_lcFil (fI (inB (some x) (some y) m r)) ?_)
        | with_reducible apply ai_list
        | (obtain ⟨v, hv, rfl⟩ := List.mem_map.mp (show d ∈ (rawM (some x) (some y) m r).map Dt.int from hd))
        | (show Dt.lst (((rawM (some x) (some y) m r).map Dt.int).filterMap (fI (inB (some x) (some y) m r))) = _; rw [fI_map])
        | (refine ⟨_, ⟨true, (some x), (some y), m, r, _, rfl, rfl⟩, ?_⟩)
        | refine ar_Ii (C := CPow) ⟨by decide, by decide, by decide⟩ ?_
        | refine ar_Ii (C := CMul) (.inl ⟨by omega, by omega⟩) ?_
        | (refine ⟨fI_t hc, rfl⟩)
        | (refine ⟨fI_f hc, rfl⟩)
        | with_reducible apply as_seq
        | with_reducible apply as_ret
        | with_reducible apply as_next
        | with_reducible apply as_if
        | with_reducible apply as_set
        | ((with_reducible apply ae_var); · rfl)
        | with_reducible apply ae_int
        | with_reducible apply ae_non
        | with_reducible apply ae_op
        | with_reducible apply aa_nil
        | with_reducible apply aa_cons
        | with_reducible apply ae_tup
        | with_reducible apply ae_if
        | with_reducible apply at_test
        | with_reducible apply at_b
        | with_reducible apply at_and
        | with_reducible apply ar_I0i
        | with_reducible apply ar_isN
        | with_reducible apply ar_notN
        | ((with_reducible apply ar_ixT); · rfl)
        | ((with_reducible apply ar_eq3); · exact ⟨rfl, rfl, rfl⟩)
        | refine ⟨sz60 (Nat.le_of_ble_eq_true rfl), ?_⟩
        | refine ⟨_, rfl, ?_⟩
        | (refine ⟨fun hc => ?_, fun hc => ?_⟩ <;> (first | (exfalso; exact absurd (show false = true from hc) (by decide)) | (exfalso; exact absurd (show true = false from hc) (by decide)) | (exfalso; simp at hc; done) | skip))
        | simp only [oD_some, oD_none]
        | fail)
theorem ok_l_result (bl : Blts mg)   {f : Addr} {fd : FuncData} (F : Fun K "_law_result" "_law_result" s_l_result f fd) : FnOk P w K mg base CX0 1 f fd p_l_result (spP K (S_lres)) := by
  refine okP F sc_l_result (fun ds r h => ?_) (fun cdv A outer s H E hr ds r h => ?_)
  · obtain ⟨w, x, y, rfl, hx, hy, nz, rfl⟩ := h
    rfl
  obtain ⟨w, x, y, rfl, hx, hy, nz, rfl⟩ := h
  refine ⟨_, (pss_cons (ps_if (pt_cmpR op_in_seq (pv 0) (pe_tup (pa_cons pe_str (pa_cons pe_str pa_nil))) rfl) (pss_one (ps_ret (pe_ifExp (pt_cmpR op_eq (pv 0) pe_str (nomark _)) (pe_op op_add (pv 1) (pv 2)) (pe_op op_sub (pv 1) (pv 2))))) pss_nil)
    (pss_cons (ps_if (pt_cmpR op_eq (pv 0) pe_str (nomark _)) (pss_one (ps_ret (pe_op op_mulW (pv 1) (pv 2)))) pss_nil)
    (pss_one (ps_ret (pe_ifExp (pt_cmpR op_eq (pv 0) pe_str (nomark _)) (pe_op op_fdivB (pv 1) (pv 2)) (pe_op op_modN (pv 1) (pv 2))))))), ?_⟩
  change AS K _ [En.da _, En.da _, En.da _] _ _
  try simp only [cxOf_K]
  cases w
  ·
    repeat' (first
      | ((apply ar_eqWt); · decide +kernel)
      | ((apply ar_inW (b := true) ⟨rfl, rfl⟩); · decide +kernel)
      | with_reducible apply as_seq
      | with_reducible apply as_ret
      | with_reducible apply as_if
      | ((with_reducible apply ae_var); · rfl)
      | with_reducible apply ae_str
      | with_reducible apply ae_op
      | with_reducible apply aa_nil
      | with_reducible apply aa_cons
      | with_reducible apply ae_tup
      | with_reducible apply ae_if
      | with_reducible apply at_test
      | with_reducible apply ar_I0i
      | refine ⟨sz60 (Nat.le_of_ble_eq_true rfl), ?_⟩
      | refine ⟨_, rfl, ?_⟩
      | (refine ⟨fun hc => ?_, fun hc => ?_⟩ <;> (first | (exfalso; exact absurd (show false = true from hc) (by decide)) | (exfalso; exact absurd (show true = false from hc) (by decide)) | (exfalso; simp at hc; done) | skip))
      | rfl
      | fail)
  ·
    repeat' (first
      | ((apply ar_eqWf); · decide +kernel)
      | ((apply ar_inW (b := true) ⟨rfl, rfl⟩); · decide +kernel)
      | with_reducible apply as_seq
      | with_reducible apply as_ret
      | with_reducible apply as_if
      | ((with_reducible apply ae_var); · rfl)
      | with_reducible apply ae_str
      | with_reducible apply ae_op
      | with_reducible apply aa_nil
      | with_reducible apply aa_cons
      | with_reducible apply ae_tup
      | with_reducible apply ae_if
      | with_reducible apply at_test
      | with_reducible apply ar_I0i
      | refine ⟨sz60 (Nat.le_of_ble_eq_true rfl), ?_⟩
      | refine ⟨_, rfl, ?_⟩
      | (refine ⟨fun hc => ?_, fun hc => ?_⟩ <;> (first | (exfalso; exact absurd (show false = true from hc) (by decide)) | (exfalso; exact absurd (show true = false from hc) (by decide)) | (exfalso; simp at hc; done) | skip))
      | rfl
      | fail)
  ·
    repeat' (first
      | ((apply ar_eqWt); · decide +kernel)
      | ((apply ar_inW (b := false) ⟨rfl, rfl⟩); · decide +kernel)
      | refine ar_Ii (C := CMulW) (mulW (by omega) (by omega)) ?_
      | with_reducible apply as_seq
      | with_reducible apply as_ret
      | with_reducible apply as_next
      | with_reducible apply as_if
      | ((with_reducible apply ae_var); · rfl)
      | with_reducible apply ae_str
      | with_reducible apply ae_op
      | with_reducible apply aa_nil
      | with_reducible apply aa_cons
      | with_reducible apply ae_tup
      | with_reducible apply at_test
      | refine ⟨sz60 (Nat.le_of_ble_eq_true rfl), ?_⟩
      | refine ⟨_, rfl, ?_⟩
      | (refine ⟨fun hc => ?_, fun hc => ?_⟩ <;> (first | (exfalso; exact absurd (show false = true from hc) (by decide)) | (exfalso; exact absurd (show true = false from hc) (by decide)) | (exfalso; simp at hc; done) | skip))
      | rfl
      | fail)
  ·
    repeat' (first
      | ((apply ar_eqWt); · decide +kernel)
      | ((apply ar_eqWf); · decide +kernel)
      | ((apply ar_inW (b := false) ⟨rfl, rfl⟩); · decide +kernel)
      | refine ar_Ii (C := CDivB) (divB (nz (.inl rfl)) (by omega) (by omega)) ?_
      | with_reducible apply as_seq
      | with_reducible apply as_ret
      | with_reducible apply as_next
      | with_reducible apply as_if
      | ((with_reducible apply ae_var); · rfl)
      | with_reducible apply ae_str
      | with_reducible apply ae_op
      | with_reducible apply aa_nil
      | with_reducible apply aa_cons
      | with_reducible apply ae_tup
      | with_reducible apply ae_if
      | with_reducible apply at_test
      | refine ⟨sz60 (Nat.le_of_ble_eq_true rfl), ?_⟩
      | refine ⟨_, rfl, ?_⟩
      | (refine ⟨fun hc => ?_, fun hc => ?_⟩ <;> (first | (exfalso; exact absurd (show false = true from hc) (by decide)) | (exfalso; exact absurd (show true = false from hc) (by decide)) | (exfalso; simp at hc; done) | skip))
      | rfl
      | fail)
  ·
    repeat' (first
      | ((apply ar_eqWf); · decide +kernel)
      | ((apply ar_inW (b := false) ⟨rfl, rfl⟩); · decide +kernel)
      | refine ar_Ii (C := fun _ j => j ≠ 0) (nz (.inr rfl)) ?_
      | with_reducible apply as_seq
      | with_reducible apply as_ret
      | with_reducible apply as_next
      | with_reducible apply as_if
      | ((with_reducible apply ae_var); · rfl)
      | with_reducible apply ae_str
      | with_reducible apply ae_op
      | with_reducible apply aa_nil
      | with_reducible apply aa_cons
      | with_reducible apply ae_tup
      | with_reducible apply ae_if
      | with_reducible apply at_test
      | refine ⟨sz60 (Nat.le_of_ble_eq_true rfl), ?_⟩
      | refine ⟨_, rfl, ?_⟩
      | (refine ⟨fun hc => ?_, fun hc => ?_⟩ <;> (first | (exfalso; exact absurd (show false = true from hc) (by decide)) | (exfalso; exact absurd (show true = false from hc) (by decide)) | (exfalso; simp at hc; done) | skip))
      | rfl
      | fail)
theorem ok_l_ends_right (bl : Blts mg)   {f : Addr} {fd : FuncData} (F : Fun K "_law_ends_right" "_law_ends_right" s_l_ends_right f fd) : FnOk P w K mg base CX0 1 f fd p_l_ends_right (spP K (S_er)) := by
  refine okP F sc_l_ends_right (fun ds r h => ?_) (fun cdv A outer s H E hr ds r h => ?_)
  · obtain ⟨f, g, v, rfl, t, rfl⟩ := h
    rfl
  obtain ⟨f, g, v, rfl, t, rfl⟩ := h
  refine ⟨_, (pss_cons (ps_for PassesOwn.never rfl (pi_tup (pe_tup (pa_cons (pe_tup (pa_cons pe_int (pa_cons (pe_un un_neg pe_int) pa_nil))) (pa_cons (pe_tup (pa_cons pe_int (pa_cons pe_int pa_nil))) pa_nil)))) (pg_tup rfl (pgs_cons (pg_name (i := 3) sc_l_ends_right.nd rfl (by first | exact Or.inl rfl | exact Or.inr rfl)) (pgs_cons (pg_name (i := 4) sc_l_ends_right.nd rfl (by first | exact Or.inl rfl | exact Or.inr rfl)) pgs_nil))) (pss_one (ps_if (pt_cmpR op_isN (pe_ix ix_tup (pv 0) (pv 3) (fun _ _ => rfl)) pe_non (nomark _)) (pss_one (ps_if (pt_cmpR op_lt (pe_op op_mul (pe_op op_sub (pe_ix ix_tup (pv 2) (pv 3) (fun _ _ => rfl)) (pe_ix ix_tup (pv 1) (pv 3) (fun _ _ => rfl))) (pv 4)) (pe_op op_pow pe_int pe_int) (nomark _)) (pss_one (ps_ret pe_bl)) pss_nil)) (pss_one (ps_if (PW.pt (pw_or (pt_cmpR op_ne (pe_ix ix_tup (pv 2) (pv 3) (fun _ _ => rfl)) (pe_ix ix_tup (pv 0) (pv 3) (fun _ _ => rfl)) (nomark _)) (pw_or1 (pt_cmpR op_ne (pe_ix ix_tup (pv 1) (pv 3) (fun _ _ => rfl)) (pe_ix ix_tup (pv 0) (pv 3) (fun _ _ => rfl)) (nomark _))))) (pss_one (ps_ret pe_bl)) pss_nil)))))
    (pss_one (ps_ret pe_bl))), ?_⟩
  change AS K _ [En.da _, En.da _, En.da _, En.no, En.no] _ _
  try simp only [cxOf_K]
  obtain ⟨a, b, l1, h1, l2, h2, M, R, rfl, rfl, rfl, t, _⟩ := t
  have p6 : (10 : Int) ^ (6 : Int).toNat = 1000000 := rfl
  cases a <;> cases b
  ·
    obtain ⟨e1, e2⟩ := t.rl
    have d1 : decide ((l2 - l1) * -1 < (10 : Int) ^ (6 : Int).toNat) = false := decide_eq_false (by rw [p6]; omega)
    obtain ⟨f1, f2⟩ := t.rh
    have d2 : decide ((h2 - h1) * 1 < (10 : Int) ^ (6 : Int).toNat) = false := decide_eq_false (by rw [p6]; omega)
    repeat' (first
      | with_reducible apply as_forU
      | with_reducible apply ai_tup
      | with_reducible apply un_cons
      | with_reducible apply un_nil
      | (refine ⟨_, rfl, ?_⟩; rw [d1]; refine ⟨fun hc => (nomatch hc), fun hc => ?_⟩)
      | (refine ⟨_, rfl, ?_⟩; rw [d2]; refine ⟨fun hc => (nomatch hc), fun hc => ?_⟩)
      | refine ar_Ii (C := CPow) ⟨by decide, by decide, by decide⟩ ?_
      | refine ar_Ii (C := CMul) (.inr ⟨by omega, by omega⟩) ?_
      | with_reducible apply as_seq
      | with_reducible apply as_ret
      | with_reducible apply as_next
      | with_reducible apply as_if
      | ((with_reducible apply ae_var); · rfl)
      | with_reducible apply ae_int
      | with_reducible apply ae_non
      | with_reducible apply ae_bl
      | with_reducible apply ae_op
      | with_reducible apply ae_un
      | with_reducible apply aa_nil
      | with_reducible apply aa_cons
      | with_reducible apply ae_tup
      | with_reducible apply at_test
      | with_reducible apply ar_I0i
      | with_reducible apply ar_I0b
      | with_reducible apply ar_isN
      | with_reducible apply au_Ui
      | ((with_reducible apply ar_ixT); · rfl)
      | with_reducible apply ag_name
      | with_reducible apply ags_nil
      | with_reducible apply ags_cons
      | ((with_reducible apply ag_tup); · rfl)
      | refine ⟨sz60 (Nat.le_of_ble_eq_true rfl), ?_⟩
      | refine ⟨_, rfl, ?_⟩
      | (refine ⟨fun hc => ?_, fun hc => ?_⟩ <;> (first | (exfalso; exact absurd (show false = true from hc) (by decide)) | (exfalso; exact absurd (show true = false from hc) (by decide)) | (exfalso; simp at hc; done) | skip))
      | rfl
      | simp only [oD_some, oD_none]
      | fail)
  ·
    obtain ⟨e1, e2⟩ := t.rl
    have d1 : decide ((l2 - l1) * -1 < (10 : Int) ^ (6 : Int).toNat) = false := decide_eq_false (by rw [p6]; omega)
    obtain ⟨f1, f2, _, _⟩ := t.rh
    have f1' := f1.symm; have f2' := f2.trans f1'
    subst f1'; subst f2'
    repeat' (first
      | with_reducible apply as_forU
      | with_reducible apply ai_tup
      | with_reducible apply un_cons
      | with_reducible apply un_nil
      | (refine ⟨_, rfl, ?_⟩; rw [d1]; refine ⟨fun hc => (nomatch hc), fun hc => ?_⟩)
      | refine ar_Ii (C := CPow) ⟨by decide, by decide, by decide⟩ ?_
      | refine ar_Ii (C := CMul) (.inr ⟨by omega, by omega⟩) ?_
      | with_reducible apply as_seq
      | with_reducible apply as_ret
      | with_reducible apply as_next
      | with_reducible apply as_if
      | ((with_reducible apply ae_var); · rfl)
      | with_reducible apply ae_int
      | with_reducible apply ae_non
      | with_reducible apply ae_bl
      | with_reducible apply ae_op
      | with_reducible apply ae_un
      | with_reducible apply aa_nil
      | with_reducible apply aa_cons
      | with_reducible apply ae_tup
      | with_reducible apply at_test
      | with_reducible apply at_or
      | with_reducible apply ar_I0i
      | with_reducible apply ar_I0b
      | with_reducible apply ar_isN
      | with_reducible apply au_Ui
      | ((with_reducible apply ar_ixT); · rfl)
      | ((with_reducible apply ar_ne3); · exact ⟨rfl, rfl, rfl⟩)
      | with_reducible apply ag_name
      | with_reducible apply ags_nil
      | with_reducible apply ags_cons
      | ((with_reducible apply ag_tup); · rfl)
      | refine ⟨sz60 (Nat.le_of_ble_eq_true rfl), ?_⟩
      | refine ⟨_, rfl, ?_⟩
      | (refine ⟨fun hc => ?_, fun hc => ?_⟩ <;> (first | (exfalso; exact absurd (show false = true from hc) (by decide)) | (exfalso; exact absurd (show true = false from hc) (by decide)) | (exfalso; simp at hc; done) | skip))
      | rfl
      | simp only [oD_some, oD_none]
      | fail)
  ·
    obtain ⟨e1, e2, _, _⟩ := t.rl
    have e1' := e1.symm; have e2' := e2.trans e1'
    obtain ⟨f1, f2⟩ := t.rh
    have d2 : decide ((h2 - h1) * 1 < (10 : Int) ^ (6 : Int).toNat) = false := decide_eq_false (by rw [p6]; omega)
    subst e1'; subst e2'
    repeat' (first
      | with_reducible apply as_forU
      | with_reducible apply ai_tup
      | with_reducible apply un_cons
      | with_reducible apply un_nil
      | (refine ⟨_, rfl, ?_⟩; rw [d2]; refine ⟨fun hc => (nomatch hc), fun hc => ?_⟩)
      | refine ar_Ii (C := CPow) ⟨by decide, by decide, by decide⟩ ?_
      | refine ar_Ii (C := CMul) (.inr ⟨by omega, by omega⟩) ?_
      | with_reducible apply as_seq
      | with_reducible apply as_ret
      | with_reducible apply as_next
      | with_reducible apply as_if
      | ((with_reducible apply ae_var); · rfl)
      | with_reducible apply ae_int
      | with_reducible apply ae_non
      | with_reducible apply ae_bl
      | with_reducible apply ae_op
      | with_reducible apply ae_un
      | with_reducible apply aa_nil
      | with_reducible apply aa_cons
      | with_reducible apply ae_tup
      | with_reducible apply at_test
      | with_reducible apply at_or
      | with_reducible apply ar_I0i
      | with_reducible apply ar_I0b
      | with_reducible apply ar_isN
      | with_reducible apply au_Ui
      | ((with_reducible apply ar_ixT); · rfl)
      | ((with_reducible apply ar_ne3); · exact ⟨rfl, rfl, rfl⟩)
      | with_reducible apply ag_name
      | with_reducible apply ags_nil
      | with_reducible apply ags_cons
      | ((with_reducible apply ag_tup); · rfl)
      | refine ⟨sz60 (Nat.le_of_ble_eq_true rfl), ?_⟩
      | refine ⟨_, rfl, ?_⟩
      | (refine ⟨fun hc => ?_, fun hc => ?_⟩ <;> (first | (exfalso; exact absurd (show false = true from hc) (by decide)) | (exfalso; exact absurd (show true = false from hc) (by decide)) | (exfalso; simp at hc; done) | skip))
      | rfl
      | simp only [oD_some, oD_none]
      | fail)
  ·
    obtain ⟨e1, e2, _, _⟩ := t.rl
    have e1' := e1.symm; have e2' := e2.trans e1'
    obtain ⟨f1, f2, _, _⟩ := t.rh
    have f1' := f1.symm; have f2' := f2.trans f1'
    subst e1'; subst e2'
    subst f1'; subst f2'
    repeat' (first
      | with_reducible apply as_forU
      | with_reducible apply ai_tup
      | with_reducible apply un_cons
      | with_reducible apply un_nil
      | with_reducible apply as_seq
      | with_reducible apply as_ret
      | with_reducible apply as_next
      | with_reducible apply as_if
      | ((with_reducible apply ae_var); · rfl)
      | with_reducible apply ae_int
      | with_reducible apply ae_non
      | with_reducible apply ae_bl
      | with_reducible apply ae_op
      | with_reducible apply ae_un
      | with_reducible apply aa_nil
      | with_reducible apply aa_cons
      | with_reducible apply ae_tup
      | with_reducible apply at_test
      | with_reducible apply at_or
      | with_reducible apply ar_isN
      | with_reducible apply au_Ui
      | ((with_reducible apply ar_ixT); · rfl)
      | ((with_reducible apply ar_ne3); · exact ⟨rfl, rfl, rfl⟩)
      | with_reducible apply ag_name
      | with_reducible apply ags_nil
      | with_reducible apply ags_cons
      | ((with_reducible apply ag_tup); · rfl)
      | refine ⟨sz60 (Nat.le_of_ble_eq_true rfl), ?_⟩
      | refine ⟨_, rfl, ?_⟩
      | (refine ⟨fun hc => ?_, fun hc => ?_⟩ <;> (first | (exfalso; exact absurd (show false = true from hc) (by decide)) | (exfalso; exact absurd (show true = false from hc) (by decide)) | (exfalso; simp at hc; done) | skip))
      | rfl
      | fail)
end
end Sh
set_option Elab.async false
set_option linter.all false
set_option maxRecDepth 100000
set_option maxHeartbeats 4000000
namespace Sh
open PySem PySem.Spec PyProof.Rows L2
section
variable {P : Program} {w : World} {K : PySem.W.Frag} {mg : Str → Option Value} {base : Heap}
mutual
def Dt.dep : Dt → Nat
  | .tup l => deps l + 1 | .lst l => deps l + 1 | _ => 1
def deps : List Dt → Nat
  | [] => 0
  | d :: l => max d.dep (deps l)
end
mutual
/-- no classes, short -/
def Dt.fit : Dt → Bool
  | .ty _ => false
  | .tup l => decide (l.length ≤ 9000) && fits l
  | .lst l => decide (l.length ≤ 9000) && fits l
  | _ => true
def fits : List Dt → Bool
  | [] => true
  | d :: l => d.fit && fits l
end
theorem deps_mem : ∀ {l : List Dt} {d : Dt}, d ∈ l → d.dep ≤ deps l
  | e :: l, d, h => by
    unfold deps
    rcases List.mem_cons.mp h with rfl | h
    · omega
    · have := deps_mem h; omega
theorem fits_mem : ∀ {l : List Dt} {d : Dt}, fits l = true → d ∈ l → d.fit = true
  | e :: l, d, f, h => by
    unfold fits at f
    rw [Bool.and_eq_true] at f
    rcases List.mem_cons.mp h with rfl | h
    · exact f.1
    · exact fits_mem f.2 h
def S_same (n : Nat) (ds : List Dt) (r : Dt) : Prop := ∃ d, ds = [d, d] ∧ d.dep ≤ n ∧ d.fit = true ∧ r = .bl true
theorem zp_self : ∀ {l : List Dt} {d : Dt}, d ∈ zpD l l → ∃ e, e ∈ l ∧ d = .tup [e, e]
  | [], d, h => by simp [zpD] at h
  | a :: l, d, h => by
    rcases List.mem_cons.mp (show d ∈ Dt.tup [a, a] :: zpD l l from h) with rfl | h
    · exact ⟨a, List.mem_cons_self, rfl⟩
    · obtain ⟨e, h1, h2⟩ := zp_self h
      exact ⟨e, List.mem_cons_of_mem _ h1, h2⟩
theorem none0 {ps : List Str} {f : Addr} {fd : FuncData} {sp : Sp} (no : ∀ vs H Q E, ¬ sp vs H Q E) : FnOk P w K mg base CX0 0 f fd ps sp :=
  ⟨fun vs H Q E h => absurd h (no vs H Q E), fun A outer s H args us vs Q E _ _ _ _ h => absurd h (no vs H Q E)⟩
theorem dep_pos (d : Dt) : 1 ≤ d.dep := by cases d <;> simp [Dt.dep]
theorem map_true {l : List Dt} : (l.map fun _ => Dt.bl true) = (List.replicate l.length true).map Dt.bl := by rw [List.map_const', List.map_replicate]
theorem all_true (n : Nat) : (List.replicate n true).all id = true := by simp
abbrev s_l_same : Stmt := topS 56
abbrev N_l_same : List Str := ["_law_found", "_law_due", "_law_mine", "_law_its"]
abbrev p_l_same : List Str := ["_law_found", "_law_due"]
theorem sc_l_same : FnScope N_l_same p_l_same (defScope s_l_same) := ⟨rfl, rfl, rfl, by decide +kernel, rfl, by decide +kernel, by decide +kernel⟩
theorem ok_l_same (bl : Blts mg) {n : Nat} {g_l_same : Addr} {d_l_same : FuncData} (c_l_same : Cal P w K mg base n "_law_same" p_l_same (spP K (S_same n)) g_l_same d_l_same) {f : Addr} {fd : FuncData} (F : Fun K "_law_same" "_law_same" s_l_same f fd) : FnOk P w K mg base CX0 (n + 1) f fd p_l_same (spP K (S_same (n + 1))) := by
  refine okP F sc_l_same (fun ds r h => ?_) (fun cdv A outer s H E hr ds r h => ?_)
  · obtain ⟨d, rfl, n1, f1, rfl⟩ := h
    rfl
  obtain ⟨d, rfl, n1, f1, rfl⟩ := h
  refine ⟨_, (pss_cons (ps_if (pt_val (pe_callB call_isiT rfl bl.isinstance (by decide +kernel) (pa_cons (pv 1) (pa_cons (pe_tup (pa_cons (pe_bltn (v := .ty "list") rfl bl.list (by decide +kernel) rfl) (pa_cons (pe_bltn (v := .ty "tuple") rfl bl.tuple (by decide +kernel) rfl) pa_nil))) pa_nil)))) (pss_cons (ps_if (PW.pt (pw_or (pt_cmpR op_ne (pe_callB call_isi rfl bl.isinstance (by decide +kernel) (pa_cons (pv 0) (pa_cons (pe_bltn (v := .ty "list") rfl bl.list (by decide +kernel) rfl) pa_nil))) (pe_callB call_isi rfl bl.isinstance (by decide +kernel) (pa_cons (pv 1) (pa_cons (pe_bltn (v := .ty "list") rfl bl.list (by decide +kernel) rfl) pa_nil))) (nomark _)) (pw_or1 (pt_cmpR op_ne (pe_callB call_isi rfl bl.isinstance (by decide +kernel) (pa_cons (pv 0) (pa_cons (pe_bltn (v := .ty "tuple") rfl bl.tuple (by decide +kernel) rfl) pa_nil))) (pe_callB call_isi rfl bl.isinstance (by decide +kernel) (pa_cons (pv 1) (pa_cons (pe_bltn (v := .ty "tuple") rfl bl.tuple (by decide +kernel) rfl) pa_nil))) (nomark _))))) (pss_one (ps_ret pe_bl)) pss_nil)
    (pss_one (ps_ret (pe_and (pe_cmpR op_eq (pe_callB call_len_seq rfl bl.len (by decide +kernel) (pa_cons (pv 0) pa_nil)) (pe_callB call_len_seq rfl bl.len (by decide +kernel) (pa_cons (pv 1) pa_nil)) (nomark _)) (pe_one (pe_callB (cr_all rfl) rfl bl.all (by decide +kernel) (pa_cons (pe_lc (own := [("_law_mine", 2), ("_law_its", 3)]) (g := (gTup K 2 (gCons (gName 2) (gCons (gName 3) gNil)))) (tt := tYes) rfl sc_l_same.nd (RZ.pi_zipA rfl bl.zip (pa_cons (pv 0) (pa_cons (pv 1) pa_nil))) (blkOk_by (N := N_l_same) (sc := defScope s_l_same) (by decide +kernel)) (fun _ _ _ _ _ => (pg_tup rfl (pgs_cons (pg_name (i := 2) sc_l_same.nd rfl (by first | exact Or.inl rfl | exact Or.inr rfl)) (pgs_cons (pg_name (i := 3) sc_l_same.nd rfl (by first | exact Or.inl rfl | exact Or.inr rfl)) pgs_nil)))) (fun _ _ _ _ _ => pts_nil) (fun _ _ _ _ _ => (pe_call c_l_same.ok hr rfl c_l_same.mg c_l_same.kp c_l_same.bi .nil pass0 (pa_cons (pv 2) (pa_cons (pv 3) pa_nil))))) pa_nil))))))) pss_nil)
    (pss_cons (ps_if (PW.pt (pw_or (pt_cmpR op_isN (pv 1) pe_non (nomark _)) (pw_or1 (pt_val (pe_callB call_isiT rfl bl.isinstance (by decide +kernel) (pa_cons (pv 1) (pa_cons (pe_tup (pa_cons (pe_bltn (v := .ty "bool") rfl bl.bool (by decide +kernel) rfl) (pa_cons (pe_bltn (v := .ty "str") rfl bl.str (by decide +kernel) rfl) pa_nil))) pa_nil))))))) (pss_one (ps_ret (pe_and (pe_cmpR op_eq (pv 0) (pv 1) (nomark _)) (pe_and (pe_cmpR op_eq (pe_callB call_isi rfl bl.isinstance (by decide +kernel) (pa_cons (pv 0) (pa_cons (pe_bltn (v := .ty "bool") rfl bl.bool (by decide +kernel) rfl) pa_nil))) (pe_callB call_isi rfl bl.isinstance (by decide +kernel) (pa_cons (pv 1) (pa_cons (pe_bltn (v := .ty "bool") rfl bl.bool (by decide +kernel) rfl) pa_nil))) (nomark _)) (pe_one (pe_cmpR op_eq (pe_cmpR op_isN (pv 0) pe_non (nomark _)) (pe_cmpR op_isN (pv 1) pe_non (nomark _)) (nomark _))))))) pss_nil)
    (pss_one (ps_ret (pe_and (pe_callB call_isi rfl bl.isinstance (by decide +kernel) (pa_cons (pv 0) (pa_cons (pe_bltn (v := .ty "int") rfl bl.int (by decide +kernel) rfl) pa_nil))) (pe_and (pe_not (pe_callB call_isi rfl bl.isinstance (by decide +kernel) (pa_cons (pv 0) (pa_cons (pe_bltn (v := .ty "bool") rfl bl.bool (by decide +kernel) rfl) pa_nil)))) (pe_one (pe_cmpR op_eq (pv 0) (pv 1) (nomark _))))))))), ?_⟩
  change AS K _ [En.da _, En.da _, En.no, En.no] _ _
  try simp only [cxOf_K]
  cases d with
  | non =>
    repeat' (first
      | ((with_reducible apply ac_isi1); · first | exact ⟨rfl, kb_NoneType_list⟩ | exact ⟨rfl, kb_NoneType_tuple⟩ | exact ⟨rfl, kb_NoneType_bool⟩ | exact ⟨rfl, kb_NoneType_int⟩ | exact ⟨rfl, kb_NoneType_str⟩)
      | (first | refine ⟨rfl, false, .inr ⟨kb_NoneType_list, kb_NoneType_tuple⟩, ?_⟩ | refine ⟨rfl, false, .inr ⟨kb_NoneType_bool, kb_NoneType_str⟩, ?_⟩)
      | with_reducible apply as_seq
      | with_reducible apply as_ret
      | with_reducible apply as_next
      | with_reducible apply as_if
      | with_reducible apply as_set
      | with_reducible apply as_par
      | with_reducible apply as_par3
      | with_reducible apply as_asg
      | ((with_reducible apply ae_var); · rfl)
      | with_reducible apply ae_int
      | with_reducible apply ae_non
      | with_reducible apply ae_bl
      | with_reducible apply ae_str
      | with_reducible apply ae_ty
      | with_reducible apply ae_isi2
      | with_reducible apply ae_op
      | with_reducible apply ae_un
      | with_reducible apply aa_nil
      | with_reducible apply aa_cons
      | with_reducible apply ae_cb
      | with_reducible apply ae_tup
      | with_reducible apply ae_lst
      | with_reducible apply ae_if
      | with_reducible apply at_test
      | with_reducible apply at_b
      | with_reducible apply at_and
      | with_reducible apply at_or
      | with_reducible apply at_not
      | with_reducible apply at_yes
      | with_reducible apply ae_andV
      | with_reducible apply ae_orV
      | with_reducible apply ae_notV
      | with_reducible apply ar_I0i
      | with_reducible apply ar_I0b
      | with_reducible apply ar_isN
      | with_reducible apply ar_notN
      | with_reducible apply au_Ui
      | ((with_reducible apply ar_ixTs); · rfl)
      | ((with_reducible apply ar_ixLs); · rfl)
      | ((with_reducible apply ar_ix); · rfl)
      | ((with_reducible apply ar_ixT); · rfl)
      | ((with_reducible apply ar_ixL); · rfl)
      | with_reducible apply ac_abs
      | with_reducible apply ac_max2
      | with_reducible apply ac_min2
      | with_reducible apply ac_lenT
      | with_reducible apply ac_lenL
      | with_reducible apply ac_listT
      | with_reducible apply ac_listL
      | with_reducible apply ac_tupL
      | with_reducible apply ac_tupT
      | with_reducible apply ac_int
      | with_reducible apply ac_intB
      | ((with_reducible apply ar_eq3); · exact ⟨rfl, rfl, rfl⟩)
      | ((with_reducible apply ar_ne3); · exact ⟨rfl, rfl, rfl⟩)
      | with_reducible apply ag_name
      | with_reducible apply ags_nil
      | with_reducible apply ags_cons
      | ((with_reducible apply ag_tup); · rfl)
      | refine ⟨sz60 (Nat.le_of_ble_eq_true rfl), ?_⟩
      | refine ⟨_, rfl, ?_⟩
      | refine ⟨_, _, rfl, ?_⟩
      | refine ⟨_, _, _, rfl, ?_⟩
      | (refine ⟨fun hc => ?_, fun hc => ?_⟩ <;> (first | (exfalso; exact absurd (show false = true from hc) (by decide)) | (exfalso; exact absurd (show true = false from hc) (by decide)) | (exfalso; simp at hc; done) | skip))
      | rfl
      | exact trivial
      | simp only [oD_some, oD_none])
  | bl b =>
    repeat' (first
      | ((with_reducible apply ac_isi1); · first | exact ⟨rfl, kb_bool_list⟩ | exact ⟨rfl, kb_bool_tuple⟩ | exact ⟨rfl, kb_bool_bool⟩ | exact ⟨rfl, kb_bool_int⟩ | exact ⟨rfl, kb_bool_str⟩)
      | (first | refine ⟨rfl, false, .inr ⟨kb_bool_list, kb_bool_tuple⟩, ?_⟩ | refine ⟨rfl, true, .inl ⟨kb_bool_bool, rfl⟩, ?_⟩)
      | with_reducible apply as_seq
      | with_reducible apply as_ret
      | with_reducible apply as_next
      | with_reducible apply as_if
      | with_reducible apply as_set
      | with_reducible apply as_par
      | with_reducible apply as_par3
      | with_reducible apply as_asg
      | ((with_reducible apply ae_var); · rfl)
      | with_reducible apply ae_int
      | with_reducible apply ae_non
      | with_reducible apply ae_bl
      | with_reducible apply ae_str
      | with_reducible apply ae_ty
      | with_reducible apply ae_isi2
      | with_reducible apply ae_op
      | with_reducible apply ae_un
      | with_reducible apply aa_nil
      | with_reducible apply aa_cons
      | with_reducible apply ae_cb
      | with_reducible apply ae_tup
      | with_reducible apply ae_lst
      | with_reducible apply ae_if
      | with_reducible apply at_test
      | with_reducible apply at_b
      | with_reducible apply at_and
      | with_reducible apply at_or
      | with_reducible apply at_not
      | with_reducible apply at_yes
      | with_reducible apply ae_andV
      | with_reducible apply ae_orV
      | with_reducible apply ae_notV
      | with_reducible apply ar_I0i
      | with_reducible apply ar_I0b
      | with_reducible apply ar_isN
      | with_reducible apply ar_notN
      | with_reducible apply au_Ui
      | ((with_reducible apply ar_ixTs); · rfl)
      | ((with_reducible apply ar_ixLs); · rfl)
      | ((with_reducible apply ar_ix); · rfl)
      | ((with_reducible apply ar_ixT); · rfl)
      | ((with_reducible apply ar_ixL); · rfl)
      | with_reducible apply ac_abs
      | with_reducible apply ac_max2
      | with_reducible apply ac_min2
      | with_reducible apply ac_lenT
      | with_reducible apply ac_lenL
      | with_reducible apply ac_listT
      | with_reducible apply ac_listL
      | with_reducible apply ac_tupL
      | with_reducible apply ac_tupT
      | with_reducible apply ac_int
      | with_reducible apply ac_intB
      | ((with_reducible apply ar_eq3); · exact ⟨rfl, rfl, rfl⟩)
      | ((with_reducible apply ar_ne3); · exact ⟨rfl, rfl, rfl⟩)
      | with_reducible apply ag_name
      | with_reducible apply ags_nil
      | with_reducible apply ags_cons
      | ((with_reducible apply ag_tup); · rfl)
      | refine ⟨sz60 (Nat.le_of_ble_eq_true rfl), ?_⟩
      | refine ⟨_, rfl, ?_⟩
      | refine ⟨_, _, rfl, ?_⟩
      | refine ⟨_, _, _, rfl, ?_⟩
      | (refine ⟨fun hc => ?_, fun hc => ?_⟩ <;> (first | (exfalso; exact absurd (show false = true from hc) (by decide)) | (exfalso; exact absurd (show true = false from hc) (by decide)) | (exfalso; simp at hc; done) | skip))
      | rfl
      | exact trivial
      | simp only [oD_some, oD_none])
  | int i =>
    repeat' (first
      | ((with_reducible apply ac_isi1); · first | exact ⟨rfl, kb_int_list⟩ | exact ⟨rfl, kb_int_tuple⟩ | exact ⟨rfl, kb_int_bool⟩ | exact ⟨rfl, kb_int_int⟩ | exact ⟨rfl, kb_int_str⟩)
      | (first | refine ⟨rfl, false, .inr ⟨kb_int_list, kb_int_tuple⟩, ?_⟩ | refine ⟨rfl, false, .inr ⟨kb_int_bool, kb_int_str⟩, ?_⟩)
      | with_reducible apply as_seq
      | with_reducible apply as_ret
      | with_reducible apply as_next
      | with_reducible apply as_if
      | with_reducible apply as_set
      | with_reducible apply as_par
      | with_reducible apply as_par3
      | with_reducible apply as_asg
      | ((with_reducible apply ae_var); · rfl)
      | with_reducible apply ae_int
      | with_reducible apply ae_non
      | with_reducible apply ae_bl
      | with_reducible apply ae_str
      | with_reducible apply ae_ty
      | with_reducible apply ae_isi2
      | with_reducible apply ae_op
      | with_reducible apply ae_un
      | with_reducible apply aa_nil
      | with_reducible apply aa_cons
      | with_reducible apply ae_cb
      | with_reducible apply ae_tup
      | with_reducible apply ae_lst
      | with_reducible apply ae_if
      | with_reducible apply at_test
      | with_reducible apply at_b
      | with_reducible apply at_and
      | with_reducible apply at_or
      | with_reducible apply at_not
      | with_reducible apply at_yes
      | with_reducible apply ae_andV
      | with_reducible apply ae_orV
      | with_reducible apply ae_notV
      | with_reducible apply ar_I0i
      | with_reducible apply ar_I0b
      | with_reducible apply ar_isN
      | with_reducible apply ar_notN
      | with_reducible apply au_Ui
      | ((with_reducible apply ar_ixTs); · rfl)
      | ((with_reducible apply ar_ixLs); · rfl)
      | ((with_reducible apply ar_ix); · rfl)
      | ((with_reducible apply ar_ixT); · rfl)
      | ((with_reducible apply ar_ixL); · rfl)
      | with_reducible apply ac_abs
      | with_reducible apply ac_max2
      | with_reducible apply ac_min2
      | with_reducible apply ac_lenT
      | with_reducible apply ac_lenL
      | with_reducible apply ac_listT
      | with_reducible apply ac_listL
      | with_reducible apply ac_tupL
      | with_reducible apply ac_tupT
      | with_reducible apply ac_int
      | with_reducible apply ac_intB
      | ((with_reducible apply ar_eq3); · exact ⟨rfl, rfl, rfl⟩)
      | ((with_reducible apply ar_ne3); · exact ⟨rfl, rfl, rfl⟩)
      | with_reducible apply ag_name
      | with_reducible apply ags_nil
      | with_reducible apply ags_cons
      | ((with_reducible apply ag_tup); · rfl)
      | refine ⟨sz60 (Nat.le_of_ble_eq_true rfl), ?_⟩
      | refine ⟨_, rfl, ?_⟩
      | refine ⟨_, _, rfl, ?_⟩
      | refine ⟨_, _, _, rfl, ?_⟩
      | (refine ⟨fun hc => ?_, fun hc => ?_⟩ <;> (first | (exfalso; exact absurd (show false = true from hc) (by decide)) | (exfalso; exact absurd (show true = false from hc) (by decide)) | (exfalso; simp at hc; done) | skip))
      | rfl
      | exact trivial
      | simp only [oD_some, oD_none])
  | str z =>
    repeat' (first
      | ((with_reducible apply ac_isi1); · first | exact ⟨rfl, kb_str_list⟩ | exact ⟨rfl, kb_str_tuple⟩ | exact ⟨rfl, kb_str_bool⟩ | exact ⟨rfl, kb_str_int⟩ | exact ⟨rfl, kb_str_str⟩)
      | (first | refine ⟨rfl, false, .inr ⟨kb_str_list, kb_str_tuple⟩, ?_⟩ | refine ⟨rfl, true, .inr ⟨kb_str_bool, kb_str_str⟩, ?_⟩)
      | with_reducible apply as_seq
      | with_reducible apply as_ret
      | with_reducible apply as_next
      | with_reducible apply as_if
      | with_reducible apply as_set
      | with_reducible apply as_par
      | with_reducible apply as_par3
      | with_reducible apply as_asg
      | ((with_reducible apply ae_var); · rfl)
      | with_reducible apply ae_int
      | with_reducible apply ae_non
      | with_reducible apply ae_bl
      | with_reducible apply ae_str
      | with_reducible apply ae_ty
      | with_reducible apply ae_isi2
      | with_reducible apply ae_op
      | with_reducible apply ae_un
      | with_reducible apply aa_nil
      | with_reducible apply aa_cons
      | with_reducible apply ae_cb
      | with_reducible apply ae_tup
      | with_reducible apply ae_lst
      | with_reducible apply ae_if
      | with_reducible apply at_test
      | with_reducible apply at_b
      | with_reducible apply at_and
      | with_reducible apply at_or
      | with_reducible apply at_not
      | with_reducible apply at_yes
      | with_reducible apply ae_andV
      | with_reducible apply ae_orV
      | with_reducible apply ae_notV
      | with_reducible apply ar_I0i
      | with_reducible apply ar_I0b
      | with_reducible apply ar_isN
      | with_reducible apply ar_notN
      | with_reducible apply au_Ui
      | ((with_reducible apply ar_ixTs); · rfl)
      | ((with_reducible apply ar_ixLs); · rfl)
      | ((with_reducible apply ar_ix); · rfl)
      | ((with_reducible apply ar_ixT); · rfl)
      | ((with_reducible apply ar_ixL); · rfl)
      | with_reducible apply ac_abs
      | with_reducible apply ac_max2
      | with_reducible apply ac_min2
      | with_reducible apply ac_lenT
      | with_reducible apply ac_lenL
      | with_reducible apply ac_listT
      | with_reducible apply ac_listL
      | with_reducible apply ac_tupL
      | with_reducible apply ac_tupT
      | with_reducible apply ac_int
      | with_reducible apply ac_intB
      | ((with_reducible apply ar_eq3); · exact ⟨rfl, rfl, rfl⟩)
      | ((with_reducible apply ar_ne3); · exact ⟨rfl, rfl, rfl⟩)
      | with_reducible apply ag_name
      | with_reducible apply ags_nil
      | with_reducible apply ags_cons
      | ((with_reducible apply ag_tup); · rfl)
      | refine ⟨sz60 (Nat.le_of_ble_eq_true rfl), ?_⟩
      | refine ⟨_, rfl, ?_⟩
      | refine ⟨_, _, rfl, ?_⟩
      | refine ⟨_, _, _, rfl, ?_⟩
      | (refine ⟨fun hc => ?_, fun hc => ?_⟩ <;> (first | (exfalso; exact absurd (show false = true from hc) (by decide)) | (exfalso; exact absurd (show true = false from hc) (by decide)) | (exfalso; simp at hc; done) | skip))
      | rfl
      | exact trivial
      | simp only [oD_some, oD_none])
  | ty T => exact absurd f1 (fun z => nomatch z)
  | tup l =>
    have hl : l.length ≤ 9000 := by
      have f2 : (decide (l.length ≤ 9000) && fits l) = true := f1
      rw [Bool.and_eq_true] at f2; exact of_decide_eq_true f2.1
    have hf : fits l = true := by
      have f2 : (decide (l.length ≤ 9000) && fits l) = true := f1
      rw [Bool.and_eq_true] at f2; exact f2.2
    have hd : deps l ≤ n := Nat.le_of_succ_le_succ (show deps l + 1 ≤ n + 1 from n1)
    repeat' (first
      | ((with_reducible apply ac_isi1); · first | exact ⟨rfl, kb_tuple_list⟩ | exact ⟨rfl, kb_tuple_tuple⟩ | exact ⟨rfl, kb_tuple_bool⟩ | exact ⟨rfl, kb_tuple_int⟩ | exact ⟨rfl, kb_tuple_str⟩)
      | (first | refine ⟨rfl, true, .inr ⟨kb_tuple_list, kb_tuple_tuple⟩, ?_⟩ | refine ⟨rfl, false, .inr ⟨kb_tuple_bool, kb_tuple_str⟩, ?_⟩)
      | with_reducible apply as_seq
      | with_reducible apply as_ret
      | with_reducible apply as_next
      | with_reducible apply as_if
      | with_reducible apply as_set
      | with_reducible apply as_par
      | with_reducible apply as_par3
      | with_reducible apply as_asg
      | ((with_reducible apply ae_var); · rfl)
      | with_reducible apply ae_int
      | with_reducible apply ae_non
      | with_reducible apply ae_bl
      | with_reducible apply ae_str
      | with_reducible apply ae_ty
      | with_reducible apply ae_isi2
      | with_reducible apply ae_op
      | with_reducible apply ae_un
      | with_reducible apply aa_nil
      | with_reducible apply aa_cons
      | with_reducible apply ae_cb
      | with_reducible apply ae_tup
      | with_reducible apply ae_lst
      | with_reducible apply ae_if
      | with_reducible apply at_test
      | with_reducible apply at_b
      | with_reducible apply at_and
      | with_reducible apply at_or
      | with_reducible apply at_not
      | with_reducible apply at_yes
      | with_reducible apply ae_andV
      | with_reducible apply ae_orV
      | with_reducible apply ae_notV
      | with_reducible apply ar_I0i
      | with_reducible apply ar_I0b
      | with_reducible apply ar_isN
      | with_reducible apply ar_notN
      | with_reducible apply au_Ui
      | ((with_reducible apply ar_ixTs); · rfl)
      | ((with_reducible apply ar_ixLs); · rfl)
      | ((with_reducible apply ar_ix); · rfl)
      | ((with_reducible apply ar_ixT); · rfl)
      | ((with_reducible apply ar_ixL); · rfl)
      | with_reducible apply ac_abs
      | with_reducible apply ac_max2
      | with_reducible apply ac_min2
      | with_reducible apply ac_lenT
      | with_reducible apply ac_lenL
      | with_reducible apply ac_listT
      | with_reducible apply ac_listL
      | with_reducible apply ac_tupL
      | with_reducible apply ac_tupT
      | with_reducible apply ac_int
      | with_reducible apply ac_intB
      | ((with_reducible apply ar_eq3); · exact ⟨rfl, rfl, rfl⟩)
      | ((with_reducible apply ar_ne3); · exact ⟨rfl, rfl, rfl⟩)
      | with_reducible apply ag_name
      | with_reducible apply ags_nil
      | with_reducible apply ags_cons
      | ((with_reducible apply ag_tup); · rfl)
      | refine ⟨sz60 (Nat.le_of_ble_eq_true rfl), ?_⟩
      | refine ⟨_, rfl, ?_⟩
      | refine ⟨_, _, rfl, ?_⟩
      | refine ⟨_, _, _, rfl, ?_⟩
      | (refine ⟨fun hc => ?_, fun hc => ?_⟩ <;> (first | (exfalso; exact absurd (show false = true from hc) (by decide)) | (exfalso; exact absurd (show true = false from hc) (by decide)) | (exfalso; simp at hc; done) | skip))
      | rfl
      | exact trivial
      | simp only [oD_some, oD_none])
    refine ae_lcMap (fun _ => .bl true) ?_
    refine ai_zipT ?_
    repeat' (first | (with_reducible apply aa_cons) | ((with_reducible apply ae_var); · rfl) | (with_reducible apply aa_nil))
    refine ⟨l, l, rfl, ?_, fun d hm => ?_, ?_⟩
    · rw [zpD_len, Nat.min_self]; exact Nat.lt_of_le_of_lt hl (by decide)
    · obtain ⟨e, he, rfl⟩ := zp_self hm
      refine agv_tup rfl (agvs_cons (agv_name (by decide) (agvs_cons (agv_name (by decide) (agvs_nil ?_)))))
      refine ae_call ?_
      repeat' (first | (with_reducible apply aa_cons) | ((with_reducible apply ae_var); · rfl) | (with_reducible apply aa_nil))
      exact ⟨.bl true, ⟨e, rfl, Nat.le_trans (deps_mem he) hd, fits_mem hf he, rfl⟩, rfl, rfl⟩
    · refine aa_nil ?_
      rw [map_true]
      refine ac_all ?_
      rw [all_true]
  | lst l =>
    have hl : l.length ≤ 9000 := by
      have f2 : (decide (l.length ≤ 9000) && fits l) = true := f1
      rw [Bool.and_eq_true] at f2; exact of_decide_eq_true f2.1
    have hf : fits l = true := by
      have f2 : (decide (l.length ≤ 9000) && fits l) = true := f1
      rw [Bool.and_eq_true] at f2; exact f2.2
    have hd : deps l ≤ n := Nat.le_of_succ_le_succ (show deps l + 1 ≤ n + 1 from n1)
    repeat' (first
      | ((with_reducible apply ac_isi1); · first | exact ⟨rfl, kb_list_list⟩ | exact ⟨rfl, kb_list_tuple⟩ | exact ⟨rfl, kb_list_bool⟩ | exact ⟨rfl, kb_list_int⟩ | exact ⟨rfl, kb_list_str⟩)
      | (first | refine ⟨rfl, true, .inl ⟨kb_list_list, rfl⟩, ?_⟩ | refine ⟨rfl, false, .inr ⟨kb_list_bool, kb_list_str⟩, ?_⟩)
      | with_reducible apply as_seq
      | with_reducible apply as_ret
      | with_reducible apply as_next
      | with_reducible apply as_if
      | with_reducible apply as_set
      | with_reducible apply as_par
      | with_reducible apply as_par3
      | with_reducible apply as_asg
      | ((with_reducible apply ae_var); · rfl)
      | with_reducible apply ae_int
      | with_reducible apply ae_non
      | with_reducible apply ae_bl
      | with_reducible apply ae_str
      | with_reducible apply ae_ty
      | with_reducible apply ae_isi2
      | with_reducible apply ae_op
      | with_reducible apply ae_un
      | with_reducible apply aa_nil
      | with_reducible apply aa_cons
      | with_reducible apply ae_cb
      | with_reducible apply ae_tup
      | with_reducible apply ae_lst
      | with_reducible apply ae_if
      | with_reducible apply at_test
      | with_reducible apply at_b
      | with_reducible apply at_and
      | with_reducible apply at_or
      | with_reducible apply at_not
      | with_reducible apply at_yes
      | with_reducible apply ae_andV
      | with_reducible apply ae_orV
      | with_reducible apply ae_notV
      | with_reducible apply ar_I0i
      | with_reducible apply ar_I0b
      | with_reducible apply ar_isN
      | with_reducible apply ar_notN
      | with_reducible apply au_Ui
      | ((with_reducible apply ar_ixTs); · rfl)
      | ((with_reducible apply ar_ixLs); · rfl)
      | ((with_reducible apply ar_ix); · rfl)
      | ((with_reducible apply ar_ixT); · rfl)
      | ((with_reducible apply ar_ixL); · rfl)
      | with_reducible apply ac_abs
      | with_reducible apply ac_max2
      | with_reducible apply ac_min2
      | with_reducible apply ac_lenT
      | with_reducible apply ac_lenL
      | with_reducible apply ac_listT
      | with_reducible apply ac_listL
      | with_reducible apply ac_tupL
      | with_reducible apply ac_tupT
      | with_reducible apply ac_int
      | with_reducible apply ac_intB
      | ((with_reducible apply ar_eq3); · exact ⟨rfl, rfl, rfl⟩)
      | ((with_reducible apply ar_ne3); · exact ⟨rfl, rfl, rfl⟩)
      | with_reducible apply ag_name
      | with_reducible apply ags_nil
      | with_reducible apply ags_cons
      | ((with_reducible apply ag_tup); · rfl)
      | refine ⟨sz60 (Nat.le_of_ble_eq_true rfl), ?_⟩
      | refine ⟨_, rfl, ?_⟩
      | refine ⟨_, _, rfl, ?_⟩
      | refine ⟨_, _, _, rfl, ?_⟩
      | (refine ⟨fun hc => ?_, fun hc => ?_⟩ <;> (first | (exfalso; exact absurd (show false = true from hc) (by decide)) | (exfalso; exact absurd (show true = false from hc) (by decide)) | (exfalso; simp at hc; done) | skip))
      | rfl
      | exact trivial
      | simp only [oD_some, oD_none])
    refine ae_lcMap (fun _ => .bl true) ?_
    refine ai_zipL ?_
    repeat' (first | (with_reducible apply aa_cons) | ((with_reducible apply ae_var); · rfl) | (with_reducible apply aa_nil))
    refine ⟨l, l, rfl, ?_, fun d hm => ?_, ?_⟩
    · rw [zpD_len, Nat.min_self]; exact Nat.lt_of_le_of_lt hl (by decide)
    · obtain ⟨e, he, rfl⟩ := zp_self hm
      refine agv_tup rfl (agvs_cons (agv_name (by decide) (agvs_cons (agv_name (by decide) (agvs_nil ?_)))))
      refine ae_call ?_
      repeat' (first | (with_reducible apply aa_cons) | ((with_reducible apply ae_var); · rfl) | (with_reducible apply aa_nil))
      exact ⟨.bl true, ⟨e, rfl, Nat.le_trans (deps_mem he) hd, fits_mem hf he, rfl⟩, rfl, rfl⟩
    · refine aa_nil ?_
      rw [map_true]
      refine ac_all ?_
      rw [all_true]
theorem all_same (bl : Blts mg) {f : Addr} {fd : FuncData} (F : Fun K "_law_same" "_law_same" s_l_same f fd) (bG : Binds K fd p_l_same []) (mG : mg "_law_same" = some (.ref f)) : ∀ n : Nat, FnOk P w K mg base CX0 n f fd p_l_same (spP K (S_same n))
  | 0 => none0 fun vs H Q E h => by
    obtain ⟨G, ds, r, _, _, ⟨d, _, h1, _⟩, _⟩ := h
    have := dep_pos d
    omega
  | n + 1 => ok_l_same bl ⟨all_same bl F bG mG n, bG, F.kp, mG⟩ F
end
end Sh
set_option Elab.async false
set_option linter.all false
set_option maxRecDepth 100000
set_option maxHeartbeats 4000000
namespace Sh
open PySem PySem.Spec PyProof.Rows L2
abbrev s_l_pair_right : Stmt := topS 62
abbrev N_l_pair_right : List Str := ["_law_word", "_law_mine", "_law_its", "_law_found", "_law_far", "_law_near", "_law_wide", "_law_mate", "_law_spot"]
abbrev p_l_pair_right : List Str := ["_law_word", "_law_mine", "_law_its"]
theorem sc_l_pair_right : FnScope N_l_pair_right p_l_pair_right (defScope s_l_pair_right) := ⟨rfl, rfl, rfl, by decide +kernel, rfl, by decide +kernel, by decide +kernel⟩
def S_pr (ds : List Dt) (res : Dt) : Prop := ∃ (w : Wd) (a b : Option Int) (m r : Int) (c d : Option Int) (n s : Int), ds = [.str w.s, vD a b m r, vD c d n s] ∧ InV a b m r ∧ InV c d n s ∧ res = .bl true
theorem va0 {w : Wd} {a b c d : Option Int} {m r n s : Int} {X1 X2 Y1 Y2 : List Int} (k k' : Bool) (z : Cut6 a b m r X1 X2) (y : Cut6 c d n s Y1 Y2) {f : Dt} (h : VaP w a b m r c d n s f) : S_va [.str w.s, sq k [oD a, oD b, .int m, .int r], sq k' [oD c, oD d, .int n, .int s]] f := by
  refine ⟨w, k, k', a, b, c, d, m, r, n, s, rfl, z.c.vq, y.c.vq, ?_⟩
  cases w <;> exact h
theorem va1 {w : Wd} {a b c d : Option Int} {m r n s : Int} {X1 X2 Y1 Y2 : List Int} (z : Cut6 a b m r X1 X2) (y : Cut6 c d n s Y1 Y2) {f : Dt} (h : VaP w (some (hd X1)) (some (ls X1)) m r (some (hd Y1)) (some (ls Y1)) n s f) : S_va [.str w.s, vD (some (hd X1)) (some (ls X1)) m r, vD (some (hd Y1)) (some (ls Y1)) n s] f := by
  have v1 := z.c.s1.vq; have v2 := y.c.s1.vq
  rw [z.c.r1, z.c.m1] at v1
  rw [y.c.r1, y.c.m1] at v2
  refine ⟨w, true, true, _, _, _, _, m, r, n, s, rfl, v1, v2, ?_⟩
  cases w <;> exact h
theorem va2 {w : Wd} {a b c d : Option Int} {m r n s : Int} {X1 X2 Y1 Y2 : List Int} (z : Cut6 a b m r X1 X2) (y : Cut6 c d n s Y1 Y2) {f : Dt} (h : VaP w (some (hd X2)) (some (ls X2)) m r (some (hd Y2)) (some (ls Y2)) n s f) : S_va [.str w.s, vD (some (hd X2)) (some (ls X2)) m r, vD (some (hd Y2)) (some (ls Y2)) n s] f := by
  have v1 := z.c.s2.vq; have v2 := y.c.s2.vq
  rw [z.c.r2, z.c.m2] at v1
  rw [y.c.r2, y.c.m2] at v2
  refine ⟨w, true, true, _, _, _, _, m, r, n, s, rfl, v1, v2, ?_⟩
  cases w <;> exact h
theorem dep_oD {a : Option Int} : (oD a).dep = 1 := by cases a <;> rfl
theorem fit_oD {a : Option Int} : (oD a).fit = true := by cases a <;> rfl
theorem dep1 {x y : Option Int} {m r : Int} : (vD x y m r).dep ≤ 8 := by
  simp only [vD, Dt.dep, deps, dep_oD]; decide
theorem fit1 {x y : Option Int} {m r : Int} : (vD x y m r).fit = true := by
  simp [vD, Dt.fit, fits, fit_oD]
section
variable {P : Program} {w : World} {K : PySem.W.Frag} {mg : Str → Option Value} {base : Heap}
theorem ok_l_pair_right (bl : Blts mg) {g_value_apply : Addr} {d_value_apply : FuncData} (c_value_apply : Cal P w K mg base 7 "value_apply" p_value_apply (spP K S_va) g_value_apply d_value_apply) {g_l_same : Addr} {d_l_same : FuncData} (c_l_same : Cal P w K mg base 8 "_law_same" p_l_same (spP K (S_same 8)) g_l_same d_l_same) {g_l_cut : Addr} {d_l_cut : FuncData} (c_l_cut : Cal P w K mg base 4 "_law_cut" p_l_cut (spP K S_lcut) g_l_cut d_l_cut) {g_l_members : Addr} {d_l_members : FuncData} (c_l_members : Cal P w K mg base 4 "_law_members" p_l_members (spP K S_mem) g_l_members d_l_members) {g_l_result : Addr} {d_l_result : FuncData} (c_l_result : Cal P w K mg base 1 "_law_result" p_l_result (spP K S_lres) g_l_result d_l_result) {g_l_ends_right : Addr} {d_l_ends_right : FuncData} (c_l_ends_right : Cal P w K mg base 1 "_law_ends_right" p_l_ends_right (spP K S_er) g_l_ends_right d_l_ends_right) {g_contains : Addr} {d_contains : FuncData} (c_contains : Cal P w K mg base 3 "contains" p_contains (spP K S_con) g_contains d_contains) (k_value_apply : KB0 K d_value_apply p_value_apply ["other", "one", "sign"] List.reverse List.reverse)  {f : Addr} {fd : FuncData} (F : Fun K "_law_pair_right" "_law_pair_right" s_l_pair_right f fd) : FnOk P w K mg base CX0 9 f fd p_l_pair_right (spP K (S_pr)) := by
  refine okP F sc_l_pair_right (fun ds r h => ?_) (fun cdv A outer s H E hr ds r h => ?_)
  · obtain ⟨w, a, b, m, r, c, d, n, s, rfl, i, j, rfl⟩ := h
    rfl
  obtain ⟨w, a, b, m, r, c, d, n, s, rfl, i, j, rfl⟩ := h
  refine ⟨_, (pss_cons (ps_set (i := 3) sc_l_pair_right.nd rfl (by first | exact Or.inl rfl | exact Or.inr rfl) (pe_call c_value_apply.ok (hr.mono (by decide)) rfl c_value_apply.mg c_value_apply.kp c_value_apply.bi .nil pass0 (pa_cons (pv 0) (pa_cons (pv 1) (pa_cons (pv 2) pa_nil)))))
    (pss_cons (ps_if (pt_not (pt_val (pe_call c_l_same.ok (hr.mono (by decide)) rfl c_l_same.mg c_l_same.kp c_l_same.bi .nil pass0 (pa_cons (pe_callK0 c_value_apply.ok (hr.mono (by decide)) rfl c_value_apply.mg c_value_apply.kp k_value_apply pass0 (pk_cons (pe_callTy call_list_of rfl bl.list (by decide +kernel) (pa_cons (pv 2) pa_nil)) (pk_cons (pe_callTy call_list_of rfl bl.list (by decide +kernel) (pa_cons (pv 1) pa_nil)) (pk_cons (pv 0) pk_nil)))) (pa_cons (pv 3) pa_nil))))) (pss_one (ps_ret pe_bl)) pss_nil)
    (pss_cons (ps_set (i := 4) sc_l_pair_right.nd rfl (by first | exact Or.inl rfl | exact Or.inr rfl) (pe_op op_pow pe_int pe_int))
    (pss_cons (ps_set (i := 5) sc_l_pair_right.nd rfl (by first | exact Or.inl rfl | exact Or.inr rfl) (pe_call c_value_apply.ok (hr.mono (by decide)) rfl c_value_apply.mg c_value_apply.kp c_value_apply.bi .nil pass0 (pa_cons (pv 0) (pa_cons (pe_call c_l_cut.ok (hr.mono (by decide)) rfl c_l_cut.mg c_l_cut.kp c_l_cut.bi .nil pass0 (pa_cons (pv 1) (pa_cons (pv 4) pa_nil))) (pa_cons (pe_call c_l_cut.ok (hr.mono (by decide)) rfl c_l_cut.mg c_l_cut.kp c_l_cut.bi .nil pass0 (pa_cons (pv 2) (pa_cons (pv 4) pa_nil))) pa_nil)))))
    (pss_cons (ps_set (i := 6) sc_l_pair_right.nd rfl (by first | exact Or.inl rfl | exact Or.inr rfl) (pe_call c_value_apply.ok (hr.mono (by decide)) rfl c_value_apply.mg c_value_apply.kp c_value_apply.bi .nil pass0 (pa_cons (pv 0) (pa_cons (pe_call c_l_cut.ok (hr.mono (by decide)) rfl c_l_cut.mg c_l_cut.kp c_l_cut.bi .nil pass0 (pa_cons (pv 1) (pa_cons (pe_op op_mul pe_int (pv 4)) pa_nil))) (pa_cons (pe_call c_l_cut.ok (hr.mono (by decide)) rfl c_l_cut.mg c_l_cut.kp c_l_cut.bi .nil pass0 (pa_cons (pv 2) (pa_cons (pe_op op_mul pe_int (pv 4)) pa_nil))) pa_nil)))))
    (pss_cons (ps_if (PW.pt (pw_or (pt_cmpR op_isN (pv 3) pe_non (nomark _)) (pw_or (pt_cmpR op_isN (pv 5) pe_non (nomark _)) (pw_or1 (pt_cmpR op_isN (pv 6) pe_non (nomark _)))))) (pss_one (ps_ret (pe_and (pe_cmpR op_isN (pv 3) pe_non (nomark _)) (pe_and (pe_cmpR op_isN (pv 5) pe_non (nomark _)) (pe_one (pe_cmpR op_isN (pv 6) pe_non (nomark _))))))) pss_nil)
    (pss_cons (ps_if (PW.pt (pw_or (pt_not (pt_val (pe_call c_l_ends_right.ok (hr.mono (by decide)) rfl c_l_ends_right.mg c_l_ends_right.kp c_l_ends_right.bi .nil pass0 (pa_cons (pv 3) (pa_cons (pv 5) (pa_cons (pv 6) pa_nil)))))) (pw_or (pt_cmpR op_ne (pe_ix ix_tup (pv 3) pe_int (fun _ _ => rfl)) (pe_ix ix_tup (pv 6) pe_int (fun _ _ => rfl)) (nomark _)) (pw_or1 (pt_cmpR op_ne (pe_ix ix_tup (pv 3) pe_int (fun _ _ => rfl)) (pe_ix ix_tup (pv 6) pe_int (fun _ _ => rfl)) (nomark _)))))) (pss_one (ps_ret pe_bl)) pss_nil)
    (pss_cons (ps_for PassesOwn.never rfl (pi_list (pe_call c_l_members.ok (hr.mono (by decide)) rfl c_l_members.mg c_l_members.kp c_l_members.bi .nil pass0 (pa_cons (pv 2) pa_nil))) (pg_name (i := 7) sc_l_pair_right.nd rfl (by first | exact Or.inl rfl | exact Or.inr rfl)) (pss_one (ps_if (PW.pt (pw_or (pt_cmpR op_ne (pv 7) pe_int (nomark _)) (pw_or1 (pt_cmpR op_in_seq (pv 0) (pe_tup (pa_cons pe_str (pa_cons pe_str (pa_cons pe_str pa_nil)))) rfl)))) (pss_one (ps_if (pt_not (pt_val (pe_callB (cr_all rfl) rfl bl.all (by decide +kernel) (pa_cons (pe_lc (own := [("_law_spot", 8)]) (g := (gName 8)) (tt := tYes) rfl sc_l_pair_right.nd (pi_list (pe_call c_l_members.ok (hr.mono (by decide)) rfl c_l_members.mg c_l_members.kp c_l_members.bi .nil pass0 (pa_cons (pv 1) pa_nil))) (blkOk_by (N := N_l_pair_right) (sc := defScope s_l_pair_right) (by decide +kernel)) (fun _ _ _ _ _ => (pg_name (i := 8) sc_l_pair_right.nd rfl (by first | exact Or.inl rfl | exact Or.inr rfl))) (fun _ _ _ _ _ => pts_nil) (fun _ _ _ _ _ => (pe_call c_contains.ok (hr.mono (by decide)) rfl c_contains.mg c_contains.kp c_contains.bi .nil pass0 (pa_cons (pv 3) (pa_cons (pe_call c_l_result.ok (hr.mono (by decide)) rfl c_l_result.mg c_l_result.kp c_l_result.bi .nil pass0 (pa_cons (pv 0) (pa_cons (pv 8) (pa_cons (pv 7) pa_nil)))) pa_nil))))) pa_nil)))) (pss_one (ps_ret pe_bl)) pss_nil)) pss_nil)))
    (pss_one (ps_ret pe_bl)))))))))), ?_⟩
  change AS K _ [En.da _, En.da _, En.da _, En.no, En.no, En.no, En.no, En.no, En.no] _ _
  try simp only [cxOf_K]
  obtain ⟨X1, X2, z, p1, p2⟩ := cut_in i
  obtain ⟨Y1, Y2, y, q1, q2⟩ := cut_in j
  obtain ⟨f, g, v, hf, hg, hv, hh⟩ := all3 w z y
  have p1' : voD (some (cutL ((10 : Int) ^ (9 : Int).toNat) a)) (some (cutH ((10 : Int) ^ (9 : Int).toNat) b)) m r = vD (some (hd X1)) (some (ls X1)) m r := p1
  have q1' : voD (some (cutL ((10 : Int) ^ (9 : Int).toNat) c)) (some (cutH ((10 : Int) ^ (9 : Int).toNat) d)) n s = vD (some (hd Y1)) (some (ls Y1)) n s := q1
  have p2' : voD (some (cutL (10 * (10 : Int) ^ (9 : Int).toNat) a)) (some (cutH (10 * (10 : Int) ^ (9 : Int).toNat) b)) m r = vD (some (hd X2)) (some (ls X2)) m r := p2
  have q2' : voD (some (cutL (10 * (10 : Int) ^ (9 : Int).toNat) c)) (some (cutH (10 * (10 : Int) ^ (9 : Int).toNat) d)) n s = vD (some (hd Y2)) (some (ls Y2)) n s := q2
  rcases hh with ⟨rfl, rfl, rfl⟩ | ⟨tv, hres⟩
  ·
    repeat' (first
      | with_reducible apply ae_call
      | (with_reducible refine ae_callK List.reverse (fun r _ => RDs.rev r) ?_)
      | (refine ⟨.non, va0 true true z y hf, ?_⟩)
      | (refine ⟨rfl, .non, va0 false false z y hf, ?_⟩)
      | (refine ⟨.non, va1 z y hg, ?_⟩)
      | (refine ⟨.non, va2 z y hv, ?_⟩)
      | (refine ⟨_, ⟨.non, rfl, (by decide), rfl, rfl⟩, ?_⟩)
      | (refine ⟨_, ⟨a, b, m, r, (10 : Int) ^ (9 : Int).toNat, rfl, p1'.symm⟩, ?_⟩)
      | (refine ⟨_, ⟨c, d, n, s, (10 : Int) ^ (9 : Int).toNat, rfl, q1'.symm⟩, ?_⟩)
      | (refine ⟨_, ⟨a, b, m, r, 10 * (10 : Int) ^ (9 : Int).toNat, rfl, p2'.symm⟩, ?_⟩)
      | (refine ⟨_, ⟨c, d, n, s, 10 * (10 : Int) ^ (9 : Int).toNat, rfl, q2'.symm⟩, ?_⟩)
      | refine ar_Ii (C := CPow) ⟨by decide, by decide, by decide⟩ ?_
      | refine ar_Ii (C := CMul) (.inl ⟨by omega, by omega⟩) ?_
      | with_reducible apply as_seq
      | with_reducible apply as_ret
      | with_reducible apply as_next
      | with_reducible apply as_if
      | with_reducible apply as_set
      | ((with_reducible apply ae_var); · rfl)
      | with_reducible apply ae_int
      | with_reducible apply ae_non
      | with_reducible apply ae_op
      | with_reducible apply aa_nil
      | with_reducible apply aa_cons
      | with_reducible apply ae_cb
      | with_reducible apply at_test
      | with_reducible apply at_b
      | with_reducible apply at_or
      | with_reducible apply at_not
      | with_reducible apply ae_andV
      | with_reducible apply ar_isN
      | with_reducible apply ac_listT
      | refine ⟨_, rfl, ?_⟩
      | (refine ⟨fun hc => ?_, fun hc => ?_⟩ <;> (first | (exfalso; exact absurd (show false = true from hc) (by decide)) | (exfalso; exact absurd (show true = false from hc) (by decide)) | (exfalso; simp at hc; done) | skip))
      | rfl
      | fail)
  · have tv' := tv
    obtain ⟨A, B, l1, h1, l2, h2, M, R, rfl, rfl, rfl, _⟩ := tv'
    have hcon : ∀ x v, inO a b m r x → inO c d n s v → ((w = .div ∨ w = .mod) → v ≠ 0) → (letsB A B (opW w x v) && hasB M R (opW w x v)) = true := fun x v hx hv' nz => by
      obtain ⟨A', B', M', R', e, h⟩ := hres x v (z.mem hx) (y.mem hv') nz
      obtain ⟨rfl, rfl, rfl, rfl⟩ := vd_inj e
      exact h
    repeat' (first
      | with_reducible apply ae_call
      | (with_reducible refine ae_callK List.reverse (fun r _ => RDs.rev r) ?_)
      | (refine ⟨(vD A B M R), va0 true true z y hf, ?_⟩)
      | (refine ⟨rfl, (vD A B M R), va0 false false z y hf, ?_⟩)
      | (refine ⟨(vD (some l1) (some h1) M R), va1 z y hg, ?_⟩)
      | (refine ⟨(vD (some l2) (some h2) M R), va2 z y hv, ?_⟩)
      | (refine ⟨_, ⟨vD A B M R, rfl, dep1, fit1, rfl⟩, ?_⟩)
      | (refine ⟨_, ⟨a, b, m, r, (10 : Int) ^ (9 : Int).toNat, rfl, p1'.symm⟩, ?_⟩)
      | (refine ⟨_, ⟨c, d, n, s, (10 : Int) ^ (9 : Int).toNat, rfl, q1'.symm⟩, ?_⟩)
      | (refine ⟨_, ⟨a, b, m, r, 10 * (10 : Int) ^ (9 : Int).toNat, rfl, p2'.symm⟩, ?_⟩)
      | (refine ⟨_, ⟨c, d, n, s, 10 * (10 : Int) ^ (9 : Int).toNat, rfl, q2'.symm⟩, ?_⟩)
      | (refine ⟨_, ⟨_, _, _, rfl, tv, rfl⟩, ?_⟩)
      | refine ar_Ii (C := CPow) ⟨by decide, by decide, by decide⟩ ?_
      | refine ar_Ii (C := CMul) (.inl ⟨by omega, by omega⟩) ?_
      | with_reducible apply as_seq
      | with_reducible apply as_next
      | with_reducible apply as_if
      | with_reducible apply as_set
      | ((with_reducible apply ae_var); · rfl)
      | with_reducible apply ae_int
      | with_reducible apply ae_non
      | with_reducible apply ae_op
      | with_reducible apply aa_nil
      | with_reducible apply aa_cons
      | with_reducible apply ae_cb
      | with_reducible apply at_test
      | with_reducible apply at_b
      | with_reducible apply at_or
      | with_reducible apply at_not
      | with_reducible apply ar_isN
      | ((with_reducible apply ar_ixT); · rfl)
      | with_reducible apply ac_listT
      | ((with_reducible apply ar_ne3); · exact ⟨rfl, rfl, rfl⟩)
      | refine ⟨_, rfl, ?_⟩
      | (refine ⟨fun hc => ?_, fun hc => ?_⟩ <;> (first | (exfalso; exact absurd (show false = true from hc) (by decide)) | (exfalso; exact absurd (show true = false from hc) (by decide)) | (exfalso; simp at hc; done) | skip))
      | fail)
    refine as_for ?_
    refine ai_list ?_
    repeat' (first
      | with_reducible apply ae_call
      | (refine ⟨_, ⟨c, d, n, s, rfl, j, rfl⟩, ?_⟩)
      | ((with_reducible apply ae_var); · rfl)
      | with_reducible apply aa_nil
      | with_reducible apply aa_cons
      | refine ⟨_, rfl, ?_⟩
      | fail)
    refine ⟨fun i ρ => ∃ e7 e8 : En, ρ = [.da (.str w.s), .da (vD a b m r), .da (vD c d n s), .da (vD A B M R), .da (.int ((10 : Int) ^ (9 : Int).toNat)), .da (vD (some l1) (some h1) M R), .da (vD (some l2) (some h2) M R), e7, e8], ⟨_, _, rfl⟩, ?_, ?_⟩
    rotate_left
    · rintro ρ ⟨e7, e8, rfl⟩
      repeat' (first
        | with_reducible apply as_ret
        | with_reducible apply ae_bl
        | rfl
        | fail)
    rintro ii dd ρ hi ⟨e7, e8, rfl⟩
    rw [List.getElem?_map] at hi
    obtain ⟨v, hv0, rfl⟩ := Option.map_eq_some_iff.mp hi
    have fv := mem_in j (List.mem_of_getElem? hv0)
    have fb := fv.2
    have mk := fun x (h : x ∈ memL a b m r) => mem_in i h
    by_cases v0 : v = 0
    · have d0 : (!decide (V.int v = V.int 0)) = false := by rw [v0]; rfl
      cases w
      ·
        repeat' (first
          | with_reducible apply ae_call
          | (refine ⟨_, rfl, ?_⟩; rw [d0]; refine ⟨fun hc => (nomatch hc), fun hc => ?_⟩)
          | ((apply ar_inW (b := true) ⟨rfl, rfl⟩); · decide +kernel)
          | (refine ⟨_, ⟨a, b, m, r, rfl, i, rfl⟩, ?_⟩)
          | (refine ⟨_, ⟨.add, x, v, rfl, fx.2, fv.2, (fun h => by rcases h with h | h <;> cases h), rfl⟩, ?_⟩)
          | (refine ⟨.bl true, ⟨true, A, B, M, R, _, rfl, congrArg Dt.bl (hcon x v fx fv (fun h => by rcases h with h | h <;> cases h)).symm⟩, ?_⟩)
          | (with_reducible refine ae_lcMap (fun _ => .bl true) ?_)
          | with_reducible apply ai_list
          | (refine ⟨_, rfl, (by rw [List.length_map, sizeLine_eq]; have := @mem_len a b m r; omega), fun d hd => ?_, ?_⟩)
          | (obtain ⟨x, hx, rfl⟩ := List.mem_map.mp hd; have fx := mk x hx; have fxb := fx.2)
          | ((with_reducible apply agv_name); · decide)
          | exact ⟨rfl, rfl⟩
          | (rw [map_true]; refine ac_all ?_; rw [all_true])
          | exact ⟨_, _, rfl⟩
          | with_reducible apply as_next
          | with_reducible apply as_if
          | ((with_reducible apply ae_var); · rfl)
          | with_reducible apply ae_int
          | with_reducible apply ae_str
          | with_reducible apply ae_op
          | with_reducible apply aa_nil
          | with_reducible apply aa_cons
          | with_reducible apply ae_cb
          | with_reducible apply ae_tup
          | with_reducible apply at_test
          | with_reducible apply at_b
          | with_reducible apply at_or
          | with_reducible apply at_not
          | ((with_reducible apply ar_ne3); · exact ⟨rfl, rfl, rfl⟩)
          | with_reducible apply ag_name
          | refine ⟨sz60 (Nat.le_of_ble_eq_true rfl), ?_⟩
          | refine ⟨_, rfl, ?_⟩
          | (refine ⟨fun hc => ?_, fun hc => ?_⟩ <;> (first | (exfalso; exact absurd (show false = true from hc) (by decide)) | (exfalso; exact absurd (show true = false from hc) (by decide)) | (exfalso; simp at hc; done) | skip))
          | fail)
      ·
        repeat' (first
          | with_reducible apply ae_call
          | (refine ⟨_, rfl, ?_⟩; rw [d0]; refine ⟨fun hc => (nomatch hc), fun hc => ?_⟩)
          | ((apply ar_inW (b := true) ⟨rfl, rfl⟩); · decide +kernel)
          | (refine ⟨_, ⟨a, b, m, r, rfl, i, rfl⟩, ?_⟩)
          | (refine ⟨_, ⟨.sub, x, v, rfl, fx.2, fv.2, (fun h => by rcases h with h | h <;> cases h), rfl⟩, ?_⟩)
          | (refine ⟨.bl true, ⟨true, A, B, M, R, _, rfl, congrArg Dt.bl (hcon x v fx fv (fun h => by rcases h with h | h <;> cases h)).symm⟩, ?_⟩)
          | (with_reducible refine ae_lcMap (fun _ => .bl true) ?_)
          | with_reducible apply ai_list
          | (refine ⟨_, rfl, (by rw [List.length_map, sizeLine_eq]; have := @mem_len a b m r; omega), fun d hd => ?_, ?_⟩)
          | (obtain ⟨x, hx, rfl⟩ := List.mem_map.mp hd; have fx := mk x hx; have fxb := fx.2)
          | ((with_reducible apply agv_name); · decide)
          | exact ⟨rfl, rfl⟩
          | (rw [map_true]; refine ac_all ?_; rw [all_true])
          | exact ⟨_, _, rfl⟩
          | with_reducible apply as_next
          | with_reducible apply as_if
          | ((with_reducible apply ae_var); · rfl)
          | with_reducible apply ae_int
          | with_reducible apply ae_str
          | with_reducible apply ae_op
          | with_reducible apply aa_nil
          | with_reducible apply aa_cons
          | with_reducible apply ae_cb
          | with_reducible apply ae_tup
          | with_reducible apply at_test
          | with_reducible apply at_b
          | with_reducible apply at_or
          | with_reducible apply at_not
          | ((with_reducible apply ar_ne3); · exact ⟨rfl, rfl, rfl⟩)
          | with_reducible apply ag_name
          | refine ⟨sz60 (Nat.le_of_ble_eq_true rfl), ?_⟩
          | refine ⟨_, rfl, ?_⟩
          | (refine ⟨fun hc => ?_, fun hc => ?_⟩ <;> (first | (exfalso; exact absurd (show false = true from hc) (by decide)) | (exfalso; exact absurd (show true = false from hc) (by decide)) | (exfalso; simp at hc; done) | skip))
          | fail)
      ·
        repeat' (first
          | with_reducible apply ae_call
          | (refine ⟨_, rfl, ?_⟩; rw [d0]; refine ⟨fun hc => (nomatch hc), fun hc => ?_⟩)
          | ((apply ar_inW (b := true) ⟨rfl, rfl⟩); · decide +kernel)
          | (refine ⟨_, ⟨a, b, m, r, rfl, i, rfl⟩, ?_⟩)
          | (refine ⟨_, ⟨.mul, x, v, rfl, fx.2, fv.2, (fun h => by rcases h with h | h <;> cases h), rfl⟩, ?_⟩)
          | (refine ⟨.bl true, ⟨true, A, B, M, R, _, rfl, congrArg Dt.bl (hcon x v fx fv (fun h => by rcases h with h | h <;> cases h)).symm⟩, ?_⟩)
          | (with_reducible refine ae_lcMap (fun _ => .bl true) ?_)
          | with_reducible apply ai_list
          | (refine ⟨_, rfl, (by rw [List.length_map, sizeLine_eq]; have := @mem_len a b m r; omega), fun d hd => ?_, ?_⟩)
          | (obtain ⟨x, hx, rfl⟩ := List.mem_map.mp hd; have fx := mk x hx; have fxb := fx.2)
          | ((with_reducible apply agv_name); · decide)
          | exact ⟨rfl, rfl⟩
          | (rw [map_true]; refine ac_all ?_; rw [all_true])
          | exact ⟨_, _, rfl⟩
          | with_reducible apply as_next
          | with_reducible apply as_if
          | ((with_reducible apply ae_var); · rfl)
          | with_reducible apply ae_int
          | with_reducible apply ae_str
          | with_reducible apply ae_op
          | with_reducible apply aa_nil
          | with_reducible apply aa_cons
          | with_reducible apply ae_cb
          | with_reducible apply ae_tup
          | with_reducible apply at_test
          | with_reducible apply at_b
          | with_reducible apply at_or
          | with_reducible apply at_not
          | ((with_reducible apply ar_ne3); · exact ⟨rfl, rfl, rfl⟩)
          | with_reducible apply ag_name
          | refine ⟨sz60 (Nat.le_of_ble_eq_true rfl), ?_⟩
          | refine ⟨_, rfl, ?_⟩
          | (refine ⟨fun hc => ?_, fun hc => ?_⟩ <;> (first | (exfalso; exact absurd (show false = true from hc) (by decide)) | (exfalso; exact absurd (show true = false from hc) (by decide)) | (exfalso; simp at hc; done) | skip))
          | fail)
      ·
        repeat' (first
          | (refine ⟨_, rfl, ?_⟩; rw [d0]; refine ⟨fun hc => (nomatch hc), fun hc => ?_⟩)
          | ((apply ar_inW (b := false) ⟨rfl, rfl⟩); · decide +kernel)
          | exact ⟨_, _, rfl⟩
          | with_reducible apply as_next
          | with_reducible apply as_if
          | ((with_reducible apply ae_var); · rfl)
          | with_reducible apply ae_int
          | with_reducible apply ae_str
          | with_reducible apply ae_op
          | with_reducible apply aa_nil
          | with_reducible apply aa_cons
          | with_reducible apply ae_tup
          | with_reducible apply at_test
          | with_reducible apply at_or
          | ((with_reducible apply ar_ne3); · exact ⟨rfl, rfl, rfl⟩)
          | with_reducible apply ag_name
          | refine ⟨sz60 (Nat.le_of_ble_eq_true rfl), ?_⟩
          | refine ⟨_, rfl, ?_⟩
          | (refine ⟨fun hc => ?_, fun hc => ?_⟩ <;> (first | (exfalso; exact absurd (show false = true from hc) (by decide)) | (exfalso; exact absurd (show true = false from hc) (by decide)) | (exfalso; simp at hc; done) | skip))
          | fail)
      ·
        repeat' (first
          | (refine ⟨_, rfl, ?_⟩; rw [d0]; refine ⟨fun hc => (nomatch hc), fun hc => ?_⟩)
          | ((apply ar_inW (b := false) ⟨rfl, rfl⟩); · decide +kernel)
          | exact ⟨_, _, rfl⟩
          | with_reducible apply as_next
          | with_reducible apply as_if
          | ((with_reducible apply ae_var); · rfl)
          | with_reducible apply ae_int
          | with_reducible apply ae_str
          | with_reducible apply ae_op
          | with_reducible apply aa_nil
          | with_reducible apply aa_cons
          | with_reducible apply ae_tup
          | with_reducible apply at_test
          | with_reducible apply at_or
          | ((with_reducible apply ar_ne3); · exact ⟨rfl, rfl, rfl⟩)
          | with_reducible apply ag_name
          | refine ⟨sz60 (Nat.le_of_ble_eq_true rfl), ?_⟩
          | refine ⟨_, rfl, ?_⟩
          | (refine ⟨fun hc => ?_, fun hc => ?_⟩ <;> (first | (exfalso; exact absurd (show false = true from hc) (by decide)) | (exfalso; exact absurd (show true = false from hc) (by decide)) | (exfalso; simp at hc; done) | skip))
          | fail)
    · have d0 : (!decide (V.int v = V.int 0)) = true := by rw [decide_eq_false (fun e => v0 (V.int.inj e))]; rfl
      cases w
      ·
        repeat' (first
          | with_reducible apply ae_call
          | (refine ⟨_, rfl, ?_⟩; rw [d0]; refine ⟨fun hc => ?_, fun hc => (nomatch hc)⟩)
          | (refine ⟨_, ⟨a, b, m, r, rfl, i, rfl⟩, ?_⟩)
          | (refine ⟨_, ⟨.add, x, v, rfl, fx.2, fv.2, (fun _ => v0), rfl⟩, ?_⟩)
          | (refine ⟨.bl true, ⟨true, A, B, M, R, _, rfl, congrArg Dt.bl (hcon x v fx fv (fun _ => v0)).symm⟩, ?_⟩)
          | (with_reducible refine ae_lcMap (fun _ => .bl true) ?_)
          | with_reducible apply ai_list
          | (refine ⟨_, rfl, (by rw [List.length_map, sizeLine_eq]; have := @mem_len a b m r; omega), fun d hd => ?_, ?_⟩)
          | (obtain ⟨x, hx, rfl⟩ := List.mem_map.mp hd; have fx := mk x hx; have fxb := fx.2)
          | ((with_reducible apply agv_name); · decide)
          | exact ⟨rfl, rfl⟩
          | (rw [map_true]; refine ac_all ?_; rw [all_true])
          | exact ⟨_, _, rfl⟩
          | with_reducible apply as_next
          | with_reducible apply as_if
          | ((with_reducible apply ae_var); · rfl)
          | with_reducible apply ae_int
          | with_reducible apply ae_op
          | with_reducible apply aa_nil
          | with_reducible apply aa_cons
          | with_reducible apply ae_cb
          | with_reducible apply at_test
          | with_reducible apply at_b
          | with_reducible apply at_or
          | with_reducible apply at_not
          | ((with_reducible apply ar_ne3); · exact ⟨rfl, rfl, rfl⟩)
          | with_reducible apply ag_name
          | refine ⟨_, rfl, ?_⟩
          | (refine ⟨fun hc => ?_, fun hc => ?_⟩ <;> (first | (exfalso; exact absurd (show false = true from hc) (by decide)) | (exfalso; exact absurd (show true = false from hc) (by decide)) | (exfalso; simp at hc; done) | skip))
          | fail)
      ·
        repeat' (first
          | with_reducible apply ae_call
          | (refine ⟨_, rfl, ?_⟩; rw [d0]; refine ⟨fun hc => ?_, fun hc => (nomatch hc)⟩)
          | (refine ⟨_, ⟨a, b, m, r, rfl, i, rfl⟩, ?_⟩)
          | (refine ⟨_, ⟨.sub, x, v, rfl, fx.2, fv.2, (fun _ => v0), rfl⟩, ?_⟩)
          | (refine ⟨.bl true, ⟨true, A, B, M, R, _, rfl, congrArg Dt.bl (hcon x v fx fv (fun _ => v0)).symm⟩, ?_⟩)
          | (with_reducible refine ae_lcMap (fun _ => .bl true) ?_)
          | with_reducible apply ai_list
          | (refine ⟨_, rfl, (by rw [List.length_map, sizeLine_eq]; have := @mem_len a b m r; omega), fun d hd => ?_, ?_⟩)
          | (obtain ⟨x, hx, rfl⟩ := List.mem_map.mp hd; have fx := mk x hx; have fxb := fx.2)
          | ((with_reducible apply agv_name); · decide)
          | exact ⟨rfl, rfl⟩
          | (rw [map_true]; refine ac_all ?_; rw [all_true])
          | exact ⟨_, _, rfl⟩
          | with_reducible apply as_next
          | with_reducible apply as_if
          | ((with_reducible apply ae_var); · rfl)
          | with_reducible apply ae_int
          | with_reducible apply ae_op
          | with_reducible apply aa_nil
          | with_reducible apply aa_cons
          | with_reducible apply ae_cb
          | with_reducible apply at_test
          | with_reducible apply at_b
          | with_reducible apply at_or
          | with_reducible apply at_not
          | ((with_reducible apply ar_ne3); · exact ⟨rfl, rfl, rfl⟩)
          | with_reducible apply ag_name
          | refine ⟨_, rfl, ?_⟩
          | (refine ⟨fun hc => ?_, fun hc => ?_⟩ <;> (first | (exfalso; exact absurd (show false = true from hc) (by decide)) | (exfalso; exact absurd (show true = false from hc) (by decide)) | (exfalso; simp at hc; done) | skip))
          | fail)
      ·
        repeat' (first
          | with_reducible apply ae_call
          | (refine ⟨_, rfl, ?_⟩; rw [d0]; refine ⟨fun hc => ?_, fun hc => (nomatch hc)⟩)
          | (refine ⟨_, ⟨a, b, m, r, rfl, i, rfl⟩, ?_⟩)
          | (refine ⟨_, ⟨.mul, x, v, rfl, fx.2, fv.2, (fun _ => v0), rfl⟩, ?_⟩)
          | (refine ⟨.bl true, ⟨true, A, B, M, R, _, rfl, congrArg Dt.bl (hcon x v fx fv (fun _ => v0)).symm⟩, ?_⟩)
          | (with_reducible refine ae_lcMap (fun _ => .bl true) ?_)
          | with_reducible apply ai_list
          | (refine ⟨_, rfl, (by rw [List.length_map, sizeLine_eq]; have := @mem_len a b m r; omega), fun d hd => ?_, ?_⟩)
          | (obtain ⟨x, hx, rfl⟩ := List.mem_map.mp hd; have fx := mk x hx; have fxb := fx.2)
          | ((with_reducible apply agv_name); · decide)
          | exact ⟨rfl, rfl⟩
          | (rw [map_true]; refine ac_all ?_; rw [all_true])
          | exact ⟨_, _, rfl⟩
          | with_reducible apply as_next
          | with_reducible apply as_if
          | ((with_reducible apply ae_var); · rfl)
          | with_reducible apply ae_int
          | with_reducible apply ae_op
          | with_reducible apply aa_nil
          | with_reducible apply aa_cons
          | with_reducible apply ae_cb
          | with_reducible apply at_test
          | with_reducible apply at_b
          | with_reducible apply at_or
          | with_reducible apply at_not
          | ((with_reducible apply ar_ne3); · exact ⟨rfl, rfl, rfl⟩)
          | with_reducible apply ag_name
          | refine ⟨_, rfl, ?_⟩
          | (refine ⟨fun hc => ?_, fun hc => ?_⟩ <;> (first | (exfalso; exact absurd (show false = true from hc) (by decide)) | (exfalso; exact absurd (show true = false from hc) (by decide)) | (exfalso; simp at hc; done) | skip))
          | fail)
      ·
        repeat' (first
          | with_reducible apply ae_call
          | (refine ⟨_, rfl, ?_⟩; rw [d0]; refine ⟨fun hc => ?_, fun hc => (nomatch hc)⟩)
          | (refine ⟨_, ⟨a, b, m, r, rfl, i, rfl⟩, ?_⟩)
          | (refine ⟨_, ⟨.div, x, v, rfl, fx.2, fv.2, (fun _ => v0), rfl⟩, ?_⟩)
          | (refine ⟨.bl true, ⟨true, A, B, M, R, _, rfl, congrArg Dt.bl (hcon x v fx fv (fun _ => v0)).symm⟩, ?_⟩)
          | (with_reducible refine ae_lcMap (fun _ => .bl true) ?_)
          | with_reducible apply ai_list
          | (refine ⟨_, rfl, (by rw [List.length_map, sizeLine_eq]; have := @mem_len a b m r; omega), fun d hd => ?_, ?_⟩)
          | (obtain ⟨x, hx, rfl⟩ := List.mem_map.mp hd; have fx := mk x hx; have fxb := fx.2)
          | ((with_reducible apply agv_name); · decide)
          | exact ⟨rfl, rfl⟩
          | (rw [map_true]; refine ac_all ?_; rw [all_true])
          | exact ⟨_, _, rfl⟩
          | with_reducible apply as_next
          | with_reducible apply as_if
          | ((with_reducible apply ae_var); · rfl)
          | with_reducible apply ae_int
          | with_reducible apply ae_op
          | with_reducible apply aa_nil
          | with_reducible apply aa_cons
          | with_reducible apply ae_cb
          | with_reducible apply at_test
          | with_reducible apply at_b
          | with_reducible apply at_or
          | with_reducible apply at_not
          | ((with_reducible apply ar_ne3); · exact ⟨rfl, rfl, rfl⟩)
          | with_reducible apply ag_name
          | refine ⟨_, rfl, ?_⟩
          | (refine ⟨fun hc => ?_, fun hc => ?_⟩ <;> (first | (exfalso; exact absurd (show false = true from hc) (by decide)) | (exfalso; exact absurd (show true = false from hc) (by decide)) | (exfalso; simp at hc; done) | skip))
          | fail)
      ·
        repeat' (first
          | with_reducible apply ae_call
          | (refine ⟨_, rfl, ?_⟩; rw [d0]; refine ⟨fun hc => ?_, fun hc => (nomatch hc)⟩)
          | (refine ⟨_, ⟨a, b, m, r, rfl, i, rfl⟩, ?_⟩)
          | (refine ⟨_, ⟨.mod, x, v, rfl, fx.2, fv.2, (fun _ => v0), rfl⟩, ?_⟩)
          | (refine ⟨.bl true, ⟨true, A, B, M, R, _, rfl, congrArg Dt.bl (hcon x v fx fv (fun _ => v0)).symm⟩, ?_⟩)
          | (with_reducible refine ae_lcMap (fun _ => .bl true) ?_)
          | with_reducible apply ai_list
          | (refine ⟨_, rfl, (by rw [List.length_map, sizeLine_eq]; have := @mem_len a b m r; omega), fun d hd => ?_, ?_⟩)
          | (obtain ⟨x, hx, rfl⟩ := List.mem_map.mp hd; have fx := mk x hx; have fxb := fx.2)
          | ((with_reducible apply agv_name); · decide)
          | exact ⟨rfl, rfl⟩
          | (rw [map_true]; refine ac_all ?_; rw [all_true])
          | exact ⟨_, _, rfl⟩
          | with_reducible apply as_next
          | with_reducible apply as_if
          | ((with_reducible apply ae_var); · rfl)
          | with_reducible apply ae_int
          | with_reducible apply ae_op
          | with_reducible apply aa_nil
          | with_reducible apply aa_cons
          | with_reducible apply ae_cb
          | with_reducible apply at_test
          | with_reducible apply at_b
          | with_reducible apply at_or
          | with_reducible apply at_not
          | ((with_reducible apply ar_ne3); · exact ⟨rfl, rfl, rfl⟩)
          | with_reducible apply ag_name
          | refine ⟨_, rfl, ?_⟩
          | (refine ⟨fun hc => ?_, fun hc => ?_⟩ <;> (first | (exfalso; exact absurd (show false = true from hc) (by decide)) | (exfalso; exact absurd (show true = false from hc) (by decide)) | (exfalso; simp at hc; done) | skip))
          | fail)
end
end Sh
set_option Elab.async false
set_option linter.all false
set_option maxRecDepth 100000
set_option maxHeartbeats 4000000
namespace Sh
open PySem PySem.Spec PyProof.Rows L2
abbrev s_l_right : Stmt := topS 63
abbrev N_l_right : List Str := ["_law_box_here", "_law_is_first", "_law_told", "_law_mine", "_law_its", "_law_word"]
abbrev p_l_right : List Str := ["_law_box_here"]
theorem sc_l_right : FnScope N_l_right p_l_right (defScope s_l_right) := ⟨rfl, rfl, rfl, by decide +kernel, rfl, by decide +kernel, by decide +kernel⟩
def domR (ds : List Dt) : Prop := ds = []
def postR (ds : List Dt) (d : Dt) : Prop := d = .bl true
theorem wd_mem {d : Dt} (h : d ∈ [Dt.str "add", .str "sub", .str "mul", .str "div", .str "mod"]) : ∃ w : Wd, d = .str w.s := by
  simp only [List.mem_cons, List.not_mem_nil, or_false] at h
  rcases h with rfl | rfl | rfl | rfl | rfl
  · exact ⟨.add, rfl⟩
  · exact ⟨.sub, rfl⟩
  · exact ⟨.mul, rfl⟩
  · exact ⟨.div, rfl⟩
  · exact ⟨.mod, rfl⟩
abbrev evD : Dt := .tup [.non, .non, .int 1, .int 0]
theorem vq_every : Vq none none 1 0 := ⟨⟨fun x e => (by cases e), fun x e => (by cases e), fun x y e f => (by cases e)⟩, .inr ⟨by decide, by decide, by decide, by decide⟩⟩
theorem vq_pos : Vq (some 1) none 1 0 := ⟨⟨fun x e => (by cases e; exact ⟨by decide, by decide⟩), fun x e => (by cases e), fun x y e f => (by cases f)⟩, .inr ⟨by decide, by decide, by decide, by decide⟩⟩
theorem vq_neg : Vq none (some (-1)) 1 0 := ⟨⟨fun x e => (by cases e), fun x e => (by cases e; exact ⟨by decide, by decide⟩), fun x y e f => (by cases e)⟩, .inr ⟨by decide, by decide, by decide, by decide⟩⟩
theorem vd_10 : Vd 1 0 := .inr ⟨by decide, by decide, by decide, by decide⟩
theorem every_va (w : Wd) : S_va [.str w.s, evD, evD] evD := by
  refine ⟨w, true, true, none, none, none, none, 1, 0, 1, 0, rfl, vq_every, vq_every, ?_⟩
  cases w with
  | add => rfl
  | sub => rfl
  | mul => rfl
  | div => exact .inr (.inr (.inr ⟨some 1, none, 1, 0, none, some (-1), 1, 0, none, none, 1, 0, none, none, 1, 0, rfl, vq_pos, rfl, vq_neg, rfl, rfl, vd_10, vd_10, rfl⟩))
  | mod => exact .inr (.inr (.inr ⟨some 1, none, 1, 0, none, some (-1), 1, 0, some 0, none, 1, 0, none, some 0, 1, 0, rfl, vq_pos, rfl, vq_neg, rfl, rfl, vd_10, vd_10, rfl⟩))
theorem zero_va {a b : Option Int} {m r : Int} (i : InV a b m r) : S_va [.str Wd.div.s, vD a b m r, .tup [.int 0, .int 0, .int 0, .int 0]] .non := by
  obtain ⟨X1, X2, z, _⟩ := cut_in i
  refine ⟨.div, true, true, a, b, some 0, some 0, m, r, 0, 0, rfl, z.c.vq, ⟨⟨fun x e => (by cases e; exact ⟨by decide, by decide⟩), fun x e => (by cases e; exact ⟨by decide, by decide⟩), fun x y e f => (by cases e; cases f; decide)⟩, .inl ⟨rfl, by decide, by decide⟩⟩, ?_⟩
  exact .inl ⟨rfl, rfl, rfl⟩
theorem ar_rep5 {K : PySem.W.Frag} {Φ : Dt → Prop} {d : Dt} (h : Φ (.lst [d, d, d, d, d])) : AR K rRep (.lst [d]) (.int 5) Φ := fun G H s x y r1 r2 Q q => by
  obtain ⟨a, xs, rfl, h1, h2⟩ := r1
  cases (show y = V.int 5 from r2)
  obtain ⟨z, r, rfl, h3, e⟩ := h2
  cases (show r = [] from e)
  refine ⟨a, 5, [z], rfl, rfl, s _ _ h1, by decide, by decide, (by show 1 * 5 ≤ sizeLine; rw [sizeLine_eq]; omega), fun p hp => ?_⟩
  have e : (List.replicate (5 : Int).toNat [z]).flatten = [z, z, z, z, z] := rfl
  rw [e]
  have n := Nw.new (o := .lst [z, z, z, z, z]) s hp
  have r0 := h3.same n.g
  exact q _ (.lst [d, d, d, d, d]) _ _ n ⟨p, _, rfl, upd_same, ⟨z, _, rfl, r0, z, _, rfl, r0, z, _, rfl, r0, z, _, rfl, r0, z, [], rfl, r0, rfl⟩⟩ h
section
variable {P : Program} {w : World} {K : PySem.W.Frag} {mg : Str → Option Value} {base : Heap}
theorem ok_l_right (bl : Blts mg) {g_l_take : Addr} {d_l_take : FuncData} (c_l_take : Cal P w K mg base 4 "_law_take" p_l_take (spB K 4 domT4 postT) g_l_take d_l_take) {g_l_open_value : Addr} {d_l_open_value : FuncData} (c_l_open_value : Cal P w K mg base 5 "_law_open_value" p_l_open_value (spB K 24 domP postP) g_l_open_value d_l_open_value) {g_l_pair_right : Addr} {d_l_pair_right : FuncData} (c_l_pair_right : Cal P w K mg base 9 "_law_pair_right" p_l_pair_right (spP K S_pr) g_l_pair_right d_l_pair_right) {g_value_apply : Addr} {d_value_apply : FuncData} (c_value_apply : Cal P w K mg base 7 "value_apply" p_value_apply (spP K S_va) g_value_apply d_value_apply) {g_l_same : Addr} {d_l_same : FuncData} (c_l_same : Cal P w K mg base 8 "_law_same" p_l_same (spP K (S_same 8)) g_l_same d_l_same) {aE : Addr} (hEVERY : mg "EVERY" = some (.ref aE)) (tE : TupC K aE [.non, .non, .int 1, .int 0])  {f : Addr} {fd : FuncData} (F : Fun K "_law_right" "_law_right" s_l_right f fd) : FnOk P w K mg base CX0 10 f fd p_l_right (spB K 60 (domR) (postR)) := by
  refine okB F sc_l_right (fun ds h => ?_) (fun cdv A outer s H E hr ds h => ?_)
  · obtain ⟨rfl⟩ := h
    rfl
  obtain ⟨rfl⟩ := h
  refine ⟨_, (pss_cons (ps_set (i := 1) sc_l_right.nd rfl (by first | exact Or.inl rfl | exact Or.inr rfl) (pe_cmpR op_eq (pe_call c_l_take.ok (hr.mono (by decide)) rfl c_l_take.mg c_l_take.kp c_l_take.bi .nil pass0 (pa_cons (pv 0) (pa_cons pe_int pa_nil))) pe_int (nomark _)))
    (pss_cons (ps_asg (pe_tup (pa_cons (pe_call c_l_open_value.ok (hr.mono (by decide)) rfl c_l_open_value.mg c_l_open_value.kp c_l_open_value.bi .nil pass0 (pa_cons (pv 0) (pa_cons (pv 1) pa_nil))) (pa_cons (pe_call c_l_open_value.ok (hr.mono (by decide)) rfl c_l_open_value.mg c_l_open_value.kp c_l_open_value.bi .nil pass0 (pa_cons (pv 0) (pa_cons (pe_or (pe_not (pv 1)) (pe_one (pe_cmpR op_eq (pe_call c_l_take.ok (hr.mono (by decide)) rfl c_l_take.mg c_l_take.kp c_l_take.bi .nil pass0 (pa_cons (pv 0) (pa_cons pe_int pa_nil))) pe_int (nomark _)))) pa_nil))) pa_nil))) (pg_tup rfl (pgs_cons (pg_name (i := 3) sc_l_right.nd rfl (by first | exact Or.inl rfl | exact Or.inr rfl)) (pgs_cons (pg_name (i := 4) sc_l_right.nd rfl (by first | exact Or.inl rfl | exact Or.inr rfl)) pgs_nil))))
    (pss_cons (ps_if (pt_not (pt_val (pe_callB (cr_all rfl) rfl bl.all (by decide +kernel) (pa_cons (pe_lc (own := [("_law_word", 5)]) (g := (gName 5)) (tt := tYes) rfl sc_l_right.nd (pi_tup (pe_tup (pa_cons pe_str (pa_cons pe_str (pa_cons pe_str (pa_cons pe_str (pa_cons pe_str pa_nil))))))) (blkOk_by (N := N_l_right) (sc := defScope s_l_right) (by decide +kernel)) (fun _ _ _ _ _ => (pg_name (i := 5) sc_l_right.nd rfl (by first | exact Or.inl rfl | exact Or.inr rfl))) (fun _ _ _ _ _ => pts_nil) (fun _ _ _ _ _ => (pe_call c_l_pair_right.ok (hr.mono (by decide)) rfl c_l_pair_right.mg c_l_pair_right.kp c_l_pair_right.bi .nil pass0 (pa_cons (pv 5) (pa_cons (pv 3) (pa_cons (pv 4) pa_nil)))))) pa_nil)))) (pss_one (ps_ret pe_bl)) pss_nil)
    (pss_cons (ps_setLc (i := 2) (own := [("_law_word", 5)]) (g := (gName 5)) (tt := tYes) rfl sc_l_right.nd rfl rfl (sw_true rfl rfl rfl (by decide +kernel)) (pi_tup (pe_tup (pa_cons pe_str (pa_cons pe_str (pa_cons pe_str (pa_cons pe_str (pa_cons pe_str pa_nil))))))) (blkOk_by (N := N_l_right) (sc := defScope s_l_right) (by decide +kernel)) (fun _ _ _ _ _ => (pg_name (i := 5) sc_l_right.nd rfl (by first | exact Or.inl rfl | exact Or.inr rfl))) (fun _ _ _ _ _ => pts_nil) (fun _ _ _ _ _ => (pe_call c_value_apply.ok (hr.mono (by decide)) rfl c_value_apply.mg c_value_apply.kp c_value_apply.bi .nil pass0 (pa_cons (pv 5) (pa_cons (pe_glob (v := V.ref aE) rfl hEVERY rfl) (pa_cons (pe_glob (v := V.ref aE) rfl hEVERY rfl) pa_nil))))))
    (pss_one (ps_ret (pe_and (pe_call c_l_same.ok (hr.mono (by decide)) rfl c_l_same.mg c_l_same.kp c_l_same.bi .nil pass0 (pa_cons (pv 2) (pa_cons (pe_op op_rep (pe_lst (pa_cons (pe_glob (v := V.ref aE) rfl hEVERY rfl) pa_nil)) pe_int) pa_nil))) (pe_one (pe_cmpR op_isN (pe_call c_value_apply.ok (hr.mono (by decide)) rfl c_value_apply.mg c_value_apply.kp c_value_apply.bi .nil pass0 (pa_cons pe_str (pa_cons (pv 3) (pa_cons (pe_tup (pa_cons pe_int (pa_cons pe_int (pa_cons pe_int (pa_cons pe_int pa_nil))))) pa_nil)))) pe_non (nomark _)))))))))), fun b F => ?_⟩
  change AS K _ [En.bx _ _, En.no, En.no, En.no, En.no, En.no] _ _
  try simp only [cxOf_K, cxOf_w]
  repeat' (first
    | ((with_reducible apply ae_take4); · rfl)
    | refine ⟨_, rfl, by omega, by omega, _, rfl, fun v v0 v1 => ?_⟩
    | with_reducible apply as_seq
    | with_reducible apply as_set
    | with_reducible apply as_asg
    | with_reducible apply ae_int
    | with_reducible apply ae_op
    | with_reducible apply aa_cons
    | with_reducible apply ae_tup
    | ((with_reducible apply ar_eq3); · exact ⟨rfl, rfl, rfl⟩)
    | fail)
  refine ae_draw rfl (aa_cons (ae_var rfl (aa_nil ⟨⟨_, rfl⟩, _, rfl, ?_⟩)))
  rintro d ⟨a1, b1, m1, r1, rfl, i1⟩
  refine aa_cons (ae_draw rfl (aa_cons ?_))
  repeat' (first
    | ((with_reducible apply ae_take4); · rfl)
    | refine ⟨_, rfl, by omega, by omega, _, rfl, fun v v0 v1 => ?_⟩
    | (refine ⟨⟨_, rfl⟩, _, rfl, ?_⟩)
    | (intro d (hd : postP _ d); obtain ⟨a2, b2, m2, r2, rfl, i2⟩ := hd)
    | with_reducible apply ae_call
    | (with_reducible refine ae_lcMap (te := tCall (spP K S_va) [] E0 _) (fun _ => evD) ?_)
    | (with_reducible refine ae_lcMap (fun _ => .bl true) ?_)
    | with_reducible apply ai_tup
    | (refine ⟨_, rfl, Nat.le_of_ble_eq_true rfl, fun d hd => ?_, ?_⟩)
    | (obtain ⟨w, rfl⟩ := wd_mem hd)
    | ((with_reducible apply agv_name); · decide)
    | exact ⟨rfl, rfl⟩
    | (refine ⟨.bl true, ⟨w, _, _, _, _, _, _, _, _, rfl, i1, i2, rfl⟩, ?_⟩)
    | (rw [map_true]; refine ac_all ?_; rw [all_true])
    | (refine ⟨evD, every_va w, ?_⟩)
    | (refine ⟨.non, zero_va i1, ?_⟩)
    | ((with_reducible apply ae_tupC tE))
    | (refine ar_rep5 ?_)
    | (refine ⟨_, ⟨.lst [evD, evD, evD, evD, evD], rfl, (by decide), rfl, rfl⟩, ?_⟩)
    | (refine ⟨rfl, _, rfl, by omega⟩)
    | with_reducible apply as_seq
    | with_reducible apply as_ret
    | with_reducible apply as_next
    | with_reducible apply as_if
    | with_reducible apply as_set
    | ((with_reducible apply ae_var); · rfl)
    | with_reducible apply ae_int
    | with_reducible apply ae_non
    | with_reducible apply ae_str
    | with_reducible apply ae_op
    | with_reducible apply aa_nil
    | with_reducible apply aa_cons
    | with_reducible apply ae_cb
    | with_reducible apply ae_tup
    | with_reducible apply ae_lst
    | with_reducible apply at_b
    | with_reducible apply at_not
    | with_reducible apply ae_andV
    | with_reducible apply ae_orV
    | with_reducible apply ae_notV
    | with_reducible apply ar_isN
    | ((with_reducible apply ar_eq3); · exact ⟨rfl, rfl, rfl⟩)
    | with_reducible apply ag_name
    | with_reducible apply ags_nil
    | with_reducible apply ags_cons
    | ((with_reducible apply ag_tup); · rfl)
    | refine ⟨sz60 (Nat.le_of_ble_eq_true rfl), ?_⟩
    | refine ⟨_, rfl, ?_⟩
    | (refine ⟨fun hc => ?_, fun hc => ?_⟩ <;> (first | (exfalso; exact absurd (show false = true from hc) (by decide)) | (exfalso; exact absurd (show true = false from hc) (by decide)) | (exfalso; simp at hc; done) | skip))
    | fail)
end
end Sh
set_option Elab.async false
set_option linter.all false
set_option maxRecDepth 100000
set_option maxHeartbeats 4000000
namespace Sh
open PySem PySem.Spec PyProof.Rows L2
theorem kb0_of {K : PySem.W.Frag} {x qual : Str} {st : Stmt} {f : Addr} {fd : FuncData} {ps ks : List Str} {g : List Value → List Value} {gV : List V → List V} (F : Fun K x qual st f fd)
    (h : ∀ (kV doc pm : Value) (an : Option Addr) (cdv ct : Value) (ws : List Value), ws.length = ks.length → bindArgs (PySem.W.fnOf x qual (defArgs st) (defBody st) (defScope st) .none kV doc pm an cdv ct) ⟨[], ks.zip ws⟩ = pure (ps.zip (g ws)))
    (rel : ∀ {zs : List V} {ws : List Value}, Vals zs ws → zs.length = ks.length → Vals (gV zs) (g ws)) : KB0 K fd ps ks g gV := by
  obtain ⟨oc, od, kV, doc, pm, an, cdv, ct, osl, rfl, lk, hcd⟩ := F.ex
  exact ⟨fun s ws hl => .of_eq (h kV doc pm an cdv ct ws hl), rel⟩
abbrev sLaw : Stmt := topS 64
abbrev NL : List Str := ["_law_script", "_law_cells_here", "_law_k", "_law_box_here", "_law_turn"]
theorem scLaw : FnScope NL ["_law_script"] (defScope sLaw) := ⟨rfl, rfl, rfl, by decide +kernel, rfl, by decide +kernel, by decide +kernel⟩
section
variable {P : Program} {w : World} {K : PySem.W.Frag} {mg : Str → Option Value} {base : Heap}
def spLaw (K : PySem.W.Frag) : Sp := fun vs H Q _ => ∃ (a : Addr) (ns : List Int), vs = [.ref a] ∧ SqL K H a (ns.map V.int) ∧ ns.length ≤ 63 ∧ ∀ H', Q (.bl true) H'
theorem ok_law {f gC gB gR : Addr} {fd dC dB dR : FuncData} (F : Fun K "law" "law" sLaw f fd)
    (GC : FnOk P w K mg base CX0 1 gC dC ["_law_script", "_law_most"] (spCells K)) (bC : Binds K dC ["_law_script", "_law_most"] []) (kC : PySem.W.keepIn K (.ref gC) = true) (mC : mg "_law_cells" = some (.ref gC))
    (GB : FnOk P w K mg base CX0 1 gB dB ["_law_script", "_law_k"] (spBox K)) (bB : Binds K dB ["_law_script", "_law_k"] []) (kB : PySem.W.keepIn K (.ref gB) = true) (mB : mg "_law_box" = some (.ref gB))
    (GR : FnOk P w K mg base CX0 10 gR dR ["_law_box_here"] (spB K 60 domR postR)) (bR : Binds K dR ["_law_box_here"] []) (kR : PySem.W.keepIn K (.ref gR) = true) (mR : mg "_law_right" = some (.ref gR))
    (mr : mg "range" = none) (ml : mg "len" = none) (mall : mg "all" = none) : FnOk P w K mg base CX0 11 f fd ["_law_script"] (spLaw K) := by
  refine F.ok scLaw (fun vs H Q E h => ?_) (fun cdv A outer s H vs Q Ex hr h => ?_)
  · obtain ⟨a, ns, rfl, _⟩ := h
    rfl
  obtain ⟨a, ns, rfl, hS, hlen, q⟩ := h
  refine ⟨_, pss_cons (ps_set (i := 1) scLaw.nd rfl (Or.inl rfl) (pe_call GC (hr.mono (by decide)) rfl mC kC bC .nil pass0 (pa_cons (pv 0) (pa_cons pe_int pa_nil))))
    (pss_cons (ps_for PassesOwn.never rfl (pi_range1 rfl mr (pa_cons (pe_callB call_len_seq rfl ml PySem.boot_len (pa_cons (pv 1) pa_nil)) pa_nil)) (pg_name (i := 2) scLaw.nd rfl (Or.inl rfl))
      (pss_cons (ps_set (i := 3) scLaw.nd rfl (Or.inr rfl) (pe_call GB (hr.mono (by decide)) rfl mB kB bB .nil pass0 (pa_cons (pv 1) (pa_cons (pv 2) pa_nil))))
      (pss_one (ps_if (pt_not (pt_val (pe_callB (cr_all rfl) rfl mall (by decide +kernel) (pa_cons (pe_lc (own := [("_law_turn", 4)]) (g := gName 4) (tt := tYes) rfl scLaw.nd (pi_range1 rfl mr (pa_cons pe_int pa_nil)) (blkOk_by (N := NL) (sc := defScope sLaw) (by decide +kernel))
        (fun _ _ _ _ _ => pg_name (i := 4) scLaw.nd rfl (Or.inl rfl)) (fun _ _ _ _ _ => pts_nil) (fun _ _ _ _ _ => pe_call GR hr rfl mR kR bR .nil pass0 (pa_cons (pv 3) pa_nil))) pa_nil)))) (pss_one (ps_ret pe_bl)) pss_nil))))
    (pss_one (ps_ret pe_bl))), ?_⟩
  refine ⟨_, rfl, a, ns, 3, rfl, hS, hlen, by decide, by decide, fun p ms H1 np s1 ep l1 l2 => ?_⟩
  have hml : (ms.map V.int).length = ms.length := List.length_map _
  refine ⟨_, rfl, p, _, rfl, .inl (SqL.of ep), _, rfl, by omega, by omega, for_range (lo := 0) (n := (ms.map V.int).length) (fun i σ H2 => ∃ o2 o3 o4 : Option V, σ = [some (.ref a), some (.ref p), o2, o3, o4] ∧ Same H1 H2)
    ⟨none, none, none, rfl, Same.refl _⟩ ?_ ?_⟩
  · rintro i σ H2 hi ⟨o2, o3, o4, rfl, s2⟩
    rw [hml] at hi
    refine ⟨_, rfl, _, rfl, p, ms, _, rfl, SqL.of (s2 _ _ ep), by omega, by omega, by omega, fun bx x y nbx x0 y0 y1 => ?_⟩
    have s3 := same_up (o := .lst [.int x, .int y, .int 0]) nbx
    have hb0 : Bx (upd H2 bx (.lst [.int x, .int y, .int 0])) bx y 0 := ⟨x, upd_same, x0, y0, y1⟩
    refine ⟨16, rfl, by decide, by decide, fun D hD => lc_range (lo := 0) (n := 16) (fun t H4 => ∃ y c : Int, Bx H4 bx y c ∧ 0 ≤ c ∧ c + (((16 - t) * 60 : Nat) : Int) ≤ BxM ∧ Same H2 H4 ∧ H4 D = some (.lst ((List.replicate t true).map V.bl))) ?_ ?_ ?_⟩
    · have s4 := same_up (o := .lst []) hD
      exact ⟨y, 0, hb0.same s4, by omega, by unfold BxM; decide, s3.trans s4, upd_same⟩
    · rintro t H4 ht ⟨y, c, hB, c0, c1, s4, e4⟩
      have nD : H2 D = none := s3.free hD
      have neD : D ≠ bx := fun e => by
        rw [e, upd_same] at hD
        cases hD
      have ef : (16 - t) * 60 = (16 - (t + 1)) * 60 + 60 := by omega
      rw [ef] at c1
      refine ⟨rfl, ?_⟩
      show tCall (spB K 60 domR postR) [] E0 (tCons (tVar 3) tNil) _ _ _
      refine ⟨_, rfl, fun _ => none, [], bx, [], y, c, _, rfl, (fun a o e => nomatch e), hB, c0, c1, rfl, rfl, rfl, fun v d G' H5 y' c' nb hB' c0' c1' rd hp => ?_⟩
      have e5 := nb.h _ _ neD e4
      refine ⟨_, e5, ?_, y', c', ?_, c0', c1', fun b o e => ?_, ?_⟩
      · rw [List.length_map, List.length_replicate]; exact sz60' (by omega)
      · obtain ⟨x', q1, q2⟩ := hB'
        exact ⟨x', by rw [upd_ne neD.symm]; exact q1, q2⟩
      · rw [upd_ne (ne_of_none e nD)]; exact nb.h _ _ (ne_of_none e nbx) (s4 _ _ e)
      · subst hp
        cases (show v = .bl true from rd)
        rw [upd_same, List.replicate_succ', List.map_append]; rfl
    · rintro H4 ⟨y, c, hB, c0, c1, s4, e4⟩
      refine ⟨D, _, rfl, SqL.of e4, true, congrArg V.bl (all_true 16), ?_⟩
      exact ⟨_, _, _, rfl, s2.trans s4⟩
  · rintro σ H2 ⟨o2, o3, o4, rfl, s2⟩
    exact q H2
end
theorem all_mk {l : PySem.W.OpenLaw} {w : World} {K : PySem.W.Frag} {h : Heap} {mg : Str → Option Value} {fa fD0 fD1 fD2 fD3 fD4 fD5 fD6 fD7 fD8 fD9 fD10 fD11 fD12 fD13 fD14 fD15 fD16 fD17 fD18 fD19 fD20 fD21 fD22 fD23 fD24 fD25 fD26 fD27 fD28 fD29 fD30 fD31 fD32 fD33 fD34 fD35 fD36 fD37 fD38 fD39 fD40 fD41 fD42 fD43 fD44 fD45 fD46 fD47 fD48 fD49 fD50 fD51 fD52 fD53 fD54 fD55 : Addr} (X : K.In h) (G : h.Ns mainGlobals mg) (hfa : mg "law" = some (.ref fa))
    {odD0 anD0 odD1 anD1 odD2 anD2 odD3 anD3 odD4 anD4 odD5 anD5 odD6 anD6 odD7 anD7 odD8 anD8 odD9 anD9 odD10 anD10 odD11 anD11 odD12 anD12 odD13 anD13 odD14 anD14 odD15 anD15 odD16 anD16 odD17 anD17 odD18 anD18 odD19 anD19 odD20 anD20 odD21 anD21 odD22 anD22 odD23 anD23 odD24 anD24 odD25 anD25 odD26 anD26 odD27 anD27 odD28 anD28 odD29 anD29 odD30 anD30 odD31 anD31 odD32 anD32 odD33 anD33 odD34 anD34 odD35 anD35 odD36 anD36 odD37 anD37 odD38 anD38 odD39 anD39 odD40 anD40 odD41 anD41 odD42 anD42 odD43 anD43 odD44 anD44 odD45 anD45 odD46 anD46 odD47 anD47 odD48 anD48 odD49 anD49 odD50 anD50 odD51 anD51 odD52 anD52 odD53 anD53 odD54 anD54 odD55 anD55 : Option Addr} {slD0 slD1 slD2 slD3 slD4 slD5 slD6 slD7 slD8 slD9 slD10 slD11 slD12 slD13 slD14 slD15 slD16 slD17 slD18 slD19 slD20 slD21 slD22 slD23 slD24 slD25 slD26 slD27 slD28 slD29 slD30 slD31 slD32 slD33 slD34 slD35 slD36 slD37 slD38 slD39 slD40 slD41 slD42 slD43 slD44 slD45 slD46 slD47 slD48 slD49 slD50 slD51 slD52 slD53 slD54 slD55 : Array (Option Value)} {ocD0 kVD0 dcD0 pmD0 cdD0 ctD0 ocD1 kVD1 dcD1 pmD1 cdD1 ctD1 ocD2 kVD2 dcD2 pmD2 cdD2 ctD2 ocD3 kVD3 dcD3 pmD3 cdD3 ctD3 ocD4 kVD4 dcD4 pmD4 cdD4 ctD4 ocD5 kVD5 dcD5 pmD5 cdD5 ctD5 ocD6 kVD6 dcD6 pmD6 cdD6 ctD6 ocD7 kVD7 dcD7 pmD7 cdD7 ctD7 ocD8 kVD8 dcD8 pmD8 cdD8 ctD8 ocD9 kVD9 dcD9 pmD9 cdD9 ctD9 ocD10 kVD10 dcD10 pmD10 cdD10 ctD10 ocD11 kVD11 dcD11 pmD11 cdD11 ctD11 ocD12 kVD12 dcD12 pmD12 cdD12 ctD12 ocD13 kVD13 dcD13 pmD13 cdD13 ctD13 ocD14 kVD14 dcD14 pmD14 cdD14 ctD14 ocD15 kVD15 dcD15 pmD15 cdD15 ctD15 ocD16 kVD16 dcD16 pmD16 cdD16 ctD16 ocD17 kVD17 dcD17 pmD17 cdD17 ctD17 ocD18 kVD18 dcD18 pmD18 cdD18 ctD18 ocD19 kVD19 dcD19 pmD19 cdD19 ctD19 ocD20 kVD20 dcD20 pmD20 cdD20 ctD20 ocD21 kVD21 dcD21 pmD21 cdD21 ctD21 ocD22 kVD22 dcD22 pmD22 cdD22 ctD22 ocD23 kVD23 dcD23 pmD23 cdD23 ctD23 ocD24 kVD24 dcD24 pmD24 cdD24 ctD24 ocD25 kVD25 dcD25 pmD25 cdD25 ctD25 ocD26 kVD26 dcD26 pmD26 cdD26 ctD26 ocD27 kVD27 dcD27 pmD27 cdD27 ctD27 ocD28 kVD28 dcD28 pmD28 cdD28 ctD28 ocD29 kVD29 dcD29 pmD29 cdD29 ctD29 ocD30 kVD30 dcD30 pmD30 cdD30 ctD30 ocD31 kVD31 dcD31 pmD31 cdD31 ctD31 ocD32 kVD32 dcD32 pmD32 cdD32 ctD32 ocD33 kVD33 dcD33 pmD33 cdD33 ctD33 ocD34 kVD34 dcD34 pmD34 cdD34 ctD34 ocD35 kVD35 dcD35 pmD35 cdD35 ctD35 ocD36 kVD36 dcD36 pmD36 cdD36 ctD36 ocD37 kVD37 dcD37 pmD37 cdD37 ctD37 ocD38 kVD38 dcD38 pmD38 cdD38 ctD38 ocD39 kVD39 dcD39 pmD39 cdD39 ctD39 ocD40 kVD40 dcD40 pmD40 cdD40 ctD40 ocD41 kVD41 dcD41 pmD41 cdD41 ctD41 ocD42 kVD42 dcD42 pmD42 cdD42 ctD42 ocD43 kVD43 dcD43 pmD43 cdD43 ctD43 ocD44 kVD44 dcD44 pmD44 cdD44 ctD44 ocD45 kVD45 dcD45 pmD45 cdD45 ctD45 ocD46 kVD46 dcD46 pmD46 cdD46 ctD46 ocD47 kVD47 dcD47 pmD47 cdD47 ctD47 ocD48 kVD48 dcD48 pmD48 cdD48 ctD48 ocD49 kVD49 dcD49 pmD49 cdD49 ctD49 ocD50 kVD50 dcD50 pmD50 cdD50 ctD50 ocD51 kVD51 dcD51 pmD51 cdD51 ctD51 ocD52 kVD52 dcD52 pmD52 cdD52 ctD52 ocD53 kVD53 dcD53 pmD53 cdD53 ctD53 ocD54 kVD54 dcD54 pmD54 cdD54 ctD54 ocD55 kVD55 dcD55 pmD55 cdD55 ctD55 : Value} {aE : Addr} {ocEV : Option Addr} {nEV : Nat} {slEV : Array (Option Value)} {tkA tkB : Tok}
    (aD0 : PySem.W.nsIn K mainGlobals "loosest_low" = some (some (.ref fD0)))
    (lD0 : K.lookup fD0 = some ⟨ocD0, odD0, .func (PySem.W.fnOf "loosest_low" "loosest_low" (defArgs s_loosest_low) (defBody s_loosest_low) (defScope s_loosest_low) .none kVD0 dcD0 pmD0 anD0 cdD0 ctD0), slD0⟩)
    (cD0 : PySem.W.codeIn K cdD0 "loosest_low" = true)
    (kD0 : PySem.W.keepIn K (.ref fD0) = true)
    (aD1 : PySem.W.nsIn K mainGlobals "tightest_low" = some (some (.ref fD1)))
    (lD1 : K.lookup fD1 = some ⟨ocD1, odD1, .func (PySem.W.fnOf "tightest_low" "tightest_low" (defArgs s_tightest_low) (defBody s_tightest_low) (defScope s_tightest_low) .none kVD1 dcD1 pmD1 anD1 cdD1 ctD1), slD1⟩)
    (cD1 : PySem.W.codeIn K cdD1 "tightest_low" = true)
    (kD1 : PySem.W.keepIn K (.ref fD1) = true)
    (aD2 : PySem.W.nsIn K mainGlobals "loosest_high" = some (some (.ref fD2)))
    (lD2 : K.lookup fD2 = some ⟨ocD2, odD2, .func (PySem.W.fnOf "loosest_high" "loosest_high" (defArgs s_loosest_high) (defBody s_loosest_high) (defScope s_loosest_high) .none kVD2 dcD2 pmD2 anD2 cdD2 ctD2), slD2⟩)
    (cD2 : PySem.W.codeIn K cdD2 "loosest_high" = true)
    (kD2 : PySem.W.keepIn K (.ref fD2) = true)
    (aD3 : PySem.W.nsIn K mainGlobals "tightest_high" = some (some (.ref fD3)))
    (lD3 : K.lookup fD3 = some ⟨ocD3, odD3, .func (PySem.W.fnOf "tightest_high" "tightest_high" (defArgs s_tightest_high) (defBody s_tightest_high) (defScope s_tightest_high) .none kVD3 dcD3 pmD3 anD3 cdD3 ctD3), slD3⟩)
    (cD3 : PySem.W.codeIn K cdD3 "tightest_high" = true)
    (kD3 : PySem.W.keepIn K (.ref fD3) = true)
    (aD4 : PySem.W.nsIn K mainGlobals "low_within" = some (some (.ref fD4)))
    (lD4 : K.lookup fD4 = some ⟨ocD4, odD4, .func (PySem.W.fnOf "low_within" "low_within" (defArgs s_low_within) (defBody s_low_within) (defScope s_low_within) .none kVD4 dcD4 pmD4 anD4 cdD4 ctD4), slD4⟩)
    (cD4 : PySem.W.codeIn K cdD4 "low_within" = true)
    (kD4 : PySem.W.keepIn K (.ref fD4) = true)
    (aD5 : PySem.W.nsIn K mainGlobals "high_within" = some (some (.ref fD5)))
    (lD5 : K.lookup fD5 = some ⟨ocD5, odD5, .func (PySem.W.fnOf "high_within" "high_within" (defArgs s_high_within) (defBody s_high_within) (defScope s_high_within) .none kVD5 dcD5 pmD5 anD5 cdD5 ctD5), slD5⟩)
    (cD5 : PySem.W.codeIn K cdD5 "high_within" = true)
    (kD5 : PySem.W.keepIn K (.ref fD5) = true)
    (aD6 : PySem.W.nsIn K mainGlobals "lets_in" = some (some (.ref fD6)))
    (lD6 : K.lookup fD6 = some ⟨ocD6, odD6, .func (PySem.W.fnOf "lets_in" "lets_in" (defArgs s_lets_in) (defBody s_lets_in) (defScope s_lets_in) .none kVD6 dcD6 pmD6 anD6 cdD6 ctD6), slD6⟩)
    (cD6 : PySem.W.codeIn K cdD6 "lets_in" = true)
    (kD6 : PySem.W.keepIn K (.ref fD6) = true)
    (aD7 : PySem.W.nsIn K mainGlobals "total" = some (some (.ref fD7)))
    (lD7 : K.lookup fD7 = some ⟨ocD7, odD7, .func (PySem.W.fnOf "total" "total" (defArgs s_total) (defBody s_total) (defScope s_total) .none kVD7 dcD7 pmD7 anD7 cdD7 ctD7), slD7⟩)
    (cD7 : PySem.W.codeIn K cdD7 "total" = true)
    (kD7 : PySem.W.keepIn K (.ref fD7) = true)
    (aD8 : PySem.W.nsIn K mainGlobals "opposite" = some (some (.ref fD8)))
    (lD8 : K.lookup fD8 = some ⟨ocD8, odD8, .func (PySem.W.fnOf "opposite" "opposite" (defArgs s_opposite) (defBody s_opposite) (defScope s_opposite) .none kVD8 dcD8 pmD8 anD8 cdD8 ctD8), slD8⟩)
    (cD8 : PySem.W.codeIn K cdD8 "opposite" = true)
    (kD8 : PySem.W.keepIn K (.ref fD8) = true)
    (aD9 : PySem.W.nsIn K mainGlobals "rest_join" = some (some (.ref fD9)))
    (lD9 : K.lookup fD9 = some ⟨ocD9, odD9, .func (PySem.W.fnOf "rest_join" "rest_join" (defArgs s_rest_join) (defBody s_rest_join) (defScope s_rest_join) .none kVD9 dcD9 pmD9 anD9 cdD9 ctD9), slD9⟩)
    (cD9 : PySem.W.codeIn K cdD9 "rest_join" = true)
    (kD9 : PySem.W.keepIn K (.ref fD9) = true)
    (aD10 : PySem.W.nsIn K mainGlobals "rest_add" = some (some (.ref fD10)))
    (lD10 : K.lookup fD10 = some ⟨ocD10, odD10, .func (PySem.W.fnOf "rest_add" "rest_add" (defArgs s_rest_add) (defBody s_rest_add) (defScope s_rest_add) .none kVD10 dcD10 pmD10 anD10 cdD10 ctD10), slD10⟩)
    (cD10 : PySem.W.codeIn K cdD10 "rest_add" = true)
    (kD10 : PySem.W.keepIn K (.ref fD10) = true)
    (aD11 : PySem.W.nsIn K mainGlobals "rest_sub" = some (some (.ref fD11)))
    (lD11 : K.lookup fD11 = some ⟨ocD11, odD11, .func (PySem.W.fnOf "rest_sub" "rest_sub" (defArgs s_rest_sub) (defBody s_rest_sub) (defScope s_rest_sub) .none kVD11 dcD11 pmD11 anD11 cdD11 ctD11), slD11⟩)
    (cD11 : PySem.W.codeIn K cdD11 "rest_sub" = true)
    (kD11 : PySem.W.keepIn K (.ref fD11) = true)
    (aD12 : PySem.W.nsIn K mainGlobals "rest_mul" = some (some (.ref fD12)))
    (lD12 : K.lookup fD12 = some ⟨ocD12, odD12, .func (PySem.W.fnOf "rest_mul" "rest_mul" (defArgs s_rest_mul) (defBody s_rest_mul) (defScope s_rest_mul) .none kVD12 dcD12 pmD12 anD12 cdD12 ctD12), slD12⟩)
    (cD12 : PySem.W.codeIn K cdD12 "rest_mul" = true)
    (kD12 : PySem.W.keepIn K (.ref fD12) = true)
    (aD13 : PySem.W.nsIn K mainGlobals "rest_div" = some (some (.ref fD13)))
    (lD13 : K.lookup fD13 = some ⟨ocD13, odD13, .func (PySem.W.fnOf "rest_div" "rest_div" (defArgs s_rest_div) (defBody s_rest_div) (defScope s_rest_div) .none kVD13 dcD13 pmD13 anD13 cdD13 ctD13), slD13⟩)
    (cD13 : PySem.W.codeIn K cdD13 "rest_div" = true)
    (kD13 : PySem.W.keepIn K (.ref fD13) = true)
    (aD14 : PySem.W.nsIn K mainGlobals "rest_mod" = some (some (.ref fD14)))
    (lD14 : K.lookup fD14 = some ⟨ocD14, odD14, .func (PySem.W.fnOf "rest_mod" "rest_mod" (defArgs s_rest_mod) (defBody s_rest_mod) (defScope s_rest_mod) .none kVD14 dcD14 pmD14 anD14 cdD14 ctD14), slD14⟩)
    (cD14 : PySem.W.codeIn K cdD14 "rest_mod" = true)
    (kD14 : PySem.W.keepIn K (.ref fD14) = true)
    (aD15 : PySem.W.nsIn K mainGlobals "rest_of" = some (some (.ref fD15)))
    (lD15 : K.lookup fD15 = some ⟨ocD15, odD15, .func (PySem.W.fnOf "rest_of" "rest_of" (defArgs s_rest_of) (defBody s_rest_of) (defScope s_rest_of) .none kVD15 dcD15 pmD15 anD15 cdD15 ctD15), slD15⟩)
    (cD15 : PySem.W.codeIn K cdD15 "rest_of" = true)
    (kD15 : PySem.W.keepIn K (.ref fD15) = true)
    (aD16 : PySem.W.nsIn K mainGlobals "rest_has" = some (some (.ref fD16)))
    (lD16 : K.lookup fD16 = some ⟨ocD16, odD16, .func (PySem.W.fnOf "rest_has" "rest_has" (defArgs s_rest_has) (defBody s_rest_has) (defScope s_rest_has) .none kVD16 dcD16 pmD16 anD16 cdD16 ctD16), slD16⟩)
    (cD16 : PySem.W.codeIn K cdD16 "rest_has" = true)
    (kD16 : PySem.W.keepIn K (.ref fD16) = true)
    (aD17 : PySem.W.nsIn K mainGlobals "span_join" = some (some (.ref fD17)))
    (lD17 : K.lookup fD17 = some ⟨ocD17, odD17, .func (PySem.W.fnOf "span_join" "span_join" (defArgs s_span_join) (defBody s_span_join) (defScope s_span_join) .none kVD17 dcD17 pmD17 anD17 cdD17 ctD17), slD17⟩)
    (cD17 : PySem.W.codeIn K cdD17 "span_join" = true)
    (kD17 : PySem.W.keepIn K (.ref fD17) = true)
    (aD18 : PySem.W.nsIn K mainGlobals "span_meet" = some (some (.ref fD18)))
    (lD18 : K.lookup fD18 = some ⟨ocD18, odD18, .func (PySem.W.fnOf "span_meet" "span_meet" (defArgs s_span_meet) (defBody s_span_meet) (defScope s_span_meet) .none kVD18 dcD18 pmD18 anD18 cdD18 ctD18), slD18⟩)
    (cD18 : PySem.W.codeIn K cdD18 "span_meet" = true)
    (kD18 : PySem.W.keepIn K (.ref fD18) = true)
    (aD19 : PySem.W.nsIn K mainGlobals "span_add" = some (some (.ref fD19)))
    (lD19 : K.lookup fD19 = some ⟨ocD19, odD19, .func (PySem.W.fnOf "span_add" "span_add" (defArgs s_span_add) (defBody s_span_add) (defScope s_span_add) .none kVD19 dcD19 pmD19 anD19 cdD19 ctD19), slD19⟩)
    (cD19 : PySem.W.codeIn K cdD19 "span_add" = true)
    (kD19 : PySem.W.keepIn K (.ref fD19) = true)
    (aD20 : PySem.W.nsIn K mainGlobals "span_sub" = some (some (.ref fD20)))
    (lD20 : K.lookup fD20 = some ⟨ocD20, odD20, .func (PySem.W.fnOf "span_sub" "span_sub" (defArgs s_span_sub) (defBody s_span_sub) (defScope s_span_sub) .none kVD20 dcD20 pmD20 anD20 cdD20 ctD20), slD20⟩)
    (cD20 : PySem.W.codeIn K cdD20 "span_sub" = true)
    (kD20 : PySem.W.keepIn K (.ref fD20) = true)
    (aD21 : PySem.W.nsIn K mainGlobals "span_mul" = some (some (.ref fD21)))
    (lD21 : K.lookup fD21 = some ⟨ocD21, odD21, .func (PySem.W.fnOf "span_mul" "span_mul" (defArgs s_span_mul) (defBody s_span_mul) (defScope s_span_mul) .none kVD21 dcD21 pmD21 anD21 cdD21 ctD21), slD21⟩)
    (cD21 : PySem.W.codeIn K cdD21 "span_mul" = true)
    (kD21 : PySem.W.keepIn K (.ref fD21) = true)
    (aD22 : PySem.W.nsIn K mainGlobals "span_div" = some (some (.ref fD22)))
    (lD22 : K.lookup fD22 = some ⟨ocD22, odD22, .func (PySem.W.fnOf "span_div" "span_div" (defArgs s_span_div) (defBody s_span_div) (defScope s_span_div) .none kVD22 dcD22 pmD22 anD22 cdD22 ctD22), slD22⟩)
    (cD22 : PySem.W.codeIn K cdD22 "span_div" = true)
    (kD22 : PySem.W.keepIn K (.ref fD22) = true)
    (aD23 : PySem.W.nsIn K mainGlobals "span_mod" = some (some (.ref fD23)))
    (lD23 : K.lookup fD23 = some ⟨ocD23, odD23, .func (PySem.W.fnOf "span_mod" "span_mod" (defArgs s_span_mod) (defBody s_span_mod) (defScope s_span_mod) .none kVD23 dcD23 pmD23 anD23 cdD23 ctD23), slD23⟩)
    (cD23 : PySem.W.codeIn K cdD23 "span_mod" = true)
    (kD23 : PySem.W.keepIn K (.ref fD23) = true)
    (aD24 : PySem.W.nsIn K mainGlobals "negatives" = some (some (.ref fD24)))
    (lD24 : K.lookup fD24 = some ⟨ocD24, odD24, .func (PySem.W.fnOf "negatives" "negatives" (defArgs s_negatives) (defBody s_negatives) (defScope s_negatives) .none kVD24 dcD24 pmD24 anD24 cdD24 ctD24), slD24⟩)
    (cD24 : PySem.W.codeIn K cdD24 "negatives" = true)
    (kD24 : PySem.W.keepIn K (.ref fD24) = true)
    (aD25 : PySem.W.nsIn K mainGlobals "without_zero" = some (some (.ref fD25)))
    (lD25 : K.lookup fD25 = some ⟨ocD25, odD25, .func (PySem.W.fnOf "without_zero" "without_zero" (defArgs s_without_zero) (defBody s_without_zero) (defScope s_without_zero) .none kVD25 dcD25 pmD25 anD25 cdD25 ctD25), slD25⟩)
    (cD25 : PySem.W.codeIn K cdD25 "without_zero" = true)
    (kD25 : PySem.W.keepIn K (.ref fD25) = true)
    (aD26 : PySem.W.nsIn K mainGlobals "joined_spans" = some (some (.ref fD26)))
    (lD26 : K.lookup fD26 = some ⟨ocD26, odD26, .func (PySem.W.fnOf "joined" "joined" (defArgs s_joined_spans) (defBody s_joined_spans) (defScope s_joined_spans) .none kVD26 dcD26 pmD26 anD26 cdD26 ctD26), slD26⟩)
    (cD26 : PySem.W.codeIn K cdD26 "joined" = true)
    (kD26 : PySem.W.keepIn K (.ref fD26) = true)
    (aD27 : PySem.W.nsIn K mainGlobals "ends" = some (some (.ref fD27)))
    (lD27 : K.lookup fD27 = some ⟨ocD27, odD27, .func (PySem.W.fnOf "ends" "ends" (defArgs s_ends) (defBody s_ends) (defScope s_ends) .none kVD27 dcD27 pmD27 anD27 cdD27 ctD27), slD27⟩)
    (cD27 : PySem.W.codeIn K cdD27 "ends" = true)
    (kD27 : PySem.W.keepIn K (.ref fD27) = true)
    (aD28 : PySem.W.nsIn K mainGlobals "bound_of" = some (some (.ref fD28)))
    (lD28 : K.lookup fD28 = some ⟨ocD28, odD28, .func (PySem.W.fnOf "bound_of" "bound_of" (defArgs s_bound_of) (defBody s_bound_of) (defScope s_bound_of) .none kVD28 dcD28 pmD28 anD28 cdD28 ctD28), slD28⟩)
    (cD28 : PySem.W.codeIn K cdD28 "bound_of" = true)
    (kD28 : PySem.W.keepIn K (.ref fD28) = true)
    (aD29 : PySem.W.nsIn K mainGlobals "direction" = some (some (.ref fD29)))
    (lD29 : K.lookup fD29 = some ⟨ocD29, odD29, .func (PySem.W.fnOf "direction" "direction" (defArgs s_direction) (defBody s_direction) (defScope s_direction) .none kVD29 dcD29 pmD29 anD29 cdD29 ctD29), slD29⟩)
    (cD29 : PySem.W.codeIn K cdD29 "direction" = true)
    (kD29 : PySem.W.keepIn K (.ref fD29) = true)
    (aD30 : PySem.W.nsIn K mainGlobals "times" = some (some (.ref fD30)))
    (lD30 : K.lookup fD30 = some ⟨ocD30, odD30, .func (PySem.W.fnOf "times" "times" (defArgs s_times) (defBody s_times) (defScope s_times) .none kVD30 dcD30 pmD30 anD30 cdD30 ctD30), slD30⟩)
    (cD30 : PySem.W.codeIn K cdD30 "times" = true)
    (kD30 : PySem.W.keepIn K (.ref fD30) = true)
    (aD31 : PySem.W.nsIn K mainGlobals "quotients" = some (some (.ref fD31)))
    (lD31 : K.lookup fD31 = some ⟨ocD31, odD31, .func (PySem.W.fnOf "quotients" "quotients" (defArgs s_quotients) (defBody s_quotients) (defScope s_quotients) .none kVD31 dcD31 pmD31 anD31 cdD31 ctD31), slD31⟩)
    (cD31 : PySem.W.codeIn K cdD31 "quotients" = true)
    (kD31 : PySem.W.keepIn K (.ref fD31) = true)
    (aD32 : PySem.W.nsIn K mainGlobals "quotient" = some (some (.ref fD32)))
    (lD32 : K.lookup fD32 = some ⟨ocD32, odD32, .func (PySem.W.fnOf "quotient" "quotient" (defArgs s_quotient) (defBody s_quotient) (defScope s_quotient) .none kVD32 dcD32 pmD32 anD32 cdD32 ctD32), slD32⟩)
    (cD32 : PySem.W.codeIn K cdD32 "quotient" = true)
    (kD32 : PySem.W.keepIn K (.ref fD32) = true)
    (aD33 : PySem.W.nsIn K mainGlobals "remainders" = some (some (.ref fD33)))
    (lD33 : K.lookup fD33 = some ⟨ocD33, odD33, .func (PySem.W.fnOf "remainders" "remainders" (defArgs s_remainders) (defBody s_remainders) (defScope s_remainders) .none kVD33 dcD33 pmD33 anD33 cdD33 ctD33), slD33⟩)
    (cD33 : PySem.W.codeIn K cdD33 "remainders" = true)
    (kD33 : PySem.W.keepIn K (.ref fD33) = true)
    (aD34 : PySem.W.nsIn K mainGlobals "single" = some (some (.ref fD34)))
    (lD34 : K.lookup fD34 = some ⟨ocD34, odD34, .func (PySem.W.fnOf "single" "single" (defArgs s_single) (defBody s_single) (defScope s_single) .none kVD34 dcD34 pmD34 anD34 cdD34 ctD34), slD34⟩)
    (cD34 : PySem.W.codeIn K cdD34 "single" = true)
    (kD34 : PySem.W.keepIn K (.ref fD34) = true)
    (aD35 : PySem.W.nsIn K mainGlobals "value_of" = some (some (.ref fD35)))
    (lD35 : K.lookup fD35 = some ⟨ocD35, odD35, .func (PySem.W.fnOf "value_of" "value_of" (defArgs s_value_of) (defBody s_value_of) (defScope s_value_of) .none kVD35 dcD35 pmD35 anD35 cdD35 ctD35), slD35⟩)
    (cD35 : PySem.W.codeIn K cdD35 "value_of" = true)
    (kD35 : PySem.W.keepIn K (.ref fD35) = true)
    (aD36 : PySem.W.nsIn K mainGlobals "contains" = some (some (.ref fD36)))
    (lD36 : K.lookup fD36 = some ⟨ocD36, odD36, .func (PySem.W.fnOf "contains" "contains" (defArgs s_contains) (defBody s_contains) (defScope s_contains) .none kVD36 dcD36 pmD36 anD36 cdD36 ctD36), slD36⟩)
    (cD36 : PySem.W.codeIn K cdD36 "contains" = true)
    (kD36 : PySem.W.keepIn K (.ref fD36) = true)
    (aD37 : PySem.W.nsIn K mainGlobals "value_join" = some (some (.ref fD37)))
    (lD37 : K.lookup fD37 = some ⟨ocD37, odD37, .func (PySem.W.fnOf "value_join" "value_join" (defArgs s_value_join) (defBody s_value_join) (defScope s_value_join) .none kVD37 dcD37 pmD37 anD37 cdD37 ctD37), slD37⟩)
    (cD37 : PySem.W.codeIn K cdD37 "value_join" = true)
    (kD37 : PySem.W.keepIn K (.ref fD37) = true)
    (aD38 : PySem.W.nsIn K mainGlobals "value_apply" = some (some (.ref fD38)))
    (lD38 : K.lookup fD38 = some ⟨ocD38, odD38, .func (PySem.W.fnOf "value_apply" "value_apply" (defArgs s_value_apply) (defBody s_value_apply) (defScope s_value_apply) .none kVD38 dcD38 pmD38 anD38 cdD38 ctD38), slD38⟩)
    (cD38 : PySem.W.codeIn K cdD38 "value_apply" = true)
    (kD38 : PySem.W.keepIn K (.ref fD38) = true)
    (aD39 : PySem.W.nsIn K mainGlobals "value_cut" = some (some (.ref fD39)))
    (lD39 : K.lookup fD39 = some ⟨ocD39, odD39, .func (PySem.W.fnOf "value_cut" "value_cut" (defArgs s_value_cut) (defBody s_value_cut) (defScope s_value_cut) .none kVD39 dcD39 pmD39 anD39 cdD39 ctD39), slD39⟩)
    (cD39 : PySem.W.codeIn K cdD39 "value_cut" = true)
    (kD39 : PySem.W.keepIn K (.ref fD39) = true)
    (aD40 : PySem.W.nsIn K mainGlobals "value_from" = some (some (.ref fD40)))
    (lD40 : K.lookup fD40 = some ⟨ocD40, odD40, .func (PySem.W.fnOf "value_from" "value_from" (defArgs s_value_from) (defBody s_value_from) (defScope s_value_from) .none kVD40 dcD40 pmD40 anD40 cdD40 ctD40), slD40⟩)
    (cD40 : PySem.W.codeIn K cdD40 "value_from" = true)
    (kD40 : PySem.W.keepIn K (.ref fD40) = true)
    (aD41 : PySem.W.nsIn K mainGlobals "joined_values" = some (some (.ref fD41)))
    (lD41 : K.lookup fD41 = some ⟨ocD41, odD41, .func (PySem.W.fnOf "joined" "joined" (defArgs s_joined_values) (defBody s_joined_values) (defScope s_joined_values) .none kVD41 dcD41 pmD41 anD41 cdD41 ctD41), slD41⟩)
    (cD41 : PySem.W.codeIn K cdD41 "joined" = true)
    (kD41 : PySem.W.keepIn K (.ref fD41) = true)
    (aD42 : PySem.W.nsIn K mainGlobals "applied" = some (some (.ref fD42)))
    (lD42 : K.lookup fD42 = some ⟨ocD42, odD42, .func (PySem.W.fnOf "applied" "applied" (defArgs s_applied) (defBody s_applied) (defScope s_applied) .none kVD42 dcD42 pmD42 anD42 cdD42 ctD42), slD42⟩)
    (cD42 : PySem.W.codeIn K cdD42 "applied" = true)
    (kD42 : PySem.W.keepIn K (.ref fD42) = true)
    (aD43 : PySem.W.nsIn K mainGlobals "_law_box" = some (some (.ref fD43)))
    (lD43 : K.lookup fD43 = some ⟨ocD43, odD43, .func (PySem.W.fnOf "_law_box" "_law_box" (defArgs sBox) (defBody sBox) (defScope sBox) .none kVD43 dcD43 pmD43 anD43 cdD43 ctD43), slD43⟩)
    (cD43 : PySem.W.codeIn K cdD43 "_law_box" = true)
    (kD43 : PySem.W.keepIn K (.ref fD43) = true)
    (aD44 : PySem.W.nsIn K mainGlobals "_law_take" = some (some (.ref fD44)))
    (lD44 : K.lookup fD44 = some ⟨ocD44, odD44, .func (PySem.W.fnOf "_law_take" "_law_take" (defArgs sTake) (defBody sTake) (defScope sTake) .none kVD44 dcD44 pmD44 anD44 cdD44 ctD44), slD44⟩)
    (cD44 : PySem.W.codeIn K cdD44 "_law_take" = true)
    (kD44 : PySem.W.keepIn K (.ref fD44) = true)
    (aD45 : PySem.W.nsIn K mainGlobals "_law_cells" = some (some (.ref fD45)))
    (lD45 : K.lookup fD45 = some ⟨ocD45, odD45, .func (PySem.W.fnOf "_law_cells" "_law_cells" (defArgs sCells) (defBody sCells) (defScope sCells) .none kVD45 dcD45 pmD45 anD45 cdD45 ctD45), slD45⟩)
    (cD45 : PySem.W.codeIn K cdD45 "_law_cells" = true)
    (kD45 : PySem.W.keepIn K (.ref fD45) = true)
    (aD46 : PySem.W.nsIn K mainGlobals "_law_of" = some (some (.ref fD46)))
    (lD46 : K.lookup fD46 = some ⟨ocD46, odD46, .func (PySem.W.fnOf "_law_of" "_law_of" (defArgs sOf) (defBody sOf) (defScope sOf) .none kVD46 dcD46 pmD46 anD46 cdD46 ctD46), slD46⟩)
    (cD46 : PySem.W.codeIn K cdD46 "_law_of" = true)
    (kD46 : PySem.W.keepIn K (.ref fD46) = true)
    (aD47 : PySem.W.nsIn K mainGlobals "_law_same" = some (some (.ref fD47)))
    (lD47 : K.lookup fD47 = some ⟨ocD47, odD47, .func (PySem.W.fnOf "_law_same" "_law_same" (defArgs s_l_same) (defBody s_l_same) (defScope s_l_same) .none kVD47 dcD47 pmD47 anD47 cdD47 ctD47), slD47⟩)
    (cD47 : PySem.W.codeIn K cdD47 "_law_same" = true)
    (kD47 : PySem.W.keepIn K (.ref fD47) = true)
    (aD48 : PySem.W.nsIn K mainGlobals "_law_open_value" = some (some (.ref fD48)))
    (lD48 : K.lookup fD48 = some ⟨ocD48, odD48, .func (PySem.W.fnOf "_law_open_value" "_law_open_value" (defArgs s_l_open_value) (defBody s_l_open_value) (defScope s_l_open_value) .none kVD48 dcD48 pmD48 anD48 cdD48 ctD48), slD48⟩)
    (cD48 : PySem.W.codeIn K cdD48 "_law_open_value" = true)
    (kD48 : PySem.W.keepIn K (.ref fD48) = true)
    (aD49 : PySem.W.nsIn K mainGlobals "_law_cut" = some (some (.ref fD49)))
    (lD49 : K.lookup fD49 = some ⟨ocD49, odD49, .func (PySem.W.fnOf "_law_cut" "_law_cut" (defArgs s_l_cut) (defBody s_l_cut) (defScope s_l_cut) .none kVD49 dcD49 pmD49 anD49 cdD49 ctD49), slD49⟩)
    (cD49 : PySem.W.codeIn K cdD49 "_law_cut" = true)
    (kD49 : PySem.W.keepIn K (.ref fD49) = true)
    (aD50 : PySem.W.nsIn K mainGlobals "_law_members" = some (some (.ref fD50)))
    (lD50 : K.lookup fD50 = some ⟨ocD50, odD50, .func (PySem.W.fnOf "_law_members" "_law_members" (defArgs s_l_members) (defBody s_l_members) (defScope s_l_members) .none kVD50 dcD50 pmD50 anD50 cdD50 ctD50), slD50⟩)
    (cD50 : PySem.W.codeIn K cdD50 "_law_members" = true)
    (kD50 : PySem.W.keepIn K (.ref fD50) = true)
    (aD51 : PySem.W.nsIn K mainGlobals "_law_result" = some (some (.ref fD51)))
    (lD51 : K.lookup fD51 = some ⟨ocD51, odD51, .func (PySem.W.fnOf "_law_result" "_law_result" (defArgs s_l_result) (defBody s_l_result) (defScope s_l_result) .none kVD51 dcD51 pmD51 anD51 cdD51 ctD51), slD51⟩)
    (cD51 : PySem.W.codeIn K cdD51 "_law_result" = true)
    (kD51 : PySem.W.keepIn K (.ref fD51) = true)
    (aD52 : PySem.W.nsIn K mainGlobals "_law_ends_right" = some (some (.ref fD52)))
    (lD52 : K.lookup fD52 = some ⟨ocD52, odD52, .func (PySem.W.fnOf "_law_ends_right" "_law_ends_right" (defArgs s_l_ends_right) (defBody s_l_ends_right) (defScope s_l_ends_right) .none kVD52 dcD52 pmD52 anD52 cdD52 ctD52), slD52⟩)
    (cD52 : PySem.W.codeIn K cdD52 "_law_ends_right" = true)
    (kD52 : PySem.W.keepIn K (.ref fD52) = true)
    (aD53 : PySem.W.nsIn K mainGlobals "_law_pair_right" = some (some (.ref fD53)))
    (lD53 : K.lookup fD53 = some ⟨ocD53, odD53, .func (PySem.W.fnOf "_law_pair_right" "_law_pair_right" (defArgs s_l_pair_right) (defBody s_l_pair_right) (defScope s_l_pair_right) .none kVD53 dcD53 pmD53 anD53 cdD53 ctD53), slD53⟩)
    (cD53 : PySem.W.codeIn K cdD53 "_law_pair_right" = true)
    (kD53 : PySem.W.keepIn K (.ref fD53) = true)
    (aD54 : PySem.W.nsIn K mainGlobals "_law_right" = some (some (.ref fD54)))
    (lD54 : K.lookup fD54 = some ⟨ocD54, odD54, .func (PySem.W.fnOf "_law_right" "_law_right" (defArgs s_l_right) (defBody s_l_right) (defScope s_l_right) .none kVD54 dcD54 pmD54 anD54 cdD54 ctD54), slD54⟩)
    (cD54 : PySem.W.codeIn K cdD54 "_law_right" = true)
    (kD54 : PySem.W.keepIn K (.ref fD54) = true)
    (aD55 : PySem.W.nsIn K mainGlobals "law" = some (some (.ref fD55)))
    (lD55 : K.lookup fD55 = some ⟨ocD55, odD55, .func (PySem.W.fnOf "law" "law" (defArgs sLaw) (defBody sLaw) (defScope sLaw) .none kVD55 dcD55 pmD55 anD55 cdD55 ctD55), slD55⟩)
    (cD55 : PySem.W.codeIn K cdD55 "law" = true)
    (kD55 : PySem.W.keepIn K (.ref fD55) = true)
    (b_len : PySem.W.nsIn K mainGlobals "len" = some none)
    (b_abs : PySem.W.nsIn K mainGlobals "abs" = some none)
    (b_int : PySem.W.nsIn K mainGlobals "int" = some none)
    (b_list : PySem.W.nsIn K mainGlobals "list" = some none)
    (b_tuple : PySem.W.nsIn K mainGlobals "tuple" = some none)
    (b_bool : PySem.W.nsIn K mainGlobals "bool" = some none)
    (b_str : PySem.W.nsIn K mainGlobals "str" = some none)
    (b_enumerate : PySem.W.nsIn K mainGlobals "enumerate" = some none)
    (b_isinstance : PySem.W.nsIn K mainGlobals "isinstance" = some none)
    (b_all : PySem.W.nsIn K mainGlobals "all" = some none)
    (b_any : PySem.W.nsIn K mainGlobals "any" = some none)
    (b_zip : PySem.W.nsIn K mainGlobals "zip" = some none)
    (b_range : PySem.W.nsIn K mainGlobals "range" = some none)
    (b_min : PySem.W.nsIn K mainGlobals "min" = some none)
    (b_max : PySem.W.nsIn K mainGlobals "max" = some none)
    (b_set : PySem.W.nsIn K mainGlobals "set" = some none)
    (b_sorted : PySem.W.nsIn K mainGlobals "sorted" = some none)
    (b_repr : PySem.W.nsIn K mainGlobals "repr" = some none)
    (b_sum : PySem.W.nsIn K mainGlobals "sum" = some none)
    (aGCD : PySem.W.nsIn K mainGlobals "gcd" = some (some (.builtin "math.gcd")))
    (aEV : PySem.W.nsIn K mainGlobals "EVERY" = some (some (.ref aE)))
    (lEV : K.lookup aE = some ⟨.type "tuple", ocEV, .seq #[.none, .none, .int 1 tkA, .int 0 tkB] nEV, slEV⟩) :
    ∃ fd : FuncData, (∀ (s : Shared) (v : Value), BindsTo s fd ⟨[v], []⟩ [("_law_script", v)]) ∧ ∀ base : Heap, K.In base → base.Ns mainGlobals mg → FnOk l.prog w K mg base CX0 11 fa fd ["_law_script"] (spLaw K) := by
  have e := hfa.symm.trans (PySem.W.mg_of X G aD55)
  cases e
  have F_loosest_low := fun_mk (st := s_loosest_low) lD0 cD0 kD0
  have b_loosest_low := F_loosest_low.binds (ps := ["one", "other"]) fun _ _ _ _ _ _ us hl => match us, hl with | [_, _], _ => rfl
  have F_tightest_low := fun_mk (st := s_tightest_low) lD1 cD1 kD1
  have b_tightest_low := F_tightest_low.binds (ps := ["one", "other"]) fun _ _ _ _ _ _ us hl => match us, hl with | [_, _], _ => rfl
  have F_loosest_high := fun_mk (st := s_loosest_high) lD2 cD2 kD2
  have b_loosest_high := F_loosest_high.binds (ps := ["one", "other"]) fun _ _ _ _ _ _ us hl => match us, hl with | [_, _], _ => rfl
  have F_tightest_high := fun_mk (st := s_tightest_high) lD3 cD3 kD3
  have b_tightest_high := F_tightest_high.binds (ps := ["one", "other"]) fun _ _ _ _ _ _ us hl => match us, hl with | [_, _], _ => rfl
  have F_low_within := fun_mk (st := s_low_within) lD4 cD4 kD4
  have b_low_within := F_low_within.binds (ps := ["one", "other"]) fun _ _ _ _ _ _ us hl => match us, hl with | [_, _], _ => rfl
  have F_high_within := fun_mk (st := s_high_within) lD5 cD5 kD5
  have b_high_within := F_high_within.binds (ps := ["one", "other"]) fun _ _ _ _ _ _ us hl => match us, hl with | [_, _], _ => rfl
  have F_lets_in := fun_mk (st := s_lets_in) lD6 cD6 kD6
  have b_lets_in := F_lets_in.binds (ps := ["low", "high", "n"]) fun _ _ _ _ _ _ us hl => match us, hl with | [_, _, _], _ => rfl
  have F_total := fun_mk (st := s_total) lD7 cD7 kD7
  have b_total := F_total.binds (ps := ["one", "other"]) fun _ _ _ _ _ _ us hl => match us, hl with | [_, _], _ => rfl
  have F_opposite := fun_mk (st := s_opposite) lD8 cD8 kD8
  have b_opposite := F_opposite.binds (ps := ["bound"]) fun _ _ _ _ _ _ us hl => match us, hl with | [_], _ => rfl
  have F_rest_join := fun_mk (st := s_rest_join) lD9 cD9 kD9
  have b_rest_join := F_rest_join.binds (ps := ["one", "other"]) fun _ _ _ _ _ _ us hl => match us, hl with | [_, _], _ => rfl
  have F_rest_add := fun_mk (st := s_rest_add) lD10 cD10 kD10
  have b_rest_add := F_rest_add.binds (ps := ["one", "other"]) fun _ _ _ _ _ _ us hl => match us, hl with | [_, _], _ => rfl
  have F_rest_sub := fun_mk (st := s_rest_sub) lD11 cD11 kD11
  have b_rest_sub := F_rest_sub.binds (ps := ["one", "other"]) fun _ _ _ _ _ _ us hl => match us, hl with | [_, _], _ => rfl
  have F_rest_mul := fun_mk (st := s_rest_mul) lD12 cD12 kD12
  have b_rest_mul := F_rest_mul.binds (ps := ["one", "other"]) fun _ _ _ _ _ _ us hl => match us, hl with | [_, _], _ => rfl
  have F_rest_div := fun_mk (st := s_rest_div) lD13 cD13 kD13
  have b_rest_div := F_rest_div.binds (ps := ["one", "other"]) fun _ _ _ _ _ _ us hl => match us, hl with | [_, _], _ => rfl
  have F_rest_mod := fun_mk (st := s_rest_mod) lD14 cD14 kD14
  have b_rest_mod := F_rest_mod.binds (ps := ["one", "other"]) fun _ _ _ _ _ _ us hl => match us, hl with | [_, _], _ => rfl
  have F_rest_of := fun_mk (st := s_rest_of) lD15 cD15 kD15
  have b_rest_of := F_rest_of.binds (ps := ["m", "n"]) fun _ _ _ _ _ _ us hl => match us, hl with | [_, _], _ => rfl
  have F_rest_has := fun_mk (st := s_rest_has) lD16 cD16 kD16
  have b_rest_has := F_rest_has.binds (ps := ["rest", "n"]) fun _ _ _ _ _ _ us hl => match us, hl with | [_, _], _ => rfl
  have F_span_join := fun_mk (st := s_span_join) lD17 cD17 kD17
  have b_span_join := F_span_join.binds (ps := ["one", "other"]) fun _ _ _ _ _ _ us hl => match us, hl with | [_, _], _ => rfl
  have F_span_meet := fun_mk (st := s_span_meet) lD18 cD18 kD18
  have b_span_meet := F_span_meet.binds (ps := ["one", "other"]) fun _ _ _ _ _ _ us hl => match us, hl with | [_, _], _ => rfl
  have F_span_add := fun_mk (st := s_span_add) lD19 cD19 kD19
  have b_span_add := F_span_add.binds (ps := ["one", "other"]) fun _ _ _ _ _ _ us hl => match us, hl with | [_, _], _ => rfl
  have F_span_sub := fun_mk (st := s_span_sub) lD20 cD20 kD20
  have b_span_sub := F_span_sub.binds (ps := ["one", "other"]) fun _ _ _ _ _ _ us hl => match us, hl with | [_, _], _ => rfl
  have F_span_mul := fun_mk (st := s_span_mul) lD21 cD21 kD21
  have b_span_mul := F_span_mul.binds (ps := ["one", "other"]) fun _ _ _ _ _ _ us hl => match us, hl with | [_, _], _ => rfl
  have F_span_div := fun_mk (st := s_span_div) lD22 cD22 kD22
  have b_span_div := F_span_div.binds (ps := ["one", "other"]) fun _ _ _ _ _ _ us hl => match us, hl with | [_, _], _ => rfl
  have F_span_mod := fun_mk (st := s_span_mod) lD23 cD23 kD23
  have b_span_mod := F_span_mod.binds (ps := ["one", "other"]) fun _ _ _ _ _ _ us hl => match us, hl with | [_, _], _ => rfl
  have F_negatives := fun_mk (st := s_negatives) lD24 cD24 kD24
  have b_negatives := F_negatives.binds (ps := ["span"]) fun _ _ _ _ _ _ us hl => match us, hl with | [_], _ => rfl
  have F_without_zero := fun_mk (st := s_without_zero) lD25 cD25 kD25
  have b_without_zero := F_without_zero.binds (ps := ["span"]) fun _ _ _ _ _ _ us hl => match us, hl with | [_], _ => rfl
  have F_joined_spans := fun_mk (st := s_joined_spans) lD26 cD26 kD26
  have b_joined_spans := F_joined_spans.binds (ps := ["one", "other"]) fun _ _ _ _ _ _ us hl => match us, hl with | [_, _], _ => rfl
  have F_ends := fun_mk (st := s_ends) lD27 cD27 kD27
  have b_ends := F_ends.binds (ps := ["span"]) fun _ _ _ _ _ _ us hl => match us, hl with | [_], _ => rfl
  have F_bound_of := fun_mk (st := s_bound_of) lD28 cD28 kD28
  have b_bound_of := F_bound_of.binds (ps := ["place"]) fun _ _ _ _ _ _ us hl => match us, hl with | [_], _ => rfl
  have F_direction := fun_mk (st := s_direction) lD29 cD29 kD29
  have b_direction := F_direction.binds (ps := ["place"]) fun _ _ _ _ _ _ us hl => match us, hl with | [_], _ => rfl
  have F_times := fun_mk (st := s_times) lD30 cD30 kD30
  have b_times := F_times.binds (ps := ["one", "other"]) fun _ _ _ _ _ _ us hl => match us, hl with | [_, _], _ => rfl
  have F_quotients := fun_mk (st := s_quotients) lD31 cD31 kD31
  have b_quotients := F_quotients.binds (ps := ["span", "divisors"]) fun _ _ _ _ _ _ us hl => match us, hl with | [_, _], _ => rfl
  have F_quotient := fun_mk (st := s_quotient) lD32 cD32 kD32
  have b_quotient := F_quotient.binds (ps := ["n", "divisor"]) fun _ _ _ _ _ _ us hl => match us, hl with | [_, _], _ => rfl
  have F_remainders := fun_mk (st := s_remainders) lD33 cD33 kD33
  have b_remainders := F_remainders.binds (ps := ["span", "divisors"]) fun _ _ _ _ _ _ us hl => match us, hl with | [_, _], _ => rfl
  have F_single := fun_mk (st := s_single) lD34 cD34 kD34
  have b_single := F_single.binds (ps := ["n"]) fun _ _ _ _ _ _ us hl => match us, hl with | [_], _ => rfl
  have F_value_of := fun_mk (st := s_value_of) lD35 cD35 kD35
  have b_value_of := F_value_of.binds (ps := ["low", "high", "m", "r"]) fun _ _ _ _ _ _ us hl => match us, hl with | [_, _, _, _], _ => rfl
  have F_contains := fun_mk (st := s_contains) lD36 cD36 kD36
  have b_contains := F_contains.binds (ps := ["value", "n"]) fun _ _ _ _ _ _ us hl => match us, hl with | [_, _], _ => rfl
  have F_value_join := fun_mk (st := s_value_join) lD37 cD37 kD37
  have b_value_join := F_value_join.binds (ps := ["one", "other"]) fun _ _ _ _ _ _ us hl => match us, hl with | [_, _], _ => rfl
  have F_value_apply := fun_mk (st := s_value_apply) lD38 cD38 kD38
  have b_value_apply := F_value_apply.binds (ps := ["sign", "one", "other"]) fun _ _ _ _ _ _ us hl => match us, hl with | [_, _, _], _ => rfl
  have F_value_cut := fun_mk (st := s_value_cut) lD39 cD39 kD39
  have b_value_cut := F_value_cut.binds (ps := ["value", "low", "high"]) fun _ _ _ _ _ _ us hl => match us, hl with | [_, _, _], _ => rfl
  have F_value_from := fun_mk (st := s_value_from) lD40 cD40 kD40
  have b_value_from := F_value_from.binds (ps := ["span", "rest"]) fun _ _ _ _ _ _ us hl => match us, hl with | [_, _], _ => rfl
  have F_joined_values := fun_mk (st := s_joined_values) lD41 cD41 kD41
  have b_joined_values := F_joined_values.binds (ps := ["one", "other"]) fun _ _ _ _ _ _ us hl => match us, hl with | [_, _], _ => rfl
  have F_applied := fun_mk (st := s_applied) lD42 cD42 kD42
  have b_applied := F_applied.binds (ps := ["sign", "one", "other"]) fun _ _ _ _ _ _ us hl => match us, hl with | [_, _, _], _ => rfl
  have F_l_box := fun_mk (st := sBox) lD43 cD43 kD43
  have b_l_box := F_l_box.binds (ps := ["_law_script", "_law_k"]) fun _ _ _ _ _ _ us hl => match us, hl with | [_, _], _ => rfl
  have F_l_take := fun_mk (st := sTake) lD44 cD44 kD44
  have b_l_take := F_l_take.binds (ps := ["_law_box_here", "_law_below"]) fun _ _ _ _ _ _ us hl => match us, hl with | [_, _], _ => rfl
  have F_l_cells := fun_mk (st := sCells) lD45 cD45 kD45
  have b_l_cells := F_l_cells.binds (ps := ["_law_script", "_law_most"]) fun _ _ _ _ _ _ us hl => match us, hl with | [_, _], _ => rfl
  have F_l_of := fun_mk (st := sOf) lD46 cD46 kD46
  have b_l_of := F_l_of.binds (ps := ["_law_box_here", "_law_some"]) fun _ _ _ _ _ _ us hl => match us, hl with | [_, _], _ => rfl
  have F_l_same := fun_mk (st := s_l_same) lD47 cD47 kD47
  have b_l_same := F_l_same.binds (ps := ["_law_found", "_law_due"]) fun _ _ _ _ _ _ us hl => match us, hl with | [_, _], _ => rfl
  have F_l_open_value := fun_mk (st := s_l_open_value) lD48 cD48 kD48
  have b_l_open_value := F_l_open_value.binds (ps := ["_law_box_here", "_law_is_open"]) fun _ _ _ _ _ _ us hl => match us, hl with | [_, _], _ => rfl
  have F_l_cut := fun_mk (st := s_l_cut) lD49 cD49 kD49
  have b_l_cut := F_l_cut.binds (ps := ["_law_some", "_law_far"]) fun _ _ _ _ _ _ us hl => match us, hl with | [_, _], _ => rfl
  have F_l_members := fun_mk (st := s_l_members) lD50 cD50 kD50
  have b_l_members := F_l_members.binds (ps := ["_law_some"]) fun _ _ _ _ _ _ us hl => match us, hl with | [_], _ => rfl
  have F_l_result := fun_mk (st := s_l_result) lD51 cD51 kD51
  have b_l_result := F_l_result.binds (ps := ["_law_word", "_law_spot", "_law_mate"]) fun _ _ _ _ _ _ us hl => match us, hl with | [_, _, _], _ => rfl
  have F_l_ends_right := fun_mk (st := s_l_ends_right) lD52 cD52 kD52
  have b_l_ends_right := F_l_ends_right.binds (ps := ["_law_found", "_law_near", "_law_wide"]) fun _ _ _ _ _ _ us hl => match us, hl with | [_, _, _], _ => rfl
  have F_l_pair_right := fun_mk (st := s_l_pair_right) lD53 cD53 kD53
  have b_l_pair_right := F_l_pair_right.binds (ps := ["_law_word", "_law_mine", "_law_its"]) fun _ _ _ _ _ _ us hl => match us, hl with | [_, _, _], _ => rfl
  have F_l_right := fun_mk (st := s_l_right) lD54 cD54 kD54
  have b_l_right := F_l_right.binds (ps := ["_law_box_here"]) fun _ _ _ _ _ _ us hl => match us, hl with | [_], _ => rfl
  have F_law := fun_mk (st := sLaw) lD55 cD55 kD55
  have b_law := F_law.binds (ps := ["_law_script"]) fun _ _ _ _ _ _ us hl => match us, hl with | [_], _ => rfl
  have bl : Blts mg := ⟨PySem.W.mg_none_of X G b_len, PySem.W.mg_none_of X G b_abs, PySem.W.mg_none_of X G b_int, PySem.W.mg_none_of X G b_list, PySem.W.mg_none_of X G b_tuple, PySem.W.mg_none_of X G b_bool, PySem.W.mg_none_of X G b_str, PySem.W.mg_none_of X G b_enumerate, PySem.W.mg_none_of X G b_isinstance, PySem.W.mg_none_of X G b_all, PySem.W.mg_none_of X G b_any, PySem.W.mg_none_of X G b_zip, PySem.W.mg_none_of X G b_range, PySem.W.mg_none_of X G b_min, PySem.W.mg_none_of X G b_max, PySem.W.mg_none_of X G b_set, PySem.W.mg_none_of X G b_sorted, PySem.W.mg_none_of X G b_repr, PySem.W.mg_none_of X G b_sum⟩
  have hgcd := PySem.W.mg_of X G aGCD
  have hEVERY := PySem.W.mg_of X G aEV
  have tE := tupC_every lEV
  have n_loosest_low := PySem.W.mg_of X G aD0
  have n_tightest_low := PySem.W.mg_of X G aD1
  have n_loosest_high := PySem.W.mg_of X G aD2
  have n_tightest_high := PySem.W.mg_of X G aD3
  have n_low_within := PySem.W.mg_of X G aD4
  have n_high_within := PySem.W.mg_of X G aD5
  have n_lets_in := PySem.W.mg_of X G aD6
  have n_total := PySem.W.mg_of X G aD7
  have n_opposite := PySem.W.mg_of X G aD8
  have n_rest_join := PySem.W.mg_of X G aD9
  have n_rest_add := PySem.W.mg_of X G aD10
  have n_rest_sub := PySem.W.mg_of X G aD11
  have n_rest_mul := PySem.W.mg_of X G aD12
  have n_rest_div := PySem.W.mg_of X G aD13
  have n_rest_mod := PySem.W.mg_of X G aD14
  have n_rest_of := PySem.W.mg_of X G aD15
  have n_rest_has := PySem.W.mg_of X G aD16
  have n_span_join := PySem.W.mg_of X G aD17
  have n_span_meet := PySem.W.mg_of X G aD18
  have n_span_add := PySem.W.mg_of X G aD19
  have n_span_sub := PySem.W.mg_of X G aD20
  have n_span_mul := PySem.W.mg_of X G aD21
  have n_span_div := PySem.W.mg_of X G aD22
  have n_span_mod := PySem.W.mg_of X G aD23
  have n_negatives := PySem.W.mg_of X G aD24
  have n_without_zero := PySem.W.mg_of X G aD25
  have n_joined_spans := PySem.W.mg_of X G aD26
  have n_ends := PySem.W.mg_of X G aD27
  have n_bound_of := PySem.W.mg_of X G aD28
  have n_direction := PySem.W.mg_of X G aD29
  have n_times := PySem.W.mg_of X G aD30
  have n_quotients := PySem.W.mg_of X G aD31
  have n_quotient := PySem.W.mg_of X G aD32
  have n_remainders := PySem.W.mg_of X G aD33
  have n_single := PySem.W.mg_of X G aD34
  have n_value_of := PySem.W.mg_of X G aD35
  have n_contains := PySem.W.mg_of X G aD36
  have n_value_join := PySem.W.mg_of X G aD37
  have n_value_apply := PySem.W.mg_of X G aD38
  have n_value_cut := PySem.W.mg_of X G aD39
  have n_value_from := PySem.W.mg_of X G aD40
  have n_joined_values := PySem.W.mg_of X G aD41
  have n_applied := PySem.W.mg_of X G aD42
  have n_l_box := PySem.W.mg_of X G aD43
  have n_l_take := PySem.W.mg_of X G aD44
  have n_l_cells := PySem.W.mg_of X G aD45
  have n_l_of := PySem.W.mg_of X G aD46
  have n_l_same := PySem.W.mg_of X G aD47
  have n_l_open_value := PySem.W.mg_of X G aD48
  have n_l_cut := PySem.W.mg_of X G aD49
  have n_l_members := PySem.W.mg_of X G aD50
  have n_l_result := PySem.W.mg_of X G aD51
  have n_l_ends_right := PySem.W.mg_of X G aD52
  have n_l_pair_right := PySem.W.mg_of X G aD53
  have n_l_right := PySem.W.mg_of X G aD54
  refine ⟨PySem.W.fnOf "law" "law" (defArgs sLaw) (defBody sLaw) (defScope sLaw) .none kVD55 dcD55 pmD55 anD55 cdD55 ctD55, fun s v => .of_eq rfl, fun base _ _ => ?_⟩
  have c_loosest_low : Cal l.prog w K mg base 1 "loosest_low" ["one", "other"] (spP K (S2 lowJ)) _ _ := ⟨ok_loosest_low (P := l.prog) (w := w) (mg := mg) (base := base) bl F_loosest_low, b_loosest_low, F_loosest_low.kp, n_loosest_low⟩
  have c_loosest_high : Cal l.prog w K mg base 1 "loosest_high" ["one", "other"] (spP K (S2 highJ)) _ _ := ⟨ok_loosest_high (P := l.prog) (w := w) (mg := mg) (base := base) bl F_loosest_high, b_loosest_high, F_loosest_high.kp, n_loosest_high⟩
  have c_tightest_low : Cal l.prog w K mg base 1 "tightest_low" ["one", "other"] (spP K (S2 lowM)) _ _ := ⟨ok_tightest_low (P := l.prog) (w := w) (mg := mg) (base := base) bl F_tightest_low, b_tightest_low, F_tightest_low.kp, n_tightest_low⟩
  have c_tightest_high : Cal l.prog w K mg base 1 "tightest_high" ["one", "other"] (spP K (S2 highM)) _ _ := ⟨ok_tightest_high (P := l.prog) (w := w) (mg := mg) (base := base) bl F_tightest_high, b_tightest_high, F_tightest_high.kp, n_tightest_high⟩
  have c_low_within : Cal l.prog w K mg base 1 "low_within" ["one", "other"] (spP K (S2b lwB)) _ _ := ⟨ok_low_within (P := l.prog) (w := w) (mg := mg) (base := base) bl F_low_within, b_low_within, F_low_within.kp, n_low_within⟩
  have c_high_within : Cal l.prog w K mg base 1 "high_within" ["one", "other"] (spP K (S2b hwB)) _ _ := ⟨ok_high_within (P := l.prog) (w := w) (mg := mg) (base := base) bl F_high_within, b_high_within, F_high_within.kp, n_high_within⟩
  have c_total : Cal l.prog w K mg base 1 "total" ["one", "other"] (spP K (S2 addB)) _ _ := ⟨ok_total (P := l.prog) (w := w) (mg := mg) (base := base) bl F_total, b_total, F_total.kp, n_total⟩
  have c_opposite : Cal l.prog w K mg base 1 "opposite" ["bound"] (spP K (S_neg)) _ _ := ⟨ok_opposite (P := l.prog) (w := w) (mg := mg) (base := base) bl F_opposite, b_opposite, F_opposite.kp, n_opposite⟩
  have c_rest_of : Cal l.prog w K mg base 1 "rest_of" ["m", "n"] (spP K (S_ro)) _ _ := ⟨ok_rest_of (P := l.prog) (w := w) (mg := mg) (base := base) bl F_rest_of, b_rest_of, F_rest_of.kp, n_rest_of⟩
  have c_bound_of : Cal l.prog w K mg base 1 "bound_of" ["place"] (spP K (S_bnd)) _ _ := ⟨ok_bound_of (P := l.prog) (w := w) (mg := mg) (base := base) bl F_bound_of, b_bound_of, F_bound_of.kp, n_bound_of⟩
  have c_direction : Cal l.prog w K mg base 1 "direction" ["place"] (spP K (S_dir)) _ _ := ⟨ok_direction (P := l.prog) (w := w) (mg := mg) (base := base) bl F_direction, b_direction, F_direction.kp, n_direction⟩
  have c_ends : Cal l.prog w K mg base 1 "ends" ["span"] (spP K (S_ends)) _ _ := ⟨ok_ends (P := l.prog) (w := w) (mg := mg) (base := base) bl F_ends, b_ends, F_ends.kp, n_ends⟩
  have c_quotient : Cal l.prog w K mg base 1 "quotient" ["n", "divisor"] (spP K (S_quo)) _ _ := ⟨ok_quotient (P := l.prog) (w := w) (mg := mg) (base := base) bl F_quotient, b_quotient, F_quotient.kp, n_quotient⟩
  have c_single : Cal l.prog w K mg base 1 "single" ["n"] (spP K (S_sing)) _ _ := ⟨ok_single (P := l.prog) (w := w) (mg := mg) (base := base) bl F_single, b_single, F_single.kp, n_single⟩
  have c_lets_in : Cal l.prog w K mg base 2 "lets_in" ["low", "high", "n"] (spP K S_lets) _ _ := ⟨ok_lets_in bl c_low_within c_high_within F_lets_in, b_lets_in, F_lets_in.kp, n_lets_in⟩
  have c_rest_join : Cal l.prog w K mg base 2 "rest_join" ["one", "other"] (spP K (S2r fJoin)) _ _ := ⟨ok_rest_join bl c_rest_of hgcd F_rest_join, b_rest_join, F_rest_join.kp, n_rest_join⟩
  have c_rest_add : Cal l.prog w K mg base 2 "rest_add" ["one", "other"] (spP K (S2r fAdd)) _ _ := ⟨ok_rest_add bl c_rest_of hgcd F_rest_add, b_rest_add, F_rest_add.kp, n_rest_add⟩
  have c_rest_sub : Cal l.prog w K mg base 2 "rest_sub" ["one", "other"] (spP K (S2r fSub)) _ _ := ⟨ok_rest_sub bl c_rest_of hgcd F_rest_sub, b_rest_sub, F_rest_sub.kp, n_rest_sub⟩
  have c_rest_mul : Cal l.prog w K mg base 2 "rest_mul" ["one", "other"] (spP K (S2r fMul)) _ _ := ⟨ok_rest_mul bl c_rest_of hgcd F_rest_mul, b_rest_mul, F_rest_mul.kp, n_rest_mul⟩
  have c_rest_mod : Cal l.prog w K mg base 2 "rest_mod" ["one", "other"] (spP K (S2r fMod)) _ _ := ⟨ok_rest_mod bl c_rest_of hgcd F_rest_mod, b_rest_mod, F_rest_mod.kp, n_rest_mod⟩
  have c_rest_div : Cal l.prog w K mg base 2 "rest_div" ["one", "other"] (spP K (S2r fDiv)) _ _ := ⟨ok_rest_div bl c_rest_of F_rest_div, b_rest_div, F_rest_div.kp, n_rest_div⟩
  have c_times : Cal l.prog w K mg base 2 "times" ["one", "other"] (spP K S_times) _ _ := ⟨ok_times bl c_direction F_times, b_times, F_times.kp, n_times⟩
  have c_negatives : Cal l.prog w K mg base 2 "negatives" ["span"] (spP K S_negs) _ _ := ⟨ok_negatives bl c_opposite F_negatives, b_negatives, F_negatives.kp, n_negatives⟩
  have c_span_add : Cal l.prog w K mg base 2 "span_add" ["one", "other"] (spP K S_add) _ _ := ⟨ok_span_add bl c_total F_span_add, b_span_add, F_span_add.kp, n_span_add⟩
  have c_span_sub : Cal l.prog w K mg base 3 "span_sub" ["one", "other"] (spP K S_sub) _ _ := ⟨ok_span_sub bl c_negatives c_span_add F_span_sub, b_span_sub, F_span_sub.kp, n_span_sub⟩
  have c_span_mul : Cal l.prog w K mg base 4 "span_mul" ["one", "other"] (spP K S_mul) _ _ := ⟨ok_span_mul bl c_times c_ends c_bound_of F_span_mul, b_span_mul, F_span_mul.kp, n_span_mul⟩
  have c_span_join : Cal l.prog w K mg base 2 "span_join" ["one", "other"] (spP K S_join) _ _ := ⟨ok_span_join bl c_loosest_low c_loosest_high F_span_join, b_span_join, F_span_join.kp, n_span_join⟩
  have c_span_meet : Cal l.prog w K mg base 2 "span_meet" ["one", "other"] (spP K S_meet) _ _ := ⟨ok_span_meet bl c_tightest_low c_tightest_high F_span_meet, b_span_meet, F_span_meet.kp, n_span_meet⟩
  have c_without_zero : Cal l.prog w K mg base 3 "without_zero" ["span"] (spP K S_wz) _ _ := ⟨ok_without_zero bl c_span_meet F_without_zero, b_without_zero, F_without_zero.kp, n_without_zero⟩
  have c_joined_spans : Cal l.prog w K mg base 3 "joined_spans" ["one", "other"] (spP K S_jnd) _ _ := ⟨ok_joined_spans bl c_span_join F_joined_spans, b_joined_spans, F_joined_spans.kp, n_joined_spans⟩
  have c_quotients : Cal l.prog w K mg base 2 "quotients" ["span", "divisors"] (spP K S_quos) _ _ := ⟨ok_quotients bl c_quotient F_quotients, b_quotients, F_quotients.kp, n_quotients⟩
  have c_remainders : Cal l.prog w K mg base 2 "remainders" ["span", "divisors"] (spP K S_rems) _ _ := ⟨ok_remainders bl c_tightest_high F_remainders, b_remainders, F_remainders.kp, n_remainders⟩
  have c_span_div : Cal l.prog w K mg base 4 "span_div" ["one", "other"] (spP K S_div) _ _ := ⟨ok_span_div bl c_without_zero c_negatives c_quotients c_joined_spans F_span_div, b_span_div, F_span_div.kp, n_span_div⟩
  have c_span_mod : Cal l.prog w K mg base 4 "span_mod" ["one", "other"] (spP K S_mod) _ _ := ⟨ok_span_mod bl c_without_zero c_negatives c_remainders c_joined_spans F_span_mod, b_span_mod, F_span_mod.kp, n_span_mod⟩
  have c_value_of : Cal l.prog w K mg base 3 "value_of" ["low", "high", "m", "r"] (spP K S_vo) _ _ := ⟨ok_value_of bl c_lets_in c_single F_value_of, b_value_of, F_value_of.kp, n_value_of⟩
  have c_value_from : Cal l.prog w K mg base 4 "value_from" ["span", "rest"] (spP K S_vf2) _ _ := ⟨ok_value_from bl c_value_of F_value_from, b_value_from, F_value_from.kp, n_value_from⟩
  have c_value_join : Cal l.prog w K mg base 5 "value_join" ["one", "other"] (spP K S_vj) _ _ := ⟨ok_value_join bl c_span_join c_rest_join c_value_from F_value_join, b_value_join, F_value_join.kp, n_value_join⟩
  have c_joined_values : Cal l.prog w K mg base 6 "joined_values" ["one", "other"] (spP K S_jv) _ _ := ⟨ok_joined_values bl c_value_join F_joined_values, b_joined_values, F_joined_values.kp, n_joined_values⟩
  have c_value_cut : Cal l.prog w K mg base 4 "value_cut" ["value", "low", "high"] (spP K S_cut) _ _ := ⟨ok_value_cut bl c_tightest_low c_tightest_high c_value_of F_value_cut, b_value_cut, F_value_cut.kp, n_value_cut⟩
  have c_applied : Cal l.prog w K mg base 5 "applied" ["sign", "one", "other"] (spP K S_app) _ _ := ⟨ok_applied bl c_span_add c_span_sub c_span_mul c_span_div c_span_mod c_rest_add c_rest_sub c_rest_mul c_rest_div c_rest_mod c_value_from F_applied, b_applied, F_applied.kp, n_applied⟩
  have c_value_apply : Cal l.prog w K mg base 7 "value_apply" ["sign", "one", "other"] (spP K S_va) _ _ := ⟨ok_value_apply bl c_applied c_value_cut c_joined_values F_value_apply, b_value_apply, F_value_apply.kp, n_value_apply⟩
  have k_value_apply : KB0 K _ p_value_apply ["other", "one", "sign"] List.reverse List.reverse := kb0_of F_value_apply (fun _ _ _ _ _ _ us hl => match us, hl with | [_, _, _], _ => rfl) (fun r _ => vals_rev r)
  have T1 := ok_take (n := 1) (P := l.prog) (w := w) (mg := mg) (base := base) F_l_take
  have c_l_take : Cal l.prog w K mg base 2 "_law_take" ["_law_box_here", "_law_below"] (spB K 1 domT postT) _ _ := ⟨take_B T1, b_l_take, F_l_take.kp, n_l_take⟩
  have T2 := ok_take2 F_l_take T1 b_l_take F_l_take.kp n_l_take
  have T4 := ok_take4 F_l_take T2 b_l_take F_l_take.kp n_l_take
  have c4_take : Cal l.prog w K mg base 4 "_law_take" ["_law_box_here", "_law_below"] (spB K 4 domT4 postT) _ _ := ⟨take_B4 T4, b_l_take, F_l_take.kp, n_l_take⟩
  have c_l_of : Cal l.prog w K mg base 3 "_law_of" ["_law_box_here", "_law_some"] (spB K 1 domO postO) _ _ := ⟨ok_l_of bl c_l_take F_l_of, b_l_of, F_l_of.kp, n_l_of⟩
  have c_l_same : Cal l.prog w K mg base 8 "_law_same" ["_law_found", "_law_due"] (spP K (S_same 8)) _ _ := ⟨all_same bl F_l_same b_l_same n_l_same 8, b_l_same, F_l_same.kp, n_l_same⟩
  have c_rest_has : Cal l.prog w K mg base 1 "rest_has" ["rest", "n"] (spP K S_has) _ _ := ⟨ok_rest_has (P := l.prog) (w := w) (mg := mg) (base := base) bl F_rest_has, b_rest_has, F_rest_has.kp, n_rest_has⟩
  have c_contains : Cal l.prog w K mg base 3 "contains" ["value", "n"] (spP K S_con) _ _ := ⟨ok_contains bl c_lets_in c_rest_has F_contains, b_contains, F_contains.kp, n_contains⟩
  have c_l_open_value : Cal l.prog w K mg base 5 "_law_open_value" ["_law_box_here", "_law_is_open"] (spB K 24 domP postP) _ _ := ⟨ok_l_open_value bl c4_take c_l_of c_value_of F_l_open_value, b_l_open_value, F_l_open_value.kp, n_l_open_value⟩
  have c_l_cut : Cal l.prog w K mg base 4 "_law_cut" ["_law_some", "_law_far"] (spP K S_lcut) _ _ := ⟨ok_l_cut bl c_value_of F_l_cut, b_l_cut, F_l_cut.kp, n_l_cut⟩
  have c_l_members : Cal l.prog w K mg base 4 "_law_members" ["_law_some"] (spP K S_mem) _ _ := ⟨ok_l_members bl c_contains F_l_members, b_l_members, F_l_members.kp, n_l_members⟩
  have c_l_result : Cal l.prog w K mg base 1 "_law_result" ["_law_word", "_law_spot", "_law_mate"] (spP K S_lres) _ _ := ⟨ok_l_result (P := l.prog) (w := w) (mg := mg) (base := base) bl F_l_result, b_l_result, F_l_result.kp, n_l_result⟩
  have c_l_ends_right : Cal l.prog w K mg base 1 "_law_ends_right" ["_law_found", "_law_near", "_law_wide"] (spP K S_er) _ _ := ⟨ok_l_ends_right (P := l.prog) (w := w) (mg := mg) (base := base) bl F_l_ends_right, b_l_ends_right, F_l_ends_right.kp, n_l_ends_right⟩
  have c_l_pair_right : Cal l.prog w K mg base 9 "_law_pair_right" ["_law_word", "_law_mine", "_law_its"] (spP K S_pr) _ _ := ⟨ok_l_pair_right bl c_value_apply c_l_same c_l_cut c_l_members c_l_result c_l_ends_right c_contains k_value_apply F_l_pair_right, b_l_pair_right, F_l_pair_right.kp, n_l_pair_right⟩
  have GR := ok_l_right bl c4_take c_l_open_value c_l_pair_right c_value_apply c_l_same hEVERY tE F_l_right
  have GC := ok_cells (P := l.prog) (w := w) (mg := mg) (base := base) (n := 0) F_l_cells bl.list bl.enumerate
  have GB := ok_box (P := l.prog) (w := w) (mg := mg) (base := base) (n := 0) F_l_box bl.len bl.abs bl.int
  exact ok_law F_law GC b_l_cells F_l_cells.kp n_l_cells GB b_l_box F_l_box.kp n_l_box GR b_l_right F_l_right.kp n_l_right bl.range bl.len bl.all
end Sh
set_option Elab.async false
open PySem PySem.W PyProof.Rows
set_option maxRecDepth 100000 in
set_option maxHeartbeats 0 in
theorem PySem.Challenge.cw_shadowruns_k33_results_with_open_ends_holds : PySem.Challenge.rw_shadowruns_k33_results_with_open_ends.Holds := by
  w_on; o_law; k_head; (case hw => w_witness2)
  k_fill
  refine L2.walk_of (l := PySem.Challenge.rw_shadowruns_k33_results_with_open_ends) (n := 63) (k := 11) (x := "_law_script") (CX := fun _ => L2.CX0) (sp := fun w => Sh.spLaw _) rfl (by decide) rfl ⟨rfl, by decide, by decide⟩ (fun w h Y => PySem.W.kIn_of Y) ?F (fun _ _ a ns hl _ hS => ⟨a, ns, rfl, hS, hl, fun _ => rfl⟩) (fun _ _ _ _ _ h => h)
  case F =>
    intro w mg fa h KX G hmg
    refine' Sh.all_mk KX G hmg ?aD0 ?lD0 ?cD0 ?kD0 ?aD1 ?lD1 ?cD1 ?kD1 ?aD2 ?lD2 ?cD2 ?kD2 ?aD3 ?lD3 ?cD3 ?kD3 ?aD4 ?lD4 ?cD4 ?kD4 ?aD5 ?lD5 ?cD5 ?kD5 ?aD6 ?lD6 ?cD6 ?kD6 ?aD7 ?lD7 ?cD7 ?kD7 ?aD8 ?lD8 ?cD8 ?kD8 ?aD9 ?lD9 ?cD9 ?kD9 ?aD10 ?lD10 ?cD10 ?kD10 ?aD11 ?lD11 ?cD11 ?kD11 ?aD12 ?lD12 ?cD12 ?kD12 ?aD13 ?lD13 ?cD13 ?kD13 ?aD14 ?lD14 ?cD14 ?kD14 ?aD15 ?lD15 ?cD15 ?kD15 ?aD16 ?lD16 ?cD16 ?kD16 ?aD17 ?lD17 ?cD17 ?kD17 ?aD18 ?lD18 ?cD18 ?kD18 ?aD19 ?lD19 ?cD19 ?kD19 ?aD20 ?lD20 ?cD20 ?kD20 ?aD21 ?lD21 ?cD21 ?kD21 ?aD22 ?lD22 ?cD22 ?kD22 ?aD23 ?lD23 ?cD23 ?kD23 ?aD24 ?lD24 ?cD24 ?kD24 ?aD25 ?lD25 ?cD25 ?kD25 ?aD26 ?lD26 ?cD26 ?kD26 ?aD27 ?lD27 ?cD27 ?kD27 ?aD28 ?lD28 ?cD28 ?kD28 ?aD29 ?lD29 ?cD29 ?kD29 ?aD30 ?lD30 ?cD30 ?kD30 ?aD31 ?lD31 ?cD31 ?kD31 ?aD32 ?lD32 ?cD32 ?kD32 ?aD33 ?lD33 ?cD33 ?kD33 ?aD34 ?lD34 ?cD34 ?kD34 ?aD35 ?lD35 ?cD35 ?kD35 ?aD36 ?lD36 ?cD36 ?kD36 ?aD37 ?lD37 ?cD37 ?kD37 ?aD38 ?lD38 ?cD38 ?kD38 ?aD39 ?lD39 ?cD39 ?kD39 ?aD40 ?lD40 ?cD40 ?kD40 ?aD41 ?lD41 ?cD41 ?kD41 ?aD42 ?lD42 ?cD42 ?kD42 ?aD43 ?lD43 ?cD43 ?kD43 ?aD44 ?lD44 ?cD44 ?kD44 ?aD45 ?lD45 ?cD45 ?kD45 ?aD46 ?lD46 ?cD46 ?kD46 ?aD47 ?lD47 ?cD47 ?kD47 ?aD48 ?lD48 ?cD48 ?kD48 ?aD49 ?lD49 ?cD49 ?kD49 ?aD50 ?lD50 ?cD50 ?kD50 ?aD51 ?lD51 ?cD51 ?kD51 ?aD52 ?lD52 ?cD52 ?kD52 ?aD53 ?lD53 ?cD53 ?kD53 ?aD54 ?lD54 ?cD54 ?kD54 ?aD55 ?lD55 ?cD55 ?kD55 ?b_len ?b_abs ?b_int ?b_list ?b_tuple ?b_bool ?b_str ?b_enumerate ?b_isinstance ?b_all ?b_any ?b_zip ?b_range ?b_min ?b_max ?b_set ?b_sorted ?b_repr ?b_sum ?aGCD ?aEV ?lEV
    (case aD0 => k_is)
    (case lD0 => k_is)
    (case cD0 => k_is)
    (case kD0 => k_is)
    (case aD1 => k_is)
    (case lD1 => k_is)
    (case cD1 => k_is)
    (case kD1 => k_is)
    (case aD2 => k_is)
    (case lD2 => k_is)
    (case cD2 => k_is)
    (case kD2 => k_is)
    (case aD3 => k_is)
    (case lD3 => k_is)
    (case cD3 => k_is)
    (case kD3 => k_is)
    (case aD4 => k_is)
    (case lD4 => k_is)
    (case cD4 => k_is)
    (case kD4 => k_is)
    (case aD5 => k_is)
    (case lD5 => k_is)
    (case cD5 => k_is)
    (case kD5 => k_is)
    (case aD6 => k_is)
    (case lD6 => k_is)
    (case cD6 => k_is)
    (case kD6 => k_is)
    (case aD7 => k_is)
    (case lD7 => k_is)
    (case cD7 => k_is)
    (case kD7 => k_is)
    (case aD8 => k_is)
    (case lD8 => k_is)
    (case cD8 => k_is)
    (case kD8 => k_is)
    (case aD9 => k_is)
    (case lD9 => k_is)
    (case cD9 => k_is)
    (case kD9 => k_is)
    (case aD10 => k_is)
    (case lD10 => k_is)
    (case cD10 => k_is)
    (case kD10 => k_is)
    (case aD11 => k_is)
    (case lD11 => k_is)
    (case cD11 => k_is)
    (case kD11 => k_is)
    (case aD12 => k_is)
    (case lD12 => k_is)
    (case cD12 => k_is)
    (case kD12 => k_is)
    (case aD13 => k_is)
    (case lD13 => k_is)
    (case cD13 => k_is)
    (case kD13 => k_is)
    (case aD14 => k_is)
    (case lD14 => k_is)
    (case cD14 => k_is)
    (case kD14 => k_is)
    (case aD15 => k_is)
    (case lD15 => k_is)
    (case cD15 => k_is)
    (case kD15 => k_is)
    (case aD16 => k_is)
    (case lD16 => k_is)
    (case cD16 => k_is)
    (case kD16 => k_is)
    (case aD17 => k_is)
    (case lD17 => k_is)
    (case cD17 => k_is)
    (case kD17 => k_is)
    (case aD18 => k_is)
    (case lD18 => k_is)
    (case cD18 => k_is)
    (case kD18 => k_is)
    (case aD19 => k_is)
    (case lD19 => k_is)
    (case cD19 => k_is)
    (case kD19 => k_is)
    (case aD20 => k_is)
    (case lD20 => k_is)
    (case cD20 => k_is)
    (case kD20 => k_is)
    (case aD21 => k_is)
    (case lD21 => k_is)
    (case cD21 => k_is)
    (case kD21 => k_is)
    (case aD22 => k_is)
    (case lD22 => k_is)
    (case cD22 => k_is)
    (case kD22 => k_is)
    (case aD23 => k_is)
    (case lD23 => k_is)
    (case cD23 => k_is)
    (case kD23 => k_is)
    (case aD24 => k_is)
    (case lD24 => k_is)
    (case cD24 => k_is)
    (case kD24 => k_is)
    (case aD25 => k_is)
    (case lD25 => k_is)
    (case cD25 => k_is)
    (case kD25 => k_is)
    (case aD26 => k_is)
    (case lD26 => k_is)
    (case cD26 => k_is)
    (case kD26 => k_is)
    (case aD27 => k_is)
    (case lD27 => k_is)
    (case cD27 => k_is)
    (case kD27 => k_is)
    (case aD28 => k_is)
    (case lD28 => k_is)
    (case cD28 => k_is)
    (case kD28 => k_is)
    (case aD29 => k_is)
    (case lD29 => k_is)
    (case cD29 => k_is)
    (case kD29 => k_is)
    (case aD30 => k_is)
    (case lD30 => k_is)
    (case cD30 => k_is)
    (case kD30 => k_is)
    (case aD31 => k_is)
    (case lD31 => k_is)
    (case cD31 => k_is)
    (case kD31 => k_is)
    (case aD32 => k_is)
    (case lD32 => k_is)
    (case cD32 => k_is)
    (case kD32 => k_is)
    (case aD33 => k_is)
    (case lD33 => k_is)
    (case cD33 => k_is)
    (case kD33 => k_is)
    (case aD34 => k_is)
    (case lD34 => k_is)
    (case cD34 => k_is)
    (case kD34 => k_is)
    (case aD35 => k_is)
    (case lD35 => k_is)
    (case cD35 => k_is)
    (case kD35 => k_is)
    (case aD36 => k_is)
    (case lD36 => k_is)
    (case cD36 => k_is)
    (case kD36 => k_is)
    (case aD37 => k_is)
    (case lD37 => k_is)
    (case cD37 => k_is)
    (case kD37 => k_is)
    (case aD38 => k_is)
    (case lD38 => k_is)
    (case cD38 => k_is)
    (case kD38 => k_is)
    (case aD39 => k_is)
    (case lD39 => k_is)
    (case cD39 => k_is)
    (case kD39 => k_is)
    (case aD40 => k_is)
    (case lD40 => k_is)
    (case cD40 => k_is)
    (case kD40 => k_is)
    (case aD41 => k_is)
    (case lD41 => k_is)
    (case cD41 => k_is)
    (case kD41 => k_is)
    (case aD42 => k_is)
    (case lD42 => k_is)
    (case cD42 => k_is)
    (case kD42 => k_is)
    (case aD43 => k_is)
    (case lD43 => k_is)
    (case cD43 => k_is)
    (case kD43 => k_is)
    (case aD44 => k_is)
    (case lD44 => k_is)
    (case cD44 => k_is)
    (case kD44 => k_is)
    (case aD45 => k_is)
    (case lD45 => k_is)
    (case cD45 => k_is)
    (case kD45 => k_is)
    (case aD46 => k_is)
    (case lD46 => k_is)
    (case cD46 => k_is)
    (case kD46 => k_is)
    (case aD47 => k_is)
    (case lD47 => k_is)
    (case cD47 => k_is)
    (case kD47 => k_is)
    (case aD48 => k_is)
    (case lD48 => k_is)
    (case cD48 => k_is)
    (case kD48 => k_is)
    (case aD49 => k_is)
    (case lD49 => k_is)
    (case cD49 => k_is)
    (case kD49 => k_is)
    (case aD50 => k_is)
    (case lD50 => k_is)
    (case cD50 => k_is)
    (case kD50 => k_is)
    (case aD51 => k_is)
    (case lD51 => k_is)
    (case cD51 => k_is)
    (case kD51 => k_is)
    (case aD52 => k_is)
    (case lD52 => k_is)
    (case cD52 => k_is)
    (case kD52 => k_is)
    (case aD53 => k_is)
    (case lD53 => k_is)
    (case cD53 => k_is)
    (case kD53 => k_is)
    (case aD54 => k_is)
    (case lD54 => k_is)
    (case cD54 => k_is)
    (case kD54 => k_is)
    (case aD55 => k_is)
    (case lD55 => k_is)
    (case cD55 => k_is)
    (case kD55 => k_is)
    (case b_len => k_is)
    (case b_abs => k_is)
    (case b_int => k_is)
    (case b_list => k_is)
    (case b_tuple => k_is)
    (case b_bool => k_is)
    (case b_str => k_is)
    (case b_enumerate => k_is)
    (case b_isinstance => k_is)
    (case b_all => k_is)
    (case b_any => k_is)
    (case b_zip => k_is)
    (case b_range => k_is)
    (case b_min => k_is)
    (case b_max => k_is)
    (case b_set => k_is)
    (case b_sorted => k_is)
    (case b_repr => k_is)
    (case b_sum => k_is)
    (case aGCD => k_is)
    (case aEV => k_is)
    (case lEV => k_is)
