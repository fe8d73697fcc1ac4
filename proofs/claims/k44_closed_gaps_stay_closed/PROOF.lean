import PyProof.Rows.All
import Wide.All
import OpenK.AllK
import Wide.FinOn
import HandS.ForMost
import HandS.Flow
import HandS.IsInst
import HandS.FStr
import HandS.Zip
import HandS.Walk
import HandS.Wide
import HandS.TupAny
import HandS.Defaults
import HandS.Style
import HandS.SetFor
import HandS.Strs
import HandS.SortKw
import KE.DatumOrd
import HandS.NoneIn
import HandS.Conv
import HandS.Rev
import HandS.RevTup
import HandS.MapObj
import HandS.MapJoin
import HandS.Gcd
import PyProof.Rows.SortShellAny
import HandS.FromBytesMap
import KE.GoesMore
import PyProof.TupleOfGen
import HandS.Iter
import KE.KDictZip
import PyProof.ListNew
import HandS.Deep
import KE.GoesNew
import KE.KStar
import HandS.Star
import PyProof.Draws
import KE.GoesEnum
import KE.KRevSl
import KE.RegKIsAll
import PySem.Challenge.RW_shadowruns_k44_closed_gaps_stay_closed
set_option Elab.async false
set_option linter.all false
set_option maxRecDepth 100000
set_option maxHeartbeats 4000000
/-! bounds of differences made as small as they follow, in place (the program's shorten): what comes out. Mx: bounds as a function of two places; fw: stage by stage, row by row, place by place -/
namespace Fw
abbrev Mx := Nat → Nat → Option Int
def setM (M : Mx) (i j : Nat) (x : Int) : Mx := fun a b => if a = i ∧ b = j then some x else M a b
/-- one place -/
def stM (v i : Nat) (M : Mx) (j : Nat) : Mx :=
  match M i v, M v j with
  | some x, some y => match M i j with
    | none => setM M i j (x + y)
    | some z => if x + y < z then setM M i j (x + y) else M
  | _, _ => M
def rowM (n v : Nat) (M : Mx) (i : Nat) : Mx := (List.range n).foldl (stM v i) M
def viaM (n : Nat) (M : Mx) (v : Nat) : Mx := (List.range n).foldl (rowM n v) M
def fwM (n : Nat) (M : Mx) : Mx := (List.range n).foldl (viaM n) M
/-- at most: none is no bound -/
def le (a b : Option Int) : Prop := ∀ y, b = some y → ∃ x, a = some x ∧ x ≤ y
theorem le_refl (a : Option Int) : le a a := fun y h => ⟨y, h, Int.le_refl _⟩
theorem le_trans {a b c : Option Int} (h : le a b) (k : le b c) : le a c := fun z hz => by
  obtain ⟨y, e, l⟩ := k z hz
  obtain ⟨x, e2, l2⟩ := h y e
  exact ⟨x, e2, by omega⟩
def leM (M N : Mx) : Prop := ∀ a b, le (M a b) (N a b)
/-- what a place does: nothing, or the sum, which is less -/
theorem st_cases (v i j : Nat) (M : Mx) : stM v i M j = M ∨ ∃ x y, M i v = some x ∧ M v j = some y ∧ stM v i M j = setM M i j (x + y) ∧ le (some (x + y)) (M i j) := by
  unfold stM
  cases h1 : M i v with
  | none => exact .inl rfl
  | some x => cases h2 : M v j with
    | none => exact .inl rfl
    | some y => cases h3 : M i j with
      | none => exact .inr ⟨x, y, rfl, rfl, rfl, fun z h => by cases h⟩
      | some z =>
        by_cases l : x + y < z
        · exact .inr ⟨x, y, rfl, rfl, if_pos l, fun w h => by cases h; exact ⟨_, rfl, by omega⟩⟩
        · exact .inl (if_neg l)
theorem st_le (v i j : Nat) (M : Mx) : leM (stM v i M j) M := fun a b => by
  rcases st_cases v i j M with h | ⟨x, y, h1, h2, h3, h4⟩
  · rw [h]; exact le_refl _
  · rw [h3]
    unfold setM
    by_cases e : a = i ∧ b = j
    · rw [if_pos e, e.1, e.2]; exact h4
    · rw [if_neg e]; exact le_refl _
theorem fold_le {f : Mx → Nat → Mx} (h : ∀ M j, leM (f M j) M) : ∀ (l : List Nat) (M : Mx), leM (l.foldl f M) M
  | [], M => fun a b => le_refl _
  | j :: l, M => fun a b => le_trans (fold_le h l (f M j) a b) (h M j a b)
theorem row_le (n v i : Nat) (M : Mx) : leM (rowM n v M i) M := fold_le (fun M j => st_le v i j M) _ M
theorem via_le (n v : Nat) (M : Mx) : leM (viaM n M v) M := fold_le (fun M i => row_le n v i M) _ M
/-! what fulfils all bounds -/
theorem fw_le (n : Nat) (M : Mx) : leM (fwM n M) M := fold_le (fun M v => via_le n v M) _ M
/-! a stage, where the diagonal is 0 and stays so -/
def dg (n : Nat) (M : Mx) : Prop := ∀ i, i < n → ∀ b, M i i = some b → 0 ≤ b
theorem dg_le {n : Nat} {M N : Mx} (h : leM M N) (d : dg n M) (z : ∀ i, i < n → N i i = some 0) : ∀ i, i < n → M i i = some 0 := fun i hi => by
  obtain ⟨b, e, l⟩ := h i i 0 (z i hi)
  have := d i hi b e
  rw [e, show b = 0 by omega]
theorem dg_up {n : Nat} {M N : Mx} (h : leM M N) (d : dg n M) : dg n N := fun i hi b e => by
  obtain ⟨c, e2, l⟩ := h i i b e
  have := d i hi c e2
  omega
/-- the lesser of a bound and a sum -/
def mn (a : Option Int) (p q : Option Int) : Option Int := match p, q with
  | some x, some y => match a with
    | none => some (x + y)
    | some z => if x + y < z then some (x + y) else some z
  | _, _ => a
theorem st_at (v i j : Nat) (M : Mx) (a b : Nat) : stM v i M j a b = if a = i ∧ b = j then mn (M i j) (M i v) (M v j) else M a b := by
  unfold stM mn
  by_cases e : a = i ∧ b = j
  · rw [if_pos e]
    cases h1 : M i v with
    | none => rw [e.1, e.2]
    | some x => cases h2 : M v j with
      | none => rw [e.1, e.2]
      | some y => cases h3 : M i j with
        | none => show setM M i j (x + y) a b = _; unfold setM; rw [if_pos e]
        | some z =>
          show (if x + y < z then setM M i j (x + y) else M) a b = if x + y < z then some (x + y) else some z
          by_cases l : x + y < z
          · rw [if_pos l, if_pos l]; unfold setM; rw [if_pos e]
          · rw [if_neg l, if_neg l, e.1, e.2, h3]
  · rw [if_neg e]
    cases h1 : M i v with
    | none => rfl
    | some x => cases h2 : M v j with
      | none => rfl
      | some y => cases h3 : M i j with
        | none => show setM M i j (x + y) a b = _; unfold setM; rw [if_neg e]
        | some z =>
          show (if x + y < z then setM M i j (x + y) else M) a b = _
          by_cases l : x + y < z
          · rw [if_pos l]; unfold setM; rw [if_neg e]
          · rw [if_neg l]
theorem mn_0l {a p : Option Int} (h : le a p) : mn a (some 0) p = a := by
  unfold mn
  cases p with
  | none => rfl
  | some y =>
    obtain ⟨x, e, l⟩ := h y rfl
    rw [e]
    show (if 0 + y < x then some (0 + y) else some x) = some x
    rw [if_neg (by omega)]
theorem mn_0r {a p : Option Int} (h : le a p) : mn a p (some 0) = a := by
  unfold mn
  cases p with
  | none => rfl
  | some y =>
    obtain ⟨x, e, l⟩ := h y rfl
    rw [e]
    show (if y + 0 < x then some (y + 0) else some x) = some x
    rw [if_neg (by omega)]
/-- where M v v = 0 a row leaves row v and column v as they are, and makes each place of its own the lesser -/
theorem row_at {v i : Nat} {M : Mx} (hv : M v v = some 0) : ∀ (l : List Nat) (N : Mx), l.Nodup → (∀ a b, (a = i ∧ b ∈ l) ∨ N a b = if a = i then mn (M a b) (M a v) (M v b) else M a b) → (∀ a b, a = i → b ∈ l → N a b = M a b) →
    ∀ a b, (l.foldl (stM v i) N) a b = if a = i then mn (M a b) (M a v) (M v b) else M a b
  | [], N, _, h, _, a, b => by
    rcases h a b with ⟨_, h⟩ | h
    · cases h
    · exact h
  | j :: l, N, nd, h, k, a, b => by
    have nd2 := List.nodup_cons.mp nd
    -- what stands in row v and column v of N
    have hself : mn (M i v) (M i v) (M v v) = M i v := by rw [hv]; exact mn_0r (le_refl _)
    have hrow : ∀ b, mn (M v b) (M v v) (M v b) = M v b := fun b => by rw [hv]; exact mn_0l (le_refl _)
    have colv : N i v = M i v := by
      rcases h i v with ⟨_, z⟩ | z
      · exact k i v rfl z
      · rw [z, if_pos rfl, hself]
    have rowv : N v j = M v j := by
      rcases h v j with ⟨e, z⟩ | z
      · exact k v j e z
      · rw [z]
        by_cases e : v = i
        · rw [if_pos e, hrow]
        · rw [if_neg e]
    have own : N i j = M i j := k i j rfl List.mem_cons_self
    refine row_at hv l (stM v i N j) nd2.2 (fun a b => ?_) (fun a b ea hb => ?_) a b
    · rw [st_at, own, colv, rowv]
      by_cases e : a = i ∧ b = j
      · right
        rw [if_pos e, if_pos e.1, e.1, e.2]
      · rw [if_neg e]
        rcases h a b with ⟨ea, hb⟩ | z
        · rcases List.mem_cons.mp hb with hb | hb
          · exact absurd ⟨ea, hb⟩ e
          · exact .inl ⟨ea, hb⟩
        · exact .inr z
    · rw [st_at]
      have ne : ¬ (a = i ∧ b = j) := fun e => nd2.1 (by rw [← e.2]; exact hb)
      rw [if_neg ne]
      exact k a b ea (List.mem_cons_of_mem _ hb)
/-- nothing beyond n -/
def fin (n : Nat) (M : Mx) : Prop := ∀ a b, n ≤ a ∨ n ≤ b → M a b = none
theorem mn_no {a p : Option Int} : mn a p none = a := by unfold mn; cases p <;> rfl
theorem mn_no2 {a p : Option Int} : mn a none p = a := rfl
theorem row_is {n v i : Nat} {M : Mx} (f : fin n M) (hv : M v v = some 0) : rowM n v M i = fun a b => if a = i then mn (M a b) (M a v) (M v b) else M a b := by
  funext a b
  refine row_at hv (List.range n) M List.nodup_range (fun a b => ?_) (fun a b _ _ => rfl) a b
  by_cases e : a = i
  · by_cases hb : b < n
    · exact .inl ⟨e, List.mem_range.mpr hb⟩
    · right
      rw [if_pos e, f v b (.inr (by omega)), mn_no]
  · right; rw [if_neg e]
theorem fin_row {n v i : Nat} {M : Mx} (f : fin n M) (hv : M v v = some 0) : fin n (rowM n v M i) := fun a b h => by
  rw [row_is f hv]
  show (if a = i then mn (M a b) (M a v) (M v b) else M a b) = none
  rw [f a b h]
  split
  · rcases h with h | h
    · rw [f a v (.inl h), mn_no2]
    · rw [f v b (.inr h), mn_no]
  · rfl
theorem via_at {n v : Nat} {M : Mx} (f : fin n M) (hv : M v v = some 0) : ∀ (l : List Nat) (N : Mx), l.Nodup → fin n N → (∀ a b, N a b = if a ∈ l then M a b else mn (M a b) (M a v) (M v b)) → ∀ a b, (l.foldl (rowM n v) N) a b = mn (M a b) (M a v) (M v b)
  | [], N, _, _, h, a, b => by rw [List.foldl_nil, h a b, if_neg (fun z => nomatch z)]
  | i :: l, N, nd, fN, h, a, b => by
    have nd2 := List.nodup_cons.mp nd
    have hself : ∀ a, mn (M a v) (M a v) (M v v) = M a v := fun a => by rw [hv]; exact mn_0r (le_refl _)
    have hrow : ∀ b, mn (M v b) (M v v) (M v b) = M v b := fun b => by rw [hv]; exact mn_0l (le_refl _)
    have rowv : ∀ b, N v b = M v b := fun b => by
      rw [h v b]
      split
      · rfl
      · exact hrow b
    have nv : N v v = some 0 := by rw [rowv]; exact hv
    have own : ∀ b, N i b = M i b := fun b => by rw [h i b, if_pos List.mem_cons_self]
    refine via_at f hv l (rowM n v N i) nd2.2 (fin_row fN nv) (fun a b => ?_) a b
    rw [row_is fN nv]
    show (if a = i then mn (N a b) (N a v) (N v b) else N a b) = _
    by_cases e : a = i
    · rw [if_pos e, e, own, own, rowv, if_neg nd2.1]
    · rw [if_neg e, h a b]
      by_cases hl : a ∈ l
      · rw [if_pos (List.mem_cons_of_mem _ hl), if_pos hl]
      · rw [if_neg (fun z => (List.mem_cons.mp z).elim e hl), if_neg hl]
theorem via_is {n v : Nat} {M : Mx} (f : fin n M) (hv : M v v = some 0) : viaM n M v = fun a b => mn (M a b) (M a v) (M v b) := by
  funext a b
  refine via_at f hv (List.range n) M List.nodup_range f (fun a b => ?_) a b
  by_cases h : a < n
  · rw [if_pos (List.mem_range.mpr h)]
  · rw [if_neg (fun z => h (List.mem_range.mp z)), f a v (.inl (by omega)), mn_no2]
theorem fin_via {n v : Nat} {M : Mx} (f : fin n M) (hv : M v v = some 0) : fin n (viaM n M v) := fun a b h => by
  rw [via_is f hv]
  show mn (M a b) (M a v) (M v b) = none
  rw [f a b h]
  rcases h with h | h
  · rw [f a v (.inl h), mn_no2]
  · rw [f v b (.inr h), mn_no]
/-! triangles -/
def tri (k : Nat) (M : Mx) : Prop := ∀ v, v < k → ∀ i j x y, M i v = some x → M v j = some y → le (M i j) (some (x + y))
theorem mn_le1 {a p q : Option Int} : le (mn a p q) a := by
  unfold mn
  cases p with
  | none => exact le_refl _
  | some x => cases q with
    | none => exact le_refl _
    | some y => cases a with
      | none => exact fun z h => by cases h
      | some z =>
        show le (if x + y < z then some (x + y) else some z) (some z)
        by_cases l : x + y < z
        · rw [if_pos l]; exact fun w h => by cases h; exact ⟨_, rfl, by omega⟩
        · rw [if_neg l]; exact le_refl _
theorem mn_le2 {a : Option Int} {x y : Int} : le (mn a (some x) (some y)) (some (x + y)) := by
  unfold mn
  cases a with
  | none => exact le_refl _
  | some z =>
    show le (if x + y < z then some (x + y) else some z) (some (x + y))
    by_cases l : x + y < z
    · rw [if_pos l]; exact le_refl _
    · rw [if_neg l]; exact fun w h => by cases h; exact ⟨_, rfl, by omega⟩
theorem mn_cases {a p q : Option Int} {w : Int} (h : mn a p q = some w) : a = some w ∨ ∃ x y, p = some x ∧ q = some y ∧ w = x + y := by
  unfold mn at h
  cases p with
  | none => exact .inl h
  | some x => cases q with
    | none => exact .inl h
    | some y => cases a with
      | none => cases h; exact .inr ⟨x, y, rfl, rfl, rfl⟩
      | some z =>
        have h' : (if x + y < z then some (x + y) else some z) = some w := h
        by_cases l : x + y < z
        · rw [if_pos l] at h'; cases h'; exact .inr ⟨x, y, rfl, rfl, rfl⟩
        · rw [if_neg l] at h'; exact .inl h'
theorem le_lt {a : Option Int} {x y : Int} (h : le a (some x)) (l : x ≤ y) : le a (some y) := le_trans h fun w e => by cases e; exact ⟨x, rfl, l⟩
theorem tri_via {n k : Nat} {M : Mx} (f : fin n M) (hk : M k k = some 0) (t : tri k M) : tri (k + 1) (viaM n M k) := by
  rw [via_is f hk]
  intro v hv i j x y h1 h2
  dsimp only at h1 h2 ⊢
  by_cases e : v = k
  · subst e
    rw [hk] at h1 h2
    rw [mn_0r (le_refl _)] at h1
    rw [mn_0l (le_refl _)] at h2
    rw [h1, h2]
    exact mn_le2
  · have vk : v < k := by omega
    rcases mn_cases h1 with a1 | ⟨p, q, a1, a2, rfl⟩
    · rcases mn_cases h2 with b1 | ⟨r, s, b1, b2, rfl⟩
      · exact le_trans mn_le1 (t v vk i j x y a1 b1)
      · obtain ⟨w, c1, c2⟩ := t v vk i k x r a1 b1 _ rfl
        rw [c1, b2]
        exact le_lt mn_le2 (by omega)
    · rcases mn_cases h2 with b1 | ⟨r, s, b1, b2, rfl⟩
      · obtain ⟨w, c1, c2⟩ := t v vk k j q y a2 b1 _ rfl
        rw [c1, a1]
        exact le_lt mn_le2 (by omega)
      · obtain ⟨w, c1, c2⟩ := t v vk k k q r a2 b1 _ rfl
        rw [hk] at c1
        cases c1
        rw [a1, b2]
        exact le_lt mn_le2 (by omega)
def upto (n k : Nat) (M : Mx) : Mx := (List.range k).foldl (viaM n) M
theorem upto_succ (n k : Nat) (M : Mx) : upto n (k + 1) M = viaM n (upto n k M) k := by
  unfold upto
  rw [List.range_succ, List.foldl_append]; rfl
theorem upto_le (n : Nat) (M : Mx) : ∀ (m k : Nat), leM (upto n (k + m) M) (upto n k M)
  | 0, k => fun a b => le_refl _
  | m + 1, k => fun a b => by
    rw [← Nat.add_assoc, upto_succ]
    exact le_trans (via_le n (k + m) _ a b) (upto_le n M m k a b)
/-- closed, where no number below 0 stands in the diagonal -/
theorem fw_tri {n : Nat} {M : Mx} (f : fin n M) (z : ∀ i, i < n → M i i = some 0) (d : dg n (fwM n M)) : (∀ i, i < n → fwM n M i i = some 0) ∧ fin n (fwM n M) ∧ tri n (fwM n M) := by
  have st : ∀ k, k ≤ n → (∀ i, i < n → upto n k M i i = some 0) ∧ fin n (upto n k M) ∧ tri k (upto n k M) := fun k => by
    induction k with
    | zero => exact fun _ => ⟨z, f, fun v hv => absurd hv (Nat.not_lt_zero _)⟩
    | succ k ih =>
      intro hk
      obtain ⟨i1, i2, i3⟩ := ih (by omega)
      have l : leM (fwM n M) (upto n (k + 1) M) := by
        have := upto_le n M (n - (k + 1)) (k + 1)
        rw [show k + 1 + (n - (k + 1)) = n by omega] at this
        exact this
      have z1 := i1 k (by omega)
      have le1 : leM (upto n (k + 1) M) (upto n k M) := by rw [upto_succ]; exact via_le n k _
      have d1 : dg n (upto n (k + 1) M) := dg_up l d
      refine ⟨dg_le le1 d1 i1, ?_, ?_⟩
      · rw [upto_succ]; exact fin_via i2 z1
      · rw [upto_succ]; exact tri_via i2 z1 i3
  exact st n (Nat.le_refl _)
end Fw
set_option Elab.async false
set_option linter.all false
set_option maxRecDepth 100000
set_option maxHeartbeats 4000000
/-! closed bounds of rings, of points, of nothing: what fwM is there -/
namespace Fw
def TriD (D : Mx) : Prop := ∀ v i j x y, D i v = some x → D v j = some y → le (D i j) (some (x + y))
theorem le_anti {a b : Option Int} (h : le a b) (k : le b a) : a = b := by
  cases a with
  | none =>
    cases b with
    | none => rfl
    | some y => obtain ⟨x, e, _⟩ := h y rfl; cases e
  | some x =>
    cases b with
    | none => obtain ⟨y, e, _⟩ := k x rfl; cases e
    | some y =>
      obtain ⟨x', e, l⟩ := h y rfl
      obtain ⟨y', e', l'⟩ := k x rfl
      cases e; cases e'
      congr 1; omega
theorem st_low {D M : Mx} (t : TriD D) (h : leM D M) (v i j : Nat) : leM D (stM v i M j) := by
  rcases st_cases v i j M with e | ⟨x, y, h1, h2, e, _⟩
  · rw [e]; exact h
  · rw [e]
    intro a b
    unfold setM
    by_cases c : a = i ∧ b = j
    · rw [if_pos c, c.1, c.2]
      obtain ⟨x', e1, l1⟩ := h i v x h1
      obtain ⟨y', e2, l2⟩ := h v j y h2
      exact le_lt (t v i j x' y' e1 e2) (by omega)
    · rw [if_neg c]; exact h a b
theorem fold_low {D : Mx} {f : Mx → Nat → Mx} (h : ∀ M j, leM D M → leM D (f M j)) : ∀ (l : List Nat) (M : Mx), leM D M → leM D (l.foldl f M)
  | [], _, k => k
  | j :: l, M, k => fold_low h l (f M j) (h M j k)
/-- what is closed and lies below stays below -/
theorem fw_low {n : Nat} {D M : Mx} (t : TriD D) (h : leM D M) : leM D (fwM n M) :=
  fold_low (fun M v k => fold_low (fun M i k => fold_low (fun M j k => st_low t k v i j) _ M k) _ M k) _ M h
theorem fw_dg {n : Nat} {D M : Mx} (t : TriD D) (h : leM D M) (z : ∀ i, i < n → D i i = some 0) : dg n (fwM n M) := fun i hi b e => by
  obtain ⟨x, e1, l⟩ := fw_low (n := n) t h i i b e
  rw [z i hi] at e1
  cases e1; exact l
/-- nothing but the diagonal -/
theorem fw_same {n : Nat} {M : Mx} (t : TriD M) : fwM n M = M := by
  funext i j
  exact le_anti (fw_le n M i j) (fw_low t (fun a b => le_refl _) i j)
/-! points -/
/-! rings: the places 0 to m, from each a bound to the next, from the last to the first -/
end Fw
set_option Elab.async false
set_option linter.all false
set_option maxRecDepth 100000
set_option maxHeartbeats 4000000
/-! closed bounds under other names, moved, joined, with a bound more -/
namespace Fw
theorem tri_D {n : Nat} {F : Mx} (f : fin n F) (t : tri n F) : TriD F := fun v i j x y h1 h2 => by
  rcases Nat.lt_or_ge v n with h | h
  · exact t v h i j x y h1 h2
  · rw [f i v (.inr h)] at h1; cases h1
/-- no bound below 0 in the diagonal: what comes out is closed -/
structure Good (n : Nat) (W F : Mx) : Prop where
  z : ∀ i, i < n → F i i = some 0
  f : fin n F
  t : TriD F
  le : leM F W
theorem good {n : Nat} {W : Mx} (f : fin n W) (z : ∀ i, i < n → W i i = some 0) (d : dg n (fwM n W)) : Good n W (fwM n W) := by
  obtain ⟨z1, f1, t1⟩ := fw_tri f z d
  exact ⟨z1, f1, tri_D f1 t1, fw_le n W⟩
/-- the greatest closed bounds below -/
theorem fw_is {n : Nat} {W D : Mx} (f : fin n W) (z : ∀ i, i < n → W i i = some 0) (t : TriD D) (zD : ∀ i, i < n → D i i = some 0) (h : leM D W) (up : ∀ E, TriD E → leM E W → leM E D) : fwM n W = D := by
  have g := good f z (fw_dg t h zD)
  funext i j
  exact le_anti (up _ g.t g.le i j) (fw_low t h i j)
/-- other names -/
theorem fw_perm {n : Nat} {W : Mx} {p q : Nat → Nat} (f : fin n W) (z : ∀ i, i < n → W i i = some 0) (hp : ∀ i, i < n → p i < n) (hpn : ∀ i, n ≤ i → n ≤ p i) (pq : ∀ i, p (q i) = i) (qp : ∀ i, q (p i) = i) (d : dg n (fwM n W)) :
    fwM n (fun i j => W (p i) (p j)) = fun i j => fwM n W (p i) (p j) := by
  have g := good f z d
  refine fw_is (fun a b h => f _ _ (h.imp (hpn a) (hpn b))) (fun i hi => z _ (hp i hi)) (fun v i j x y h1 h2 => g.t (p v) (p i) (p j) x y h1 h2) (fun i hi => g.z _ (hp i hi)) (fun i j => g.le _ _) fun E tE lE => ?_
  have l : leM (fun i j => E (q i) (q j)) (fwM n W) := fw_low (fun v i j x y h1 h2 => tE (q v) (q i) (q j) x y h1 h2) fun i j => by
    have : le (E (q i) (q j)) (W (p (q i)) (p (q j))) := lE (q i) (q j)
    rw [pq, pq] at this; exact this
  intro i j
  have : le (E (q (p i)) (q (p j))) (fwM n W (p i) (p j)) := l (p i) (p j)
  rw [qp, qp] at this
  exact this
theorem dg_perm {n : Nat} {W : Mx} {p q : Nat → Nat} (f : fin n W) (z : ∀ i, i < n → W i i = some 0) (hp : ∀ i, i < n → p i < n) (hpn : ∀ i, n ≤ i → n ≤ p i) (hq : ∀ i, i < n → q i < n) (pq : ∀ i, p (q i) = i) (d : dg n (fwM n fun i j => W (p i) (p j))) : dg n (fwM n W) := by
  have g := good (W := fun i j => W (p i) (p j)) (fun a b h => f _ _ (h.imp (hpn a) (hpn b))) (fun i hi => z _ (hp i hi)) d
  refine fw_dg (D := fun i j => fwM n (fun i j => W (p i) (p j)) (q i) (q j)) (fun v i j x y h1 h2 => g.t (q v) (q i) (q j) x y h1 h2) (fun i j => ?_) fun i hi => g.z _ (hq i hi)
  have : le (fwM n (fun i j => W (p i) (p j)) (q i) (q j)) (W (p (q i)) (p (q j))) := g.le (q i) (q j)
  rw [pq, pq] at this; exact this
/-- moved -/
def mv (y : Nat → Int) (M : Mx) : Mx := fun i j => (M i j).map fun b => b + (y i - y j)
theorem mv_some {y : Nat → Int} {M : Mx} {i j : Nat} {b : Int} (h : mv y M i j = some b) : ∃ c, M i j = some c ∧ b = c + (y i - y j) := by
  unfold mv at h
  cases e : M i j with
  | none => rw [e] at h; cases h
  | some c => rw [e] at h; cases h; exact ⟨c, rfl, rfl⟩
theorem mv_at {y : Nat → Int} {M : Mx} {i j : Nat} {c : Int} (h : M i j = some c) : mv y M i j = some (c + (y i - y j)) := by unfold mv; rw [h]; rfl
theorem mv_tri {y : Nat → Int} {M : Mx} (t : TriD M) : TriD (mv y M) := fun v i j a b h1 h2 => by
  obtain ⟨c, e1, rfl⟩ := mv_some h1
  obtain ⟨d, e2, rfl⟩ := mv_some h2
  obtain ⟨w, e3, l⟩ := t v i j c d e1 e2 _ rfl
  exact fun z e => ⟨_, mv_at e3, by cases e; omega⟩
theorem mv_le {y : Nat → Int} {M N : Mx} (h : leM M N) : leM (mv y M) (mv y N) := fun i j b e => by
  obtain ⟨c, e1, rfl⟩ := mv_some e
  obtain ⟨d, e2, l⟩ := h i j c e1
  exact ⟨_, mv_at e2, by omega⟩
theorem mv_back {y : Nat → Int} {M : Mx} : mv (fun i => - y i) (mv y M) = M := by
  funext i j
  unfold mv
  cases M i j with
  | none => rfl
  | some c => show some (c + (y i - y j) + (- y i - - y j)) = some c; congr 1; omega
theorem fw_mv {n : Nat} {W : Mx} {y : Nat → Int} (f : fin n W) (z : ∀ i, i < n → W i i = some 0) (d : dg n (fwM n W)) : fwM n (mv y W) = mv y (fwM n W) := by
  have g := good f z d
  refine fw_is (fun a b h => by unfold mv; rw [f a b h]; rfl) (fun i hi => by rw [mv_at (z i hi)]; congr 1; omega) (mv_tri g.t) (fun i hi => by rw [mv_at (g.z i hi)]; congr 1; omega) (mv_le g.le) fun E tE lE => ?_
  have l : leM (mv (fun i => - y i) E) (fwM n W) := fw_low (mv_tri tE) fun i j => by
    have := mv_le (y := fun i => - y i) lE i j
    rw [mv_back] at this; exact this
  intro i j
  have := mv_le (y := y) l i j
  have e : mv y (mv (fun i => - y i) E) = E := by
    have := mv_back (y := fun i => - y i) (M := E)
    have h2 : (fun i => - (- y i)) = y := by funext i; omega
    rw [h2] at this; exact this
  rw [e] at this; exact this
/-- between the bounds and the closed ones -/
theorem fw_mid {n : Nat} {W V : Mx} (f : fin n W) (z : ∀ i, i < n → W i i = some 0) (d : dg n (fwM n W)) (h1 : leM (fwM n W) V) (h2 : leM V W) (fV : fin n V) (zV : ∀ i, i < n → V i i = some 0) : fwM n V = fwM n W := by
  have g := good f z d
  exact fw_is fV zV g.t g.z h1 fun E tE lE => fw_low tE fun i j => le_trans (lE i j) (h2 i j)
end Fw
set_option Elab.async false
set_option linter.all false
set_option maxRecDepth 100000
set_option maxHeartbeats 4000000
/-! A layer of its own over the hand layer: values as data, the heap out of sight. -/
namespace Sh
open PySem PySem.Spec PyProof.Rows L2
inductive Dt where
  | non | bl (b : Bool) | int (i : Int) | str (s : Str) | ty (n : String) | tup (l : List Dt) | lst (l : List Dt)
section
variable (K : PySem.W.Frag)
mutual
def RD (G : Hp) : Dt → V → Prop
  | .non, v => v = .non
  | .bl b, v => v = .bl b
  | .int i, v => v = .int i
  | .str s, v => v = .str s
  | .ty n, v => v = .ty n
  | .tup l, v => ∃ a xs, v = .ref a ∧ SqT K G a xs ∧ RDs G l xs
  | .lst l, v => ∃ a xs, v = .ref a ∧ G a = some (.lst xs) ∧ RDs G l xs
def RDs (G : Hp) : List Dt → List V → Prop
  | [], xs => xs = []
  | d :: l, xs => ∃ x r, xs = x :: r ∧ RD G d x ∧ RDs G l r
end
end
section
variable {K : PySem.W.Frag}
theorem same_rd {H H' : Hp} {a : Addr} {u : HO} (e : Same H H') (h : Rd H a u) : Rd H' a u := by
  rcases h with h | ⟨o, h⟩
  · exact .inl (e _ _ h)
  · exact .inr ⟨o, e _ _ h⟩
theorem same_sqT {H H' : Hp} {a : Addr} {xs : List V} (e : Same H H') (h : SqT K H a xs) : SqT K H' a xs := by
  rcases h with h | h
  · exact .inl (same_rd e h)
  · exact .inr h
theorem same_sqL {H H' : Hp} {a : Addr} {xs : List V} (e : Same H H') (h : SqL K H a xs) : SqL K H' a xs := by
  rcases h with h | h
  · exact .inl (same_rd e h)
  · exact .inr h
mutual
theorem RD.same {G G' : Hp} (k : Same G G') : ∀ {d : Dt} {v : V}, RD K G d v → RD K G' d v
  | .non, _, h => h
  | .bl _, _, h => h
  | .int _, _, h => h
  | .str _, _, h => h
  | .ty _, _, h => h
  | .tup _, _, ⟨a, xs, e, q, r⟩ => ⟨a, xs, e, same_sqT k q, RDs.same k r⟩
  | .lst _, _, ⟨a, xs, e, q, r⟩ => ⟨a, xs, e, k _ _ q, RDs.same k r⟩
theorem RDs.same {G G' : Hp} (k : Same G G') : ∀ {l : List Dt} {xs : List V}, RDs K G l xs → RDs K G' l xs
  | [], _, h => h
  | _ :: _, _, ⟨x, r, e, h1, h2⟩ => ⟨x, r, e, RD.same k h1, RDs.same k h2⟩
end
theorem RDs.length {G : Hp} : ∀ {l : List Dt} {xs : List V}, RDs K G l xs → xs.length = l.length
  | [], _, h => by rw [show _ = [] from h]; rfl
  | _ :: _, _, ⟨x, r, e, h1, h2⟩ => by rw [e, List.length_cons, List.length_cons, RDs.length h2]
theorem RDs.get {G : Hp} : ∀ {l : List Dt} {xs : List V} {i : Nat} {d : Dt}, RDs K G l xs → l[i]? = some d → ∃ x, xs[i]? = some x ∧ RD K G d x
  | [], _, i, _, h, e => by simp at e
  | d :: l, _, 0, _, ⟨y, r, e1, h1, h2⟩, e => by
    cases e; subst e1; exact ⟨y, rfl, h1⟩
  | d :: l, _, i + 1, _, ⟨y, r, e1, h1, h2⟩, e => by
    subst e1
    obtain ⟨x, q1, q2⟩ := RDs.get (i := i) h2 (by simpa using e)
    exact ⟨x, by simpa using q1, q2⟩
theorem RDs.back {G : Hp} : ∀ {l : List Dt} {xs : List V} {i : Nat} {x : V}, RDs K G l xs → xs[i]? = some x → ∃ d, l[i]? = some d ∧ RD K G d x
  | [], _, i, x, h, e => by rw [show _ = [] from h] at e; simp at e
  | d :: l, _, 0, x, ⟨y, r, e1, h1, h2⟩, e => by
    rw [e1] at e; cases e; exact ⟨d, rfl, h1⟩
  | d :: l, _, i + 1, x, ⟨y, r, e1, h1, h2⟩, e => by
    rw [e1] at e
    obtain ⟨d', q1, q2⟩ := RDs.back (i := i) h2 (by simpa using e)
    exact ⟨d', by simpa using q1, q2⟩
theorem RDs.snoc {G : Hp} : ∀ {l : List Dt} {xs : List V} {d : Dt} {x : V}, RDs K G l xs → RD K G d x → RDs K G (l ++ [d]) (xs ++ [x])
  | [], _, d, x, h, r => by rw [show _ = [] from h]; exact ⟨x, [], rfl, r, rfl⟩
  | d :: l, _, _, x, ⟨y, r, e1, h1, h2⟩, q => ⟨y, r ++ [x], by rw [e1]; rfl, h1, RDs.snoc h2 q⟩
theorem RDs.app {G : Hp} : ∀ {l m : List Dt} {xs ys : List V}, RDs K G l xs → RDs K G m ys → RDs K G (l ++ m) (xs ++ ys)
  | [], _, _, _, h, r => by rw [show _ = [] from h]; exact r
  | d :: l, _, _, ys, ⟨y, r, e1, h1, h2⟩, q => ⟨y, r ++ ys, by rw [e1]; rfl, h1, RDs.app h2 q⟩
theorem RDs.take {G : Hp} : ∀ {l : List Dt} {xs : List V} (n : Nat), RDs K G l xs → RDs K G (l.take n) (xs.take n)
  | _, _, 0, h => by rw [List.take_zero, List.take_zero]; rfl
  | [], _, n + 1, h => by rw [show _ = [] from h]; rfl
  | d :: l, _, n + 1, ⟨y, r, e1, h1, h2⟩ => ⟨y, r.take n, by rw [e1]; rfl, h1, RDs.take n h2⟩
theorem RDs.drop {G : Hp} : ∀ {l : List Dt} {xs : List V} (n : Nat), RDs K G l xs → RDs K G (l.drop n) (xs.drop n)
  | _, _, 0, h => h
  | [], _, n + 1, h => by rw [show _ = [] from h]; rfl
  | d :: l, _, n + 1, ⟨y, r, e1, h1, h2⟩ => by rw [e1]; exact RDs.drop n h2
theorem RDs.ints {G : Hp} : ∀ {ns : List Int} {xs : List V}, RDs K G (ns.map Dt.int) xs → xs = ns.map V.int
  | [], _, h => h
  | n :: ns, _, ⟨y, r, e1, h1, h2⟩ => by rw [e1, show y = V.int n from h1, RDs.ints h2]; rfl
theorem RDs.bls {G : Hp} : ∀ {ns : List Bool} {xs : List V}, RDs K G (ns.map Dt.bl) xs → xs = ns.map V.bl
  | [], _, h => h
  | n :: ns, _, ⟨y, r, e1, h1, h2⟩ => by rw [e1, show y = V.bl n from h1, RDs.bls h2]; rfl
theorem RDs.one {G : Hp} {d : Dt} {xs : List V} (h : RDs K G [d] xs) : ∃ x, xs = [x] ∧ RD K G d x := by
  obtain ⟨x, r, rfl, h1, rfl⟩ := h
  exact ⟨x, rfl, h1⟩
theorem RDs.two {G : Hp} {d e : Dt} {xs : List V} (h : RDs K G [d, e] xs) : ∃ x y, xs = [x, y] ∧ RD K G d x ∧ RD K G e y := by
  obtain ⟨x, r, rfl, h1, y, r2, rfl, h2, rfl⟩ := h
  exact ⟨x, y, rfl, h1, h2⟩
theorem same_up {H : Hp} {p : Addr} {o : HO} (h : H p = none) : Same H (upd H p o) := fun b x e => by
  rw [upd_ne (ne_of_none e h)]; exact e
theorem same_upd {G H : Hp} {p : Addr} {o : HO} (h : Same G H) : Same (upd G p o) (upd H p o) := fun b x e => by
  by_cases z : b = p
  · subst z; rw [upd_same] at e ⊢; exact e
  · rw [upd_ne z] at e ⊢; exact h _ _ e
/-! ### what stands in the slots -/
def BxM : Int := 1000000000000
def Bx (H : Hp) (b : Addr) (y c : Int) : Prop := ∃ x : Int, H b = some (.lst [.int x, .int y, .int c]) ∧ 0 ≤ x ∧ 0 ≤ y ∧ y < 4611686018427387904
inductive En where
  | no | da (d : Dt) | own (l : List Dt) | bx (b : Addr) (f : Nat)
def En.isOwn : En → Prop
  | .own _ => True
  | .bx _ _ => True
  | _ => False
end
/-- G: what is data; H: all; B: what others hold and is no data -/
structure Mt (K : PySem.W.Frag) (B : Addr → Prop) (ρ : List En) (σ : L2.St) (G H : Hp) : Prop where
  sub : Same G H
  pro : ∀ a, B a → G a = none ∧ H a ≠ none
  len : σ.length = ρ.length
  da : ∀ (i : Nat) (d : Dt), ρ[i]? = some (.da d) → ∃ v, σ[i]? = some (some v) ∧ RD K G d v
  own : ∀ (i : Nat) (l : List Dt), ρ[i]? = some (.own l) → ∃ (q : Addr) (xs : List V), σ[i]? = some (some (V.ref q)) ∧ H q = some (.lst xs) ∧ RDs K G l xs ∧ G q = none ∧ ¬ B q
  bx : ∀ (i : Nat) (b : Addr) (f : Nat), ρ[i]? = some (.bx b f) → ∃ (y c : Int), σ[i]? = some (some (V.ref b)) ∧ Bx H b y c ∧ 0 ≤ c ∧ c + f ≤ BxM ∧ G b = none ∧ ¬ B b
  dis : ∀ (i j : Nat) (e e' : En) (a : Addr), ρ[i]? = some e → ρ[j]? = some e' → e.isOwn → e'.isOwn → i ≠ j → σ[i]? = some (some (V.ref a)) → σ[j]? = some (some (V.ref a)) → False
/-- what others hold stays -/
def Tr (B : Addr → Prop) (H H' : Hp) : Prop := ∀ a o, B a → H a = some o → H' a = some o
theorem Tr.refl {B : Addr → Prop} {H : Hp} : Tr B H H := fun _ _ _ e => e
theorem Tr.trans {B : Addr → Prop} {H H1 H2 : Hp} (x : Tr B H H1) (y : Tr B H1 H2) : Tr B H H2 := fun a o b e => y a o b (x a o b e)
theorem Tr.same {B : Addr → Prop} {H H' : Hp} (x : Same H H') : Tr B H H' := fun a o _ e => x a o e
/-- a step that only lays new data -/
structure Nw (G H G' H' : Hp) : Prop where
  g : Same G G'
  s : Same G' H'
  h : Same H H'
  f : ∀ a, G a = none → H a ≠ none → G' a = none
theorem Nw.refl {G H : Hp} (s : Same G H) : Nw G H G H := ⟨Same.refl _, s, Same.refl _, fun _ h _ => h⟩
theorem Nw.trans {G H G1 H1 G2 H2 : Hp} (x : Nw G H G1 H1) (y : Nw G1 H1 G2 H2) : Nw G H G2 H2 :=
  ⟨x.g.trans y.g, y.s, x.h.trans y.h, fun a h1 h2 => y.f a (x.f a h1 h2) (fun z => by
    cases e : H a with
    | none => exact h2 e
    | some o => rw [x.h _ _ e] at z; cases z)⟩
theorem Nw.new {G H : Hp} {p : Addr} {o : HO} (s : Same G H) (n : H p = none) : Nw G H (upd G p o) (upd H p o) :=
  ⟨same_up (s.free n), same_upd s, same_up n, fun a h1 h2 => by
    rw [upd_ne (fun z => h2 (by rw [z]; exact n))]; exact h1⟩
section
variable {K : PySem.W.Frag} {B : Addr → Prop} {ρ : List En} {σ : L2.St} {G H G' H' : Hp}
theorem ne_none {H H' : Hp} {a : Addr} (s : Same H H') (h : H a ≠ none) : H' a ≠ none := fun z => h (s.free z)
theorem some_ne {H : Hp} {a : Addr} {o : HO} (e : H a = some o) : H a ≠ none := fun z => by rw [z] at e; cases e
theorem Bx.ne {b : Addr} {y c : Int} (h : Bx H b y c) : H b ≠ none := by
  obtain ⟨x, e, _⟩ := h
  exact some_ne e
theorem Bx.same {b : Addr} {y c : Int} (s : Same H H') (h : Bx H b y c) : Bx H' b y c := by
  obtain ⟨x, e, r⟩ := h
  exact ⟨x, s _ _ e, r⟩
theorem Mt.nw (m : Mt K B ρ σ G H) (n : Nw G H G' H') : Mt K B ρ σ G' H' where
  sub := n.s
  pro := fun a b => ⟨n.f a (m.pro a b).1 (m.pro a b).2, ne_none n.h (m.pro a b).2⟩
  len := m.len
  da := fun i d e => by
    obtain ⟨v, h1, h2⟩ := m.da i d e
    exact ⟨v, h1, h2.same n.g⟩
  own := fun i l e => by
    obtain ⟨q, xs, h1, h2, h3, h4, h5⟩ := m.own i l e
    exact ⟨q, xs, h1, n.h _ _ h2, h3.same n.g, n.f q h4 (some_ne h2), h5⟩
  bx := fun i b f e => by
    obtain ⟨y, c, h1, h2, h3, h4, h5, h6⟩ := m.bx i b f e
    exact ⟨y, c, h1, h2.same n.h, h3, h4, n.f b h5 h2.ne, h6⟩
  dis := m.dis
theorem get_set {α : Type} {l : List α} {i j : Nat} {x y : α} (h : (l.set i x)[j]? = some y) : (i = j ∧ y = x ∧ i < l.length) ∨ (i ≠ j ∧ l[j]? = some y) := by
  rw [List.getElem?_set] at h
  by_cases e : i = j
  · rw [if_pos e] at h
    split at h
    · cases h; exact .inl ⟨e, rfl, by assumption⟩
    · cases h
  · rw [if_neg e] at h; exact .inr ⟨e, h⟩
theorem set_at {α : Type} {l : List α} {i : Nat} {x : α} (h : i < l.length) : (l.set i x)[i]? = some x := by
  rw [List.getElem?_set, if_pos rfl, if_pos h]
theorem set_off {α : Type} {l : List α} {i j : Nat} {x : α} (h : i ≠ j) : (l.set i x)[j]? = l[j]? := by
  rw [List.getElem?_set, if_neg h]
/-- a slot gets data -/
theorem Mt.set (m : Mt K B ρ σ G H) (i : Nat) {d : Dt} {v : V} (r : RD K G d v) : Mt K B (ρ.set i (.da d)) (σ.set i (some v)) G H where
  sub := m.sub
  pro := m.pro
  len := by rw [List.length_set, List.length_set]; exact m.len
  da := fun j e h => by
    rcases get_set h with ⟨rfl, z, lt⟩ | ⟨ne, z⟩
    · cases z; exact ⟨v, set_at (by rw [m.len]; exact lt), r⟩
    · rw [set_off ne]; exact m.da j e z
  own := fun j l h => by
    rcases get_set h with ⟨rfl, z, lt⟩ | ⟨ne, z⟩
    · cases z
    · rw [set_off ne]; exact m.own j l z
  bx := fun j b f h => by
    rcases get_set h with ⟨rfl, z, lt⟩ | ⟨ne, z⟩
    · cases z
    · rw [set_off ne]; exact m.bx j b f z
  dis := fun j k e e' a h1 h2 o1 o2 ne s1 s2 => by
    rcases get_set h1 with ⟨rfl, z, lt⟩ | ⟨n1, z1⟩
    · subst z; exact o1
    · rcases get_set h2 with ⟨rfl, z, lt⟩ | ⟨n2, z2⟩
      · subst z; exact o2
      · rw [set_off n1] at s1; rw [set_off n2] at s2; exact m.dis j k e e' a z1 z2 o1 o2 ne s1 s2
/-- a slot is forgotten -/
theorem Mt.drop (m : Mt K B ρ σ G H) (i : Nat) (o : Option V) : Mt K B (ρ.set i .no) (σ.set i o) G H where
  sub := m.sub
  pro := m.pro
  len := by rw [List.length_set, List.length_set]; exact m.len
  da := fun j e h => by
    rcases get_set h with ⟨rfl, z, lt⟩ | ⟨ne, z⟩
    · cases z
    · rw [set_off ne]; exact m.da j e z
  own := fun j l h => by
    rcases get_set h with ⟨rfl, z, lt⟩ | ⟨ne, z⟩
    · cases z
    · rw [set_off ne]; exact m.own j l z
  bx := fun j b f h => by
    rcases get_set h with ⟨rfl, z, lt⟩ | ⟨ne, z⟩
    · cases z
    · rw [set_off ne]; exact m.bx j b f z
  dis := fun j k e e' a h1 h2 o1 o2 ne s1 s2 => by
    rcases get_set h1 with ⟨rfl, z, lt⟩ | ⟨n1, z1⟩
    · subst z; exact o1
    · rcases get_set h2 with ⟨rfl, z, lt⟩ | ⟨n2, z2⟩
      · subst z; exact o2
      · rw [set_off n1] at s1; rw [set_off n2] at s2; exact m.dis j k e e' a z1 z2 o1 o2 ne s1 s2
/-- less is protected -/
theorem Mt.less (m : Mt K B ρ σ G H) {B' : Addr → Prop} (h : ∀ a, B' a → B a) : Mt K B' ρ σ G H where
  sub := m.sub
  pro := fun a b => m.pro a (h a b)
  len := m.len
  da := m.da
  own := fun i l e => by
    obtain ⟨q, xs, h1, h2, h3, h4, h5⟩ := m.own i l e
    exact ⟨q, xs, h1, h2, h3, h4, fun z => h5 (h _ z)⟩
  bx := fun i b f e => by
    obtain ⟨y, c, h1, h2, h3, h4, h5, h6⟩ := m.bx i b f e
    exact ⟨y, c, h1, h2, h3, h4, h5, fun z => h6 (h _ z)⟩
  dis := m.dis
/-- a new object that is no data is protected, too -/
theorem Mt.guard (m : Mt K B ρ σ G H) {p : Addr} {o : HO} (n : H p = none) : Mt K (fun a => B a ∨ a = p) ρ σ G (upd H p o) where
  sub := m.sub.trans (same_up n)
  pro := fun a b => by
    rcases b with b | rfl
    · exact ⟨(m.pro a b).1, ne_none (same_up n) (m.pro a b).2⟩
    · exact ⟨m.sub.free n, some_ne upd_same⟩
  len := m.len
  da := m.da
  own := fun i l e => by
    obtain ⟨q, xs, h1, h2, h3, h4, h5⟩ := m.own i l e
    exact ⟨q, xs, h1, same_up n _ _ h2, h3, h4, fun z => z.elim h5 (ne_of_none h2 n)⟩
  bx := fun i b f e => by
    obtain ⟨y, c, h1, h2, h3, h4, h5, h6⟩ := m.bx i b f e
    exact ⟨y, c, h1, h2.same (same_up n), h3, h4, h5, fun z => z.elim h6 (fun w => h2.ne (by rw [w]; exact n))⟩
  dis := m.dis
/-- a protected object changes -/
theorem Mt.turn (m : Mt K B ρ σ G H) {p : Addr} {o : HO} (bp : B p) : Mt K B ρ σ G (upd H p o) where
  sub := fun a u e => by
    rw [upd_ne (fun z => by rw [z, (m.pro p bp).1] at e; cases e)]; exact m.sub _ _ e
  pro := fun a ba => ⟨(m.pro a ba).1, by
    by_cases z : a = p
    · subst z; exact some_ne upd_same
    · rw [upd_ne z]; exact (m.pro a ba).2⟩
  len := m.len
  da := m.da
  own := fun i l e => by
    obtain ⟨q, xs, h1, h2, h3, h4, h5⟩ := m.own i l e
    exact ⟨q, xs, h1, by rw [upd_ne (fun z => h5 (by rw [z]; exact bp))]; exact h2, h3, h4, h5⟩
  bx := fun i b f e => by
    obtain ⟨y, k, h1, ⟨x, h2, h2'⟩, h3, h4, h5, h6⟩ := m.bx i b f e
    exact ⟨y, k, h1, ⟨x, by rw [upd_ne (fun z => h6 (by rw [z]; exact bp))]; exact h2, h2'⟩, h3, h4, h5, h6⟩
  dis := m.dis
/-- an own list becomes data -/
theorem Mt.frz (m : Mt K B ρ σ G H) {i : Nat} {l : List Dt} (e : ρ[i]? = some (.own l)) : ∃ G', Mt K B (ρ.set i (.da (.lst l))) σ G' H ∧ Same G G' := by
  obtain ⟨q, xs, h1, h2, h3, h4, h5⟩ := m.own i l e
  have sg : Same G (upd G q (.lst xs)) := same_up h4
  have li : i < ρ.length := (List.getElem?_eq_some_iff.mp e).1
  refine ⟨upd G q (.lst xs), ⟨?_, ?_, ?_, ?_, ?_, ?_, ?_⟩, sg⟩
  · intro a o z
    by_cases w : a = q
    · subst w; rw [upd_same] at z; cases z; exact h2
    · rw [upd_ne w] at z; exact m.sub _ _ z
  · exact fun a b => ⟨by rw [upd_ne (fun z => h5 (by rw [← z]; exact b))]; exact (m.pro a b).1, (m.pro a b).2⟩
  · rw [List.length_set]; exact m.len
  · intro j d h
    rcases get_set h with ⟨rfl, z, lt⟩ | ⟨ne, z⟩
    · cases z; exact ⟨_, h1, q, xs, rfl, upd_same, h3.same sg⟩
    · obtain ⟨v, z1, z2⟩ := m.da j d z
      exact ⟨v, z1, z2.same sg⟩
  · intro j k h
    rcases get_set h with ⟨rfl, z, lt⟩ | ⟨ne, z⟩
    · cases z
    · obtain ⟨q', ys, z1, z2, z3, z4, z5⟩ := m.own j k z
      exact ⟨q', ys, z1, z2, z3.same sg, by rw [upd_ne (fun w => m.dis i j _ _ q e z trivial trivial ne h1 (by rw [← w]; exact z1))]; exact z4, z5⟩
  · intro j b f h
    rcases get_set h with ⟨rfl, z, lt⟩ | ⟨ne, z⟩
    · cases z
    · obtain ⟨y, c, z1, z2, z3, z4, z5, z6⟩ := m.bx j b f z
      exact ⟨y, c, z1, z2, z3, z4, by rw [upd_ne (fun w => m.dis i j _ _ q e z trivial trivial ne h1 (by rw [← w]; exact z1))]; exact z5, z6⟩
  · intro j k e1 e2 a g1 g2 o1 o2 ne s1 s2
    rcases get_set g1 with ⟨rfl, z, lt⟩ | ⟨n1, z1⟩
    · subst z; exact o1
    · rcases get_set g2 with ⟨rfl, z, lt⟩ | ⟨n2, z2⟩
      · subst z; exact o2
      · exact m.dis j k e1 e2 a z1 z2 o1 o2 ne s1 s2
end
end Sh
set_option Elab.async false
set_option linter.all false
set_option maxRecDepth 100000
set_option maxHeartbeats 4000000
namespace Sh
open PySem PySem.Spec PyProof.Rows L2
section
variable (K : PySem.W.Frag)
/-- what must hold so that an expression gives d, leaving ρ', of which Ψ d ρ' holds: of data alone -/
def AE (te : TE) (ρ : List En) (Ψ : Dt → List En → Prop) : Prop := ∀ B σ G H, Mt K B ρ σ G H → ∀ Q : VK, (∀ v d ρ' G' H', Mt K B ρ' σ G' H' → Same G G' → Tr B H H' → RD K G' d v → Ψ d ρ' → Q v H') → te σ H Q
def AT (tt : TT) (ρ : List En) (Ψ : Bool → List En → Prop) : Prop := ∀ B σ G H, Mt K B ρ σ G H → ∀ Q : Bool → Hp → Prop, (∀ b ρ' G' H', Mt K B ρ' σ G' H' → Same G G' → Tr B H H' → Ψ b ρ' → Q b H') → tt σ H Q
def AA (ta : TA) (ρ : List En) (Ψ : List Dt → List En → Prop) : Prop := ∀ B σ G H, Mt K B ρ σ G H → ∀ Q : List V → Hp → Prop, (∀ vs ds ρ' G' H', Mt K B ρ' σ G' H' → Same G G' → Tr B H H' → RDs K G' ds vs → Ψ ds ρ' → Q vs H') → ta σ H Q
/-- a block: N of what it goes on with, R of what it returns -/
def AS (ts : TS) (ρ : List En) (N : List En → Prop) (R : Dt → List En → Prop) : Prop := ∀ B σ G H, Mt K B ρ σ G H → ∀ D : Ends,
  (∀ σ' ρ' G' H', Mt K B ρ' σ' G' H' → Same G G' → Tr B H H' → N ρ' → D.nx σ' H') →
  (∀ v d σ' ρ' G' H', Mt K B ρ' σ' G' H' → Same G G' → Tr B H H' → RD K G' d v → R d ρ' → D.rt v H') → ts D σ H
/-- by values: of data to data, only new data laid -/
def AR (r : R2) (d1 d2 : Dt) (Φ : Dt → Prop) : Prop := ∀ G H, Same G H → ∀ x y, RD K G d1 x → RD K G d2 y → ∀ Q : VK, (∀ v d G' H', Nw G H G' H' → RD K G' d v → Φ d → Q v H') → r x y H Q
def AC (r : List V → Hp → VK → Prop) (ds : List Dt) (Φ : Dt → Prop) : Prop := ∀ G H, Same G H → ∀ vs, RDs K G ds vs → ∀ Q : VK, (∀ v d G' H', Nw G H G' H' → RD K G' d v → Φ d → Q v H') → r vs H Q
end
section
variable {K : PySem.W.Frag} {ρ : List En} {Ψ : Dt → List En → Prop} {ΨT : Bool → List En → Prop} {ΨA : List Dt → List En → Prop} {N : List En → Prop} {R : Dt → List En → Prop} {Φ : Dt → Prop}
theorem ae_var {i : Nat} {d : Dt} (e : ρ[i]? = some (.da d)) (h : Ψ d ρ) : AE K (tVar i) ρ Ψ := fun B σ G H m Q q => by
  obtain ⟨v, h1, h2⟩ := m.da i d e
  exact ⟨v, h1, q v d ρ G H m (Same.refl _) Tr.refl h2 h⟩
theorem ae_c {v : V} (d : Dt) (e : ∀ G, RD K G d v) (h : Ψ d ρ) : AE K (tC v) ρ Ψ := fun B σ G H m Q q => q v d ρ G H m (Same.refl _) Tr.refl (e G) h
theorem ae_int {i : Int} (h : Ψ (.int i) ρ) : AE K (tC (.int i)) ρ Ψ := ae_c (.int i) (fun _ => rfl) h
theorem ae_non (h : Ψ .non ρ) : AE K (tC .non) ρ Ψ := ae_c .non (fun _ => rfl) h
theorem ae_bl {b : Bool} (h : Ψ (.bl b) ρ) : AE K (tC (.bl b)) ρ Ψ := ae_c (.bl b) (fun _ => rfl) h
theorem ae_mono {te : TE} {Ψ' : Dt → List En → Prop} (h : AE K te ρ Ψ') (k : ∀ d ρ', Ψ' d ρ' → Ψ d ρ') : AE K te ρ Ψ := fun B σ G H m Q q =>
  h B σ G H m Q fun v d ρ' G' H' m' s t r p => q v d ρ' G' H' m' s t r (k d ρ' p)
theorem ae_op {r : R2} {ta tb : TE} (h : AE K ta ρ fun d1 ρ1 => AE K tb ρ1 fun d2 ρ2 => AR K r d1 d2 fun d => Ψ d ρ2) : AE K (tOp r ta tb) ρ Ψ := fun B σ G H m Q q =>
  h B σ G H m _ fun x d1 ρ1 G1 H1 m1 s1 t1 r1 h1 => h1 B σ G1 H1 m1 _ fun y d2 ρ2 G2 H2 m2 s2 t2 r2 h2 =>
    h2 G2 H2 m2.sub x y (r1.same s2) r2 Q fun v d G3 H3 n3 r3 p3 => q v d ρ2 G3 H3 (m2.nw n3) ((s1.trans s2).trans n3.g) ((t1.trans t2).trans (Tr.same n3.h)) r3 p3
theorem aa_nil (h : ΨA [] ρ) : AA K tNil ρ ΨA := fun B σ G H m Q q => q [] [] ρ G H m (Same.refl _) Tr.refl rfl h
theorem aa_cons {ta : TE} {tr : TA} (h : AE K ta ρ fun d ρ1 => AA K tr ρ1 fun ds ρ2 => ΨA (d :: ds) ρ2) : AA K (tCons ta tr) ρ ΨA := fun B σ G H m Q q =>
  h B σ G H m _ fun x d ρ1 G1 H1 m1 s1 t1 r1 h1 => h1 B σ G1 H1 m1 _ fun xs ds ρ2 G2 H2 m2 s2 t2 r2 h2 =>
    q (x :: xs) (d :: ds) ρ2 G2 H2 m2 (s1.trans s2) (t1.trans t2) ⟨x, xs, rfl, r1.same s2, r2⟩ h2
theorem ae_cb {r : List V → Hp → VK → Prop} {ta : TA} (h : AA K ta ρ fun ds ρ1 => AC K r ds fun d => Ψ d ρ1) : AE K (tCB r ta) ρ Ψ := fun B σ G H m Q q =>
  h B σ G H m _ fun x d1 ρ1 G1 H1 m1 s1 t1 r1 h1 => h1 G1 H1 m1.sub x r1 Q fun v d G3 H3 n3 r3 p3 => q v d ρ1 G3 H3 (m1.nw n3) (s1.trans n3.g) (t1.trans (Tr.same n3.h)) r3 p3
theorem ae_tup {ta : TA} (h : AA K ta ρ fun ds ρ1 => ds.length ≤ sizeLine ∧ Ψ (.tup ds) ρ1) : AE K (tTup ta) ρ Ψ := fun B σ G H m Q q =>
  h B σ G H m _ fun xs ds ρ1 G1 H1 m1 s1 t1 r1 h1 => ⟨by rw [r1.length]; exact h1.1, fun p hp => by
    have n := Nw.new (o := .tup xs) m1.sub hp
    exact q _ (.tup ds) ρ1 _ _ (m1.nw n) (s1.trans n.g) (t1.trans (Tr.same n.h)) ⟨p, xs, rfl, SqT.of upd_same, r1.same n.g⟩ h1.2⟩
theorem ae_lst {ta : TA} (h : AA K ta ρ fun ds ρ1 => ds.length ≤ sizeLine ∧ Ψ (.lst ds) ρ1) : AE K (tLst ta) ρ Ψ := fun B σ G H m Q q =>
  h B σ G H m _ fun xs ds ρ1 G1 H1 m1 s1 t1 r1 h1 => ⟨by rw [r1.length]; exact h1.1, fun p hp => by
    have n := Nw.new (o := .lst xs) m1.sub hp
    exact q _ (.lst ds) ρ1 _ _ (m1.nw n) (s1.trans n.g) (t1.trans (Tr.same n.h)) ⟨p, xs, rfl, upd_same, r1.same n.g⟩ h1.2⟩
theorem ae_if {tt : TT} {ta tb : TE} (h : AT K tt ρ fun b ρ1 => (b = true → AE K ta ρ1 Ψ) ∧ (b = false → AE K tb ρ1 Ψ)) : AE K (tIf tt ta tb) ρ Ψ := fun B σ G H m Q q =>
  h B σ G H m _ fun b ρ1 G1 H1 m1 s1 t1 h1 => by
    cases b
    · rw [if_neg (by decide)]; exact h1.2 rfl B σ G1 H1 m1 Q fun v d ρ' G' H' m' s t r p => q v d ρ' G' H' m' (s1.trans s) (t1.trans t) r p
    · rw [if_pos rfl]; exact h1.1 rfl B σ G1 H1 m1 Q fun v d ρ' G' H' m' s t r p => q v d ρ' G' H' m' (s1.trans s) (t1.trans t) r p
theorem at_test {te : TE} (h : AE K te ρ fun d ρ1 => ∃ b, d = .bl b ∧ ΨT b ρ1) : AT K (tTest te) ρ ΨT := fun B σ G H m Q q =>
  h B σ G H m _ fun v d ρ1 G1 H1 m1 s1 t1 r1 ⟨b, e, p⟩ => by
    subst e; exact ⟨b, r1, q b ρ1 G1 H1 m1 s1 t1 p⟩
theorem at_b {te : TE} (h : AE K te ρ fun d ρ1 => ∃ b, d = .bl b ∧ ΨT b ρ1) : AT K (tB te) ρ ΨT := at_test h
theorem at_and {t u : TT} (h : AT K t ρ fun b ρ1 => (b = true → AT K u ρ1 ΨT) ∧ (b = false → ΨT false ρ1)) : AT K (tAnd t u) ρ ΨT := fun B σ G H m Q q =>
  h B σ G H m _ fun b ρ1 G1 H1 m1 s1 t1 h1 => by
    cases b
    · rw [if_neg (by decide)]; exact q false ρ1 G1 H1 m1 s1 t1 (h1.2 rfl)
    · rw [if_pos rfl]; exact h1.1 rfl B σ G1 H1 m1 Q fun d ρ' G' H' m' s t p => q d ρ' G' H' m' (s1.trans s) (t1.trans t) p
theorem at_or {t u : TT} (h : AT K t ρ fun b ρ1 => (b = true → ΨT true ρ1) ∧ (b = false → AT K u ρ1 ΨT)) : AT K (tOr t u) ρ ΨT := fun B σ G H m Q q =>
  h B σ G H m _ fun b ρ1 G1 H1 m1 s1 t1 h1 => by
    cases b
    · rw [if_neg (by decide)]; exact h1.2 rfl B σ G1 H1 m1 Q fun d ρ' G' H' m' s t p => q d ρ' G' H' m' (s1.trans s) (t1.trans t) p
    · rw [if_pos rfl]; exact q true ρ1 G1 H1 m1 s1 t1 (h1.1 rfl)
theorem at_not {t : TT} (h : AT K t ρ fun b ρ1 => ΨT (!b) ρ1) : AT K (tNot t) ρ ΨT := fun B σ G H m Q q =>
  h B σ G H m _ fun b ρ1 G1 H1 m1 s1 t1 h1 => q (!b) ρ1 G1 H1 m1 s1 t1 h1
theorem ae_andV {ta tb : TE} (h : AE K ta ρ fun d ρ1 => ∃ b, d = .bl b ∧ (b = true → AE K tb ρ1 Ψ) ∧ (b = false → Ψ (.bl false) ρ1)) : AE K (tAndV ta tb) ρ Ψ := fun B σ G H m Q q =>
  h B σ G H m _ fun v d ρ1 G1 H1 m1 s1 t1 r1 ⟨b, e, h1, h2⟩ => by
    subst e
    refine ⟨b, r1, ?_⟩
    cases b
    · rw [if_neg (by decide)]; exact q _ (.bl false) ρ1 G1 H1 m1 s1 t1 rfl (h2 rfl)
    · rw [if_pos rfl]; exact h1 rfl B σ G1 H1 m1 Q fun v d ρ' G' H' m' s t r p => q v d ρ' G' H' m' (s1.trans s) (t1.trans t) r p
theorem ae_orV {ta tb : TE} (h : AE K ta ρ fun d ρ1 => ∃ b, d = .bl b ∧ (b = true → Ψ (.bl true) ρ1) ∧ (b = false → AE K tb ρ1 Ψ)) : AE K (tOrV ta tb) ρ Ψ := fun B σ G H m Q q =>
  h B σ G H m _ fun v d ρ1 G1 H1 m1 s1 t1 r1 ⟨b, e, h1, h2⟩ => by
    subst e
    refine ⟨b, r1, ?_⟩
    cases b
    · rw [if_neg (by decide)]; exact h2 rfl B σ G1 H1 m1 Q fun v d ρ' G' H' m' s t r p => q v d ρ' G' H' m' (s1.trans s) (t1.trans t) r p
    · rw [if_pos rfl]; exact q _ (.bl true) ρ1 G1 H1 m1 s1 t1 rfl (h1 rfl)
theorem ae_notV {ta : TE} (h : AE K ta ρ fun d ρ1 => ∃ b, d = .bl b ∧ Ψ (.bl (!b)) ρ1) : AE K (tNotV ta) ρ Ψ := fun B σ G H m Q q =>
  h B σ G H m _ fun v d ρ1 G1 H1 m1 s1 t1 r1 ⟨b, e, h1⟩ => by
    subst e
    exact ⟨b, r1, q _ (.bl (!b)) ρ1 G1 H1 m1 s1 t1 rfl h1⟩
/-! statements -/
theorem as_seq {t u : TS} (h : AS K t ρ (fun ρ1 => AS K u ρ1 N R) R) : AS K (tSeq t u) ρ N R := fun B σ G H m D qn qr =>
  h B σ G H m { D with nx := u D } (fun σ1 ρ1 G1 H1 m1 s1 t1 h1 => h1 B σ1 G1 H1 m1 D (fun σ' ρ' G' H' m' s t p => qn σ' ρ' G' H' m' (s1.trans s) (t1.trans t) p) fun v d σ' ρ' G' H' m' s t r p => qr v d σ' ρ' G' H' m' (s1.trans s) (t1.trans t) r p) qr
theorem as_next (h : N ρ) : AS K tNext ρ N R := fun B σ G H m D qn qr => qn σ ρ G H m (Same.refl _) Tr.refl h
theorem as_ret {te : TE} (h : AE K te ρ R) : AS K (tRet te) ρ N R := fun B σ G H m D qn qr => h B σ G H m _ fun v d ρ1 G1 H1 m1 s1 t1 r1 h1 => qr v d σ ρ1 G1 H1 m1 s1 t1 r1 h1
theorem as_if {c : TT} {t u : TS} (h : AT K c ρ fun b ρ1 => (b = true → AS K t ρ1 N R) ∧ (b = false → AS K u ρ1 N R)) : AS K (tIfS c t u) ρ N R := fun B σ G H m D qn qr =>
  h B σ G H m _ fun b ρ1 G1 H1 m1 s1 t1 h1 => by
    cases b
    · rw [if_neg (by decide)]
      exact h1.2 rfl B σ G1 H1 m1 D (fun σ' ρ' G' H' m' s t p => qn σ' ρ' G' H' m' (s1.trans s) (t1.trans t) p) fun v d σ' ρ' G' H' m' s t r p => qr v d σ' ρ' G' H' m' (s1.trans s) (t1.trans t) r p
    · rw [if_pos rfl]
      exact h1.1 rfl B σ G1 H1 m1 D (fun σ' ρ' G' H' m' s t p => qn σ' ρ' G' H' m' (s1.trans s) (t1.trans t) p) fun v d σ' ρ' G' H' m' s t r p => qr v d σ' ρ' G' H' m' (s1.trans s) (t1.trans t) r p
theorem as_set {te : TE} {i : Nat} (h : AE K te ρ fun d ρ1 => N (ρ1.set i (.da d))) : AS K (tAsg te (gName i)) ρ N R := fun B σ G H m D qn qr =>
  h B σ G H m _ fun v d ρ1 G1 H1 m1 s1 t1 r1 h1 => qn _ _ G1 H1 (m1.set i r1) s1 t1 h1
theorem as_par {ta : TA} {i j : Nat} (h : AA K ta ρ fun ds ρ1 => ∃ d e, ds = [d, e] ∧ N ((ρ1.set i (.da d)).set j (.da e))) : AS K (tPar i j ta) ρ N R := fun B σ G H m D qn qr =>
  h B σ G H m _ fun vs ds ρ1 G1 H1 m1 s1 t1 r1 ⟨d, e, z, h1⟩ => by
    subst z
    obtain ⟨x, y, rfl, r2, r3⟩ := r1.two
    exact ⟨x, y, rfl, qn _ _ G1 H1 ((m1.set i r2).set j r3) s1 t1 h1⟩
/-- targets -/
def AG (K : PySem.W.Frag) (g : TG) (d : Dt) (ρ : List En) (N : List En → Prop) : Prop := ∀ B σ G H, Mt K B ρ σ G H → ∀ v, RD K G d v → ∀ Q : L2.St → Hp → Prop, (∀ σ' ρ' G' H', Mt K B ρ' σ' G' H' → Same G G' → Tr B H H' → N ρ' → Q σ' H') → g v σ H Q
def AGs (K : PySem.W.Frag) (g : TGs) (ds : List Dt) (ρ : List En) (N : List En → Prop) : Prop := ∀ B σ G H, Mt K B ρ σ G H → ∀ vs, RDs K G ds vs → ∀ Q : L2.St → Hp → Prop, (∀ σ' ρ' G' H', Mt K B ρ' σ' G' H' → Same G G' → Tr B H H' → N ρ' → Q σ' H') → g vs σ H Q
theorem ag_name {i : Nat} {d : Dt} (h : N (ρ.set i (.da d))) : AG K (gName i) d ρ N := fun B σ G H m v r Q q => q _ _ G H (m.set i r) (Same.refl _) Tr.refl h
theorem ags_nil (h : N ρ) : AGs K gNil [] ρ N := fun B σ G H m vs r Q q => ⟨r, q σ ρ G H m (Same.refl _) Tr.refl h⟩
theorem ags_cons {t : TG} {u : TGs} {d : Dt} {ds : List Dt} (h : AG K t d ρ fun ρ1 => AGs K u ds ρ1 N) : AGs K (gCons t u) (d :: ds) ρ N := fun B σ G H m vs r Q q => by
  obtain ⟨x, xs, rfl, r1, r2⟩ := r
  exact ⟨x, xs, rfl, h B σ G H m x r1 _ fun σ1 ρ1 G1 H1 m1 s1 t1 h1 => h1 B σ1 G1 H1 m1 xs (r2.same s1) Q fun σ' ρ' G' H' m' s t p => q σ' ρ' G' H' m' (s1.trans s) (t1.trans t) p⟩
theorem ag_tup {t : TGs} {n : Nat} {ds : List Dt} (hn : ds.length = n) (h : AGs K t ds ρ N) : AG K (gTup K n t) (.tup ds) ρ N := fun B σ G H m v r Q q => by
  obtain ⟨a, xs, rfl, r1, r2⟩ := r
  exact ⟨a, xs, rfl, same_sqT m.sub r1, by rw [r2.length]; exact hn, h B σ G H m xs r2 Q q⟩
theorem as_asg {te : TE} {g : TG} (h : AE K te ρ fun d ρ1 => AG K g d ρ1 N) : AS K (tAsg te g) ρ N R := fun B σ G H m D qn qr =>
  h B σ G H m _ fun v d ρ1 G1 H1 m1 s1 t1 r1 h1 => h1 B σ G1 H1 m1 v r1 _ fun σ' ρ' G' H' m' s t p => qn σ' ρ' G' H' m' (s1.trans s) (t1.trans t) p
/-! own lists -/
theorem Mt.setOwn {B : Addr → Prop} {σ : L2.St} {G H : Hp} (m : Mt K B ρ σ G H) (i : Nat) {p : Addr} {xs : List V} {l : List Dt} (n : H p = none) (r : RDs K G l xs) : Mt K B (ρ.set i (.own l)) (σ.set i (some (.ref p))) G (upd H p (.lst xs)) where
  sub := m.sub.trans (same_up n)
  pro := fun a b => ⟨(m.pro a b).1, ne_none (same_up n) (m.pro a b).2⟩
  len := by rw [List.length_set, List.length_set]; exact m.len
  da := fun j e h => by
    rcases get_set h with ⟨rfl, z, lt⟩ | ⟨ne, z⟩
    · cases z
    · rw [set_off ne]; exact m.da j e z
  own := fun j k h => by
    rcases get_set h with ⟨rfl, z, lt⟩ | ⟨ne, z⟩
    · cases z
      exact ⟨p, xs, set_at (by rw [m.len]; exact lt), upd_same, r, m.sub.free n, fun b => (m.pro p b).2 n⟩
    · rw [set_off ne]
      obtain ⟨q, ys, z1, z2, z3, z4, z5⟩ := m.own j k z
      exact ⟨q, ys, z1, same_up n _ _ z2, z3, z4, z5⟩
  bx := fun j b f h => by
    rcases get_set h with ⟨rfl, z, lt⟩ | ⟨ne, z⟩
    · cases z
    · rw [set_off ne]
      obtain ⟨y, c, z1, z2, z3⟩ := m.bx j b f z
      exact ⟨y, c, z1, z2.same (same_up n), z3⟩
  dis := fun j k e e' a h1 h2 o1 o2 ne s1 s2 => by
    have there : ∀ (j : Nat) (e : En), ρ[j]? = some e → e.isOwn → σ[j]? = some (some (V.ref a)) → H a ≠ none := fun j e h o s => by
      cases e with
      | no => exact o.elim
      | da d => exact o.elim
      | own l => obtain ⟨q, ys, z1, z2, _⟩ := m.own j l h; rw [z1] at s; cases s; exact some_ne z2
      | bx b f => obtain ⟨y, c, z1, z2, _⟩ := m.bx j b f h; rw [z1] at s; cases s; exact z2.ne
    rcases get_set h1 with ⟨rfl, z, lt⟩ | ⟨n1, z1⟩
    · rcases get_set h2 with ⟨w, z', lt'⟩ | ⟨n2, z2⟩
      · exact ne w
      · rw [set_at (by rw [m.len]; exact lt)] at s1
        cases s1
        rw [set_off n2] at s2
        exact there k e' z2 o2 s2 n
    · rcases get_set h2 with ⟨rfl, z, lt⟩ | ⟨n2, z2⟩
      · rw [set_at (by rw [m.len]; exact lt)] at s2
        cases s2
        rw [set_off n1] at s1
        exact there j e z1 o1 s1 n
      · rw [set_off n1] at s1; rw [set_off n2] at s2; exact m.dis j k e e' a z1 z2 o1 o2 ne s1 s2
/-- xs = [e, ..], a list that will grow -/
theorem as_own {ta : TA} {i : Nat} (h : AA K ta ρ fun ds ρ1 => ds.length ≤ sizeLine ∧ N (ρ1.set i (.own ds))) : AS K (tAsg (tLst ta) (gName i)) ρ N R := fun B σ G H m D qn qr =>
  h B σ G H m _ fun vs ds ρ1 G1 H1 m1 s1 t1 r1 h1 => ⟨by rw [r1.length]; exact h1.1, fun p hp => qn _ _ G1 _ (m1.setOwn i hp r1) s1 (t1.trans (Tr.same (same_up hp))) h1.2⟩
/-- an own list's content changes -/
theorem Mt.chOwn {B : Addr → Prop} {σ : L2.St} {G H : Hp} (m : Mt K B ρ σ G H) {i : Nat} {p : Addr} {xs : List V} {l l' : List Dt} (e : ρ[i]? = some (.own l)) (s : σ[i]? = some (some (.ref p))) (r : RDs K G l' xs) : Mt K B (ρ.set i (.own l')) σ G (upd H p (.lst xs)) := by
  obtain ⟨q, ys, h1, h2, h3, h4, h5⟩ := m.own i l e
  rw [h1] at s
  cases s
  have keep : ∀ {a : Addr} {o : HO}, a ≠ p → H a = some o → (upd H p (.lst xs)) a = some o := fun n z => by rw [upd_ne n]; exact z
  refine ⟨?_, ?_, ?_, ?_, ?_, ?_, ?_⟩
  · intro a o z
    exact keep (fun w => by rw [w, h4] at z; cases z) (m.sub _ _ z)
  · exact fun a b => ⟨(m.pro a b).1, by rw [upd_ne (fun w => h5 (by rw [← w]; exact b))]; exact (m.pro a b).2⟩
  · rw [List.length_set]; exact m.len
  · intro j d h
    rcases get_set h with ⟨rfl, z, lt⟩ | ⟨ne, z⟩
    · cases z
    · exact m.da j d z
  · intro j k h
    rcases get_set h with ⟨rfl, z, lt⟩ | ⟨ne, z⟩
    · cases z; exact ⟨p, xs, h1, upd_same, r, h4, h5⟩
    · obtain ⟨q', zs, z1, z2, z3⟩ := m.own j k z
      exact ⟨q', zs, z1, keep (fun w => m.dis i j _ _ p e z trivial trivial ne h1 (by rw [← w]; exact z1)) z2, z3⟩
  · intro j b f h
    rcases get_set h with ⟨rfl, z, lt⟩ | ⟨ne, z⟩
    · cases z
    · obtain ⟨y, c, z1, ⟨x, z2, z2'⟩, z3⟩ := m.bx j b f z
      exact ⟨y, c, z1, ⟨x, keep (fun w => m.dis i j _ _ p e z trivial trivial ne h1 (by rw [← w]; exact z1)) z2, z2'⟩, z3⟩
  · intro j k e1 e2 a g1 g2 o1 o2 ne s1 s2
    rcases get_set g1 with ⟨rfl, z, lt⟩ | ⟨n1, z1⟩
    · rcases get_set g2 with ⟨w, z', lt'⟩ | ⟨n2, z2⟩
      · exact ne w
      · exact m.dis i k _ e2 a e z2 trivial o2 ne s1 s2
    · rcases get_set g2 with ⟨rfl, z, lt⟩ | ⟨n2, z2⟩
      · exact m.dis j i e1 _ a z1 e o1 trivial ne s1 s2
      · exact m.dis j k e1 e2 a z1 z2 o1 o2 ne s1 s2
/-- xs.append(e) -/
theorem as_append {te : TE} {i : Nat} (h : AE K te ρ fun d ρ1 => ∃ l, ρ1[i]? = some (.own l) ∧ l.length < sizeLine ∧ N (ρ1.set i (.own (l ++ [d])))) (o : ∃ l, ρ[i]? = some (.own l)) : AS K (tDrop (tBM K "list" rAppend (tVar i) (tCons te tNil))) ρ N R := fun B σ G H m D qn qr => by
  obtain ⟨l0, e0⟩ := o
  obtain ⟨p0, xs0, a1, a2, _⟩ := m.own i l0 e0
  refine ⟨_, a1, .inl ⟨rfl, _, SqL.of a2⟩, ?_⟩
  refine h B σ G H m _ fun v d ρ1 G1 H1 m1 s1 t1 r1 ⟨l, e, hl, n⟩ => ?_
  obtain ⟨p, xs, b1, b2, b3, b4, b5⟩ := m1.own i l e
  rw [a1] at b1
  cases b1
  refine ⟨p0, xs, v, rfl, rfl, b2, by rw [b3.length]; exact hl, ?_⟩
  exact qn _ _ G1 _ (m1.chOwn e a1 (b3.snoc r1)) s1 (t1.trans fun a o b z => by rw [upd_ne (fun w => b5 (by rw [← w]; exact b))]; exact z) n
/-- from here on the list is data -/
theorem ae_frz {te : TE} {i : Nat} {l : List Dt} (e : ρ[i]? = some (.own l)) (h : AE K te (ρ.set i (.da (.lst l))) Ψ) : AE K te ρ Ψ := fun B σ G H m Q q => by
  obtain ⟨G1, m1, s1⟩ := m.frz e
  exact h B σ G1 H m1 Q fun v d ρ' G' H' m' s t r p => q v d ρ' G' H' m' (s1.trans s) t r p
theorem as_frz {ts : TS} {i : Nat} {l : List Dt} (e : ρ[i]? = some (.own l)) (h : AS K ts (ρ.set i (.da (.lst l))) N R) : AS K ts ρ N R := fun B σ G H m D qn qr => by
  obtain ⟨G1, m1, s1⟩ := m.frz e
  exact h B σ G1 H m1 D (fun σ' ρ' G' H' m' s t p => qn σ' ρ' G' H' m' (s1.trans s) t p) fun v d σ' ρ' G' H' m' s t r p => qr v d σ' ρ' G' H' m' (s1.trans s) t r p
end
end Sh
set_option Elab.async false
set_option linter.all false
set_option maxRecDepth 100000
set_option maxHeartbeats 4000000
namespace Sh
open PySem PySem.Spec PyProof.Rows L2
section
variable {K : PySem.W.Frag} {ρ : List En} {Ψ : Dt → List En → Prop} {ΨT : Bool → List En → Prop} {ΨA : List Dt → List En → Prop} {N : List En → Prop} {R : Dt → List En → Prop} {Φ : Dt → Prop}
/-! ### operators -/
theorem ar_I0i {g : Int → Int → Int} {i j : Int} (h : Φ (.int (g i j))) : AR K (rI0 fun i j => .int (g i j)) (.int i) (.int j) Φ := fun G H s x y r1 r2 Q q =>
  ⟨i, j, r1, r2, q _ (.int (g i j)) G H (Nw.refl s) rfl h⟩
theorem ar_I0b {g : Int → Int → Bool} {i j : Int} (h : Φ (.bl (g i j))) : AR K (rI0 fun i j => .bl (g i j)) (.int i) (.int j) Φ := fun G H s x y r1 r2 Q q =>
  ⟨i, j, r1, r2, q _ (.bl (g i j)) G H (Nw.refl s) rfl h⟩
theorem ar_Ii {C : Int → Int → Prop} {g : Int → Int → Int} {i j : Int} (c : C i j) (h : Φ (.int (g i j))) : AR K (rI C fun i j => .int (g i j)) (.int i) (.int j) Φ := fun G H s x y r1 r2 Q q =>
  ⟨i, j, r1, r2, c, q _ (.int (g i j)) G H (Nw.refl s) rfl h⟩
def Dt.isNon : Dt → Bool
  | .non => true
  | _ => false
theorem RD.isNon {G : Hp} : ∀ {d : Dt} {x : V}, RD K G d x → decide (x = V.non) = d.isNon
  | .non, _, r => by rw [show _ = V.non from r]; rfl
  | .bl _, _, r => by rw [show _ = V.bl _ from r]; rfl
  | .int _, _, r => by rw [show _ = V.int _ from r]; rfl
  | .str _, _, r => by rw [show _ = V.str _ from r]; rfl
  | .ty _, _, r => by rw [show _ = V.ty _ from r]; rfl
  | .tup _, _, ⟨a, _, e, _⟩ => by rw [e]; rfl
  | .lst _, _, ⟨a, _, e, _⟩ => by rw [e]; rfl
theorem ar_isN {d : Dt} (h : Φ (.bl d.isNon)) : AR K (fun x y H Q => y = .non ∧ Q (.bl (decide (x = .non))) H) d .non Φ := fun G H s x y r1 r2 Q q =>
  ⟨r2, q _ (.bl d.isNon) G H (Nw.refl s) (by rw [r1.isNon]; rfl) h⟩
theorem ar_notN {d : Dt} (h : Φ (.bl (!d.isNon))) : AR K (fun x y H Q => y = .non ∧ Q (.bl (!decide (x = .non))) H) d .non Φ := fun G H s x y r1 r2 Q q =>
  ⟨r2, q _ (.bl (!d.isNon)) G H (Nw.refl s) (by rw [r1.isNon]; rfl) h⟩
/-- flat data as a value -/
def Dt.v? : Dt → Option V
  | .non => some .non
  | .bl b => some (.bl b)
  | .int i => some (.int i)
  | .str s => some (.str s)
  | _ => none
theorem RD.v {G : Hp} : ∀ {d : Dt} {x y : V}, d.v? = some y → RD K G d x → x = y
  | .non, _, _, e, r => by cases e; exact r
  | .bl _, _, _, e, r => by cases e; exact r
  | .int _, _, _, e, r => by cases e; exact r
  | .str _, _, _, e, r => by cases e; exact r
theorem ar_eq {d e : Dt} {x y : V} (h1 : d.v? = some x) (h2 : e.v? = some y) (hs : scal x y = true) (h : Φ (.bl (decide (x = y)))) : AR K rEq d e Φ := fun G H s x' y' r1 r2 Q q => by
  cases RD.v h1 r1; cases RD.v h2 r2
  exact ⟨hs, q _ (.bl (decide (x = y))) G H (Nw.refl s) rfl h⟩
theorem ar_ne {d e : Dt} {x y : V} (h1 : d.v? = some x) (h2 : e.v? = some y) (hs : scal x y = true) (h : Φ (.bl (!decide (x = y)))) : AR K rNe d e Φ := fun G H s x' y' r1 r2 Q q => by
  cases RD.v h1 r1; cases RD.v h2 r2
  exact ⟨hs, q _ (.bl (!decide (x = y))) G H (Nw.refl s) rfl h⟩
/-! places -/
theorem atI_get {l : List Dt} {xs : List V} {G : Hp} {i : Int} {d : Dt} (r : RDs K G l xs) (e : atI l i = some d) : ∃ x, atI xs i = some x ∧ RD K G d x := by
  unfold atI at e ⊢
  rw [r.length]
  cases q : ixN l.length i with
  | none => rw [q] at e; cases e
  | some j =>
    rw [q] at e
    obtain ⟨x, h1, h2⟩ := r.get (i := j) e
    exact ⟨x, h1, h2⟩
theorem ar_ixT {l : List Dt} {i : Int} {d : Dt} (e : atI l i = some d) (h : Φ d) : AR K (rIxT K) (.tup l) (.int i) Φ := fun G H s x y ⟨a, xs, e1, q1, q2⟩ r2 Q q => by
  obtain ⟨z, h1, h2⟩ := atI_get q2 e
  exact ⟨a, xs, i, z, e1, r2, same_sqT s q1, h1, q _ d G H (Nw.refl s) h2 h⟩
theorem ar_ixL {l : List Dt} {i : Int} {d : Dt} (e : atI l i = some d) (h : Φ d) : AR K (rIxL K) (.lst l) (.int i) Φ := fun G H s x y ⟨a, xs, e1, q1, q2⟩ r2 Q q => by
  obtain ⟨z, h1, h2⟩ := atI_get q2 e
  exact ⟨a, xs, i, z, e1, r2, SqL.of (s _ _ q1), h1, q _ d G H (Nw.refl s) h2 h⟩
def sq (k : Bool) (l : List Dt) : Dt := if k then .tup l else .lst l
theorem ar_ix {k : Bool} {l : List Dt} {i : Int} {d : Dt} (e : atI l i = some d) (h : Φ d) : AR K (rIx K) (sq k l) (.int i) Φ := fun G H s x y r1 r2 Q q => by
  cases k
  · exact .inl (ar_ixL e h G H s x y r1 r2 Q q)
  · exact .inr (.inl (ar_ixT e h G H s x y r1 r2 Q q))
theorem ar_ixTs {l : List Dt} {i : Int} {d : Dt} (e : atI l i = some d) (h : Φ d) : AR K (rIx K) (.tup l) (.int i) Φ := ar_ix (k := true) e h
/-! ### built-ins -/
theorem ac_max2 {i j : Int} (h : Φ (.int (if j > i then j else i))) : AC K (fun xs H Q => ∃ i j, xs = [.int i, .int j] ∧ Q (.int (if j > i then j else i)) H) [.int i, .int j] Φ := fun G H s vs r Q q => by
  obtain ⟨x, y, rfl, h1, h2⟩ := r.two
  exact ⟨i, j, by rw [show x = V.int i from h1, show y = V.int j from h2], q _ (.int (if j > i then j else i)) G H (Nw.refl s) rfl h⟩
theorem ac_min2 {i j : Int} (h : Φ (.int (if j < i then j else i))) : AC K (fun xs H Q => ∃ i j, xs = [.int i, .int j] ∧ Q (.int (if j < i then j else i)) H) [.int i, .int j] Φ := fun G H s vs r Q q => by
  obtain ⟨x, y, rfl, h1, h2⟩ := r.two
  exact ⟨i, j, by rw [show x = V.int i from h1, show y = V.int j from h2], q _ (.int (if j < i then j else i)) G H (Nw.refl s) rfl h⟩
theorem ac_lenT {l : List Dt} (h : Φ (.int (l.length : Nat))) : AC K (fun xs H Q => ∃ p ys, xs = [.ref p] ∧ (SqL K H p ys ∨ SqT K H p ys) ∧ Q (.int ys.length) H) [.tup l] Φ := fun G H s vs r Q q => by
  obtain ⟨x, rfl, a, xs, rfl, h1, h2⟩ := r.one
  exact ⟨a, xs, rfl, .inr (same_sqT s h1), q _ (.int (l.length : Nat)) G H (Nw.refl s) (by rw [h2.length]; rfl) h⟩
theorem ac_lenL {l : List Dt} (h : Φ (.int (l.length : Nat))) : AC K (fun xs H Q => ∃ p ys, xs = [.ref p] ∧ (SqL K H p ys ∨ SqT K H p ys) ∧ Q (.int ys.length) H) [.lst l] Φ := fun G H s vs r Q q => by
  obtain ⟨x, rfl, a, xs, rfl, h1, h2⟩ := r.one
  exact ⟨a, xs, rfl, .inl (SqL.of (s _ _ h1)), q _ (.int (l.length : Nat)) G H (Nw.refl s) (by rw [h2.length]; rfl) h⟩
theorem ac_tupL {l : List Dt} (h : Φ (.tup l)) : AC K (fun xs H Q => ∃ p ys, xs = [.ref p] ∧ ((SqL K H p ys ∧ ∀ l, H l = none → Q (.ref l) (upd H l (.tup ys))) ∨ (SqT K H p ys ∧ Q (.ref p) H))) [.lst l] Φ := fun G H s vs r Q q => by
  obtain ⟨x, rfl, a, xs, rfl, h1, h2⟩ := r.one
  refine ⟨a, xs, rfl, .inl ⟨SqL.of (s _ _ h1), fun p hp => ?_⟩⟩
  have n := Nw.new (o := .tup xs) s hp
  exact q _ (.tup l) _ _ n ⟨p, xs, rfl, SqT.of upd_same, h2.same n.g⟩ h
theorem ac_all {bs : List Bool} (h : Φ (.bl (bs.all id))) : AC K (rAll K) [.lst (bs.map Dt.bl)] Φ := fun G H s vs r Q q => by
  obtain ⟨x, rfl, a, xs, rfl, h1, h2⟩ := r.one
  cases h2.bls
  exact ⟨a, bs, rfl, SqL.of (s _ _ h1), q _ (.bl (bs.all id)) G H (Nw.refl s) rfl h⟩
theorem ac_any {bs : List Bool} (h : Φ (.bl (bs.any id))) : AC K (rAny K) [.lst (bs.map Dt.bl)] Φ := fun G H s vs r Q q => by
  obtain ⟨x, rfl, a, xs, rfl, h1, h2⟩ := r.one
  cases h2.bls
  exact ⟨a, bs, rfl, SqL.of (s _ _ h1), q _ (.bl (bs.any id)) G H (Nw.refl s) rfl h⟩
theorem ac_max {ns : List Int} (h0 : 0 < ns.length) (h : ∀ m, m ∈ ns → (∀ y, y ∈ ns → y ≤ m) → Φ (.int m)) : AC K (rMax K) [.lst (ns.map Dt.int)] Φ := fun G H s vs r Q q => by
  obtain ⟨x, rfl, a, xs, rfl, h1, h2⟩ := r.one
  cases h2.ints
  exact ⟨a, ns, rfl, SqL.of (s _ _ h1), h0, fun m m1 m2 => q _ (.int m) G H (Nw.refl s) rfl (h m m1 m2)⟩
theorem ac_min {ns : List Int} (h0 : 0 < ns.length) (h : ∀ m, m ∈ ns → (∀ y, y ∈ ns → m ≤ y) → Φ (.int m)) : AC K (rMin K) [.lst (ns.map Dt.int)] Φ := fun G H s vs r Q q => by
  obtain ⟨x, rfl, a, xs, rfl, h1, h2⟩ := r.one
  cases h2.ints
  exact ⟨a, ns, rfl, SqL.of (s _ _ h1), h0, fun m m1 m2 => q _ (.int m) G H (Nw.refl s) rfl (h m m1 m2)⟩
/-! kinds -/
def Dt.kind : Dt → String
  | .non => "NoneType" | .bl _ => "bool" | .int _ => "int" | .str _ => "str" | .ty _ => "type" | .tup _ => "tuple" | .lst _ => "list"
def Dt.noTy : Dt → Bool
  | .ty _ => false
  | _ => true
theorem RD.kind {G H : Hp} (s : Same G H) : ∀ {d : Dt} {x : V}, d.noTy = true → RD K G d x → TyX K H x (.type d.kind)
  | .non, _, _, r => by cases (show _ = V.non from r); exact .base .non
  | .bl _, _, _, r => by cases (show _ = V.bl _ from r); exact .base (.bl _)
  | .int _, _, _, r => by cases (show _ = V.int _ from r); exact .base (.int _)
  | .str _, _, _, r => by cases (show _ = V.str _ from r); exact .base (.str _)
  | .tup _, _, _, ⟨a, xs, e, q, _⟩ => by
    subst e
    rcases q with (q | ⟨o, q⟩) | ⟨o, its, n, q1, q2, _⟩
    · exact .base (.tup (s _ _ q))
    · exact .fTuple (s _ _ q)
    · exact .kTuple q1 q2
  | .lst _, _, _, ⟨a, xs, e, q, _⟩ => by subst e; exact .base (.lst (s _ _ q))
theorem ac_isi {d : Dt} {T : String} {b : Bool} (n : d.noTy = true) (hb : kitB d.kind T = some b) (h : Φ (.bl b)) : AC K (rIsi K) [d, .ty T] Φ := fun G H s vs r Q q => by
  obtain ⟨x, y, rfl, h1, h2⟩ := r.two
  cases (show y = V.ty T from h2)
  exact ⟨x, .ty T, _, _, b, rfl, .ty T, h1.kind s n, kit_ty hb, q _ (.bl b) G H (Nw.refl s) rfl h⟩
theorem kit_2 {a S T : String} {r : Bool} (h1 : kitB a S = some false) (h2 : kitB a T = some r) : PySem.W.kitAny K (.type a) [.type S, .type T] = some r :=
  kitAny_cons (kit_ty h1) (fun _ => kitAny_cons (kit_ty h2) (fun e => by rw [e]; exact kitAny_nil) (fun e => e)) (fun e => nomatch e)
theorem kit_1 {a S T : String} (h1 : kitB a S = some true) : PySem.W.kitAny K (.type a) [.type S, .type T] = some true :=
  kitAny_cons (kit_ty h1) (fun e => nomatch e) (fun _ => rfl)
/-- isinstance(e, (S, T)) -/
theorem ae_isi2 {te : TE} {S T : String} (h : AE K te ρ fun d ρ1 => d.noTy = true ∧ ∃ b, ((kitB d.kind S = some true ∧ b = true) ∨ (kitB d.kind S = some false ∧ kitB d.kind T = some b)) ∧ Ψ (.bl b) ρ1) :
    AE K (tCB (rIsiT K) (tCons te (tCons (tTup (tCons (tC (.ty S)) (tCons (tC (.ty T)) tNil))) tNil))) ρ Ψ := fun B σ G H m Q q =>
  h B σ G H m _ fun v d ρ1 G1 H1 m1 s1 t1 r1 ⟨n, b, hb, p⟩ => by
    refine ⟨by show 2 ≤ sizeLine; decide, fun a ha => ?_⟩
    have k : PySem.W.kitAny K (.type d.kind) [.type S, .type T] = some b := by
      rcases hb with ⟨h1, rfl⟩ | ⟨h1, h2⟩
      · exact kit_1 h1
      · exact kit_2 h1 h2
    have nw := Nw.new (o := .tup [V.ty S, V.ty T]) m1.sub ha
    exact ⟨v, a, _, _, _, b, rfl, upd_same, .cons (.ty _) (.cons (.ty _) .nil), (r1.same nw.g).kind nw.s n, k, q _ (.bl b) ρ1 _ _ (m1.nw nw) (s1.trans nw.g) (t1.trans (Tr.same nw.h)) rfl p⟩
theorem ae_ty {T : String} (h : Ψ (.ty T) ρ) : AE K (tC (.ty T)) ρ Ψ := ae_c (.ty T) (fun _ => rfl) h
/-! ### deep equality -/
mutual
def Dt.pd : Dt → PyData
  | .non => .none | .bl b => .bool b | .int i => .int i | .str s => .str s | .ty _ => .none
  | .tup l => .tuple (pds l)
  | .lst l => .list (pds l)
def pds : List Dt → List PyData
  | [] => []
  | d :: l => d.pd :: pds l
def Dt.pl : Dt → Bool
  | .ty _ => false
  | .tup l => pls l
  | .lst l => pls l
  | _ => true
def pls : List Dt → Bool
  | [] => true
  | d :: l => d.pl && pls l
end
mutual
theorem RD.dp {G H : Hp} (s : Same G H) : ∀ {d : Dt} {v : V}, d.pl = true → RD K G d v → Dp K H v d.pd
  | .non, v, _, h => by cases (show v = .non from h); exact .non
  | .bl b, v, _, h => by cases (show v = .bl b from h); exact .bl b
  | .int i, v, _, h => by cases (show v = .int i from h); exact .int i
  | .str z, v, _, h => by cases (show v = .str z from h); exact .str z
  | .tup l, _, p, ⟨a, xs, e, ha, r⟩ => by subst e; exact .tup (same_sqT s ha) (RDs.dp s p r)
  | .lst l, _, p, ⟨a, xs, e, ha, r⟩ => by subst e; exact .lst (SqL.of (s _ _ ha)) (RDs.dp s p r)
theorem RDs.dp {G H : Hp} (s : Same G H) : ∀ {l : List Dt} {xs : List V}, pls l = true → RDs K G l xs → DpAll K H xs (pds l)
  | [], xs, _, h => by cases (show xs = [] from h); exact .nil
  | d :: l, _, p, ⟨x, r, e, h1, h2⟩ => by
    subst e
    have p' : (d.pl && pls l) = true := p
    rw [Bool.and_eq_true] at p'
    exact .cons (RD.dp s p'.1 h1) (RDs.dp s p'.2 h2)
end
theorem ar_eqD {d e : Dt} (p1 : d.pl = true) (p2 : e.pl = true) (s1 : SeqAt.shaped d.pd = true) (s2 : SeqAt.shaped e.pd = true) (h : Φ (.bl (PyData.eqv d.pd e.pd))) : AR K (rEqD K) d e Φ := fun G H s x y r1 r2 Q q =>
  ⟨d.pd, e.pd, r1.dp s p1, r2.dp s p2, s1, s2, q _ (.bl (PyData.eqv d.pd e.pd)) G H (Nw.refl s) rfl h⟩
end
end Sh
set_option Elab.async false
set_option linter.all false
set_option maxRecDepth 100000
set_option maxHeartbeats 4000000
namespace Sh
open PySem PySem.Spec PyProof.Rows L2
section
variable {K : PySem.W.Frag} {ρ : List En} {Ψ : Dt → List En → Prop} {ΨT : Bool → List En → Prop} {ΨA : List Dt → List En → Prop} {N : List En → Prop} {R : Dt → List En → Prop} {Φ : Dt → Prop}
/-! ### walks -/
def Wj (K : PySem.W.Frag) (J : It) (l : List Dt) (G0 : Hp) : Prop :=
  (∀ i H, i < l.length → Same G0 H → J.go i H) ∧ (∀ H, Same G0 H → J.stop l.length H) ∧ ∀ i G H x H', i < l.length → Same G0 G → Same G H → J.yld i H x H' → ∃ G' d, Nw G H G' H' ∧ l[i]? = some d ∧ RD K G' d x
theorem Wj.walk {J : It} {l : List Dt} {G0 : Hp} (w : Wj K J l G0) : Walk J l.length (fun H => Same G0 H) fun i H x H' => ∀ G, Same G0 G → Same G H → ∃ G' d, Nw G H G' H' ∧ l[i]? = some d ∧ RD K G' d x :=
  ⟨fun i H hi s => w.1 i H hi s, fun H s => w.2.1 H s, fun i H x H' hi s y G s1 s2 => w.2.2 i G H x H' hi s1 s2 y⟩
def AI (K : PySem.W.Frag) (wi : TI) (ρ : List En) (Θ : List Dt → List En → Prop) : Prop := ∀ B σ G H, Mt K B ρ σ G H → ∀ R : It → Hp → Prop, (∀ J l ρ' G' H', Mt K B ρ' σ G' H' → Same G G' → Tr B H H' → Wj K J l G' → Θ l ρ' → R J H') → wi σ H R
theorem wj_list {a : Addr} {xs : List V} {l : List Dt} {G : Hp} (h : G a = some (.lst xs)) (r : RDs K G l xs) : Wj K (Itl K a) l G := by
  have e := r.length
  refine ⟨fun i H hi s => ⟨xs, xs[i]'(by omega), SqL.of (s _ _ h), by simp [show i < xs.length by omega]⟩, fun H s => ⟨xs, SqL.of (s _ _ h), by omega⟩, fun i G1 H x H' hi s1 s2 y => ?_⟩
  obtain ⟨d, h1, h2⟩ := r.back (i := i) (y.2 xs (SqL.of (s2 _ _ (s1 _ _ h))))
  refine ⟨G1, d, ?_, h1, h2.same s1⟩
  rw [y.1]; exact Nw.refl s2
theorem wj_tup {a : Addr} {xs : List V} {l : List Dt} {G : Hp} (h : SqT K G a xs) (r : RDs K G l xs) : Wj K (Itt K a) l G := by
  have e := r.length
  refine ⟨fun i H hi s => ⟨xs, xs[i]'(by omega), same_sqT s h, by simp [show i < xs.length by omega]⟩, fun H s => ⟨xs, same_sqT s h, by omega⟩, fun i G1 H x H' hi s1 s2 y => ?_⟩
  obtain ⟨d, h1, h2⟩ := r.back (i := i) (y.2 xs (same_sqT s2 (same_sqT s1 h)))
  refine ⟨G1, d, ?_, h1, h2.same s1⟩
  rw [y.1]; exact Nw.refl s2
def rgD (lo : Int) (n : Nat) : List Dt := (List.range n).map fun i => .int (lo + (i : Nat))
theorem wj_range {lo : Int} {n : Nat} {G : Hp} : Wj K (Itr lo n) (rgD lo n) G := by
  have e : (rgD lo n).length = n := by unfold rgD; rw [List.length_map, List.length_range]
  refine ⟨fun i H hi s => by rw [e] at hi; exact hi, fun H s => by rw [e]; exact Nat.le_refl _, fun i G1 H x H' hi s1 s2 y => ⟨G1, .int (lo + (i : Nat)), ?_, ?_, y.2⟩⟩
  · rw [y.1]; exact Nw.refl s2
  · rw [e] at hi; unfold rgD; rw [List.getElem?_map, List.getElem?_range hi]; rfl
theorem ai_list {te : TE} {Θ : List Dt → List En → Prop} (h : AE K te ρ fun d ρ1 => ∃ l, d = .lst l ∧ Θ l ρ1) : AI K (iList K te) ρ Θ := fun B σ G H m Rr q =>
  h B σ G H m _ fun v d ρ1 G1 H1 m1 s1 t1 r1 ⟨l, e, p⟩ => by
    subst e
    obtain ⟨a, xs, e, h1, h2⟩ := r1
    exact ⟨a, e, ⟨xs, SqL.of (m1.sub _ _ h1)⟩, q _ l ρ1 G1 H1 m1 s1 t1 (wj_list h1 h2) p⟩
theorem ai_tup {te : TE} {Θ : List Dt → List En → Prop} (h : AE K te ρ fun d ρ1 => ∃ l, d = .tup l ∧ Θ l ρ1) : AI K (iTup K te) ρ Θ := fun B σ G H m Rr q =>
  h B σ G H m _ fun v d ρ1 G1 H1 m1 s1 t1 r1 ⟨l, e, p⟩ => by
    subst e
    obtain ⟨a, xs, e, h1, h2⟩ := r1
    exact ⟨a, e, ⟨xs, same_sqT m1.sub h1⟩, q _ l ρ1 G1 H1 m1 s1 t1 (wj_tup h1 h2) p⟩
theorem pi_or {X : Cx} {tg l : Expr} {w1 w2 : TI} (h1 : PI X tg l w1) (h2 : PI X tg l w2) : PI X tg l (fun σ H R => w1 σ H R ∨ w2 σ H R) :=
  ⟨fun pins s σ H R I h => h.elim (h1.run pins s σ H R I) (h2.run pins s σ H R I)⟩
theorem ai_rng1 {ta : TA} {Θ : List Dt → List En → Prop} (h : AA K ta ρ fun ds ρ1 => ∃ j : Int, ds = [.int j] ∧ -(2 ^ 62) ≤ j ∧ j < 2 ^ 62 ∧ Θ (rgD 0 j.toNat) ρ1) : AI K (iRng1 ta) ρ Θ := fun B σ G H m Rr q =>
  h B σ G H m _ fun vs ds ρ1 G1 H1 m1 s1 t1 r1 ⟨j, e, p1, p2, p⟩ => by
    subst e
    obtain ⟨x, rfl, h1⟩ := r1.one
    cases (show x = .int j from h1)
    exact ⟨j, rfl, p1, p2, q _ _ ρ1 G1 H1 m1 s1 t1 wj_range p⟩
/-! new pairs -/
theorem nw_pair {G H : Hp} {T : Addr} {x y : V} {d e : Dt} (s : Same G H) (n : H T = none) (r1 : RD K G d x) (r2 : RD K G e y) : ∃ G', Nw G H G' (upd H T (.tup [x, y])) ∧ RD K G' (.tup [d, e]) (.ref T) := by
  have nw := Nw.new (o := .tup [x, y]) s n
  exact ⟨_, nw, T, _, rfl, SqT.of upd_same, x, [y], rfl, r1.same nw.g, y, [], rfl, r2.same nw.g, rfl⟩
theorem zip_get {α β : Type} : ∀ {xs : List α} {ys : List β} {i : Nat} {x : α} {y : β}, xs[i]? = some x → ys[i]? = some y → (xs.zip ys)[i]? = some (x, y)
  | a :: xs, b :: ys, 0, _, _, h1, h2 => by cases h1; cases h2; rfl
  | a :: xs, b :: ys, i + 1, x, y, h1, h2 => by
    have := zip_get (i := i) (by simpa using h1) (by simpa using h2)
    simpa using this
  | [], _, _, _, _, h1, _ => by simp at h1
  | _ :: _, [], _, _, _, _, h2 => by simp at h2
def zpD (l m : List Dt) : List Dt := (l.zip m).map fun p => .tup [p.1, p.2]
theorem zpD_len {l m : List Dt} : (zpD l m).length = min l.length m.length := by unfold zpD; rw [List.length_map, List.length_zip]
theorem zpD_get {l m : List Dt} {i : Nat} {d e : Dt} (h1 : l[i]? = some d) (h2 : m[i]? = some e) : (zpD l m)[i]? = some (.tup [d, e]) := by
  unfold zpD; rw [List.getElem?_map, zip_get h1 h2]; rfl
theorem wj_zipL {a b : Addr} {xs ys : List V} {l m : List Dt} {G : Hp} (h : G a = some (.lst xs)) (h' : G b = some (.lst ys)) (r : RDs K G l xs) (r' : RDs K G m ys) : Wj K (Itz K a b) (zpD l m) G := by
  have e := r.length
  have e' := r'.length
  have w := walk_zip (K := K) (a := a) (b := b) (xs := xs) (ys := ys) rfl
  have el : (zpD l m).length = min xs.length ys.length := by rw [zpD_len, e, e']
  refine ⟨fun i H hi s => w.goes i H (by rw [el] at hi; exact hi) ⟨SqL.of (s _ _ h), SqL.of (s _ _ h')⟩, fun H s => by rw [el]; exact w.stops H ⟨SqL.of (s _ _ h), SqL.of (s _ _ h')⟩, fun i G1 H x H' hi s1 s2 y => ?_⟩
  obtain ⟨T, u, v, rfl, nT, rfl, f1, f2⟩ := w.yields i H x H' (by rw [el] at hi; exact hi) ⟨SqL.of (s2 _ _ (s1 _ _ h)), SqL.of (s2 _ _ (s1 _ _ h'))⟩ y
  obtain ⟨d1, g1, q1⟩ := r.back f1
  obtain ⟨d2, g2, q2⟩ := r'.back f2
  obtain ⟨G', n, rd⟩ := nw_pair s2 nT (q1.same s1) (q2.same s1)
  exact ⟨G', _, n, zpD_get g1 g2, rd⟩
theorem walk_zipT {a b : Addr} {xs ys : List V} : Walk (RZ.ItzT K a b) (min xs.length ys.length) (fun H => SqT K H a xs ∧ SqT K H b ys) (YPair (fun i => xs[i]?) (fun i => ys[i]?)) := by
  refine ⟨fun i H hi q => ?_, fun _ q => ⟨xs, ys, q.1, q.2, by omega⟩, fun _ _ _ _ _ q ⟨T, x, y, e1, e2, e3, f, g⟩ => ⟨T, x, y, e1, e2, e3, f xs q.1, g ys q.2⟩⟩
  have h1 : i < xs.length := by omega
  have h2 : i < ys.length := by omega
  exact ⟨xs, ys, xs[i], ys[i], q.1, q.2, List.getElem?_eq_getElem h1, List.getElem?_eq_getElem h2⟩
theorem wj_zipT {a b : Addr} {xs ys : List V} {l m : List Dt} {G : Hp} (h : SqT K G a xs) (h' : SqT K G b ys) (r : RDs K G l xs) (r' : RDs K G m ys) : Wj K (RZ.ItzT K a b) (zpD l m) G := by
  have e := r.length
  have e' := r'.length
  have w := walk_zipT (K := K) (a := a) (b := b) (xs := xs) (ys := ys)
  have el : (zpD l m).length = min xs.length ys.length := by rw [zpD_len, e, e']
  refine ⟨fun i H hi s => w.goes i H (by rw [el] at hi; exact hi) ⟨same_sqT s h, same_sqT s h'⟩, fun H s => by rw [el]; exact w.stops H ⟨same_sqT s h, same_sqT s h'⟩, fun i G1 H x H' hi s1 s2 y => ?_⟩
  obtain ⟨T, u, v, rfl, nT, rfl, f1, f2⟩ := w.yields i H x H' (by rw [el] at hi; exact hi) ⟨same_sqT s2 (same_sqT s1 h), same_sqT s2 (same_sqT s1 h')⟩ y
  obtain ⟨d1, g1, q1⟩ := r.back f1
  obtain ⟨d2, g2, q2⟩ := r'.back f2
  obtain ⟨G', n, rd⟩ := nw_pair s2 nT (q1.same s1) (q2.same s1)
  exact ⟨G', _, n, zpD_get g1 g2, rd⟩
theorem ai_zipL {ta : TA} {Θ : List Dt → List En → Prop} (h : AA K ta ρ fun ds ρ1 => ∃ l m, ds = [.lst l, .lst m] ∧ Θ (zpD l m) ρ1) : AI K (RZ.iZipA K ta) ρ Θ := fun B σ G H mm Rr q =>
  h B σ G H mm _ fun vs ds ρ1 G1 H1 m1 s1 t1 r1 ⟨l, m, e, p⟩ => by
    subst e
    obtain ⟨x, y, rfl, ⟨a, xs, rfl, h1, h2⟩, ⟨b, ys, rfl, h3, h4⟩⟩ := r1.two
    exact ⟨a, b, xs, ys, rfl, .inl ⟨SqL.of (m1.sub _ _ h1), SqL.of (m1.sub _ _ h3), q _ _ ρ1 G1 H1 m1 s1 t1 (wj_zipL h1 h3 h2 h4) p⟩⟩
theorem ai_zipT {ta : TA} {Θ : List Dt → List En → Prop} (h : AA K ta ρ fun ds ρ1 => ∃ l m, ds = [.tup l, .tup m] ∧ Θ (zpD l m) ρ1) : AI K (RZ.iZipA K ta) ρ Θ := fun B σ G H mm Rr q =>
  h B σ G H mm _ fun vs ds ρ1 G1 H1 m1 s1 t1 r1 ⟨l, m, e, p⟩ => by
    subst e
    obtain ⟨x, y, rfl, ⟨a, xs, rfl, h1, h2⟩, ⟨b, ys, rfl, h3, h4⟩⟩ := r1.two
    exact ⟨a, b, xs, ys, rfl, .inr ⟨same_sqT m1.sub h1, same_sqT m1.sub h3, q _ _ ρ1 G1 H1 m1 s1 t1 (wj_zipT h1 h3 h2 h4) p⟩⟩
def enD (l : List Dt) : List Dt := (List.range l.length).zipWith (fun (i : Nat) d => .tup [.int ((i : Nat) : Int), d]) l
theorem enD_len {l : List Dt} : (enD l).length = l.length := by unfold enD; simp
theorem enD_get {l : List Dt} {i : Nat} {d : Dt} (h : l[i]? = some d) : (enD l)[i]? = some (.tup [.int ((i : Nat) : Int), d]) := by
  have hi := (List.getElem?_eq_some_iff.mp h).1
  unfold enD
  rw [List.getElem?_zipWith, List.getElem?_range hi, h]
/-! ### for -/
theorem as_for {wi : TI} {g : TG} {tb : TS} (h : AI K wi ρ fun l ρ1 => ∃ I : Nat → List En → Prop, I 0 ρ1 ∧ (∀ i d ρ2, l[i]? = some d → I i ρ2 → AG K g d ρ2 fun ρ3 => AS K tb ρ3 (I (i + 1)) R) ∧ ∀ ρ2, I l.length ρ2 → N ρ2) : AS K (tFor wi g tb) ρ N R := fun B σ G H m D qn qr =>
  h B σ G H m _ fun J l ρ1 G1 H1 m1 s1 t1 w ⟨I, i0, is, ie⟩ => by
    refine for_it w.walk (fun i σ2 H2 => ∃ ρ2 G2, Mt K B ρ2 σ2 G2 H2 ∧ Same G1 G2 ∧ Tr B H1 H2 ∧ I i ρ2) ⟨ρ1, G1, m1, Same.refl _, Tr.refl, i0⟩ (fun i σ2 H2 _ ⟨ρ2, G2, m2, s2, t2, p⟩ => s2.trans m2.sub) ?_ ?_
    · rintro i x σ2 H2 H3 hi ⟨ρ2, G2, m2, s2, t2, p⟩ y
      obtain ⟨G3, d, n3, hd, rd⟩ := y G2 s2 m2.sub
      refine is i d ρ2 hd p B σ2 G3 H3 (m2.nw n3) x rd _ fun σ4 ρ4 G4 H4 m4 s4 t4 h4 => ?_
      refine h4 B σ4 G4 H4 m4 _ (fun σ5 ρ5 G5 H5 m5 s5 t5 p5 => ⟨ρ5, G5, m5, (((s2.trans n3.g).trans s4).trans s5), (((t2.trans (Tr.same n3.h)).trans t4).trans t5), p5⟩) ?_
      exact fun v d σ5 ρ5 G5 H5 m5 s5 t5 r5 p5 => qr v d σ5 ρ5 G5 H5 m5 ((((s1.trans s2).trans n3.g).trans s4).trans s5) ((((t1.trans t2).trans (Tr.same n3.h)).trans t4).trans t5) r5 p5
    · rintro σ2 H2 ⟨ρ2, G2, m2, s2, t2, p⟩
      exact qn σ2 ρ2 G2 H2 m2 (s1.trans s2) (t1.trans t2) (ie ρ2 p)
/-! ### comprehensions -/
def wipeE (ρ : List En) : List Nat → List En
  | [] => ρ
  | v :: vs => (wipeE ρ vs).set v .no
theorem Mt.wipe {B : Addr → Prop} {σ : L2.St} {G H : Hp} (m : Mt K B ρ σ G H) : ∀ vs : List Nat, Mt K B (wipeE ρ vs) (L2.wipe σ vs) G H
  | [] => m
  | v :: vs => (Mt.wipe m vs).drop v none
/-- the slots may be others where nothing is known -/
theorem Mt.other {B : Addr → Prop} {σ σ' : L2.St} {G H : Hp} (m : Mt K B ρ σ G H) (hl : σ'.length = σ.length) (h : ∀ i : Nat, ρ[i]? = some En.no ∨ σ'[i]? = σ[i]?) : Mt K B ρ σ' G H where
  sub := m.sub
  pro := m.pro
  len := hl.trans m.len
  da := fun i d e => by
    rcases h i with z | z
    · rw [z] at e; cases e
    · rw [z]; exact m.da i d e
  own := fun i d e => by
    rcases h i with z | z
    · rw [z] at e; cases e
    · rw [z]; exact m.own i d e
  bx := fun i b f e => by
    rcases h i with z | z
    · rw [z] at e; cases e
    · rw [z]; exact m.bx i b f e
  dis := fun i j e e' a h1 h2 o1 o2 ne s1 s2 => by
    rcases h i with z | z
    · rw [z] at h1; cases h1; exact o1
    · rcases h j with z' | z'
      · rw [z'] at h2; cases h2; exact o2
      · rw [z] at s1; rw [z'] at s2; exact m.dis i j e e' a h1 h2 o1 o2 ne s1 s2
/-- off vs the slots are the same -/
def Off (vs : List Nat) (σ σ' : L2.St) : Prop := σ'.length = σ.length ∧ ∀ i, i ∉ vs → σ'[i]? = σ[i]?
theorem wipe_in {σ : L2.St} {i : Nat} : ∀ {vs : List Nat}, i ∈ vs → i < σ.length → (L2.wipe σ vs)[i]? = some none
  | v :: vs, h, lt => by
    unfold L2.wipe
    by_cases e : v = i
    · subst e; exact set_at (by rw [wipe_length]; exact lt)
    · rw [set_off e]
      exact wipe_in (by rcases List.mem_cons.mp h with z | z; exact absurd z.symm e; exact z) lt
theorem Off.wipe {vs : List Nat} {σ σ' : L2.St} (o : Off vs σ σ') : L2.wipe σ' vs = L2.wipe σ vs := by
  apply List.ext_getElem?
  intro i
  by_cases h : i ∈ vs
  · by_cases lt : i < σ.length
    · rw [wipe_in h lt, wipe_in h (by rw [o.1]; exact lt)]
    · rw [List.getElem?_eq_none (by rw [wipe_length, o.1]; omega), List.getElem?_eq_none (by rw [wipe_length]; omega)]
  · rw [wipe_out h, wipe_out h, o.2 i h]
theorem wipe_off (vs : List Nat) (σ : L2.St) : Off vs (L2.wipe σ vs) σ := ⟨(wipe_length σ vs).symm, fun i h => (wipe_out h).symm⟩
def AGv (K : PySem.W.Frag) (vs : List Nat) (g : TG) (d : Dt) (ρ : List En) (N : List En → Prop) : Prop := ∀ B σ G H, Mt K B ρ σ G H → ∀ v, RD K G d v → ∀ Q : L2.St → Hp → Prop, (∀ σ' ρ' G' H', Mt K B ρ' σ' G' H' → Same G G' → Tr B H H' → Off vs σ σ' → N ρ' → Q σ' H') → g v σ H Q
def AGvs (K : PySem.W.Frag) (vs : List Nat) (g : TGs) (ds : List Dt) (ρ : List En) (N : List En → Prop) : Prop := ∀ B σ G H, Mt K B ρ σ G H → ∀ xs, RDs K G ds xs → ∀ Q : L2.St → Hp → Prop, (∀ σ' ρ' G' H', Mt K B ρ' σ' G' H' → Same G G' → Tr B H H' → Off vs σ σ' → N ρ' → Q σ' H') → g xs σ H Q
theorem agv_name {vs : List Nat} {i : Nat} {d : Dt} (hi : i ∈ vs) (h : N (ρ.set i (.da d))) : AGv K vs (gName i) d ρ N := fun B σ G H m v r Q q => q _ _ G H (m.set i r) (Same.refl _) Tr.refl ⟨List.length_set, fun j hj => set_off (fun z => hj (by rw [← z]; exact hi))⟩ h
theorem agvs_nil {vs : List Nat} (h : N ρ) : AGvs K vs gNil [] ρ N := fun B σ G H m xs r Q q => ⟨r, q σ ρ G H m (Same.refl _) Tr.refl ⟨rfl, fun _ _ => rfl⟩ h⟩
theorem agvs_cons {vs : List Nat} {t : TG} {u : TGs} {d : Dt} {ds : List Dt} (h : AGv K vs t d ρ fun ρ1 => AGvs K vs u ds ρ1 N) : AGvs K vs (gCons t u) (d :: ds) ρ N := fun B σ G H m xs r Q q => by
  obtain ⟨x, ys, rfl, r1, r2⟩ := r
  exact ⟨x, ys, rfl, h B σ G H m x r1 _ fun σ1 ρ1 G1 H1 m1 s1 t1 o1 h1 => h1 B σ1 G1 H1 m1 ys (r2.same s1) Q fun σ' ρ' G' H' m' s t o p => q σ' ρ' G' H' m' (s1.trans s) (t1.trans t) ⟨o.1.trans o1.1, fun i hi => (o.2 i hi).trans (o1.2 i hi)⟩ p⟩
theorem agv_tup {vs : List Nat} {t : TGs} {n : Nat} {ds : List Dt} (hn : ds.length = n) (h : AGvs K vs t ds ρ N) : AGv K vs (gTup K n t) (.tup ds) ρ N := fun B σ G H m v r Q q => by
  obtain ⟨a, xs, rfl, r1, r2⟩ := r
  exact ⟨a, xs, rfl, same_sqT m.sub r1, by rw [r2.length]; exact hn, h B σ G H m xs r2 Q q⟩
theorem at_yes (h : ΨT true ρ) : AT K tYes ρ ΨT := fun B σ G H m Q q => q true ρ G H m (Same.refl _) Tr.refl h
/-- [e for .. in ..]: ρ is silent about the slots of the targets -/
theorem ae_lc {wi : TI} {g : TG} {tt : TT} {te : TE} {vs : List Nat}
    (h : AI K wi ρ fun l ρ1 => ∃ I : Nat → List Dt → List En → Prop, I 0 [] (wipeE ρ1 vs) ∧
      (∀ i d acc ρ2, l[i]? = some d → I i acc ρ2 → AGv K vs g d ρ2 fun ρ3 => AT K tt ρ3 fun b ρ4 => (b = true → AE K te ρ4 fun e ρ5 => acc.length < sizeLine ∧ I (i + 1) (acc ++ [e]) (wipeE ρ5 vs)) ∧ (b = false → I (i + 1) acc (wipeE ρ4 vs))) ∧
      ∀ acc ρ2, I l.length acc ρ2 → (∀ i ∈ vs, i < ρ2.length → ρ2[i]? = some En.no) ∧ Ψ (.lst acc) ρ2) : AE K (tLc wi g tt te vs) ρ Ψ := fun B σ G H m Q q =>
  h B σ G H m _ fun J l ρ1 G1 H1 m1 s1 t1 w ⟨I, i0, is, ie⟩ => fun D hD => by
    have back : ∀ {σ2 : L2.St} {ρ2 : List En} {B' : Addr → Prop} {G2 H2 : Hp}, L2.wipe σ2 vs = L2.wipe σ vs → Mt K B' ρ2 σ2 G2 H2 → Mt K B' (wipeE ρ2 vs) (L2.wipe σ vs) G2 H2 := fun e m2 => by
      rw [← e]; exact m2.wipe vs
    have mg := m1.guard (o := .lst []) hD
    refine lc_it w.walk (fun i H2 => ∃ (acc : List Dt) (xs : List V) (ρ2 : List En) (G2 : Hp), Mt K (fun a => B a ∨ a = D) ρ2 (L2.wipe σ vs) G2 H2 ∧ Same G1 G2 ∧ Tr B H1 H2 ∧ H2 D = some (.lst xs) ∧ RDs K G2 acc xs ∧ I i acc ρ2)
      ⟨[], [], wipeE ρ1 vs, G1, mg.wipe vs, Same.refl _, Tr.same (same_up hD), upd_same, rfl, i0⟩ (fun i H2 _ ⟨acc, xs, ρ2, G2, m2, s2, t2, e2, r2, p⟩ => s2.trans m2.sub) ?_ ?_
    · rintro i x H2 H3 hi ⟨acc, xs, ρ2, G2, m2, s2, t2, e2, r2, p⟩ y
      obtain ⟨G3, d, n3, hd, rd⟩ := y G2 s2 m2.sub
      have m3 := m2.nw n3
      refine is i d acc ρ2 hd p _ (L2.wipe σ vs) G3 H3 m3 x rd _ fun σ4 ρ4 G4 H4 m4 s4 t4 o4 h4 => ?_
      have ew : L2.wipe σ4 vs = L2.wipe σ vs := by
        rw [o4.wipe]
        exact (Off.wipe (wipe_off vs σ)).symm
      have e3 := n3.h _ _ e2
      have e4 := t4 _ _ (.inr rfl) e3
      have tB3 : Tr B H1 H4 := (t2.trans (Tr.same n3.h)).trans fun a o b e => t4 a o (.inl b) e
      refine ⟨ew, ?_⟩
      refine h4 _ σ4 G4 H4 m4 _ fun b ρ5 G5 H5 m5 s5 t5 h5 => ?_
      have e5 := t5 _ _ (.inr rfl) e4
      have tB5 : Tr B H1 H5 := tB3.trans fun a o b e => t5 a o (.inl b) e
      have s15 : Same G1 G5 := ((s2.trans n3.g).trans s4).trans s5
      cases b
      · rw [if_neg (by decide)]
        exact ⟨acc, xs, wipeE ρ5 vs, G5, back ew m5, s15, tB5, e5, ((r2.same n3.g).same s4).same s5, h5.2 rfl⟩
      · rw [if_pos rfl]
        refine h5.1 rfl _ σ4 G5 H5 m5 _ fun v e ρ6 G6 H6 m6 s6 t6 r6 h6 => ?_
        have e6 := t6 _ _ (.inr rfl) e5
        have rr : RDs K G6 acc xs := (((r2.same n3.g).same s4).same s5).same s6
        refine ⟨xs, e6, by rw [rr.length]; exact h6.1, acc ++ [e], xs ++ [v], wipeE ρ6 vs, G6, (back ew m6).turn (.inr rfl), s15.trans s6, ?_, upd_same, rr.snoc r6, h6.2⟩
        intro a o b z
        have z1 := t6 a o (.inl b) (tB5 a o b z)
        rw [upd_ne (fun z' => (m1.pro a b).2 (by rw [z']; exact hD))]; exact z1
    · rintro H2 ⟨acc, xs, ρ2, G2, m2, s2, t2, e2, r2, p⟩
      obtain ⟨hn, hp⟩ := ie acc ρ2 p
      have m3 : Mt K (fun a => B a ∨ a = D) ρ2 σ G2 H2 := m2.other (wipe_length σ vs).symm fun i => by
        by_cases hi : i ∈ vs
        · by_cases lt : i < ρ2.length
          · exact .inl (hn i hi lt)
          · exact .inr (by rw [List.getElem?_eq_none (by have := m2.len; rw [wipe_length] at this; omega), List.getElem?_eq_none (by have := m2.len; omega)])
        · exact .inr (wipe_out hi).symm
      have nD : G2 D = none := (m2.pro D (.inr rfl)).1
      have mB : Mt K B ρ2 σ G2 H2 := m3.less fun a b => .inl b
      -- the new list becomes data
      have sg : Same G2 (upd G2 D (.lst xs)) := same_up nD
      have mF : Mt K B ρ2 σ (upd G2 D (.lst xs)) H2 := ⟨fun a o z => by
          by_cases w : a = D
          · subst w; rw [upd_same] at z; cases z; exact e2
          · rw [upd_ne w] at z; exact m2.sub _ _ z,
        fun a b => ⟨by rw [upd_ne (fun w => (m1.pro a b).2 (by rw [w]; exact hD))]; exact (mB.pro a b).1, (mB.pro a b).2⟩, mB.len, fun i d e => by
          obtain ⟨v, z1, z2⟩ := mB.da i d e
          exact ⟨v, z1, z2.same sg⟩, fun i k e => by
          obtain ⟨q', ys, z1, z2, z3, z4, z5⟩ := m3.own i k e
          exact ⟨q', ys, z1, z2, z3.same sg, by rw [upd_ne (fun w => z5 (.inr w))]; exact z4, fun b => z5 (.inl b)⟩, fun i b f e => by
          obtain ⟨y, c, z1, z2, z3, z4, z5, z6⟩ := m3.bx i b f e
          exact ⟨y, c, z1, z2, z3, z4, by rw [upd_ne (fun w => z6 (.inr w))]; exact z5, fun b => z6 (.inl b)⟩, mB.dis⟩
      exact q _ (.lst acc) ρ2 _ H2 mF ((s1.trans s2).trans sg) (t1.trans t2) ⟨D, xs, rfl, upd_same, r2.same sg⟩ hp
end
end Sh
set_option Elab.async false
set_option linter.all false
set_option maxRecDepth 100000
set_option maxHeartbeats 4000000
namespace Sh
open PySem PySem.Spec PyProof.Rows L2
/-! ### promises over data -/
def spP (K : PySem.W.Frag) (S : List Dt → Dt → Prop) : Sp := fun vs H Q _ => ∃ G ds r, Same G H ∧ RDs K G ds vs ∧ S ds r ∧ ∀ v G' H', Nw G H G' H' → RD K G' r v → Q v H'
def But (b : Addr) (H H' : Hp) : Prop := ∀ a o, a ≠ b → H a = some o → H' a = some o
theorem but_upd {H : Hp} {b : Addr} {o : HO} : But b H (upd H b o) := fun a u n e => by rw [upd_ne n]; exact e
structure Nb (b : Addr) (G H G' H' : Hp) : Prop where
  g : Same G G'
  s : Same G' H'
  h : But b H H'
  f : ∀ a, G a = none → H a ≠ none → G' a = none
def spB (K : PySem.W.Frag) (n : Nat) (dom : List Dt → Prop) (post : List Dt → Dt → Prop) : Sp := fun vs H Q _ => ∃ G ds b us y c, ∃ F : Nat, vs = .ref b :: us ∧ Same G H ∧ Bx H b y c ∧ 0 ≤ c ∧ c + (F + n : Nat) ≤ BxM ∧ G b = none ∧ RDs K G ds us ∧ dom ds ∧
  ∀ v d G' H' y' c', Nb b G H G' H' → Bx H' b y' c' → 0 ≤ c' → c' + F ≤ BxM → RD K G' d v → post ds d → Q v H'
section
variable {K : PySem.W.Frag} {ρ : List En} {Ψ : Dt → List En → Prop} {ΨT : Bool → List En → Prop} {ΨA : List Dt → List En → Prop} {N : List En → Prop} {R : Dt → List En → Prop} {Φ : Dt → Prop}
theorem ae_call {S : List Dt → Dt → Prop} {E : XK} {ta : TA} (h : AA K ta ρ fun ds ρ1 => ∃ r, S ds r ∧ Ψ r ρ1) : AE K (tCall (spP K S) [] E ta) ρ Ψ := fun B σ G H m Q q =>
  h B σ G H m _ fun vs ds ρ1 G1 H1 m1 s1 t1 r1 ⟨r, hs, p⟩ => ⟨G1, ds, r, m1.sub, by rw [List.append_nil]; exact r1, hs, fun v G2 H2 n r2 => q v r ρ1 G2 H2 (m1.nw n) (s1.trans n.g) (t1.trans (Tr.same n.h)) r2 p⟩
/-- a box has been drawn from -/
theorem Mt.box {B : Addr → Prop} {σ : L2.St} {G H G' H' : Hp} (m : Mt K B ρ σ G H) {i f : Nat} {b : Addr} {y c : Int} (e : ρ[i]? = some (.bx b f)) (n : Nb b G H G' H') {F : Nat} (h : Bx H' b y c) (c0 : 0 ≤ c) (c1 : c + F ≤ BxM) : Mt K B (ρ.set i (.bx b F)) σ G' H' ∧ Tr B H H' := by
  obtain ⟨y0, k0, z1, z2, z3, z4, z5, z6⟩ := m.bx i b f e
  have tr : Tr B H H' := fun a o ba e => n.h a o (fun w => z6 (by rw [← w]; exact ba)) e
  refine ⟨⟨n.s, fun a ba => ⟨n.f a (m.pro a ba).1 (m.pro a ba).2, ?_⟩, by rw [List.length_set]; exact m.len, ?_, ?_, ?_, ?_⟩, tr⟩
  · intro z
    cases q : H a with
    | none => exact (m.pro a ba).2 q
    | some o => rw [tr a o ba q] at z; cases z
  · intro j d hj
    rcases get_set hj with ⟨rfl, w, lt⟩ | ⟨ne, w⟩
    · cases w
    · obtain ⟨v, w1, w2⟩ := m.da j d w
      exact ⟨v, w1, w2.same n.g⟩
  · intro j l hj
    rcases get_set hj with ⟨rfl, w, lt⟩ | ⟨ne, w⟩
    · cases w
    · obtain ⟨q, xs, w1, w2, w3, w4, w5⟩ := m.own j l w
      exact ⟨q, xs, w1, n.h _ _ (fun z => m.dis i j _ _ b e w trivial trivial ne z1 (by rw [← z]; exact w1)) w2, w3.same n.g, n.f q w4 (some_ne w2), w5⟩
  · intro j b' f' hj
    rcases get_set hj with ⟨rfl, w, lt⟩ | ⟨ne, w⟩
    · cases w
      exact ⟨y, c, z1, h, c0, c1, n.f b z5 z2.ne, z6⟩
    · obtain ⟨y', c', w1, ⟨x, w2, w2'⟩, w3, w4, w5, w6⟩ := m.bx j b' f' w
      exact ⟨y', c', w1, ⟨x, n.h _ _ (fun z => m.dis i j _ _ b e w trivial trivial ne z1 (by rw [← z]; exact w1)) w2, w2'⟩, w3, w4, n.f b' w5 (some_ne w2), w6⟩
  · intro j k e1 e2 a g1 g2 o1 o2 ne s1 s2
    rcases get_set g1 with ⟨rfl, z, lt⟩ | ⟨n1, z1'⟩
    · rcases get_set g2 with ⟨w, z', lt'⟩ | ⟨n2, z2'⟩
      · exact ne w
      · exact m.dis i k _ e2 a e z2' trivial o2 ne s1 s2
    · rcases get_set g2 with ⟨rfl, z, lt⟩ | ⟨n2, z2'⟩
      · exact m.dis j i e1 _ a z1' e o1 trivial ne s1 s2
      · exact m.dis j k e1 e2 a z1' z2' o1 o2 ne s1 s2
theorem ae_draw {n : Nat} {dom : List Dt → Prop} {post : List Dt → Dt → Prop} {E : XK} {ta : TA} {i : Nat} {b : Addr} {f0 : Nat} (e0 : ρ[i]? = some (.bx b f0))
    (h : AA K ta ρ fun ds ρ1 => dom ds ∧ ∃ F, ρ1[i]? = some (.bx b (F + n)) ∧ ∀ d, post ds d → Ψ d (ρ1.set i (.bx b F))) : AE K (tCall (spB K n dom post) [] E (tCons (tVar i) ta)) ρ Ψ := fun B σ G H m Q q => by
  obtain ⟨y0, k0, z1, _⟩ := m.bx i b f0 e0
  refine ⟨_, z1, h B σ G H m _ fun vs ds ρ1 G1 H1 m1 s1 t1 r1 ⟨hd, F, e, p⟩ => ?_⟩
  obtain ⟨y, c, w1, w2, w3, w4, w5, w6⟩ := m1.bx i b (F + n) e
  refine ⟨G1, ds, b, vs, y, c, F, by rw [List.append_nil], m1.sub, w2, w3, w4, w5, r1, hd, fun v d G2 H2 y' c' nb hb c0 c1 r2 hp => ?_⟩
  obtain ⟨m2, t2⟩ := m1.box e nb hb c0 c1
  exact q v d _ G2 H2 m2 (s1.trans nb.g) (t1.trans t2) r2 (p d hp)
/-! ### a def keeps such a promise -/
def env0 (N : List Str) (ds : List Dt) : List En := ds.map En.da ++ List.replicate (N.length - ds.length) .no
def envB (N : List Str) (b : Addr) (f : Nat) (ds : List Dt) : List En := .bx b f :: (ds.map En.da ++ List.replicate (N.length - (ds.length + 1)) .no)
theorem rep_get {n i : Nat} {e : En} (h : (List.replicate n En.no)[i]? = some e) : e = .no := by
  rw [List.getElem?_replicate] at h
  split at h
  · cases h; rfl
  · cases h
theorem da_get {ds : List Dt} {n i : Nat} {e : En} (h : (ds.map En.da ++ List.replicate n En.no)[i]? = some e) : e = .no ∨ ∃ d, ds[i]? = some d ∧ e = .da d := by
  by_cases lt : i < ds.length
  · rw [List.getElem?_append_left (by rw [List.length_map]; exact lt), List.getElem?_map] at h
    obtain ⟨d, h1, h2⟩ := Option.map_eq_some_iff.mp h
    exact .inr ⟨d, h1, h2.symm⟩
  · rw [List.getElem?_append_right (by rw [List.length_map]; omega)] at h
    exact .inl (rep_get h)
theorem start_get {N : List Str} {vs : List V} {i : Nat} {x : V} (h : vs[i]? = some x) : (L2.start N vs)[i]? = some (some x) := by
  have lt := (List.getElem?_eq_some_iff.mp h).1
  unfold L2.start
  rw [List.getElem?_append_left (by rw [List.length_map]; exact lt), List.getElem?_map, h]; rfl
theorem mt_start {N : List Str} {ds : List Dt} {vs : List V} {G H : Hp} (s : Same G H) (r : RDs K G ds vs) : Mt K (fun a => H a ≠ none ∧ G a = none) (env0 N ds) (L2.start N vs) G H where
  sub := s
  pro := fun a b => ⟨b.2, b.1⟩
  len := by unfold L2.start env0; simp [r.length]
  da := fun i d e => by
    rcases da_get e with z | ⟨d', z1, z2⟩
    · cases z
    · cases z2
      obtain ⟨x, h1, h2⟩ := r.get z1
      exact ⟨x, start_get h1, h2⟩
  own := fun i l e => by rcases da_get e with z | ⟨d', z1, z2⟩ <;> contradiction
  bx := fun i b f e => by rcases da_get e with z | ⟨d', z1, z2⟩ <;> contradiction
  dis := fun i j e e' a h1 h2 o1 o2 ne s1 s2 => by
    rcases da_get h1 with z | ⟨d', z1, z2⟩
    · subst z; exact o1
    · subst z2; exact o1
theorem mt_startB {N : List Str} {ds : List Dt} {vs : List V} {G H : Hp} {b : Addr} {y c : Int} {f : Nat} (s : Same G H) (r : RDs K G ds vs) (hb : Bx H b y c) (c0 : 0 ≤ c) (c1 : c + f ≤ BxM) (gb : G b = none) : Mt K (fun a => H a ≠ none ∧ G a = none ∧ a ≠ b) (envB N b f ds) (L2.start N (.ref b :: vs)) G H where
  sub := s
  pro := fun a b => ⟨b.2.1, b.1⟩
  len := by unfold L2.start envB; simp [r.length]
  da := fun i d e => by
    cases i with
    | zero => cases e
    | succ i =>
      rcases da_get (show _ = some _ from e) with z | ⟨d', z1, z2⟩
      · cases z
      · cases z2
        obtain ⟨x, h1, h2⟩ := r.get z1
        exact ⟨x, start_get (vs := .ref b :: vs) (i := i + 1) h1, h2⟩
  own := fun i l e => by
    cases i with
    | zero => cases e
    | succ i => rcases da_get (show _ = some _ from e) with z | ⟨d', z1, z2⟩ <;> contradiction
  bx := fun i b' f' e => by
    cases i with
    | zero => cases e; exact ⟨y, c, rfl, hb, c0, c1, gb, fun z => z.2.2 rfl⟩
    | succ i => rcases da_get (show _ = some _ from e) with z | ⟨d', z1, z2⟩ <;> contradiction
  dis := fun i j e e' a h1 h2 o1 o2 ne s1 s2 => by
    cases i with
    | zero =>
      cases j with
      | zero => exact ne rfl
      | succ j => rcases da_get (show _ = some _ from h2) with z | ⟨d', z1, z2⟩ <;> (subst_vars; exact o2)
    | succ i => rcases da_get (show _ = some _ from h1) with z | ⟨d', z1, z2⟩ <;> (subst_vars; exact o1)
end
section
variable {P : Program} {w : World} {K : PySem.W.Frag} {mg : Str → Option Value} {base : Heap}
theorem okP {x qual : Str} {st : Stmt} {f : Addr} {fd : FuncData} {N ps : List Str} {k : Nat} {S : List Dt → Dt → Prop} (F : Fun K x qual st f fd) (sc : FnScope N ps (defScope st)) (len : ∀ ds r, S ds r → ds.length = ps.length)
    (body : ∀ (cdv : Value) (A : Around) (outer : List Env) (s : Shared) (H : Hp) (E : XK), Room k (A.deeper (envOfC qual (defScope st) s.heap.objs.size f cdv)) → ∀ ds r, S ds r →
      ∃ t, PSs (cxOf CX0 P w K mg base N qual (defScope st) f cdv A outer s H E).nox (defBody st) t ∧ AS K t (env0 N ds) (fun _ => r = .non) (fun d _ => d = r)) : FnOk P w K mg base CX0 (k + 1) f fd ps (spP K S) := by
  refine F.ok sc (fun vs H Q E h => ?_) (fun cdv A outer s H vs Q E hr h => ?_)
  · obtain ⟨G, ds, r, s, rd, hs, _⟩ := h
    rw [rd.length]; exact len ds r hs
  · obtain ⟨G, ds, r, sm, rd, hs, q⟩ := h
    obtain ⟨t, ht, ha⟩ := body cdv A outer s H E hr ds r hs
    refine ⟨t, ht, ha _ _ G H (mt_start sm rd) _ (fun σ' ρ' G' H' m' s' t' e => ?_) (fun v d σ' ρ' G' H' m' s' t' rv e => ?_)⟩
    all_goals
      have nw : Nw G H G' H' := ⟨s', m'.sub, fun a o e => by
          cases z : G a with
          | none => exact t' a o ⟨some_ne e, z⟩ e
          | some o' => rw [sm _ _ z] at e; cases e; exact m'.sub _ _ (s' _ _ z), fun a h1 h2 => (m'.pro a ⟨h2, h1⟩).1⟩
    · exact q .non G' H' nw (by rw [e]; rfl)
    · exact q v G' H' nw (by rw [← e]; exact rv)
theorem okB {x qual : Str} {st : Stmt} {f : Addr} {fd : FuncData} {N ps : List Str} {k n : Nat} {dom : List Dt → Prop} {post : List Dt → Dt → Prop} (F : Fun K x qual st f fd) (sc : FnScope N ps (defScope st)) (len : ∀ ds, dom ds → ds.length + 1 = ps.length)
    (body : ∀ (cdv : Value) (A : Around) (outer : List Env) (s : Shared) (H : Hp) (E : XK), Room k (A.deeper (envOfC qual (defScope st) s.heap.objs.size f cdv)) → ∀ ds, dom ds →
      ∃ t, PSs (cxOf CX0 P w K mg base N qual (defScope st) f cdv A outer s H E).nox (defBody st) t ∧ ∀ (b : Addr) (F : Nat), AS K t (envB N b (F + n) ds) (fun ρ => post ds .non ∧ ∃ f, ρ[0]? = some (.bx b f) ∧ F ≤ f) (fun d ρ => post ds d ∧ ∃ f, ρ[0]? = some (.bx b f) ∧ F ≤ f)) : FnOk P w K mg base CX0 (k + 1) f fd ps (spB K n dom post) := by
  refine F.ok sc (fun vs H Q E h => ?_) (fun cdv A outer s H vs Q E hr h => ?_)
  · obtain ⟨G, ds, b, us, y, c, F', rfl, sm, hb, c0, c1, gb, rd, hd, _⟩ := h
    rw [List.length_cons, rd.length]; exact len ds hd
  · obtain ⟨G, ds, b, us, y, c, F', rfl, sm, hb, c0, c1, gb, rd, hd, q⟩ := h
    obtain ⟨t, ht, ha⟩ := body cdv A outer s H E hr ds hd
    refine ⟨t, ht, ha b F' _ _ G H (mt_startB sm rd hb c0 c1 gb) _ (fun σ' ρ' G' H' m' s' t' e => ?_) (fun v d σ' ρ' G' H' m' s' t' rv e => ?_)⟩
    all_goals
      obtain ⟨hp, f', he, hf⟩ := e
      have nb : Nb b G H G' H' := ⟨s', m'.sub, fun a o ne e => by
          cases z : G a with
          | none => exact t' a o ⟨some_ne e, z, ne⟩ e
          | some o' => rw [sm _ _ z] at e; cases e; exact m'.sub _ _ (s' _ _ z), fun a h1 h2 => by
          by_cases w : a = b
          · subst w
            obtain ⟨_, _, _, _, _, _, z, _⟩ := m'.bx 0 a f' he
            exact z
          · exact (m'.pro a ⟨h2, h1, w⟩).1⟩
      obtain ⟨y', c', w1, w2, w3, w4, w5, w6⟩ := m'.bx 0 b f' he
    · exact q .non .non G' H' y' c' nb w2 w3 (by omega) rfl hp
    · exact q v d G' H' y' c' nb w2 w3 (by omega) rv hp
end
/-! ### calls by keywords alone -/
end Sh
set_option Elab.async false
set_option linter.all false
set_option maxRecDepth 100000
set_option maxHeartbeats 4000000
namespace Sh
open PySem PySem.Spec PyProof.Rows L2
/-- a def that may be called: its promise, how its arguments bind -/
structure Cal (P : Program) (w : World) (K : PySem.W.Frag) (mg : Str → Option Value) (base : Heap) (n : Nat) (x : Str) (ps : List Str) (sp : Sp) (g : Addr) (d : FuncData) : Prop where
  ok : FnOk P w K mg base CX0 n g d ps sp
  bi : Binds K d ps []
  kp : PySem.W.keepIn K (.ref g) = true
  mg : mg x = some (.ref g)
structure Blts (mg : Str → Option Value) : Prop where
  len : mg "len" = none
  abs : mg "abs" = none
  int : mg "int" = none
  list : mg "list" = none
  tuple : mg "tuple" = none
  bool : mg "bool" = none
  str : mg "str" = none
  enumerate : mg "enumerate" = none
  isinstance : mg "isinstance" = none
  all : mg "all" = none
  any : mg "any" = none
  zip : mg "zip" = none
  range : mg "range" = none
  min : mg "min" = none
  max : mg "max" = none
  set : mg "set" = none
  sorted : mg "sorted" = none
  repr : mg "repr" = none
  sum : mg "sum" = none
section
variable {K : PySem.W.Frag} {ρ : List En} {N : List En → Prop} {R : Dt → List En → Prop}
theorem as_par3 {ta : TA} {i j l : Nat} (h : AA K ta ρ fun ds ρ1 => ∃ d e f, ds = [d, e, f] ∧ N (((ρ1.set i (.da d)).set j (.da e)).set l (.da f))) : AS K (tPar3 i j l ta) ρ N R := fun B σ G H m D qn qr =>
  h B σ G H m _ fun vs ds ρ1 G1 H1 m1 s1 t1 r1 ⟨d, e, f, z, h1⟩ => by
    subst z
    obtain ⟨x, r, rfl, r2, r3⟩ := r1
    obtain ⟨y, z, rfl, r4, r5⟩ := r3.two
    exact ⟨x, y, z, rfl, qn _ _ G1 H1 (((m1.set i r2).set j r4).set l r5) s1 t1 h1⟩
theorem ar_eq3 {d e : Dt} {x y : V} {Φ : Dt → Prop} (c : d.v? = some x ∧ e.v? = some y ∧ scal x y = true) (h : Φ (.bl (decide (x = y)))) : AR K rEq d e Φ := ar_eq c.1 c.2.1 c.2.2 h
theorem ar_ne3 {d e : Dt} {x y : V} {Φ : Dt → Prop} (c : d.v? = some x ∧ e.v? = some y ∧ scal x y = true) (h : Φ (.bl (!decide (x = y)))) : AR K rNe d e Φ := ar_ne c.1 c.2.1 c.2.2 h
theorem ac_isi1 {d : Dt} {T : String} {b : Bool} {Φ : Dt → Prop} (c : d.noTy = true ∧ kitB d.kind T = some b) (h : Φ (.bl b)) : AC K (rIsi K) [d, .ty T] Φ := ac_isi c.1 c.2 h
theorem kb_NoneType_list : kitB "NoneType" "list" = some false := by decide +kernel
theorem kb_NoneType_tuple : kitB "NoneType" "tuple" = some false := by decide +kernel
theorem kb_NoneType_bool : kitB "NoneType" "bool" = some false := by decide +kernel
theorem kb_NoneType_int : kitB "NoneType" "int" = some false := by decide +kernel
theorem kb_NoneType_str : kitB "NoneType" "str" = some false := by decide +kernel
theorem kb_bool_list : kitB "bool" "list" = some false := by decide +kernel
theorem kb_bool_tuple : kitB "bool" "tuple" = some false := by decide +kernel
theorem kb_bool_bool : kitB "bool" "bool" = some true := by decide +kernel
theorem kb_bool_int : kitB "bool" "int" = some true := by decide +kernel
theorem kb_bool_str : kitB "bool" "str" = some false := by decide +kernel
theorem kb_int_list : kitB "int" "list" = some false := by decide +kernel
theorem kb_int_tuple : kitB "int" "tuple" = some false := by decide +kernel
theorem kb_int_bool : kitB "int" "bool" = some false := by decide +kernel
theorem kb_int_int : kitB "int" "int" = some true := by decide +kernel
theorem kb_int_str : kitB "int" "str" = some false := by decide +kernel
theorem kb_str_list : kitB "str" "list" = some false := by decide +kernel
theorem kb_str_tuple : kitB "str" "tuple" = some false := by decide +kernel
theorem kb_str_bool : kitB "str" "bool" = some false := by decide +kernel
theorem kb_str_int : kitB "str" "int" = some false := by decide +kernel
theorem kb_str_str : kitB "str" "str" = some true := by decide +kernel
theorem kb_tuple_list : kitB "tuple" "list" = some false := by decide +kernel
theorem kb_tuple_tuple : kitB "tuple" "tuple" = some true := by decide +kernel
theorem kb_tuple_bool : kitB "tuple" "bool" = some false := by decide +kernel
theorem kb_tuple_int : kitB "tuple" "int" = some false := by decide +kernel
theorem kb_tuple_str : kitB "tuple" "str" = some false := by decide +kernel
theorem kb_list_list : kitB "list" "list" = some true := by decide +kernel
theorem kb_list_tuple : kitB "list" "tuple" = some false := by decide +kernel
theorem kb_list_bool : kitB "list" "bool" = some false := by decide +kernel
theorem kb_list_int : kitB "list" "int" = some false := by decide +kernel
theorem kb_list_str : kitB "list" "str" = some false := by decide +kernel
theorem ac_len {k : Bool} {l : List Dt} {Φ : Dt → Prop} (h : Φ (.int (l.length : Nat))) : AC K (fun xs H Q => ∃ p ys, xs = [.ref p] ∧ (SqL K H p ys ∨ SqT K H p ys) ∧ Q (.int ys.length) H) [sq k l] Φ := by
  cases k
  · exact ac_lenL h
  · exact ac_lenT h
theorem wipe_no {ρ : List En} {i : Nat} : ∀ {vs : List Nat}, i ∈ vs → i < ρ.length → (wipeE ρ vs)[i]? = some En.no
  | v :: vs, h, lt => by
    have hl : ∀ ws : List Nat, (wipeE ρ ws).length = ρ.length := fun ws => by
      induction ws with
      | nil => rfl
      | cons w ws ih => unfold wipeE; rw [List.length_set, ih]
    unfold wipeE
    by_cases e : v = i
    · subst e; exact set_at (by rw [hl]; exact lt)
    · rw [set_off e]
      exact wipe_no (by rcases List.mem_cons.mp h with z | z; exact absurd z.symm e; exact z) lt
theorem wipeE_len {ρ : List En} (ws : List Nat) : (wipeE ρ ws).length = ρ.length := by
  induction ws with
  | nil => rfl
  | cons w ws ih => unfold wipeE; rw [List.length_set, ih]
/-- a comprehension item by item -/
theorem ae_lcMap {Ψ : Dt → List En → Prop} {wi : TI} {g : TG} {te : TE} {vs : List Nat} (f : Dt → Dt)
    (h : AI K wi ρ fun l ρ1 => l.length < sizeLine ∧ (∀ d ∈ l, AGv K vs g d (wipeE ρ1 vs) fun ρ3 => AE K te ρ3 fun e ρ5 => e = f d ∧ wipeE ρ5 vs = wipeE ρ1 vs) ∧ Ψ (.lst (l.map f)) (wipeE ρ1 vs)) : AE K (tLc wi g tYes te vs) ρ Ψ := by
  refine ae_lc (fun B σ G H m R q => h B σ G H m R fun J l ρ1 G1 H1 m1 s1 t1 w ⟨h1, h2, h3⟩ => q J l ρ1 G1 H1 m1 s1 t1 w ⟨fun i acc ρ2 => i ≤ l.length ∧ acc = (l.take i).map f ∧ ρ2 = wipeE ρ1 vs, ⟨Nat.zero_le _, rfl, rfl⟩, ?_, ?_⟩)
  · rintro i d acc ρ2 hd ⟨hi, rfl, rfl⟩
    have lt := (List.getElem?_eq_some_iff.mp hd).1
    have hm := List.mem_of_getElem? hd
    intro B σ G H m v r Q q
    refine h2 d hm B σ G H m v r Q fun σ' ρ' G' H' m' s t o p => q σ' ρ' G' H' m' s t o (at_yes ⟨fun _ => ?_, fun z => nomatch z⟩)
    refine ae_mono p fun e ρ5 ⟨e1, e2⟩ => ⟨?_, lt, ?_, e2⟩
    · rw [List.length_map, List.length_take]; exact Nat.lt_of_le_of_lt (Nat.min_le_right _ _) h1
    · rw [e1, List.take_succ, hd, List.map_append]; rfl
  · rintro acc ρ2 ⟨_, rfl, rfl⟩
    refine ⟨fun i hi lt => wipe_no hi (by rw [wipeE_len] at lt; exact lt), ?_⟩
    rw [List.take_length]; exact h3
theorem sz60 {n : Nat} (h : n ≤ 60) : n ≤ sizeLine := Nat.le_trans h (by decide)
theorem sz60' {n : Nat} (h : n ≤ 60) : n < sizeLine := Nat.lt_of_le_of_lt h (by decide)
theorem cxOf_K {CX : CXT} {P : Program} {w : World} {mg : Str → Option Value} {base : Heap} {N : List Str} {q : Str} {sc : Scope} {f : Addr} {cdv : Value} {A : Around} {outer : List Env} {s : Shared} {H : Hp} {E : XK} : (cxOf CX P w K mg base N q sc f cdv A outer s H E).K = K := rfl
end
def oD : Option Int → Dt
  | none => .non
  | some i => .int i
theorem oD_some {i : Int} : oD (some i) = .int i := rfl
theorem oD_none : oD none = .non := rfl
end Sh
set_option Elab.async false
set_option linter.all false
set_option maxRecDepth 100000
set_option maxHeartbeats 4000000
/-! ### set(xs) of a list of whole numbers; max, min of one with a default -/
set_option Elab.async false
set_option linter.all false
set_option maxRecDepth 100000
set_option maxHeartbeats 4000000
namespace Sh
open PySem PySem.Spec PyProof.Rows L2
section
variable {K : PySem.W.Frag} {ρ : List En} {Ψ : Dt → List En → Prop} {N : List En → Prop} {R : Dt → List En → Prop}
/-! an own list, item by item -/
theorem RDs.setAt {G : Hp} : ∀ {l : List Dt} {xs : List V} {d : Dt} {x : V} (n : Nat), RDs K G l xs → RD K G d x → RDs K G (l.set n d) (xs.set n x)
  | [], _, _, _, n, h, r => by rw [show _ = [] from h]; rfl
  | a :: l, _, d, x, 0, ⟨y, r, e1, h1, h2⟩, q => ⟨x, r, by rw [e1]; rfl, q, h2⟩
  | a :: l, _, d, x, n + 1, ⟨y, r, e1, h1, h2⟩, q => ⟨y, r.set n x, by rw [e1]; rfl, h1, RDs.setAt n h2 q⟩
end
end Sh
set_option Elab.async false
set_option linter.all false
set_option maxRecDepth 100000
set_option maxHeartbeats 4000000
namespace Sh
open PySem PySem.Spec PyProof.Rows L2
section
variable {K : PySem.W.Frag} {ρ : List En} {N : List En → Prop} {Φ : Dt → Prop}
theorem cxOf_w {CX : CXT} {P : Program} {w : World} {mg : Str → Option Value} {base : Heap} {N : List Str} {q : Str} {sc : Scope} {f : Addr} {cdv : Value} {A : Around} {outer : List Env} {s : Shared} {H : Hp} {E : XK} : (cxOf CX P w K mg base N q sc f cdv A outer s H E).w = w := rfl
end
end Sh
set_option Elab.async false
set_option linter.all false
set_option maxRecDepth 100000
set_option maxHeartbeats 4000000
namespace Sh
open PySem PySem.Spec PyProof.Rows L2
def topS (i : Nat) : Stmt := PySem.Challenge.pw_shadowruns_k44_closed_gaps_stay_closed.main.body.getD i (.Pass ⟨0, 0, 0, 0⟩)
abbrev sBox : Stmt := topS 15
abbrev sTake : Stmt := topS 16
abbrev sCells : Stmt := topS 17
abbrev sOf : Stmt := topS 18
theorem scBox : FnScope ["_law_script", "_law_k", "_law_cell"] ["_law_script", "_law_k"] (defScope sBox) := ⟨rfl, rfl, rfl, by decide +kernel, rfl, by decide +kernel, by decide +kernel⟩
theorem scTake : FnScope ["_law_box_here", "_law_below", "_law_found", "_law_once", "_law_twice"] ["_law_box_here", "_law_below"] (defScope sTake) := ⟨rfl, rfl, rfl, by decide +kernel, rfl, by decide +kernel, by decide +kernel⟩
theorem scCells : FnScope ["_law_script", "_law_most", "_law_cells_here", "_law_k", "_law_cell"] ["_law_script", "_law_most"] (defScope sCells) := ⟨rfl, rfl, rfl, by decide +kernel, rfl, by decide +kernel, by decide +kernel⟩
/-! numbers -/
theorem fm0 {a b : Int} (h : 0 < b) : 0 ≤ a.fmod b := Int.fmod_nonneg_of_pos a h
theorem fm1 {a b : Int} (h : 0 < b) : a.fmod b < b := Int.fmod_lt_of_pos a h
theorem fd0 {a b : Int} (h : 0 ≤ a) (hb : 0 ≤ b) : 0 ≤ a.fdiv b := Int.fdiv_nonneg h hb
theorem fdle {a b : Int} (h : 0 ≤ a) (hb : 0 < b) : a.fdiv b ≤ a := by
  rw [Int.fdiv_eq_ediv_of_nonneg _ (by omega)]
  exact Int.ediv_le_self b h
theorem b01 (c : Bool) : (if c = true then (1 : Int) else 0) = 0 ∨ (if c = true then (1 : Int) else 0) = 1 := by cases c <;> simp
theorem b01s (c : Bool) : -(2 ^ 64) < (if c = true then (1 : Int) else 0) ∧ (if c = true then (1 : Int) else 0) < 2 ^ 64 := by cases c <;> decide
theorem nz (k : Int) (h : decide (k = 0) = false := by decide) : k ≠ 0 := of_decide_eq_false h
theorem But.of {b : Addr} {H H' : Hp} (h : Same H H') : But b H H' := fun a o _ e => h a o e
theorem But.refl {b : Addr} {H : Hp} : But b H H := fun _ _ _ e => e
theorem But.trans {b : Addr} {H H1 H2 : Hp} (x : But b H H1) (y : But b H1 H2) : But b H H2 := fun a o n e => y a o n (x a o n e)
section
variable {P : Program} {w : World} {K : PySem.W.Frag} {mg : Str → Option Value} {base : Heap}
/-! ### _law_box -/
def spBox (K : PySem.W.Frag) : Sp := fun vs H Q _ => ∃ (a : Addr) (ns : List Int) (k : Int), vs = [.ref a, .int k] ∧ SqL K H a (ns.map V.int) ∧ ns.length ≤ 1000 ∧ 0 ≤ k ∧ k ≤ 1000 ∧
  ∀ p x y, H p = none → 0 ≤ x → 0 ≤ y → y < 4611686018427387904 → Q (.ref p) (upd H p (.lst [.int x, .int y, .int 0]))
/-- what is left behind the cell z -/
theorem box_tail {H : Hp} {Q : VK} {k z : Int} (hq : ∀ p x y, H p = none → 0 ≤ x → 0 ≤ y → y < 4611686018427387904 → Q (.ref p) (upd H p (.lst [.int x, .int y, .int 0]))) (k0 : 0 ≤ k) (k1 : k ≤ 1000)
    {p : Addr} (hp : H p = none) (j : Int) (hj : j = 0 ∨ j = 1) : Q (.ref p) (upd H p (.lst [.int ((if z < 0 then -z else z) * j), .int (z.fmod 2305843009213693951 + 39373 * k + 71), .int 0])) := by
  have e0 : (0 : Int) ≤ z.fmod 2305843009213693951 := fm0 (by decide)
  have e1 : z.fmod 2305843009213693951 < 2305843009213693951 := fm1 (by decide)
  refine hq p _ _ hp ?_ (by omega) (by omega)
  have a0 : 0 ≤ (if z < 0 then -z else z) := by split <;> omega
  rcases hj with rfl | rfl
  · rw [Int.mul_zero] <;> decide
  · rw [Int.mul_one]; exact a0
theorem ok_box {f : Addr} {fd : FuncData} {n : Nat} (F : Fun K "_law_box" "_law_box" sBox f fd) (ml : mg "len" = none) (ma : mg "abs" = none) (mi : mg "int" = none) : FnOk P w K mg base CX0 (n + 1) f fd ["_law_script", "_law_k"] (spBox K) := by
  refine F.ok scBox (fun vs H Q E h => ?_) (fun cdv A outer s H vs Q E hr h => ?_)
  · obtain ⟨a, ns, k, rfl, _⟩ := h
    rfl
  obtain ⟨a, ns, k, rfl, hS, hlen, k0, k1, q⟩ := h
  refine ⟨_, pss_cons (ps_set (i := 2) scBox.nd rfl (Or.inl rfl) (pe_ifExp (pt_cmpR op_lt (pv 1) (pe_callB call_len_seq rfl ml PySem.boot_len (pa_cons (pv 0) pa_nil)) (nomark _)) (pe_ix ix_list (pv 0) (pv 1) (fun _ _ => rfl)) pe_int))
    (pss_one (ps_ret (pe_lst (pa_cons (pe_op op_mul (pe_callB call_abs rfl ma (by decide +kernel) (pa_cons (pv 2) pa_nil)) (pe_callTy call_int1 rfl mi (by decide +kernel) (pa_cons (pe_cmpR op_ge (pe_callB call_abs rfl ma (by decide +kernel) (pa_cons (pv 2) pa_nil)) (pe_op op_pow pe_int pe_int) (nomark _)) pa_nil)))
      (pa_cons (pe_op op_add (pe_op op_add (pe_op op_modN (pv 2) pe_int) (pe_op op_mul pe_int (pv 1))) pe_int) (pa_cons pe_int pa_nil)))))), ?_⟩
  have hl : (ns.map V.int).length = ns.length := List.length_map _
  refine ⟨_, rfl, _, rfl, a, _, rfl, .inl hS, _, _, rfl, rfl, _, rfl, ?_⟩
  have hr64 : (0 : Int) < 2305843009213693951 := by decide
  refine ite2 (fun c => ?_) (fun c => ?_)
  have c' : k < (((ns.map V.int).length : Nat) : Int) := of_decide_eq_true c
  rw [hl] at c'
  have hk : k.toNat < ns.length := by omega
  have ek : k = ((k.toNat : Nat) : Int) := by omega
  have g : atI (ns.map V.int) k = some (.int ns[k.toNat]) := at_of ek (by rw [List.getElem?_map, List.getElem?_eq_getElem hk] <;> rfl)
  refine ⟨_, rfl, _, rfl, a, _, _, _, rfl, rfl, hS, g, ?_⟩
  generalize ns[k.toNat] = z
  all_goals
    refine ⟨_, rfl, _, rfl, _, rfl, _, rfl, _, _, rfl, rfl, ⟨by decide, by decide, by decide⟩, _, _, rfl, rfl, .inr ⟨_, rfl, _, _, rfl, rfl, .inr (b01s _), ?_⟩⟩
    refine ⟨_, rfl, _, _, rfl, rfl, (nz _), _, rfl, _, _, rfl, rfl, .inl ⟨by decide, by decide⟩, _, _, rfl, rfl, _, _, rfl, rfl, (by show 3 ≤ sizeLine; decide), fun p hp => ?_⟩
    exact box_tail q k0 k1 hp _ (b01 _)
/-! ### _law_take -/
def spTake : Sp := fun vs H Q _ => ∃ (b : Addr) (m y c : Int), vs = [.ref b, .int m] ∧ Bx H b y c ∧ 0 ≤ c ∧ c < 1000000000000 ∧ 1 ≤ m ∧ m ≤ 10000000 ∧
  ∀ v c' H', 0 ≤ v → v < m → c ≤ c' → c' ≤ c + 1 → Bx H' b y c' → But b H H' → Q (.int v) H'
theorem bx_up {H : Hp} {b : Addr} {x y c : Int} {xs : List V} (e : xs = [.int x, .int y, .int c]) (h : 0 ≤ x) (h1 : 0 ≤ y) (h2 : y < 4611686018427387904) : Bx (upd H b (.lst xs)) b y c := ⟨x, by rw [e, upd_same], h, h1, h2⟩
theorem tw_ok {o c y : Int} (c0 : 0 ≤ c) (c1 : c < 1000000000000) (y0 : 0 ≤ y) (y1 : y < 4611686018427387904) : -(2 ^ 64) < o.fmod 2147483647 + (c + 1) + y.fdiv 1000003 ∧ o.fmod 2147483647 + (c + 1) + y.fdiv 1000003 < 2 ^ 64 := by
  have h0 : (0 : Int) ≤ o.fmod 2147483647 := fm0 (by decide)
  have h1 : o.fmod 2147483647 < 2147483647 := fm1 (by decide)
  have h2 : 0 ≤ y.fdiv 1000003 := fd0 y0 (by decide)
  have h3 : y.fdiv 1000003 ≤ y := fdle y0 (by decide)
  refine ⟨?_, ?_⟩ <;> omega
theorem tw_ok2 {o : Int} : -(2 ^ 64) < o.fmod 2147483629 ∧ o.fmod 2147483629 < 2 ^ 64 := by
  have h0 : (0 : Int) ≤ o.fmod 2147483629 := fm0 (by decide)
  have h1 : o.fmod 2147483629 < 2147483629 := fm1 (by decide)
  refine ⟨?_, ?_⟩ <;> omega
theorem ok_take {f : Addr} {fd : FuncData} {n : Nat} (F : Fun K "_law_take" "_law_take" sTake f fd) : FnOk P w K mg base CX0 (n + 1) f fd ["_law_box_here", "_law_below"] spTake := by
  refine F.ok scTake (fun vs H Q E h => ?_) (fun cdv A outer s H vs Q E hr h => ?_)
  · obtain ⟨b, m, y, c, rfl, _⟩ := h
    rfl
  obtain ⟨b, m, y, c, rfl, ⟨x, hB, x0, y0, y1⟩, c0, c1, m0, m1, q⟩ := h
  refine ⟨_, pss_cons (ps_if (pt_cmpR op_gt (pe_ix ix_list (pv 0) pe_int (fun _ _ => rfl)) pe_int (nomark _))
      (pss_cons (ps_set (i := 2) scTake.nd rfl (Or.inl rfl) (pe_op op_modN (pe_ix ix_list (pv 0) pe_int (fun _ _ => rfl)) (pv 1)))
      (pss_cons (ps_asg (pe_op op_fdivN (pe_ix ix_list (pv 0) pe_int (fun _ _ => rfl)) (pv 1)) (pg_sub (pv 0) pe_int set_list))
      (pss_one (ps_ret (pv 2))))) pss_nil)
    (pss_cons (ps_if (pt_cmpR op_gt (pv 1) (pe_op op_pow pe_int pe_int) (nomark _)) pss_never pss_nil)
    (pss_cons (ps_asg (pe_op op_add (pe_ix ix_list (pv 0) pe_int (fun _ _ => rfl)) pe_int) (pg_sub (pv 0) pe_int set_list))
    (pss_cons (ps_set (i := 3) scTake.nd rfl (Or.inl rfl) (pe_op op_modN (pe_op op_mul (pe_op op_add (pe_ix ix_list (pv 0) pe_int (fun _ _ => rfl)) (pe_op op_mul pe_int (pe_ix ix_list (pv 0) pe_int (fun _ _ => rfl)))) (pe_op op_add pe_int (pe_ix ix_list (pv 0) pe_int (fun _ _ => rfl)))) pe_int))
    (pss_cons (ps_set (i := 4) scTake.nd rfl (Or.inl rfl) (pe_op op_modN (pe_op op_mul (pe_op op_add (pe_op op_add (pv 3) (pe_ix ix_list (pv 0) pe_int (fun _ _ => rfl))) (pe_op op_fdivN (pe_ix ix_list (pv 0) pe_int (fun _ _ => rfl)) pe_int)) (pe_op op_add (pe_op op_modN (pv 3) pe_int) pe_int)) pe_int))
    (pss_one (ps_ret (pe_op op_modN (pe_op op_fdivN (pe_op op_modN (pe_op op_add (pe_op op_mul (pv 4) pe_int) (pv 3)) pe_int) pe_int) (pv 1)))))))), ?_⟩
  refine ⟨_, rfl, b, _, _, _, rfl, rfl, SqL.of hB, at_of (j := 0) rfl rfl, _, _, rfl, rfl, _, rfl, ?_⟩
  refine ite2 (fun t => ?_) (fun t => ?_)
  · have t' : x > 0 := of_decide_eq_true t
    refine ⟨_, rfl, b, _, _, _, rfl, rfl, SqL.of hB, at_of (j := 0) rfl rfl, _, rfl, _, _, rfl, rfl, (by omega), ?_⟩
    refine ⟨_, rfl, b, _, _, _, rfl, rfl, SqL.of hB, at_of (j := 0) rfl rfl, _, rfl, _, _, rfl, rfl, ⟨by omega, by omega⟩, ?_⟩
    refine ⟨_, rfl, b, _, _, 0, rfl, rfl, hB, rfl, _, rfl, ?_⟩
    exact q _ c _ (fm0 (by omega)) (fm1 (by omega)) (by omega) (by omega) (bx_up rfl (fd0 x0 (by omega)) y0 y1) but_upd
  · refine ⟨_, rfl, _, _, rfl, rfl, ⟨by decide, by decide, by decide⟩, _, _, rfl, rfl, _, rfl, ?_⟩
    refine ite2 (fun t2 => ?_) (fun t2 => ?_)
    · exfalso
      have t3 : m > 10 ^ 7 := of_decide_eq_true t2
      have t4 : (10 : Int) ^ 7 = 10000000 := by decide
      omega
    · have hB1 : (upd H b (.lst [.int x, .int y, .int (c + 1)])) b = some (.lst [.int x, .int y, .int (c + 1)]) := upd_same
      refine ⟨_, rfl, b, _, _, _, rfl, rfl, SqL.of hB, at_of (j := 2) rfl rfl, _, _, rfl, rfl, _, rfl, b, _, _, 2, rfl, rfl, hB, rfl, ?_⟩
      refine ⟨_, rfl, b, _, _, _, rfl, rfl, SqL.of hB1, at_of (j := 1) rfl rfl, _, rfl, b, _, _, _, rfl, rfl, SqL.of hB1, at_of (j := 2) rfl rfl, _, _, rfl, rfl, .inl ⟨by decide, by decide⟩, _, _, rfl, rfl,
        _, rfl, b, _, _, _, rfl, rfl, SqL.of hB1, at_of (j := 2) rfl rfl, _, _, rfl, rfl, _, _, rfl, rfl, .inl ⟨by omega, by omega⟩, _, _, rfl, rfl, (nz _), ?_⟩
      refine ⟨_, rfl, _, rfl, b, _, _, _, rfl, rfl, SqL.of hB1, at_of (j := 2) rfl rfl, _, _, rfl, rfl, _, rfl, b, _, _, _, rfl, rfl, SqL.of hB1, at_of (j := 1) rfl rfl, _, _, rfl, rfl, ⟨by decide, by decide⟩, _, _, rfl, rfl,
        _, rfl, _, _, rfl, rfl, (nz _), _, _, rfl, rfl, _, _, rfl, rfl, .inl (tw_ok c0 c1 y0 y1), _, _, rfl, rfl, (nz _), ?_⟩
      refine ⟨_, rfl, _, _, rfl, rfl, .inl tw_ok2, _, rfl, _, _, rfl, rfl, _, _, rfl, rfl, (nz _), _, _, rfl, rfl, ⟨by decide, by decide⟩, _, rfl, _, _, rfl, rfl, (by omega), ?_⟩
      exact q _ (c + 1) _ (fm0 (by omega)) (fm1 (by omega)) (by omega) (by omega) (bx_up rfl x0 y0 y1) but_upd
/-! ### _law_of -/
theorem But.seq {b a : Addr} {H H' : Hp} {xs : List V} (e : But b H H') (n : a ≠ b) (h : SqL K H a xs) : SqL K H' a xs := by
  rcases h with (h | ⟨o, h⟩) | h
  · exact .inl (.inl (e _ _ n h))
  · exact .inl (.inr ⟨o, e _ _ n h⟩)
  · exact .inr h
/-! ### _law_cells -/
theorem fm_nat (i m : Nat) : (i : Int).fmod (m : Int) = ((i % m : Nat) : Int) := by
  rw [Int.fmod_eq_emod_of_nonneg _ (Int.natCast_nonneg m)]; exact (Int.natCast_emod i m).symm
theorem cut_to (ns : List Int) (m : Nat) : cutV (ns.map V.int) none (some (m : Int)) = (ns.take m).map V.int := by
  unfold cutV
  rw [HT.sIx_none, HT.sIx_nat, List.length_map, List.drop_zero, Nat.sub_zero, List.map_take]
  by_cases h : m ≤ ns.length
  · rw [Nat.min_eq_left h]
  · rw [Nat.min_eq_right (by omega), List.take_of_length_le (by rw [List.length_map]; exact Nat.le_refl _), List.take_of_length_le (by rw [List.length_map]; omega)]
theorem cut_from (ns : List Int) (m : Nat) (h : ns.length ≤ 63) : cutV (ns.map V.int) (some (m : Int)) (some 63) = (ns.drop m).map V.int := by
  unfold cutV
  have e63 : HT.sIx (ns.map V.int).length (ns.map V.int).length (some 63) = min 63 (ns.map V.int).length := HT.sIx_nat _ _ 63
  rw [HT.sIx_nat, e63, List.length_map, Nat.min_eq_right h, List.map_drop]
  by_cases hm : m ≤ ns.length
  · rw [Nat.min_eq_left hm, List.take_of_length_le (by rw [List.length_drop, List.length_map]; exact Nat.le_refl _)]
  · rw [Nat.min_eq_right (by omega), List.drop_eq_nil_of_le (by rw [List.length_map]; exact Nat.le_refl _), List.drop_eq_nil_of_le (by rw [List.length_map]; omega), List.take_nil]
def cells0 (ns : List Int) (m : Nat) : List Int := if ns.take m = [] then [0] else ns.take m
theorem cells0_pos {ns : List Int} {m : Nat} : 1 ≤ (cells0 ns m).length := by
  unfold cells0
  split
  · exact Nat.le_refl _
  · rename_i h
    exact List.length_pos_iff.mpr h
theorem cells0_le {ns : List Int} {m : Nat} (hm : 1 ≤ m) : (cells0 ns m).length ≤ m := by
  unfold cells0
  split
  · exact hm
  · rw [List.length_take]; omega
theorem cells0_full {ns : List Int} {m : Nat} (hm : 1 ≤ m) (h : m ≤ ns.length) : (cells0 ns m).length = m := by
  unfold cells0
  have e : (ns.take m).length = m := by rw [List.length_take]; omega
  rw [if_neg (fun z => by rw [z] at e; simp at e; omega), e]
def spCells (K : PySem.W.Frag) : Sp := fun vs H Q _ => ∃ (a : Addr) (ns : List Int) (m : Nat), vs = [.ref a, .int (m : Int)] ∧ SqL K H a (ns.map V.int) ∧ ns.length ≤ 63 ∧ 1 ≤ m ∧ m ≤ 63 ∧
  ∀ p (ms : List Int) H', H p = none → Same H H' → H' p = some (.lst (ms.map V.int)) → 1 ≤ ms.length → ms.length ≤ m → Q (.ref p) H'
theorem ok_cells {f : Addr} {fd : FuncData} {n : Nat} (F : Fun K "_law_cells" "_law_cells" sCells f fd) (ml : mg "list" = none) (me : mg "enumerate" = none) : FnOk P w K mg base CX0 (n + 1) f fd ["_law_script", "_law_most"] (spCells K) := by
  refine F.ok scCells (fun vs H Q E h => ?_) (fun cdv A outer s H vs Q E hr h => ?_)
  · obtain ⟨a, ns, m, rfl, _⟩ := h
    rfl
  obtain ⟨a, ns, m, rfl, hS, hn, m1, m2, q⟩ := h
  refine ⟨_, pss_cons (ps_set (i := 2) scCells.nd rfl (Or.inl rfl) (pe_orT (pe_callTy call_list_of rfl ml (by decide +kernel) (pa_cons (pe_slice sl_list (pv 0) po_none (po_some (pv 1))) pa_nil)) (pe_one (pe_lst (pa_cons pe_int pa_nil)))))
    (pss_cons (ps_for PassesOwn.never rfl (pi_enum rfl me (pa_cons (pe_slice sl_list (pv 0) (po_some (pv 1)) (po_some pe_int)) pa_nil)) (pg_tup rfl (pgs_cons (pg_name (i := 3) scCells.nd rfl (Or.inl rfl)) (pgs_cons (pg_name (i := 4) scCells.nd rfl (Or.inl rfl)) pgs_nil)))
      (pss_one (ps_asg (pe_op op_add (pe_ix ix_list (pv 2) (pe_op op_modN (pv 3) (pv 1)) (fun _ _ => rfl)) (pe_op op_mul (pv 4) (pe_op op_add (pv 3) pe_int))) (pg_sub (pv 2) (pe_op op_modN (pv 3) (pv 1)) set_list))))
    (pss_one (ps_ret (pv 2)))), ?_⟩
  refine ⟨_, rfl, _, rfl, _, rfl, a, _, rfl, hS, fun c nc => ?_⟩
  rw [cut_to]
  refine ⟨c, _, rfl, .inl (SqL.of upd_same), fun l nl => ?_⟩
  have sc1 : Same H (upd H c (.lst ((ns.take m).map V.int))) := same_up nc
  have sl1 := sc1.trans (same_up (o := .lst ((ns.take m).map V.int)) nl)
  have nl0 : H l = none := sc1.free nl
  refine ⟨_, .inl ⟨_, SqL.of upd_same, rfl⟩, ?_⟩
  refine ite2 (fun t => ?_) (fun t => ?_)
  rotate_left
  have et : ns.take m = [] := by
    cases e : ns.take m with
    | nil => rfl
    | cons z r => rw [e] at t; exact absurd rfl t
  refine ⟨by show 1 ≤ sizeLine; decide, fun p np => ?_⟩
  have nl0 : H p = none := sl1.free np
  have sl1 := sl1.trans (same_up (o := .lst [.int 0]) np)
  have hp : (upd (upd (upd H c (.lst ((ns.take m).map V.int))) l (.lst ((ns.take m).map V.int))) p (.lst [.int 0])) p = some (.lst ((cells0 ns m).map V.int)) := by rw [upd_same, cells0, if_pos et]; rfl
  generalize upd (upd (upd H c (.lst ((ns.take m).map V.int))) l (.lst ((ns.take m).map V.int))) p (.lst [.int 0]) = H1 at hp sl1 ⊢
  rotate_left
  have et : ns.take m ≠ [] := fun e => by
    rw [e] at t
    exact absurd t (by decide)
  have hp : (upd (upd H c (.lst ((ns.take m).map V.int))) l (.lst ((ns.take m).map V.int))) l = some (.lst ((cells0 ns m).map V.int)) := by rw [upd_same, cells0, if_neg et]
  generalize upd (upd H c (.lst ((ns.take m).map V.int))) l (.lst ((ns.take m).map V.int)) = H1 at hp sl1 ⊢
  obtain ⟨p, ep⟩ : ∃ p, p = l := ⟨_, rfl⟩
  subst ep
  all_goals
    refine ⟨_, rfl, _, rfl, _, rfl, 63, rfl, a, _, rfl, sl1.seq hS, fun d nd => ?_⟩
    rw [cut_from ns m hn]
    have sd := sl1.trans (same_up (o := .lst ((ns.drop m).map V.int)) nd)
    have hd : (upd H1 d (.lst ((ns.drop m).map V.int))) d = some (.lst ((ns.drop m).map V.int)) := upd_same
    have hpd : (upd H1 d (.lst ((ns.drop m).map V.int))) p = some (.lst ((cells0 ns m).map V.int)) := by rw [upd_ne (ne_of_none hp nd)]; exact hp
    have ndp : d ≠ p := (ne_of_none hp nd).symm
    generalize upd H1 d (.lst ((ns.drop m).map V.int)) = H2 at sd hd hpd ⊢
    refine ⟨d, _, rfl, SqL.of hd, for_it walk_enum (fun i σ H3 => ∃ y3 y4, ∃ ms : List Int, σ = [some (.ref a), some (.int (m : Int)), some (.ref p), y3, y4] ∧ Same H H3 ∧ H3 d = some (.lst ((ns.drop m).map V.int)) ∧ H3 p = some (.lst (ms.map V.int)) ∧ ms.length = (cells0 ns m).length)
      ⟨none, none, _, rfl, sd, hd, hpd, rfl⟩ (fun i σ H3 _ ⟨_, _, _, _, _, e, _⟩ => SqL.of e) ?_ ?_⟩
    · rintro i x σ H3 H4 hi ⟨y3, y4, ms, rfl, s3, e3, ep, el⟩ ⟨T, v1, v2, rfl, nT, rfl, f1, f2⟩
      cases f1
      have hi' : i < (ns.drop m).length := by rw [List.length_map] at hi; exact hi
      have f2' : some (V.int (ns.drop m)[i]) = some v2 := by rw [← f2]; show _ = (List.map V.int (List.drop m ns))[i]?; rw [List.getElem?_map, List.getElem?_eq_getElem hi'] <;> rfl
      cases f2'
      rw [List.length_drop] at hi'
      have lm : ms.length = m := by rw [el]; exact cells0_full m1 (by omega)
      have hk : i % m < ms.length := by rw [lm]; exact Nat.mod_lt _ (by omega)
      have hA : atI (ms.map V.int) ((i : Int).fmod (m : Int)) = some (.int ms[i % m]) := at_of (fm_nat i m) (by rw [List.getElem?_map, List.getElem?_eq_getElem hk] <;> rfl)
      have hX : ixN (ms.map V.int).length ((i : Int).fmod (m : Int)) = some (i % m) := by
        rw [fm_nat]
        unfold ixN
        rw [if_pos (Int.natCast_nonneg _), if_pos (by rw [List.length_map]; exact Int.ofNat_lt.mpr hk), Int.toNat_natCast]
      have mz : (m : Int) ≠ 0 := by omega
      have sT : Same H3 (upd H3 T (.tup [.int (i : Int), .int (ns.drop m)[i]])) := same_up nT
      have eT := sT _ _ ep
      refine ⟨T, _, rfl, .inl (.inl upd_same), rfl, _, _, rfl, _, _, rfl, rfl, ?_⟩
      refine ⟨_, rfl, _, rfl, _, rfl, _, _, rfl, rfl, mz, p, _, _, _, rfl, rfl, SqL.of eT, hA, _, rfl, _, rfl, _, _, rfl, rfl, _, _, rfl, rfl, .inr ⟨by omega, by omega⟩, _, _, rfl, rfl, _, rfl, _, rfl, _, rfl, _, _, rfl, rfl, mz, p, _, _, _, rfl, rfl, eT, hX, ?_⟩
      refine ⟨_, _, ms.set (i % m) (ms[i % m] + (ns.drop m)[i] * ((i : Int) + 2)), rfl, fun b z e => ?_, ?_, ?_, ?_⟩
      rotate_left 2
      · rw [upd_same, List.map_set]
      · rw [List.length_set]; exact el
      · rw [upd_ne (ne_of_none e nl0)]; exact sT _ _ (s3 _ _ e)
      · rw [upd_ne ndp]; exact sT _ _ e3
    · rintro σ H3 ⟨y3, y4, ms, rfl, s3, e3, ep, el⟩
      exact ⟨_, rfl, q p ms H3 nl0 s3 ep (by rw [el]; exact cells0_pos) (by rw [el]; exact cells0_le m1)⟩
abbrev p_l_take : List Str := ["_law_box_here", "_law_below"]
/-! the layer's promises of them -/
def domT (ds : List Dt) : Prop := ∃ m : Int, ds = [.int m] ∧ 1 ≤ m ∧ m ≤ 10000000
def postT (ds : List Dt) (d : Dt) : Prop := ∃ m v : Int, ds = [.int m] ∧ d = .int v ∧ 0 ≤ v ∧ v < m
theorem take_B {f : Addr} {fd : FuncData} {n : Nat} {ps : List Str} (C : FnOk P w K mg base CX0 n f fd ps spTake) : FnOk P w K mg base CX0 n f fd ps (spB K 1 domT postT) := C.imp fun vs H Q E h => by
  obtain ⟨G, ds, b, us, y, c, F, rfl, sm, hb, c0, c1, gb, rd, ⟨m, rfl, m1, m2⟩, q⟩ := h
  obtain ⟨x, rfl, e⟩ := rd.one
  have c2 : c + ((F + 1 : Nat) : Int) ≤ 1000000000000 := c1
  refine ⟨b, m, y, c, by rw [show x = V.int m from e], hb, c0, by omega, m1, m2, fun v c' H' v0 v1 e0 e1 hb' bt => ?_⟩
  refine q (.int v) (.int v) G H' y c' ⟨Same.refl _, fun a o z => bt a o (fun w => by rw [w, gb] at z; cases z) (sm _ _ z), bt, fun a h1 h2 => h1⟩ hb' (by omega) ?_ rfl ⟨m, v, rfl, rfl, v0, v1⟩
  show c' + (F : Int) ≤ 1000000000000
  omega
theorem ae_take {ρ : List En} {Ψ : Dt → List En → Prop} {E : XK} {te : TE} {i : Nat} {b : Addr} {f0 : Nat} (e0 : ρ[i]? = some (.bx b f0))
    (h : AE K te ρ fun d ρ1 => ∃ m : Int, d = .int m ∧ 1 ≤ m ∧ m ≤ 10000000 ∧ ∃ F, ρ1[i]? = some (.bx b (F + 1)) ∧ ∀ v : Int, 0 ≤ v → v < m → Ψ (.int v) (ρ1.set i (.bx b F))) : AE K (tCall (spB K 1 domT postT) [] E (tCons (tVar i) (tCons te tNil))) ρ Ψ :=
  ae_draw e0 (aa_cons (ae_mono h fun d ρ1 ⟨m, e, m1, m2, F, e1, k⟩ => aa_nil ⟨⟨m, by rw [e], m1, m2⟩, F, e1, fun d' hp => by
    obtain ⟨m', v, z1, z2, z3, z4⟩ := hp
    rw [e] at z1
    cases z1
    rw [z2]; exact k v z3 z4⟩))
def domO (ds : List Dt) : Prop := ∃ k l, ds = [sq k l] ∧ 1 ≤ l.length ∧ l.length ≤ 1000
def postO (ds : List Dt) (d : Dt) : Prop := ∀ k l, ds = [sq k l] → d ∈ l
theorem sq_inj {k k' : Bool} {l l' : List Dt} (h : sq k l = sq k' l') : l = l' := by
  cases k <;> cases k' <;> first | (cases h; rfl) | (exact absurd h (fun z => nomatch z))
theorem ae_ofL {ρ : List En} {Ψ : Dt → List En → Prop} {E : XK} {te : TE} {i : Nat} {b : Addr} {f0 : Nat} (e0 : ρ[i]? = some (.bx b f0))
    (h : AE K te ρ fun d ρ1 => ∃ l, d = .lst l ∧ 1 ≤ l.length ∧ l.length ≤ 1000 ∧ ∃ F, ρ1[i]? = some (.bx b (F + 1)) ∧ ∀ d, d ∈ l → Ψ d (ρ1.set i (.bx b F))) : AE K (tCall (spB K 1 domO postO) [] E (tCons (tVar i) (tCons te tNil))) ρ Ψ :=
  ae_draw e0 (aa_cons (ae_mono h fun d ρ1 ⟨l, e, m1, m2, F, e1, k⟩ => aa_nil ⟨⟨false, l, by rw [e]; rfl, m1, m2⟩, F, e1, fun d' hp => k d' (hp false l (by rw [e]; rfl))⟩))
abbrev s_l_of : Stmt := topS 18
abbrev N_l_of : List Str := ["_law_box_here", "_law_some"]
abbrev p_l_of : List Str := ["_law_box_here", "_law_some"]
theorem sc_l_of : FnScope N_l_of p_l_of (defScope s_l_of) := ⟨rfl, rfl, rfl, by decide +kernel, rfl, by decide +kernel, by decide +kernel⟩
theorem ok_l_of (bl : Blts mg) {g_l_take : Addr} {d_l_take : FuncData} (c_l_take : Cal P w K mg base 2 "_law_take" p_l_take (spB K 1 domT postT) g_l_take d_l_take)  {f : Addr} {fd : FuncData} (F : Fun K "_law_of" "_law_of" s_l_of f fd) : FnOk P w K mg base CX0 3 f fd p_l_of (spB K 1 (domO) (postO)) := by
  refine okB F sc_l_of (fun ds h => ?_) (fun cdv A outer s H E hr ds h => ?_)
  · obtain ⟨k, l, rfl, l0, l1⟩ := h
    rfl
  obtain ⟨k, l, rfl, l0, l1⟩ := h
  refine ⟨_, (pss_one (ps_ret (pe_ix ix_seq (pv 1) (pe_call c_l_take.ok (hr.mono (by decide)) rfl c_l_take.mg c_l_take.kp c_l_take.bi .nil pass0 (pa_cons (pv 0) (pa_cons (pe_callB call_len_seq rfl bl.len (by decide +kernel) (pa_cons (pv 1) pa_nil)) pa_nil))) (fun _ _ => rfl)))), fun b F => ?_⟩
  change AS K _ [En.bx _ _, En.da _] _ _
  try simp only [cxOf_K, cxOf_w]
  repeat' (first
    | ((with_reducible apply ae_take); · rfl)
    | with_reducible apply ac_len
    | refine ⟨_, rfl, by omega, by omega, _, rfl, fun v v0 v1 => ?_⟩
    | with_reducible apply as_ret
    | ((with_reducible apply ae_var); · rfl)
    | with_reducible apply ae_op
    | with_reducible apply aa_nil
    | with_reducible apply aa_cons
    | with_reducible apply ae_cb
    | fail)
  have hv : v.toNat < l.length := by omega
  have ev : v = ((v.toNat : Nat) : Int) := by omega
  refine ar_ix (d := l[v.toNat]) ?_ ?_
  · have e := atI_nat (List.getElem?_eq_getElem hv)
    rw [← ev] at e; exact e
  · refine ⟨fun k' l' z => ?_, _, rfl, Nat.le_refl _⟩
    rw [← sq_inj (List.cons.inj z).1]
    exact List.getElem_mem hv
end
end Sh
set_option Elab.async false
set_option linter.all false
set_option maxRecDepth 100000
set_option maxHeartbeats 4000000
namespace Sh
open PySem PySem.Spec PyProof.Rows L2
section
variable {K : PySem.W.Frag} {ρ : List En} {N : List En → Prop} {R : Dt → List En → Prop} {Φ : Dt → Prop}
/-- x, xs = e, [..]: the list will change -/
theorem as_parO {te : TE} {ta : TA} {i j : Nat} (h : AE K te ρ fun d ρ1 => AA K ta ρ1 fun es ρ2 => es.length ≤ sizeLine ∧ N ((ρ2.set i (.da d)).set j (.own es))) : AS K (tPar i j (tCons te (tCons (tLst ta) tNil))) ρ N R := fun B σ G H m D qn qr =>
  h B σ G H m _ fun v d ρ1 G1 H1 m1 s1 t1 r1 h1 => h1 B σ G1 H1 m1 _ fun vs es ρ2 G2 H2 m2 s2 t2 r2 h2 =>
    ⟨by rw [r2.length]; exact h2.1, fun p hp => ⟨v, .ref p, rfl, qn _ _ G2 _ ((m2.set i (r1.same s2)).setOwn j hp r2) (s1.trans s2) ((t1.trans t2).trans (Tr.same (same_up hp))) h2.2⟩⟩
end
end Sh
set_option Elab.async false
set_option linter.all false
set_option maxRecDepth 100000
set_option maxHeartbeats 4000000
namespace Sh
open PySem PySem.Spec PyProof.Rows L2
section
variable {K : PySem.W.Frag} {ρ : List En} {Ψ : Dt → List En → Prop} {ΨT : Bool → List En → Prop} {ΨA : List Dt → List En → Prop} {N : List En → Prop} {R : Dt → List En → Prop} {Φ : Dt → Prop}
theorem wipe2 {σ : L2.St} {vs vs1 : List Nat} (hv : ∀ i ∈ vs1, i ∈ vs) : L2.wipe (L2.wipe σ vs1) vs = L2.wipe σ vs := Off.wipe (vs := vs) ⟨wipe_length σ vs1, fun i h => wipe_out fun z => h (hv i z)⟩
/-- [e for .. in .. for .. in ..] -/
theorem ae_lc2 {wi wi1 : TI} {g g1 : TG} {tt tt1 : TT} {te : TE} {vs vs1 : List Nat} (hv : ∀ i ∈ vs1, i ∈ vs)
    (h : AI K wi ρ fun l ρ1 => ∃ I : Nat → List Dt → List En → Prop, I 0 [] (wipeE ρ1 vs) ∧
      (∀ i d acc ρ2, l[i]? = some d → I i acc ρ2 → AGv K vs g d ρ2 fun ρ3 => AT K tt ρ3 fun b ρ4 =>
        (b = true → AI K wi1 ρ4 fun l1 ρ5 => ∃ I1 : Nat → List Dt → List En → Prop, I1 0 acc (wipeE ρ5 vs1) ∧
          (∀ j d1 acc1 ρ6, l1[j]? = some d1 → I1 j acc1 ρ6 → AGv K vs1 g1 d1 ρ6 fun ρ7 => AT K tt1 ρ7 fun b1 ρ8 => (b1 = true → AE K te ρ8 fun e ρ9 => acc1.length < sizeLine ∧ I1 (j + 1) (acc1 ++ [e]) (wipeE ρ9 vs1)) ∧ (b1 = false → I1 (j + 1) acc1 (wipeE ρ8 vs1))) ∧
          ∀ acc1 ρ6, I1 l1.length acc1 ρ6 → I (i + 1) acc1 (wipeE ρ6 vs)) ∧
        (b = false → I (i + 1) acc (wipeE ρ4 vs))) ∧
      ∀ acc ρ2, I l.length acc ρ2 → (∀ i ∈ vs, i < ρ2.length → ρ2[i]? = some En.no) ∧ Ψ (.lst acc) ρ2) : AE K (tLc2 wi g tt wi1 g1 tt1 te vs vs1) ρ Ψ := fun B σ G H m Q q =>
  h B σ G H m _ fun J l ρ1 G1 H1 m1 s1 t1 w ⟨I, i0, is, ie⟩ => fun D hD => by
    have back : ∀ {vs : List Nat} {σ2 σ : L2.St} {ρ2 : List En} {B' : Addr → Prop} {G2 H2 : Hp}, L2.wipe σ2 vs = L2.wipe σ vs → Mt K B' ρ2 σ2 G2 H2 → Mt K B' (wipeE ρ2 vs) (L2.wipe σ vs) G2 H2 := fun {vs} _ _ _ _ _ _ e m2 => by
      rw [← e]; exact m2.wipe vs
    have mg := m1.guard (o := .lst []) hD
    have fin : ∀ H2, (∃ (acc : List Dt) (xs : List V) (ρ2 : List En) (G2 : Hp), Mt K (fun a => B a ∨ a = D) ρ2 (L2.wipe σ vs) G2 H2 ∧ Same G1 G2 ∧ Tr B H1 H2 ∧ H2 D = some (.lst xs) ∧ RDs K G2 acc xs ∧ I l.length acc ρ2) → Q (.ref D) H2 := by
      rintro H2 ⟨acc, xs, ρ2, G2, m2, s2, t2, e2, r2, p⟩
      obtain ⟨hn, hp⟩ := ie acc ρ2 p
      have m3 : Mt K (fun a => B a ∨ a = D) ρ2 σ G2 H2 := m2.other (wipe_length σ vs).symm fun i => by
        by_cases hi : i ∈ vs
        · by_cases lt : i < ρ2.length
          · exact .inl (hn i hi lt)
          · exact .inr (by rw [List.getElem?_eq_none (by have := m2.len; rw [wipe_length] at this; omega), List.getElem?_eq_none (by have := m2.len; omega)])
        · exact .inr (wipe_out hi).symm
      have nD : G2 D = none := (m2.pro D (.inr rfl)).1
      have mB : Mt K B ρ2 σ G2 H2 := m3.less fun a b => .inl b
      -- the new list becomes data
      have sg : Same G2 (upd G2 D (.lst xs)) := same_up nD
      have mF : Mt K B ρ2 σ (upd G2 D (.lst xs)) H2 := ⟨fun a o z => by
          by_cases w : a = D
          · subst w; rw [upd_same] at z; cases z; exact e2
          · rw [upd_ne w] at z; exact m2.sub _ _ z,
        fun a b => ⟨by rw [upd_ne (fun w => (m1.pro a b).2 (by rw [w]; exact hD))]; exact (mB.pro a b).1, (mB.pro a b).2⟩, mB.len, fun i d e => by
          obtain ⟨v, z1, z2⟩ := mB.da i d e
          exact ⟨v, z1, z2.same sg⟩, fun i k e => by
          obtain ⟨q', ys, z1, z2, z3, z4, z5⟩ := m3.own i k e
          exact ⟨q', ys, z1, z2, z3.same sg, by rw [upd_ne (fun w => z5 (.inr w))]; exact z4, fun b => z5 (.inl b)⟩, fun i b f e => by
          obtain ⟨y, c, z1, z2, z3, z4, z5, z6⟩ := m3.bx i b f e
          exact ⟨y, c, z1, z2, z3, z4, by rw [upd_ne (fun w => z6 (.inr w))]; exact z5, fun b => z6 (.inl b)⟩, mB.dis⟩
      exact q _ (.lst acc) ρ2 _ H2 mF ((s1.trans s2).trans sg) (t1.trans t2) ⟨D, xs, rfl, upd_same, r2.same sg⟩ hp
    let P : Nat → Hp → Prop := fun i H2 => ∃ (acc : List Dt) (xs : List V) (ρ2 : List En) (G2 : Hp), Mt K (fun a => B a ∨ a = D) ρ2 (L2.wipe σ vs) G2 H2 ∧ Same G1 G2 ∧ Tr B H1 H2 ∧ H2 D = some (.lst xs) ∧ RDs K G2 acc xs ∧ I i acc ρ2
    refine ⟨fun i m H => m = l.length - i ∧ i ≤ l.length ∧ P i H, ⟨l.length, rfl, Nat.zero_le _, [], [], wipeE ρ1 vs, G1, mg.wipe vs, Same.refl _, Tr.same (same_up hD), upd_same, rfl, i0⟩, ?_⟩
    rintro i mm H2 ⟨rfl, hi, pp⟩
    obtain ⟨acc, xs, ρ2, G2, m2, s2, t2, e2, r2, p⟩ := id pp
    have q0 : Same G1 H2 := s2.trans m2.sub
    by_cases hlt : i < l.length
    · refine .inr ⟨w.walk.goes i H2 hlt q0, P (i + 1), fun H' p' => ⟨l.length - (i + 1), by omega, rfl, hlt, p'⟩, fun x H3 y => ?_⟩
      obtain ⟨G3, d, n3, hd, rd⟩ := (w.walk.yields i H2 x H3 hlt q0 y) G2 s2 m2.sub
      have m3 := m2.nw n3
      refine is i d acc ρ2 hd p _ (L2.wipe σ vs) G3 H3 m3 x rd _ fun σ4 ρ4 G4 H4 m4 s4 t4 o4 h4 => ?_
      have ew : L2.wipe σ4 vs = L2.wipe σ vs := by
        rw [o4.wipe]
        exact (Off.wipe (wipe_off vs σ)).symm
      have e3 := n3.h _ _ e2
      have e4 := t4 _ _ (.inr rfl) e3
      have tB3 : Tr B H1 H4 := (t2.trans (Tr.same n3.h)).trans fun a o b e => t4 a o (.inl b) e
      refine ⟨ew, ?_⟩
      refine h4 _ σ4 G4 H4 m4 _ fun b ρ5 G5 H5 m5 s5 t5 h5 => ?_
      have e5 := t5 _ _ (.inr rfl) e4
      have tB5 : Tr B H1 H5 := tB3.trans fun a o b e => t5 a o (.inl b) e
      have s15 : Same G1 G5 := ((s2.trans n3.g).trans s4).trans s5
      have r5 : RDs K G5 acc xs := ((r2.same n3.g).same s4).same s5
      cases b
      · rw [if_neg (by decide)]
        exact ⟨acc, xs, wipeE ρ5 vs, G5, back ew m5, s15, tB5, e5, r5, h5.2 rfl⟩
      · rw [if_pos rfl]
        refine h5.1 rfl _ σ4 G5 H5 m5 _ fun J1 l1 ρ6 G6 H6 m6 s6 t6 w1 ⟨I1, j0, js, je⟩ => ?_
        have e6 := t6 _ _ (.inr rfl) e5
        have tB6 : Tr B H1 H6 := tB5.trans fun a o b e => t6 a o (.inl b) e
        let P1 : Nat → Hp → Prop := fun j H7 => ∃ (acc1 : List Dt) (xs1 : List V) (ρ7 : List En) (G7 : Hp), Mt K (fun a => B a ∨ a = D) ρ7 (L2.wipe σ4 vs1) G7 H7 ∧ Same G6 G7 ∧ Tr B H1 H7 ∧ H7 D = some (.lst xs1) ∧ RDs K G7 acc1 xs1 ∧ I1 j acc1 ρ7
        refine ⟨fun j m H => m = l1.length - j ∧ j ≤ l1.length ∧ P1 j H, ⟨l1.length, rfl, Nat.zero_le _, acc, xs, wipeE ρ6 vs1, G6, m6.wipe vs1, Same.refl _, tB6, e6, r5.same s6, j0⟩, ?_⟩
        rintro j k H7 ⟨rfl, hj, acc1, xs1, ρ7, G7, m7, s7, t7, e7, r7, p7⟩
        have q1 : Same G6 H7 := s7.trans m7.sub
        by_cases hlt1 : j < l1.length
        · refine .inr ⟨w1.walk.goes j H7 hlt1 q1, P1 (j + 1), fun H' p' => ⟨l1.length - (j + 1), by omega, rfl, hlt1, p'⟩, fun x1 H8 y1 => ?_⟩
          obtain ⟨G8, d1, n8, hd1, rd1⟩ := (w1.walk.yields j H7 x1 H8 hlt1 q1 y1) G7 s7 m7.sub
          have m8 := m7.nw n8
          refine js j d1 acc1 ρ7 hd1 p7 _ (L2.wipe σ4 vs1) G8 H8 m8 x1 rd1 _ fun σ9 ρ9 G9 H9 m9 s9 t9 o9 h9 => ?_
          have ew1 : L2.wipe σ9 vs1 = L2.wipe σ4 vs1 := by
            rw [o9.wipe]
            exact (Off.wipe (wipe_off vs1 σ4)).symm
          have e8 := n8.h _ _ e7
          have e9 := t9 _ _ (.inr rfl) e8
          have tB9 : Tr B H1 H9 := (t7.trans (Tr.same n8.h)).trans fun a o b e => t9 a o (.inl b) e
          refine ⟨ew1, ?_⟩
          refine h9 _ σ9 G9 H9 m9 _ fun b1 ρ10 G10 H10 m10 s10 t10 h10 => ?_
          have e10 := t10 _ _ (.inr rfl) e9
          have tB10 : Tr B H1 H10 := tB9.trans fun a o b e => t10 a o (.inl b) e
          have s610 : Same G6 G10 := ((s7.trans n8.g).trans s9).trans s10
          have r10 : RDs K G10 acc1 xs1 := ((r7.same n8.g).same s9).same s10
          cases b1
          · rw [if_neg (by decide)]
            exact ⟨acc1, xs1, wipeE ρ10 vs1, G10, back ew1 m10, s610, tB10, e10, r10, h10.2 rfl⟩
          · rw [if_pos rfl]
            refine h10.1 rfl _ σ9 G10 H10 m10 _ fun v e ρ11 G11 H11 m11 s11 t11 r11 h11 => ?_
            have e11 := t11 _ _ (.inr rfl) e10
            have rr : RDs K G11 acc1 xs1 := r10.same s11
            refine ⟨xs1, e11, by rw [rr.length]; exact h11.1, acc1 ++ [e], xs1 ++ [v], wipeE ρ11 vs1, G11, (back ew1 m11).turn (.inr rfl), s610.trans s11, ?_, upd_same, rr.snoc r11, h11.2⟩
            intro a o b z
            have z1 := t11 a o (.inl b) (tB10 a o b z)
            rw [upd_ne (fun z' => (m1.pro a b).2 (by rw [z']; exact hD))]; exact z1
        · have ej : j = l1.length := by omega
          subst ej
          have mw : Mt K (fun a => B a ∨ a = D) (wipeE ρ7 vs) (L2.wipe σ vs) G7 H7 := back (by rw [wipe2 hv]; exact ew) m7
          exact .inl ⟨w1.walk.stops H7 q1, acc1, xs1, wipeE ρ7 vs, G7, mw, (s15.trans s6).trans s7, t7, e7, r7, je acc1 ρ7 p7⟩
    · have ei : i = l.length := by omega
      subst ei
      exact .inl ⟨w.walk.stops H2 q0, fin H2 pp⟩
end
end Sh
set_option Elab.async false
set_option linter.all false
set_option maxRecDepth 100000
set_option maxHeartbeats 4000000
set_option Elab.async false
set_option linter.all false
set_option maxRecDepth 100000
set_option maxHeartbeats 4000000
namespace Sh
open PySem PySem.Spec PyProof.Rows L2
section
variable {K : PySem.W.Frag} {ρ : List En} {N : List En → Prop} {R : Dt → List En → Prop} {Φ : Dt → Prop}
theorem ae_lc2Map {Ψ : Dt → List En → Prop} {wi wi1 : TI} {g g1 : TG} {te : TE} {vs vs1 : List Nat} (f : Dt → Dt → Dt) (L1 : Dt → List Dt) (hv : ∀ i ∈ vs1, i ∈ vs)
    (h : AI K wi ρ fun l ρ1 => (l.flatMap fun d => (L1 d).map (f d)).length < sizeLine ∧ (∀ d ∈ l, AGv K vs g d (wipeE ρ1 vs) fun ρ3 => AI K wi1 ρ3 fun l1 ρ4 => l1 = L1 d ∧ wipeE (wipeE ρ4 vs1) vs = wipeE ρ1 vs ∧ ∀ d1 ∈ L1 d, AGv K vs1 g1 d1 (wipeE ρ4 vs1) fun ρ5 => AE K te ρ5 fun e ρ6 => e = f d d1 ∧ wipeE ρ6 vs1 = wipeE ρ4 vs1) ∧ Ψ (.lst (l.flatMap fun d => (L1 d).map (f d))) (wipeE ρ1 vs)) : AE K (tLc2 wi g tYes wi1 g1 tYes te vs vs1) ρ Ψ := by
  refine ae_lc2 hv (fun B σ G H m R q => h B σ G H m R fun J l ρ1 G1 H1 m1 s1 t1 w ⟨h1, h2, h3⟩ => q J l ρ1 G1 H1 m1 s1 t1 w ⟨fun i acc ρ2 => i ≤ l.length ∧ acc = ((l.take i).flatMap fun d => (L1 d).map (f d)) ∧ ρ2 = wipeE ρ1 vs, ⟨Nat.zero_le _, rfl, rfl⟩, ?_, ?_⟩)
  · rintro i d acc ρ2 hd ⟨hi, rfl, rfl⟩
    have lt := (List.getElem?_eq_some_iff.mp hd).1
    have hm := List.mem_of_getElem? hd
    have cut : l.flatMap (fun d => (L1 d).map (f d)) = (l.take i).flatMap (fun d => (L1 d).map (f d)) ++ ((L1 d).map (f d) ++ (l.drop (i + 1)).flatMap fun d => (L1 d).map (f d)) := by
      have e : l = l.take i ++ d :: l.drop (i + 1) := by
        have e1 := (List.getElem?_eq_some_iff.mp hd).2
        rw [← e1, ← List.drop_eq_getElem_cons lt, List.take_append_drop]
      conv => lhs; rw [e, List.flatMap_append, List.flatMap_cons]
    rw [cut, List.length_append, List.length_append] at h1
    intro B σ G H m v r Q q
    refine h2 d hm B σ G H m v r Q fun σ' ρ' G' H' m' s t o p => q σ' ρ' G' H' m' s t o (at_yes ⟨fun _ => ?_, fun z => nomatch z⟩)
    intro B2 σ2 G2 H2 m2 R2 q2
    refine p B2 σ2 G2 H2 m2 R2 fun J1 l1 ρ4 G4 H4 m4 s4 t4 w4 ⟨e1, e2, k⟩ => q2 J1 l1 ρ4 G4 H4 m4 s4 t4 w4 ?_
    subst e1
    refine ⟨fun j acc1 ρ6 => j ≤ (L1 d).length ∧ acc1 = ((l.take i).flatMap fun d => (L1 d).map (f d)) ++ ((L1 d).take j).map (f d) ∧ ρ6 = wipeE ρ4 vs1, ⟨Nat.zero_le _, by simp, rfl⟩, ?_, ?_⟩
    · rintro j d1 acc1 ρ6 hd1 ⟨hj, rfl, rfl⟩
      have lt1 := (List.getElem?_eq_some_iff.mp hd1).1
      have hm1 := List.mem_of_getElem? hd1
      intro B5 σ5 G5 H5 m5 v5 r5 Q5 q5
      refine k d1 hm1 B5 σ5 G5 H5 m5 v5 r5 Q5 fun σ' ρ' G' H' m' s t o p => q5 σ' ρ' G' H' m' s t o (at_yes ⟨fun _ => ?_, fun z => nomatch z⟩)
      refine ae_mono p fun e ρ9 ⟨z1, z2⟩ => ⟨?_, lt1, ?_, z2⟩
      · rw [List.length_append, List.length_map, List.length_take]
        rw [List.length_map] at h1
        have := Nat.min_le_right j (L1 d).length
        omega
      · rw [z1, List.take_succ, hd1, List.map_append, List.append_assoc]; rfl
    · rintro acc1 ρ6 ⟨_, rfl, rfl⟩
      refine ⟨lt, ?_, e2⟩
      rw [List.take_length, List.take_succ, hd, List.flatMap_append]
      simp
  · rintro acc ρ2 ⟨_, rfl, rfl⟩
    refine ⟨fun i hi lt => wipe_no hi (by rw [wipeE_len] at lt; exact lt), ?_⟩
    rw [List.take_length]; exact h3
end
end Sh
set_option Elab.async false
set_option linter.all false
set_option maxRecDepth 100000
set_option maxHeartbeats 4000000
set_option Elab.async false
set_option linter.all false
set_option maxRecDepth 100000
set_option maxHeartbeats 4000000
/-! a pair backwards, extend of a list of one's own, None in a list -/
set_option Elab.async false
set_option linter.all false
set_option maxRecDepth 100000
set_option maxHeartbeats 4000000
/-! texts: join of a list backwards, f-strings, str, a loop that is not entered, a name that stands for a number, or of tuples -/
set_option Elab.async false
set_option linter.all false
set_option maxRecDepth 100000
set_option maxHeartbeats 4000000
set_option Elab.async false
set_option linter.all false
set_option maxRecDepth 100000
set_option maxHeartbeats 4000000
/-! gcd of three, is True, slices of four -/
namespace Sh
open PySem PySem.Spec PyProof.Rows L2 PySem.Calls PySem.W
def g3 (a b c : Int) : Int := (((Nat.gcd a.natAbs b.natAbs).gcd c.natAbs : Nat) : Int)
section
variable {K : PySem.W.Frag} {ρ : List En} {Ψ : Dt → List En → Prop} {Φ : Dt → Prop}
theorem ar_notBl {a b : Bool} (h : Φ (.bl (!decide (a = b)))) : AR K rNotB (.bl a) (.bl b) Φ := fun G H s x y r1 r2 Q q => by
  cases (show x = V.bl a from r1)
  cases (show y = V.bl b from r2)
  exact ⟨a, b, rfl, rfl, q _ (.bl (!decide (a = b))) G H (Nw.refl s) rfl h⟩
end
end Sh
set_option Elab.async false
set_option linter.all false
set_option maxRecDepth 100000
set_option maxHeartbeats 4000000
/-! loops by a measure, quotients by great numbers, chains of comparisons, gcd of two -/
set_option Elab.async false
set_option linter.all false
set_option maxRecDepth 100000
set_option maxHeartbeats 4000000
set_option Elab.async false
set_option linter.all false
set_option maxRecDepth 100000
set_option maxHeartbeats 4000000
set_option Elab.async false
set_option linter.all false
set_option maxRecDepth 100000
set_option maxHeartbeats 4000000
/-! tuple(map(f, xs)), f a def of one's own that may lay out -/
namespace MpT
open PySem PySem.Spec PyProof.Rows L2 FbM
theorem Vals.snoc {xs : List V} {us : List Value} {x : V} {u : Value} (r : Vals xs us) (q : RelV x u) : Vals (xs ++ [x]) (us ++ [u]) := r.append (.cons q .nil)
end MpT
set_option Elab.async false
set_option linter.all false
set_option maxRecDepth 100000
set_option maxHeartbeats 4000000
set_option Elab.async false
set_option linter.all false
set_option maxRecDepth 100000
set_option maxHeartbeats 4000000
namespace Sh
open PySem PySem.Spec PyProof.Rows L2
section
variable {K : PySem.W.Frag} {ρ : List En} {Ψ : Dt → List En → Prop} {ΨT : Bool → List En → Prop} {Φ : Dt → Prop} {N : List En → Prop} {R : Dt → List En → Prop}
/-! slices with any bounds -/
def AO (K : PySem.W.Frag) (to : TO) (ρ : List En) (Φo : Option Int → List En → Prop) : Prop := ∀ B σ G H, Mt K B ρ σ G H → ∀ Q : Option Int → Hp → Prop, (∀ o ρ' G' H', Mt K B ρ' σ G' H' → Same G G' → Tr B H H' → Φo o ρ' → Q o H') → to σ H Q
def cutD (l : List Dt) (lo hi : Option Int) : List Dt := (l.drop (HT.sIx l.length 0 lo)).take (HT.sIx l.length l.length hi - HT.sIx l.length 0 lo)
theorem RDs.cut {G : Hp} {l : List Dt} {xs : List V} {lo hi : Option Int} (r : RDs K G l xs) : RDs K G (cutD l lo hi) (cutV xs lo hi) := by
  unfold cutD cutV
  rw [r.length]
  exact (r.drop _).take _
theorem ao_none {Φo : Option Int → List En → Prop} (k : Φo none ρ) : AO K (fun _ H Q => Q none H) ρ Φo := fun B σ G H m Q q => q none ρ G H m (Same.refl _) Tr.refl k
theorem ao_some {te : TE} {Φo : Option Int → List En → Prop} (h : AE K te ρ fun d ρ1 => ∃ i : Int, d = .int i ∧ Φo (some i) ρ1) : AO K (tPart te) ρ Φo := fun B σ G H m Q q =>
  h B σ G H m _ fun v d ρ1 G1 H1 m1 s1 t1 r1 ⟨i, ed, k⟩ => by
    subst ed
    exact ⟨i, r1, q _ ρ1 G1 H1 m1 s1 t1 k⟩
theorem ae_slD {te : TE} {tl th : TO} (h : AE K te ρ fun d ρ1 => ∃ l, d = .lst l ∧ AO K tl ρ1 fun lo ρ2 => AO K th ρ2 fun hi ρ3 => Ψ (.lst (cutD l lo hi)) ρ3) : AE K (tSl (rSlL K) te tl th) ρ Ψ := fun B σ G H m Q q =>
  h B σ G H m _ fun v d ρ1 G1 H1 m1 s1 t1 r1 ⟨l, ed, h1⟩ => h1 B σ G1 H1 m1 _ fun lo ρ2 G2 H2 m2 s2 t2 h2 => h2 B σ G2 H2 m2 _ fun hi ρ3 G3 H3 m3 s3 t3 k => by
    subst ed
    obtain ⟨p, xs, rfl, hp, r⟩ := r1
    have hp3 := s3 _ _ (s2 _ _ hp)
    refine ⟨p, _, rfl, SqL.of (m3.sub _ _ hp3), fun p' hp' => ?_⟩
    have nw := Nw.new (o := .lst (cutV xs lo hi)) m3.sub hp'
    exact q _ (.lst (cutD l lo hi)) ρ3 _ _ (m3.nw nw) (((s1.trans s2).trans s3).trans nw.g) (((t1.trans t2).trans t3).trans (Tr.same nw.h)) ⟨p', _, rfl, upd_same, ((r.same (s2.trans s3)).cut).same nw.g⟩ k
end
end Sh
set_option Elab.async false
set_option linter.all false
set_option maxRecDepth 100000
set_option maxHeartbeats 4000000
set_option Elab.async false
set_option linter.all false
set_option maxRecDepth 100000
set_option maxHeartbeats 4000000
/-! list(zip(xs, ys)), of two lists -/
namespace Sh
open PySem PySem.Spec PyProof.Rows L2
/-- new pairs, laid one after another -/
inductive NP : Hp → List V → List (V × V) → Hp → Prop where
  | nil {H : Hp} : NP H [] [] H
  | snoc {H H' : Hp} {ts : List V} {ps : List (V × V)} {T : Addr} {x y : V} : NP H ts ps H' → H' T = none → NP H (ts ++ [.ref T]) (ps ++ [(x, y)]) (upd H' T (.tup [x, y]))
theorem NP.len {H H' : Hp} {ts : List V} {ps : List (V × V)} (h : NP H ts ps H') : ts.length = ps.length := by
  induction h with
  | nil => rfl
  | snoc _ _ ih => rw [List.length_append, List.length_append, ih]; rfl
theorem NP.same {H H' : Hp} {ts : List V} {ps : List (V × V)} (h : NP H ts ps H') : Same H H' := by
  induction h with
  | nil => exact Same.refl _
  | snoc _ n ih => exact ih.trans (same_up n)
end Sh
set_option Elab.async false
set_option linter.all false
set_option maxRecDepth 100000
set_option maxHeartbeats 4000000
set_option Elab.async false
set_option linter.all false
set_option maxRecDepth 100000
set_option maxHeartbeats 4000000
/-! a range as a value, walked more than once -/
namespace Sh
open PySem PySem.Spec PyProof.Rows L2
section
variable {X : Cx} {tg : Expr}
theorem cr_range1 : CallR X (.type "range") (fun vs H Q => ∃ j, vs = [V.int j] ∧ ∀ p, H p = none → Q (.ref p) (upd H p (.rng 0 j))) := by
  intro pins s σ H vs us Q I r h
  obtain ⟨j, rfl, q⟩ := h
  obtain ⟨u1, rfl, ri⟩ := vals1 r
  obtain ⟨t, rfl⟩ := ri
  refine call_range_1 ⟨.ref s.heap.objs.size, upd H s.heap.objs.size (.rng 0 j), I.laid (t' := s.toks + 1 + 1) (fun b o e => Heap.get?_push_of_some _ e) (Nat.le_refl _) ?_, rfl, q _ (I.hok.fresh (Nat.le_refl _))⟩
  exact ⟨s.toks, t, s.toks + 1, Heap.get?_push_size _ rfl⟩
def iRngV (te : TE) : TI := fun σ H R => te σ H fun x H1 => ∃ a lo hi, x = V.ref a ∧ H1 a = some (.rng lo hi) ∧ (-(2 ^ 62) ≤ lo ∧ lo < 2 ^ 62 ∧ -(2 ^ 62) ≤ hi ∧ hi < 2 ^ 62) ∧ R (Itr lo (hi - lo).toNat) H1
theorem pi_rngV {e : Expr} {te : TE} (he : PE X e te) : PI X tg e (iRngV te) := by
  refine ⟨fun pins s σ H R I h => ?_⟩
  refine thn (he.run pins s σ H _ I h) fun u s1 ⟨x, H1, I1, r1, q1⟩ => ?_
  obtain ⟨a, lo, hi, rfl, ha, ⟨b1, b2, b3, b4⟩, q⟩ := q1
  obtain rfl : u = Value.ref a := r1
  obtain ⟨t, u, v, hr⟩ := I1.hok a _ ha
  refine wpAny_pyIter_range (show IsRange s1.heap a lo hi 1 t u v from hr) (small_one b1 b2 b3 b4) ?_
  refine ⟨s1.heap.objs.size, [s1.heap.objs.size], _, _, H1, rfl, I1.kept (t' := s1.toks) fun b o e => Heap.get?_push_of_some _ e, turn_range _ lo (hi - lo).toNat, ?_, fun b hb => ?_, q⟩
  · have e1 : lo + ((0 : Nat) : Int) * 1 = lo := by simp
    have e2 : (((hi - lo).toNat : Nat) : Int) - ((0 : Nat) : Int) = Builtin.Range.rangeSize lo hi 1 := by rw [rangeSize_one]; split <;> omega
    show IsRangeIter _ _ (lo + ((0 : Nat) : Int) * 1) ((((hi - lo).toNat : Nat) : Int) - ((0 : Nat) : Int)) 1
    rw [e1, e2]
    exact Heap.get?_push_size _ rfl
  · have e : b = s1.heap.objs.size := by simpa using hb
    subst e
    exact I1.fpOk (Nat.le_refl _) (I1.hok.fresh (Nat.le_refl _))
end
end Sh
set_option Elab.async false
set_option linter.all false
set_option maxRecDepth 100000
set_option maxHeartbeats 4000000
namespace Sh
open PySem PySem.Spec PyProof.Rows L2
abbrev s_shorten : Stmt := topS 13
abbrev N_shorten : List Str := ["ways", "many", "via", "onward", "i", "row", "j"]
abbrev p_shorten : List Str := ["ways"]
theorem sc_shorten : FnScope N_shorten p_shorten (defScope s_shorten) := ⟨rfl, rfl, rfl, by decide +kernel, rfl, by decide +kernel, by decide +kernel⟩
abbrev Mx := Fw.Mx
def ov : Option Int → V
  | none => .non
  | some x => .int x
def rowV (n : Nat) (M : Mx) (k : Nat) : List V := (List.range n).map fun j => ov (M k j)
theorem rowV_len {n : Nat} {M : Mx} {k : Nat} : (rowV n M k).length = n := by unfold rowV; rw [List.length_map, List.length_range]
theorem rowV_at {n : Nat} {M : Mx} {k j : Nat} (h : j < n) : (rowV n M k)[j]? = some (ov (M k j)) := by
  unfold rowV; rw [List.getElem?_map, List.getElem?_range h]; rfl
theorem rowV_set {n : Nat} {M : Mx} {i j : Nat} {x : Int} : (rowV n M i).set j (.int x) = rowV n (Fw.setM M i j x) i := by
  apply List.ext_getElem?
  intro b
  by_cases hb : b < n
  · rw [rowV_at hb, List.getElem?_set, rowV_len]
    unfold Fw.setM
    by_cases e : j = b
    · subst e; rw [if_pos rfl, if_pos hb, if_pos ⟨rfl, rfl⟩]; rfl
    · rw [if_neg e, rowV_at hb, if_neg (fun z => e z.2.symm)]
  · rw [List.getElem?_eq_none (by rw [List.length_set, rowV_len]; omega), List.getElem?_eq_none (by rw [rowV_len]; omega)]
theorem rowV_off {n : Nat} {M : Mx} {i j k : Nat} {x : Int} (h : k ≠ i) : rowV n (Fw.setM M i j x) k = rowV n M k := by
  unfold rowV
  refine List.map_congr_left fun b _ => ?_
  unfold Fw.setM
  rw [if_neg (fun z => h z.1)]
/-- a list of lists of one's own -/
structure Gr (H : Hp) (a : Addr) (rs : List Addr) (n : Nat) (M : Mx) : Prop where
  top : H a = some (.lst (rs.map V.ref))
  len : rs.length = n
  nd : rs.Nodup
  na : a ∉ rs
  row : ∀ k r, rs[k]? = some r → H r = some (.lst (rowV n M k))
theorem Gr.set {H : Hp} {a : Addr} {rs : List Addr} {n : Nat} {M : Mx} (g : Gr H a rs n M) {i j : Nat} {r : Addr} (hr : rs[i]? = some r) (x : Int) : Gr (upd H r (.lst ((rowV n M i).set j (.int x)))) a rs n (Fw.setM M i j x) where
  top := by
    rw [upd_ne (fun e => g.na (by rw [e]; exact List.mem_of_getElem? hr))]; exact g.top
  len := g.len
  nd := g.nd
  na := g.na
  row := fun k q hq => by
    by_cases e : k = i
    · subst e
      rw [hr] at hq
      cases hq
      rw [upd_same, rowV_set]
    · have ne : q ≠ r := fun z => by
        subst z
        have l1 := (List.getElem?_eq_some_iff.mp hr)
        have l2 := (List.getElem?_eq_some_iff.mp hq)
        obtain ⟨i1, i2⟩ := l1
        obtain ⟨k1, k2⟩ := l2
        exact e ((List.getElem_inj g.nd).mp (k2.trans i2.symm))
      rw [upd_ne ne, rowV_off e]
      exact g.row k q hq
def spShorten (K : PySem.W.Frag) : Sp := fun vs H Q _ => ∃ (a : Addr) (rs : List Addr) (n : Nat) (M : Mx), vs = [.ref a] ∧ Gr H a rs n M ∧ n ≤ 100 ∧ ∀ H', Gr H' a rs n (Fw.fwM n M) → (∀ b o, b ∉ rs → H b = some o → H' b = some o) → Q .non H'
theorem row_no {n v i : Nat} {M : Mx} (h : M i v = none) : Fw.rowM n v M i = M := by
  unfold Fw.rowM
  have : ∀ l : List Nat, l.foldl (Fw.stM v i) M = M := fun l => by
    induction l with
    | nil => rfl
    | cons j l ih =>
      have e : Fw.stM v i M j = M := by unfold Fw.stM; rw [h]
      rw [List.foldl_cons, e, ih]
  exact this _
section
variable {P : Program} {w : World} {K : PySem.W.Frag} {mg : Str → Option Value} {base : Heap}
abbrev isN : R2 := fun x y H Q => y = V.non ∧ Q (V.bl (decide (x = V.non))) H
abbrev isNot : R2 := fun x y H Q => y = V.non ∧ Q (V.bl (!decide (x = V.non))) H
def tI (K : PySem.W.Frag) : TS := tIfS (tAnd (tTest (tOp isNot (tOp (rIxL K) (tVar 3) (tVar 6)) (tC V.non))) (tOr (tTest (tOp isN (tOp (rIxL K) (tVar 5) (tVar 6)) (tC V.non)))
    (tTest (tOp (rI0 fun i j => V.bl (decide (i < j))) (tOp (rI0 fun i j => V.int (i + j)) (tOp (rIxL K) (tVar 5) (tVar 2)) (tOp (rIxL K) (tVar 3) (tVar 6))) (tOp (rIxL K) (tVar 5) (tVar 6))))))
  (tAsg (tOp (rI0 fun i j => V.int (i + j)) (tOp (rIxL K) (tVar 5) (tVar 2)) (tOp (rIxL K) (tVar 3) (tVar 6))) (gSub (tVar 5) (tVar 6) rSetL)) tNext
def tR (K : PySem.W.Frag) : TS := tSeq (tAsg (tOp (rIxL K) (tVar 0) (tVar 4)) (gName 5)) (tSeq (tIfS (tTest (tOp isN (tOp (rIxL K) (tVar 5) (tVar 2)) (tC V.non))) tCont tNext) (tFor (iRngV (tVar 1)) (gName 6) (tI K)))
def tW (K : PySem.W.Frag) : TS := tSeq (tAsg (tOp (rIxL K) (tVar 0) (tVar 2)) (gName 3)) (tFor (iRngV (tVar 1)) (gName 4) (tR K))
theorem ix_row {p q : Nat} {σ : L2.St} {H : Hp} {Q : VK} {r : Addr} {xs : List V} {k : Nat} {v : V} (h1 : σ[p]? = some (some (.ref r))) (h2 : σ[q]? = some (some (.int ((k : Nat) : Int)))) (hr : H r = some (.lst xs)) (hx : xs[k]? = some v) (h : Q v H) : tOp (rIxL K) (tVar p) (tVar q) σ H Q :=
  ⟨_, h1, _, h2, r, xs, _, _, rfl, rfl, SqL.of hr, atI_nat hx, h⟩
def Kp (rs : List Addr) (H H' : Hp) : Prop := ∀ b o, b ∉ rs → H b = some o → H' b = some o
theorem ov_some {o : Option Int} : decide (ov o = V.non) = o.isNone := by cases o <;> simp [ov]
theorem inner_step {D : Ends} {H : Hp} {a m rv ri : Addr} {rs : List Addr} {n v i j : Nat} {N : Mx} {x : Int} (g : Gr H a rs n N) (hv : v < n) (hi : i < n) (hj : j < n) (ev : rs[v]? = some rv) (ei : rs[i]? = some ri) (hx : N i v = some x)
    (h : ∀ H', Gr H' a rs n (Fw.stM v i N j) → Kp rs H H' → D.nx [some (.ref a), some (.ref m), some (.int ((v : Nat) : Int)), some (.ref rv), some (.int ((i : Nat) : Int)), some (.ref ri), some (.int ((j : Nat) : Int))] H') :
    tI K D [some (.ref a), some (.ref m), some (.int ((v : Nat) : Int)), some (.ref rv), some (.int ((i : Nat) : Int)), some (.ref ri), some (.int ((j : Nat) : Int))] H := by
  have rowv := g.row v rv ev
  have rowi := g.row i ri ei
  have avj := rowV_at (M := N) (k := v) hj
  have aij := rowV_at (M := N) (k := i) hj
  have aiv := rowV_at (M := N) (k := i) hv
  rw [hx] at aiv
  have setIt : ∀ y, N v j = some y → (N i j = none ∨ ∃ z, N i j = some z ∧ x + y < z) → Fw.stM v i N j = Fw.setM N i j (x + y) := fun y hy hz => by
    unfold Fw.stM
    rw [hx, hy]
    rcases hz with hz | ⟨z, hz, l⟩
    · rw [hz]
    · rw [hz]; exact if_pos l
  have wr : ∀ y, N v j = some y → (N i j = none ∨ ∃ z, N i j = some z ∧ x + y < z) → (tAsg (tOp (rI0 fun i j => V.int (i + j)) (tOp (rIxL K) (tVar 5) (tVar 2)) (tOp (rIxL K) (tVar 3) (tVar 6))) (gSub (tVar 5) (tVar 6) rSetL)) D [some (.ref a), some (.ref m), some (.int ((v : Nat) : Int)), some (.ref rv), some (.int ((i : Nat) : Int)), some (.ref ri), some (.int ((j : Nat) : Int))] H := fun y hy hz => by
    refine ix_row rfl rfl rowi aiv ?_
    refine ix_row rfl rfl rowv avj ?_
    rw [hy]
    refine ⟨x, y, rfl, rfl, _, rfl, _, rfl, ri, _, _, j, rfl, rfl, rowi, ?_, ?_⟩
    · rw [rowV_len]; unfold ixN; rw [if_pos (by omega), if_pos (by omega)]; congr 1
    · have g2 := g.set ei (j := j) (x + y)
      refine h _ (by rw [setIt y hy hz]; exact g2) fun b o hb e => ?_
      rw [upd_ne (fun z => hb (by rw [z]; exact List.mem_of_getElem? ei))]; exact e
  have no : Fw.stM v i N j = N → D.nx _ H := fun e => h H (by rw [e]; exact g) fun b o _ e => e
  show (tAnd _ _) _ _ _
  refine ix_row rfl rfl rowv avj ?_
  refine ⟨rfl, _, rfl, ?_⟩
  rw [ov_some]
  cases hy : N v j with
  | none =>
    rw [if_neg (by decide)]
    show (if (_ : Bool) = true then _ else _)
    rw [if_neg (by decide)]
    refine no ?_
    unfold Fw.stM
    rw [hx, hy]
  | some y =>
    rw [if_pos (show (!(some y).isNone) = true from rfl)]
    refine ix_row rfl rfl rowi aij ?_
    refine ⟨rfl, _, rfl, ?_⟩
    rw [ov_some]
    cases hz : N i j with
    | none =>
      rw [if_pos (by decide)]
      show (if (_ : Bool) = true then _ else _)
      rw [if_pos rfl]
      exact wr y hy (.inl hz)
    | some z =>
      rw [if_neg (fun h => nomatch h)]
      refine ix_row rfl rfl rowi aiv ?_
      refine ix_row rfl rfl rowv avj ?_
      rw [hy]
      refine ⟨x, y, rfl, rfl, ?_⟩
      refine ix_row rfl rfl rowi aij ?_
      rw [hz]
      refine ⟨x + y, z, rfl, rfl, _, rfl, ?_⟩
      show (if (_ : Bool) = true then _ else _)
      by_cases l : x + y < z
      · rw [if_pos (decide_eq_true l)]
        exact wr y hy (.inr ⟨z, hz, l⟩)
      · rw [if_neg (by rw [decide_eq_false l]; decide)]
        refine no ?_
        unfold Fw.stM
        rw [hx, hy, hz]
        exact if_neg l
theorem fold_succ {f : Mx → Nat → Mx} {M : Mx} (k : Nat) : (List.range (k + 1)).foldl f M = f ((List.range k).foldl f M) k := by
  rw [List.range_succ, List.foldl_append]; rfl
theorem row_step {D : Ends} {H : Hp} {a m rv : Addr} {rs : List Addr} {n v i : Nat} {N : Mx} {o5 o6 : Option V} (g : Gr H a rs n N) (n100 : n ≤ 100) (hm : H m = some (.rng 0 (n : Int))) (mr : m ∉ rs) (hv : v < n) (hi : i < n) (ev : rs[v]? = some rv)
    (h : ∀ o5 o6 H', Gr H' a rs n (Fw.rowM n v N i) → Kp rs H H' → D.nx [some (.ref a), some (.ref m), some (.int ((v : Nat) : Int)), some (.ref rv), some (.int ((i : Nat) : Int)), o5, o6] H')
    (hc : ∀ o5 o6 H', Gr H' a rs n (Fw.rowM n v N i) → Kp rs H H' → D.ct [some (.ref a), some (.ref m), some (.int ((v : Nat) : Int)), some (.ref rv), some (.int ((i : Nat) : Int)), o5, o6] H') :
    tR K D [some (.ref a), some (.ref m), some (.int ((v : Nat) : Int)), some (.ref rv), some (.int ((i : Nat) : Int)), o5, o6] H := by
  have li : i < rs.length := by rw [g.len]; exact hi
  have ei : rs[i]? = some rs[i] := List.getElem?_eq_getElem li
  have top : (rs.map V.ref)[i]? = some (V.ref rs[i]) := by rw [List.getElem?_map, ei]; rfl
  generalize rs[i] = ri at ei top
  refine ix_row rfl rfl g.top top ?_
  have rowi := g.row i ri ei
  have aiv := rowV_at (M := N) (k := i) hv
  refine ix_row rfl rfl rowi aiv ?_
  refine ⟨rfl, _, rfl, ?_⟩
  rw [ov_some]
  cases hx : N i v with
  | none =>
    rw [if_pos (by decide)]
    refine hc _ _ H ?_ fun b o _ e => e
    rw [row_no hx]; exact g
  | some x =>
    rw [if_neg (fun h => nomatch h)]
    refine ⟨_, rfl, m, 0, _, rfl, hm, ⟨by decide, by decide, by omega, by omega⟩, ?_⟩
    rw [show (((n : Int) - 0).toNat) = n by omega]
    refine for_range (lo := 0) (n := n) (fun j σ H' => ∃ o6, σ = [some (.ref a), some (.ref m), some (.int ((v : Nat) : Int)), some (.ref rv), some (.int ((i : Nat) : Int)), some (.ref ri), o6] ∧ Gr H' a rs n ((List.range j).foldl (Fw.stM v i) N) ∧ Kp rs H H')
      ⟨o6, rfl, g, fun b o _ e => e⟩ ?_ ?_
    · rintro j σ H1 hj ⟨o6, rfl, g1, k1⟩
      rw [Int.zero_add]
      have le := Fw.fold_le (f := Fw.stM v i) (fun M j => Fw.st_le v i j M) (List.range j) N i v
      obtain ⟨x', hx', _⟩ := le x hx
      refine inner_step g1 hv hi hj ev ei hx' fun H2 g2 k2 => ?_
      exact ⟨_, rfl, by rw [fold_succ]; exact g2, fun b o hb e => k2 b o hb (k1 b o hb e)⟩
    · rintro σ H1 ⟨o6, rfl, g1, k1⟩
      exact h _ _ H1 g1 k1
theorem via_step {D : Ends} {H : Hp} {a m : Addr} {rs : List Addr} {n v : Nat} {N : Mx} {o3 o4 o5 o6 : Option V} (g : Gr H a rs n N) (n100 : n ≤ 100) (hm : H m = some (.rng 0 (n : Int))) (mr : m ∉ rs) (hv : v < n)
    (h : ∀ o3 o4 o5 o6 H', Gr H' a rs n (Fw.viaM n N v) → Kp rs H H' → D.nx [some (.ref a), some (.ref m), some (.int ((v : Nat) : Int)), o3, o4, o5, o6] H') :
    tW K D [some (.ref a), some (.ref m), some (.int ((v : Nat) : Int)), o3, o4, o5, o6] H := by
  have lv : v < rs.length := by rw [g.len]; exact hv
  have ev : rs[v]? = some rs[v] := List.getElem?_eq_getElem lv
  have top : (rs.map V.ref)[v]? = some (V.ref rs[v]) := by rw [List.getElem?_map, ev]; rfl
  generalize rs[v] = rv at ev top
  refine ix_row rfl rfl g.top top ?_
  refine ⟨_, rfl, m, 0, _, rfl, hm, ⟨by decide, by decide, by omega, by omega⟩, ?_⟩
  rw [show (((n : Int) - 0).toNat) = n by omega]
  refine for_range (lo := 0) (n := n) (fun i σ H' => ∃ o4 o5 o6, σ = [some (.ref a), some (.ref m), some (.int ((v : Nat) : Int)), some (.ref rv), o4, o5, o6] ∧ Gr H' a rs n ((List.range i).foldl (Fw.rowM n v) N) ∧ Kp rs H H')
    ⟨o4, o5, o6, rfl, g, fun b o _ e => e⟩ ?_ ?_
  · rintro i σ H1 hi ⟨o4, o5, o6, rfl, g1, k1⟩
    rw [Int.zero_add]
    refine row_step g1 n100 (k1 _ _ mr hm) mr hv hi ev (fun o5 o6 H2 g2 k2 => ?_) (fun o5 o6 H2 g2 k2 => ?_)
    · exact ⟨_, o5, o6, rfl, by rw [fold_succ]; exact g2, fun b o hb e => k2 b o hb (k1 b o hb e)⟩
    · exact ⟨_, o5, o6, rfl, by rw [fold_succ]; exact g2, fun b o hb e => k2 b o hb (k1 b o hb e)⟩
  · rintro σ H1 ⟨o4, o5, o6, rfl, g1, k1⟩
    exact h _ _ _ _ H1 g1 k1
theorem ok_shorten (bl : Blts mg) {f : Addr} {fd : FuncData} (F : Fun K "shorten" "shorten" s_shorten f fd) : FnOk P w K mg base CX0 1 f fd p_shorten (spShorten K) := by
  refine F.ok sc_shorten (fun vs H Q E h => ?_) (fun cdv A outer s H vs Q E hr h => ?_)
  · obtain ⟨a, rs, n, M, rfl, _⟩ := h
    rfl
  obtain ⟨a, rs, n, M, rfl, g, n100, q⟩ := h
  refine ⟨_, (pss_cons (ps_set (i := 1) sc_shorten.nd rfl (by first | exact Or.inl rfl | exact Or.inr rfl) (pe_callTy cr_range1 rfl bl.range (by decide +kernel) (pa_cons (pe_callB call_len_seq rfl bl.len (by decide +kernel) (pa_cons (pv 0) pa_nil)) pa_nil)))
    (pss_one (ps_for PassesOwn.never rfl (pi_rngV (pv 1)) (pg_name (i := 2) sc_shorten.nd rfl (by first | exact Or.inl rfl | exact Or.inr rfl)) (pss_cons (ps_set (i := 3) sc_shorten.nd rfl (by first | exact Or.inl rfl | exact Or.inr rfl) (pe_ix ix_list (pv 0) (pv 2) (fun _ _ => rfl)))
    (pss_one (ps_for PassesOwn.never rfl (pi_rngV (pv 1)) (pg_name (i := 4) sc_shorten.nd rfl (by first | exact Or.inl rfl | exact Or.inr rfl)) (pss_cons (ps_set (i := 5) sc_shorten.nd rfl (by first | exact Or.inl rfl | exact Or.inr rfl) (pe_ix ix_list (pv 0) (pv 4) (fun _ _ => rfl)))
    (pss_cons (ps_if (pt_cmpR op_isN (pe_ix ix_list (pv 5) (pv 2) (fun _ _ => rfl)) pe_non (nomark _)) (pss_one ps_continue) pss_nil)
    (pss_one (ps_for PassesOwn.never rfl (pi_rngV (pv 1)) (pg_name (i := 6) sc_shorten.nd rfl (by first | exact Or.inl rfl | exact Or.inr rfl)) (pss_one (ps_if (PW.pt (pw_and (pt_cmpR op_notN (pe_ix ix_list (pv 3) (pv 6) (fun _ _ => rfl)) pe_non (nomark _)) (pw_and1 (PW.pt (pw_or (pt_cmpR op_isN (pe_ix ix_list (pv 5) (pv 6) (fun _ _ => rfl)) pe_non (nomark _)) (pw_or1 (pt_cmpR op_lt (pe_op op_add (pe_ix ix_list (pv 5) (pv 2) (fun _ _ => rfl)) (pe_ix ix_list (pv 3) (pv 6) (fun _ _ => rfl))) (pe_ix ix_list (pv 5) (pv 6) (fun _ _ => rfl)) (nomark _)))))))) (pss_one (ps_asg (pe_op op_add (pe_ix ix_list (pv 5) (pv 2) (fun _ _ => rfl)) (pe_ix ix_list (pv 3) (pv 6) (fun _ _ => rfl))) (pg_sub (pv 5) (pv 6) set_list))) pss_nil)))))))))))), ?_⟩
  refine ⟨_, rfl, a, _, rfl, .inl (SqL.of g.top), _, rfl, fun m hm => ?_⟩
  have sm : Same H (upd H m (.rng 0 (((rs.map V.ref).length : Nat) : Int))) := same_up hm
  have el : (rs.map V.ref).length = n := by rw [List.length_map, g.len]
  have na : m ≠ a := fun e => by rw [e, g.top] at hm; cases hm
  have nr : m ∉ rs := fun e => by
    obtain ⟨k, hk, e2⟩ := List.getElem_of_mem e
    have := g.row k m (by rw [List.getElem?_eq_getElem hk, e2])
    rw [this] at hm; cases hm
  have g1 : Gr (upd H m (.rng 0 (((rs.map V.ref).length : Nat) : Int))) a rs n M := ⟨sm _ _ g.top, g.len, g.nd, g.na, fun k r hk => sm _ _ (g.row k r hk)⟩
  have um : (upd H m (.rng 0 (((rs.map V.ref).length : Nat) : Int))) m = some (.rng 0 (((rs.map V.ref).length : Nat) : Int)) := upd_same
  generalize upd H m (.rng 0 (((rs.map V.ref).length : Nat) : Int)) = H1 at sm g1 um ⊢
  rw [el] at um
  refine ⟨_, rfl, m, 0, _, rfl, um, ⟨by decide, by decide, by omega, by omega⟩, ?_⟩
  rw [show (((n : Int) - 0).toNat) = n by omega]
  refine for_range (lo := 0) (n := n) (fun v σ H2 => ∃ o2 o3 o4 o5 o6, σ = [some (.ref a), some (.ref m), o2, o3, o4, o5, o6] ∧ Gr H2 a rs n ((List.range v).foldl (Fw.viaM n) M) ∧ Kp rs H1 H2)
    ⟨none, none, none, none, none, rfl, g1, fun b o _ e => e⟩ ?_ ?_
  · rintro v σ H2 hv ⟨o2, o3, o4, o5, o6, rfl, g2, k2⟩
    rw [Int.zero_add]
    refine via_step (K := K) g2 n100 (k2 _ _ nr um) nr hv fun o3 o4 o5 o6 H3 g3 k3 => ?_
    exact ⟨_, o3, o4, o5, o6, rfl, by rw [fold_succ]; exact g3, fun b o hb e => k3 b o hb (k2 b o hb e)⟩
  · rintro σ H2 ⟨o2, o3, o4, o5, o6, rfl, g2, k2⟩
    exact q H2 g2 fun b o hb e => k2 b o hb (sm _ _ e)
end
end Sh
set_option Elab.async false
set_option linter.all false
set_option maxRecDepth 100000
set_option maxHeartbeats 4000000
/-! for x, y in zip(a, b), a and b lists or tuples in any mix -/
namespace Sh
open PySem PySem.Spec PyProof.Rows L2
def SqK (K : PySem.W.Frag) (k : Bool) (H : Hp) (a : Addr) (xs : List V) : Prop := match k with
  | true => SqT K H a xs
  | false => SqL K H a xs
def IsIt (k : Bool) (h : Heap) (i l : Addr) (n : Nat) : Prop := match k with
  | true => h.IsTupleIter i l n
  | false => h.IsListIter i l n
def IsSq (k : Bool) (h : Heap) (l : Addr) (its : Array Value) : Prop := match k with
  | true => h.IsTuple l its
  | false => h.IsList l its
theorem IsIt.at {k : Bool} {h h' : Heap} {i l : Addr} {n : Nat} (x : IsIt k h i l n) (e : ∀ o, h.get? i = some o → h'.get? i = some o) : IsIt k h' i l n := by
  cases k
  · exact Heap.IsListIter.at x e
  · exact Heap.IsTupleIter.at x e
theorem IsIt.obj {k : Bool} {h : Heap} {i l : Addr} {n : Nat} (x : IsIt k h i l n) : ∃ o, h.get? i = some o ∧ ∀ v, o.data ≠ .cell v := by
  cases k
  · obtain ⟨o, e, _, d⟩ := x
    exact ⟨o, e, fun v q => by rw [d] at q; cases q⟩
  · obtain ⟨o, e, _, d⟩ := x
    exact ⟨o, e, fun v q => by rw [d] at q; cases q⟩
theorem draws_k {prog : Program} {w : World} {A : Around} (hh : A.handled = none) (k : Bool) (it l : Addr) (hne : l ≠ it) (items : Array Value) :
    Draws prog w A it [it, l] items.size (fun i v => items[i]? = some v) (fun i h => IsIt k h it l i ∧ IsSq k h l items) := by
  cases k
  · exact Draws.list hh it l hne items
  · exact Draws.tuple hh it l hne items
theorem inv_sq {X : Cx} {pins : List (Addr × Obj)} {σ : L2.St} {H : Hp} {s : Shared} {k : Bool} {a : Addr} {xs : List V} (I : Inv X pins σ H s) (h : SqK X.K k H a xs) : ∃ its, Vals xs its ∧ IsSq k s.heap a its.toArray ∧ a < s.heap.objs.size ∧ xs.length ≤ sizeLine := by
  cases k
  · obtain ⟨its, rv, p, z⟩ := I.list h
    exact ⟨its, rv, p.isList, p.lt, z⟩
  · obtain ⟨its, rv, p, z⟩ := I.tuple h
    obtain ⟨o, ho, _⟩ := id p
    exact ⟨its, rv, p, Heap.lt_size ho, z⟩
theorem inv_inj {X : Cx} {pins : List (Addr × Obj)} {σ : L2.St} {H : Hp} {s : Shared} {k : Bool} {a : Addr} {xs ys : List V} (I : Inv X pins σ H s) (h : SqK X.K k H a xs) (h' : SqK X.K k H a ys) : xs = ys := by
  cases k
  · exact I.list_inj h h'
  · exact I.tuple_inj h h'
def ItzK (K : PySem.W.Frag) (k1 k2 : Bool) (a b : Addr) : It :=
  ⟨fun i H => ∃ (xs ys : List V) (x y : V), SqK K k1 H a xs ∧ SqK K k2 H b ys ∧ xs[i]? = some x ∧ ys[i]? = some y,
    fun i H v H' => ∃ T x y, v = .ref T ∧ H T = none ∧ H' = upd H T (.tup [x, y]) ∧ (∀ xs, SqK K k1 H a xs → xs[i]? = some x) ∧ ∀ ys, SqK K k2 H b ys → ys[i]? = some y,
    fun i H => ∃ xs ys : List V, SqK K k1 H a xs ∧ SqK K k2 H b ys ∧ i = min xs.length ys.length⟩
theorem turn_zipK {P : Program} {w : World} {K : PySem.W.Frag} {elts : List Expr} {kk : Nat} {tpos : Pos} {k1 k2 : Bool} {a b z TI TO i1 i2 : Addr} (S : ZipSep2 z TI TO i1 i2 [i1, a] [i2, b]) (na : a ≠ i1) (nb : b ≠ i2) :
    Turn P w K (.Tuple elts kk tpos) (ItzK K k1 k2 a b) [z, TI, TO, i1, i2] z (fun i h => IsZip h z TI TO .none ∧ IsTupOf2 h TI (.ref i1) (.ref i2) ∧ (∃ x y, IsTupOf2 h TO x y) ∧ IsIt k1 h i1 a i ∧ IsIt k2 h i2 b i) where
  mem := by simp
  obj := fun i h st c hc => by
    obtain ⟨hz, hTI, ⟨x, y, hTO⟩, h1, h2⟩ := st
    have e' : c = z ∨ c = TI ∨ c = TO ∨ c = i1 ∨ c = i2 := by simpa using hc
    rcases e' with q | q | q | q | q
    · rw [q]; exact ⟨_, hz, fun v q => nomatch q⟩
    · rw [q]; exact ⟨_, hTI, fun v q => nomatch q⟩
    · rw [q]; exact ⟨_, hTO, fun v q => nomatch q⟩
    · rw [q]; exact h1.obj
    · rw [q]; exact h2.obj
  keep := fun i h h' st k => by
    obtain ⟨hz, hTI, ⟨x, y, hTO⟩, h1, h2⟩ := st
    exact ⟨k z (by simp) _ hz, k TI (by simp) _ hTI, ⟨x, y, k TO (by simp) _ hTO⟩, h1.at fun o q => k i1 (by simp) o q, h2.at fun o q => k i2 (by simp) o q⟩
  item := by
    intro X hP hw hK hc i pins s σ H E I hf st hg
    subst hP hw hK
    obtain ⟨hz, hTI, hTO, h1, h2⟩ := st
    obtain ⟨xs, ys, x, y, hqx, hqy, hx, hy⟩ := hg
    obtain ⟨its, rv, p, la, _⟩ := inv_sq I hqx
    obtain ⟨its2, rv2, p2, lb, _⟩ := inv_sq I hqy
    obtain ⟨u, hu, ru⟩ := rv.get hx
    obtain ⟨u2, hu2, ru2⟩ := rv2.get hy
    have hh : X.A.in1.handled = none := I.ok.hd hc
    have W := GoesN.zip2 (prog := X.prog) (w := X.w) (A := X.A) (elts := elts) (x1 := kk) (pos := tpos) S (draws_k (A := X.A.in1) hh k1 i1 a na its.toArray) (draws_k (A := X.A.in1) hh k2 i2 b nb its2.toArray)
    have hlt : i < min its.toArray.size its2.toArray.size := by
      have e1 := (List.getElem?_eq_some_iff.mp hu).1
      have e2 := (List.getElem?_eq_some_iff.mp hu2).1
      simp only [List.size_toArray]
      omega
    refine W.goes i s _ _ hlt ⟨hz, hTI, hTO, ⟨h1, p⟩, ⟨h2, p2⟩⟩ fun v h' tk hY st' hk htk => ?_
    obtain ⟨T, u', u2', rfl, hT, e1, e2, tp⟩ := hY
    have e1' : u' = u := by
      have : some u' = some u := e1.symm.trans (by simpa using hu)
      cases this; rfl
    have e2' : u2' = u2 := by
      have : some u2' = some u2 := e2.symm.trans (by simpa using hu2)
      cases this; rfl
    subst e1' e2'
    have new : ObjOk X.prog X.w (upd H T (.tup [x, y])) h' T (.tup [x, y]) := ⟨by show 2 ≤ sizeLine; decide, [u', u2'], .cons ru (.cons ru2 .nil), tp⟩
    have I1 : Inv X pins σ (upd H T (.tup [x, y])) { s with heap := h', toks := tk } :=
      I.turnedNew (t' := tk) (ch := [z, TI, TO, i1, i2]) (fun c o hb q => hk c o (fun q' => hb (by
        have e' : c = z ∨ c = TO ∨ c = i1 ∨ c = i2 := by simpa using q'
        rcases e' with q | q | q | q <;> simp [q])) q) hf hT new
    obtain ⟨z', ti', to', ⟨a', _⟩, ⟨b', _⟩⟩ := st'
    refine ⟨.ref T, _, I1, rfl, ⟨_, x, y, rfl, I.hok.fresh hT, rfl, fun l hl => by rw [inv_inj I hl hqx]; exact hx, fun l hl => by rw [inv_inj I hl hqy]; exact hy⟩, ⟨z', ti', to', a', b'⟩, fun c hcm => ?_⟩
    obtain ⟨o, ho, _⟩ : ∃ o, s.heap.get? c = some o ∧ True := by
      obtain ⟨x0, y0, hTO⟩ := hTO
      have e' : c = z ∨ c = TI ∨ c = TO ∨ c = i1 ∨ c = i2 := by simpa using hcm
      rcases e' with q | q | q | q | q
      · rw [q]; exact ⟨_, hz, trivial⟩
      · rw [q]; exact ⟨_, hTI, trivial⟩
      · rw [q]; exact ⟨_, hTO, trivial⟩
      · rw [q]; obtain ⟨o, e, _⟩ := h1.obj; exact ⟨o, e, trivial⟩
      · rw [q]; obtain ⟨o, e, _⟩ := h2.obj; exact ⟨o, e, trivial⟩
    rw [upd_ne (Nat.ne_of_lt (Nat.lt_of_lt_of_le (Heap.lt_size ho) hT))]
    exact (hf c hcm).1
  done := by
    intro X hP hw hK hc i pins s σ H E I hf st hg
    subst hP hw hK
    obtain ⟨hz, hTI, hTO, h1, h2⟩ := st
    obtain ⟨xs, ys, hqx, hqy, hend⟩ := hg
    obtain ⟨its, rv, p, la, _⟩ := inv_sq I hqx
    obtain ⟨its2, rv2, p2, lb, _⟩ := inv_sq I hqy
    have hh : X.A.in1.handled = none := I.ok.hd hc
    have W := GoesN.zip2 (prog := X.prog) (w := X.w) (A := X.A) (elts := elts) (x1 := kk) (pos := tpos) S (draws_k (A := X.A.in1) hh k1 i1 a na its.toArray) (draws_k (A := X.A.in1) hh k2 i2 b nb its2.toArray)
    have e1 := rv.length
    have e2 := rv2.length
    have hi : i = min its.toArray.size its2.toArray.size := by
      simp only [List.size_toArray]
      rw [hend, e1, e2]
    subst hi
    exact W.stops s (fun s1 => Inv X pins σ H s1) _ ⟨hz, hTI, hTO, ⟨h1, p⟩, ⟨h2, p2⟩⟩ fun h' tk hk htk => I.turnedL (t' := tk) (ch := [z, TI, TO, i1, i2]) (fun c o hb q => hk c o (fun q' => hb (by
      have e' : c = z ∨ c = TO ∨ c = i1 ∨ c = i2 := by simpa using q'
      rcases e' with q | q | q | q <;> simp [q])) q) hf
  self := fun A i s Q E st h => wpAny_pyIter_zip st.1 h
def iZipK (K : PySem.W.Frag) (ta : TA) : TI := fun σ H R => ta σ H fun vs H1 => ∃ a b xs ys k1 k2, vs = [V.ref a, V.ref b] ∧ SqK K k1 H1 a xs ∧ SqK K k2 H1 b ys ∧ R (ItzK K k1 k2 a b) H1
theorem begins_k (k : Bool) (l : Addr) (items : Array Value) : ∃ o, Begins (.ref l) o (fun h => IsSq k h l items) ∧ ∀ (h : Heap) (i : Addr), h.get? i = some o → IsIt k h i l 0 := by
  cases k
  · exact ⟨_, begins_list l items, fun h i e => ⟨_, e, rfl, rfl⟩⟩
  · exact ⟨_, begins_tuple l items, fun h i e => ⟨_, e, rfl, rfl⟩⟩
theorem pi_zipK {X : Cx} {e e2 : Expr} {ta : TA} {p pos tpos : Pos} {elts : List Expr} {kk : Nat} (hg : Gl X "zip") (hm : X.mg "zip" = none) (ha : PA X [e, e2] ta)
    (hs : starEach [e, e2] X.env = (false, eval e X.env) :: starEach [e2] X.env := by rfl) (hpl : (backTo pos (starEach [e2] X.env)).any (·.1) = false := by rfl) :
    PI X (.Tuple elts kk tpos) (.Call (.Name "zip" p) [e, e2] [] pos) (iZipK X.K ta) := by
  refine ⟨fun pins s σ H R I h => ?_⟩
  refine Call_ (ld_blt I hg hm PyProof.Rows.boot_zip (PyProof.Rows.callWith_type1 (thn (ha.run pos pins s σ H _ I h) fun us s1 ⟨vs, H1, I1, r1, q1⟩ => ?_) hs hpl))
  obtain ⟨a, b, xs, ys, k1, k2, ex, hqx, hqy, q⟩ := q1
  subst ex
  cases r1 with
  | cons r rr =>
    cases rr with
    | cons r' rr =>
      cases rr
      cases r
      cases r'
      obtain ⟨its, rv, p1, la, _⟩ := inv_sq I1 hqx
      obtain ⟨its2, rv2, p2, lb, _⟩ := inv_sq I1 hqy
      obtain ⟨o1, B1, it1⟩ := begins_k k1 a its.toArray
      obtain ⟨o2, B2, it2⟩ := begins_k k2 b its2.toArray
      refine zip_begins2 B1 B2 p1 p2 fun h' hz hTI hTO h1 h2 hsz hk => wpAny_pyIter_zip hz ?_
      have I2 : Inv X pins σ H1 { s1 with heap := h' } := I1.kept (t' := s1.toks) hk
      have fresh5 : ∀ c, c ∈ [s1.heap.objs.size + 4, s1.heap.objs.size + 2, s1.heap.objs.size + 3, s1.heap.objs.size, s1.heap.objs.size + 1] → FpOk X pins H1 c := fun c hcm => by
        have e' : c = s1.heap.objs.size + 4 ∨ c = s1.heap.objs.size + 2 ∨ c = s1.heap.objs.size + 3 ∨ c = s1.heap.objs.size ∨ c = s1.heap.objs.size + 1 := by simpa using hcm
        have hle : s1.heap.objs.size ≤ c := by
          rcases e' with z | z | z | z | z
          · rw [z]; exact Nat.le_add_right _ _
          · rw [z]; exact Nat.le_add_right _ _
          · rw [z]; exact Nat.le_add_right _ _
          · rw [z]; exact Nat.le_refl _
          · rw [z]; exact Nat.le_add_right _ _
        exact I1.fpOk hle (I1.hok.fresh hle)
      have S := zip_sep2 (N := s1.heap.objs.size) (fp1 := [a]) (fp2 := [b]) (fun c hc => by rw [List.mem_singleton.mp hc]; exact la) (fun c hc => by rw [List.mem_singleton.mp hc]; exact lb)
      exact ⟨s1.heap.objs.size + 4, [s1.heap.objs.size + 4, s1.heap.objs.size + 2, s1.heap.objs.size + 3, s1.heap.objs.size, s1.heap.objs.size + 1], _, _, H1, rfl, I2, turn_zipK S (Nat.ne_of_lt la) (Nat.ne_of_lt (Nat.lt_succ_of_lt lb)), ⟨hz, hTI, ⟨_, _, hTO⟩, it1 _ _ h1, it2 _ _ h2⟩, fresh5, q⟩
section
variable {K : PySem.W.Frag} {ρ : List En}
theorem sqK_of {G H : Hp} (s : Same G H) {k : Bool} {l : List Dt} {x : V} (r : RD K G (sq k l) x) : ∃ a xs, x = .ref a ∧ SqK K k G a xs ∧ RDs K G l xs := by
  cases k
  · obtain ⟨a, xs, e, h1, h2⟩ := r
    exact ⟨a, xs, e, SqL.of h1, h2⟩
  · obtain ⟨a, xs, e, h1, h2⟩ := r
    exact ⟨a, xs, e, h1, h2⟩
theorem same_sqK {H H' : Hp} {k : Bool} {a : Addr} {xs : List V} (e : Same H H') (h : SqK K k H a xs) : SqK K k H' a xs := by
  cases k
  · exact same_sqL e h
  · exact same_sqT e h
theorem wj_zipK {k1 k2 : Bool} {a b : Addr} {xs ys : List V} {l m : List Dt} {G : Hp} (h : SqK K k1 G a xs) (h' : SqK K k2 G b ys) (r : RDs K G l xs) (r' : RDs K G m ys) : Wj K (ItzK K k1 k2 a b) (zpD l m) G := by
  have e := r.length
  have e' := r'.length
  have el : (zpD l m).length = min xs.length ys.length := by rw [zpD_len, e, e']
  refine ⟨fun i H hi s => ?_, fun H s => ⟨xs, ys, same_sqK s h, same_sqK s h', el⟩, fun i G1 H x H' hi s1 s2 y => ?_⟩
  · rw [el] at hi
    have h1 : i < xs.length := by omega
    have h2 : i < ys.length := by omega
    exact ⟨xs, ys, xs[i], ys[i], same_sqK s h, same_sqK s h', List.getElem?_eq_getElem h1, List.getElem?_eq_getElem h2⟩
  · obtain ⟨T, u, v, rfl, nT, rfl, f1, f2⟩ := y
    obtain ⟨d1, g1, q1⟩ := r.back (f1 xs (same_sqK s2 (same_sqK s1 h)))
    obtain ⟨d2, g2, q2⟩ := r'.back (f2 ys (same_sqK s2 (same_sqK s1 h')))
    obtain ⟨G', n, rd⟩ := nw_pair s2 nT (q1.same s1) (q2.same s1)
    exact ⟨G', _, n, zpD_get g1 g2, rd⟩
theorem ai_zipK {ta : TA} {Θ : List Dt → List En → Prop} (h : AA K ta ρ fun ds ρ1 => ∃ k1 k2 l m, ds = [sq k1 l, sq k2 m] ∧ Θ (zpD l m) ρ1) : AI K (iZipK K ta) ρ Θ := fun B σ G H mm Rr q =>
  h B σ G H mm _ fun vs ds ρ1 G1 H1 m1 s1 t1 r1 ⟨k1, k2, l, m, e, p⟩ => by
    subst e
    obtain ⟨x, y, rfl, r2, r3⟩ := r1.two
    obtain ⟨a, xs, rfl, h1, h2⟩ := sqK_of m1.sub r2
    obtain ⟨b, ys, rfl, h3, h4⟩ := sqK_of m1.sub r3
    exact ⟨a, b, xs, ys, k1, k2, rfl, same_sqK m1.sub h1, same_sqK m1.sub h3, q _ _ ρ1 G1 H1 m1 s1 t1 (wj_zipK h1 h3 h2 h4) p⟩
end
end Sh
set_option Elab.async false
set_option linter.all false
set_option maxRecDepth 100000
set_option maxHeartbeats 4000000
namespace Sh
open PySem PySem.Spec PyProof.Rows L2
abbrev s_opposite : Stmt := topS 5
abbrev N_opposite : List Str := ["bound"]
abbrev p_opposite : List Str := ["bound"]
theorem sc_opposite : FnScope N_opposite p_opposite (defScope s_opposite) := ⟨rfl, rfl, rfl, by decide +kernel, rfl, by decide +kernel, by decide +kernel⟩
abbrev s_with_zero : Stmt := topS 12
abbrev N_with_zero : List Str := ["gaps", "spans", "ways", "row", "span"]
abbrev p_with_zero : List Str := ["gaps", "spans"]
theorem sc_with_zero : FnScope N_with_zero p_with_zero (defScope s_with_zero) := ⟨rfl, rfl, rfl, by decide +kernel, rfl, by decide +kernel, by decide +kernel⟩
def ngO (o : Option Int) : Option Int := o.map fun x => -x
def spOpp (_ : PySem.W.Frag) : Sp := fun vs H Q _ => ∃ o, vs = [ov o] ∧ Q (ov (ngO o)) H
def wzM (n : Nat) (g : Mx) (lo hi : Nat → Option Int) : Mx := fun i j => if i < n then (if j < n then g i j else if j = n then hi i else none) else if i = n then (if j < n then ngO (lo j) else if j = n then some 0 else none) else none
theorem wz_row {n i : Nat} {g : Mx} {lo hi : Nat → Option Int} (h : i < n) : rowV (n + 1) (wzM n g lo hi) i = rowV n g i ++ [ov (hi i)] := by
  unfold rowV
  rw [List.range_succ, List.map_append]
  congr 1
  · refine List.map_congr_left fun j hj => ?_
    unfold wzM; rw [if_pos h, if_pos (List.mem_range.mp hj)]
  · show [ov _] = _
    unfold wzM; rw [if_pos h, if_neg (by omega), if_pos rfl]
theorem wz_last {n : Nat} {g : Mx} {lo hi : Nat → Option Int} : rowV (n + 1) (wzM n g lo hi) n = (List.range n).map (fun j => ov (ngO (lo j))) ++ [.int 0] := by
  unfold rowV
  rw [List.range_succ, List.map_append]
  congr 1
  · refine List.map_congr_left fun j hj => ?_
    unfold wzM; rw [if_neg (by omega), if_pos rfl, if_pos (List.mem_range.mp hj)]
  · show [ov _] = _
    unfold wzM; rw [if_neg (by omega), if_pos rfl, if_neg (by omega), if_pos rfl]; rfl
theorem wz_fin {n : Nat} {g : Mx} {lo hi : Nat → Option Int} : Fw.fin (n + 1) (wzM n g lo hi) := fun a b h => by
  unfold wzM
  by_cases h1 : a < n
  · rw [if_pos h1, if_neg (by omega), if_neg (by omega)]
  · by_cases h2 : a = n
    · rw [if_neg h1, if_pos h2, if_neg (by omega), if_neg (by omega)]
    · rw [if_neg h1, if_neg h2]
/-- what with_zero is given -/
def WzIn (K : PySem.W.Frag) (H : Hp) (a b : Addr) (n : Nat) (g : Mx) (lo hi : Nat → Option Int) : Prop := ∃ k1 k2 xs ys, SqK K k1 H a xs ∧ SqK K k2 H b ys ∧ xs.length = n ∧ ys.length = n ∧
  (∀ i x, xs[i]? = some x → ∃ k p, x = .ref p ∧ SqK K k H p (rowV n g i)) ∧ ∀ i y, ys[i]? = some y → ∃ k q, y = .ref q ∧ SqK K k H q [ov (lo i), ov (hi i)]
structure Pg (H0 H : Hp) (D : Addr) (rs : List Addr) (i m : Nat) (M : Mx) : Prop where
  top : H D = some (.lst (rs.map V.ref))
  len : rs.length = i
  nd : rs.Nodup
  na : D ∉ rs
  row : ∀ k r, rs[k]? = some r → H r = some (.lst (rowV m M k))
  fr : ∀ r ∈ rs, H0 r = none
  sm : Same H0 H
theorem Pg.same {H0 H H' : Hp} {D : Addr} {rs : List Addr} {i m : Nat} {M : Mx} (p : Pg H0 H D rs i m M) (s : Same H H') : Pg H0 H' D rs i m M :=
  ⟨s _ _ p.top, p.len, p.nd, p.na, fun k r h => s _ _ (p.row k r h), p.fr, p.sm.trans s⟩
theorem Pg.app {H0 H : Hp} {D q : Addr} {rs : List Addr} {i m : Nat} {M : Mx} (p : Pg H0 H D rs i m M) (nD : H0 D = none) (nq : H q = none) :
    Pg H0 (upd (upd H q (.lst (rowV m M i))) D (.lst (rs.map V.ref ++ [V.ref q]))) D (rs ++ [q]) (i + 1) m M := by
  have qD : q ≠ D := fun e => by rw [e, p.top] at nq; cases nq
  have nr : q ∉ rs := fun e => by
    obtain ⟨k, hk, e2⟩ := List.getElem_of_mem e
    have := p.row k q (by rw [List.getElem?_eq_getElem hk, e2])
    rw [this] at nq; cases nq
  refine ⟨by rw [upd_same, List.map_append]; rfl, by rw [List.length_append, p.len]; rfl, ?_, ?_, ?_, ?_, ?_⟩
  · rw [List.nodup_append]
    refine ⟨p.nd, by simp, fun x hx y hy e => ?_⟩
    rw [List.mem_singleton.mp hy] at e
    exact nr (e ▸ hx)
  · intro h
    rcases List.mem_append.mp h with h | h
    · exact p.na h
    · exact qD (List.mem_singleton.mp h).symm
  · intro k r h
    by_cases hk : k < rs.length
    · rw [List.getElem?_append_left hk] at h
      have hm : r ∈ rs := List.mem_of_getElem? h
      rw [upd_ne (fun e => p.na (by rw [← e]; exact hm)), upd_ne (fun e => nr (by rw [← e]; exact hm))]
      exact p.row k r h
    · rw [List.getElem?_append_right (by omega)] at h
      have e0 : k - rs.length = 0 := by
        rcases Nat.eq_zero_or_pos (k - rs.length) with z | z
        · exact z
        · rw [List.getElem?_eq_none (by simp; omega)] at h; cases h
      rw [e0] at h
      cases h
      rw [upd_ne qD, upd_same, show k = i by have := p.len; omega]
  · intro r h
    rcases List.mem_append.mp h with h | h
    · exact p.fr r h
    · rw [List.mem_singleton.mp h]
      cases e : H0 q with
      | none => rfl
      | some o => rw [p.sm _ _ e] at nq; cases nq
  · intro c o e
    have h1 := p.sm c o e
    rw [upd_ne (fun z => by rw [z, nD] at e; cases e), upd_ne (fun z => by rw [z, nq] at h1; cases h1)]
    exact h1
def spWz (K : PySem.W.Frag) : Sp := fun vs H Q _ => ∃ a b n g lo hi, vs = [.ref a, .ref b] ∧ WzIn K H a b n g lo hi ∧ n ≤ 99 ∧
  ∀ a' rs H', Gr H' a' rs (n + 1) (wzM n g lo hi) → H a' = none → (∀ r ∈ rs, H r = none) → Same H H' → Q (.ref a') H'
theorem walk_zipK {K : PySem.W.Frag} {k1 k2 : Bool} {a b : Addr} {xs ys : List V} {G : Hp} (h : SqK K k1 G a xs) (h' : SqK K k2 G b ys) : Walk (ItzK K k1 k2 a b) (min xs.length ys.length) (fun H => Same G H)
    (fun i H v H' => ∃ T x y, v = .ref T ∧ H T = none ∧ H' = upd H T (.tup [x, y]) ∧ xs[i]? = some x ∧ ys[i]? = some y) :=
  ⟨fun i H hi s => ⟨xs, ys, xs[i]'(by omega), ys[i]'(by omega), same_sqK s h, same_sqK s h', List.getElem?_eq_getElem _, List.getElem?_eq_getElem _⟩,
    fun H s => ⟨xs, ys, same_sqK s h, same_sqK s h', rfl⟩,
    fun i H v H' hi s y => by
      obtain ⟨T, x, z, e, n, e2, f1, f2⟩ := y
      exact ⟨T, x, z, e, n, e2, f1 xs (same_sqK s h), f2 ys (same_sqK s h')⟩⟩
section
variable {P : Program} {w : World} {K : PySem.W.Frag} {mg : Str → Option Value} {base : Heap}
theorem tConsI {t : TE} {u : TA} {σ : L2.St} {H : Hp} {Q : List V → Hp → Prop} (h : t σ H fun v H1 => u σ H1 fun vs H2 => Q (v :: vs) H2) : tCons t u σ H Q := h
theorem tOpI {r : R2} {t u : TE} {σ : L2.St} {H : Hp} {Q : VK} (h : t σ H fun x H1 => u σ H1 fun y H2 => r x y H2 Q) : tOp r t u σ H Q := h
theorem ix_pair {k : Bool} {H : Hp} {p : Addr} {x y v : V} {i : Int} {Q : VK} (h : SqK K k H p [x, y]) (hv : (i = 0 ∧ v = x) ∨ (i = 1 ∧ v = y)) (q : Q v H) : rIx K (.ref p) (.int i) H Q := by
  have at' : atI [x, y] i = some v := by
    rcases hv with ⟨rfl, rfl⟩ | ⟨rfl, rfl⟩ <;> rfl
  cases k
  · exact .inl ⟨p, _, _, _, rfl, rfl, h, at', q⟩
  · exact .inr (.inl ⟨p, _, _, _, rfl, rfl, h, at', q⟩)
theorem ok_oppV {f : Addr} {fd : FuncData} (F : Fun K "opposite" "opposite" s_opposite f fd) : FnOk P w K mg base CX0 1 f fd p_opposite (spOpp K) := by
  refine F.ok sc_opposite (fun vs H Q E h => ?_) (fun cdv A outer s H vs Q E hr h => ?_)
  · obtain ⟨o, rfl, _⟩ := h
    rfl
  obtain ⟨o, rfl, q⟩ := h
  refine ⟨_, (pss_cons (ps_if (pt_cmpR op_isN (pv 0) pe_non (nomark _)) (pss_one (ps_ret pe_non)) pss_nil)
    (pss_one (ps_ret (pe_un un_neg (pv 0))))), ?_⟩
  refine ⟨_, rfl, rfl, _, rfl, ?_⟩
  rw [ov_some]
  cases o with
  | none => rw [if_pos (show (none : Option Int).isNone = true from rfl)]; exact q
  | some x => rw [if_neg (fun h => nomatch h)]; exact ⟨_, rfl, x, rfl, q⟩
theorem lc_spans {k2 : Bool} {H : Hp} {b : Addr} {ys : List V} {n : Nat} {lo : Nat → Option Int} {o0 o2 o3 o4 : Option V} {Q : VK} (hy : SqK K k2 H b ys) (ly : ys.length = n)
    (fy : ∀ i y, ys[i]? = some y → ∃ k q h, y = .ref q ∧ SqK K k H q [ov (lo i), h]) (q : ∀ E H', Same H H' → H' E = some (.lst ((List.range n).map fun j => ov (ngO (lo j)))) → Q (.ref E) H') (z9 : n ≤ 99 := by assumption) :
    tLc (fun σ H R => iList K (tVar 1) σ H R ∨ iTup K (tVar 1) σ H R) (gName 4) tYes (tCall (spOpp K) [] E0 (tCons (tOp (rIx K) (tVar 4) (tC (.int 0))) tNil)) [4] [o0, some (.ref b), o2, o3, o4] H Q := by
  have z10 : 1000 ≤ sizeLine := by decide
  have step : ∀ (E : Addr) (i : Nat) (x : V) (H3 : Hp), H E = none → i < n → ys[i]? = some x → H3 E = some (.lst ((List.range i).map fun j => ov (ngO (lo j)))) → Same H H3 →
      tCall (spOpp K) [] E0 (tCons (tOp (rIx K) (tVar 4) (tC (.int 0))) tNil) [o0, some (.ref b), o2, o3, some x] H3 fun y H4 => ∃ acc, H4 E = some (.lst acc) ∧ acc.length < sizeLine ∧ ((upd H4 E (.lst (acc ++ [y]))) E = some (.lst ((List.range (i + 1)).map fun j => ov (ngO (lo j)))) ∧ Same H (upd H4 E (.lst (acc ++ [y])))) := by
    intro E i x H3 nE hi ex e s
    obtain ⟨k, p, h, rfl, hp⟩ := fy i x ex
    refine ⟨_, rfl, ix_pair (same_sqK s hp) (.inl ⟨rfl, rfl⟩) ⟨lo i, rfl, _, e, by rw [List.length_map, List.length_range]; omega, ?_, fun c o ho => ?_⟩⟩
    · rw [upd_same, List.range_succ, List.map_append]; rfl
    · rw [upd_ne (fun z => by rw [z, nE] at ho; cases ho)]; exact s c o ho
  cases k2
  · refine .inl ⟨_, rfl, b, rfl, ⟨ys, hy⟩, fun E nE => ?_⟩
    refine lc_it (walk_list (xs := ys)) (fun i H3 => H3 E = some (.lst ((List.range i).map fun j => ov (ngO (lo j)))) ∧ Same H H3) ⟨upd_same, same_up nE⟩ (fun i H3 _ h => same_sqL h.2 hy) ?_ (fun H3 h => q E H3 h.2 (by rw [← ly]; exact h.1))
    rintro i x H3 H4 hi ⟨e, s⟩ ⟨rfl, ex⟩
    refine ⟨rfl, ?_⟩
    unfold tYes
    show (if (true : Bool) = true then _ else _)
    rw [if_pos rfl]
    exact step E i x _ nE (by omega) ex e s
  · refine .inr ⟨_, rfl, b, rfl, ⟨ys, hy⟩, fun E nE => ?_⟩
    refine lc_it (walk_tup (xs := ys)) (fun i H3 => H3 E = some (.lst ((List.range i).map fun j => ov (ngO (lo j)))) ∧ Same H H3) ⟨upd_same, same_up nE⟩ (fun i H3 _ h => same_sqT h.2 hy) ?_ (fun H3 h => q E H3 h.2 (by rw [← ly]; exact h.1))
    rintro i x H3 H4 hi ⟨e, s⟩ ⟨rfl, ex⟩
    refine ⟨rfl, ?_⟩
    unfold tYes
    show (if (true : Bool) = true then _ else _)
    rw [if_pos rfl]
    exact step E i x _ nE (by omega) ex e s
theorem ok_wz (bl : Blts mg) {g_opposite : Addr} {d_opposite : FuncData} (c_opposite : Cal P w K mg base 1 "opposite" p_opposite (spOpp K) g_opposite d_opposite) {f : Addr} {fd : FuncData} (F : Fun K "with_zero" "with_zero" s_with_zero f fd) : FnOk P w K mg base CX0 2 f fd p_with_zero (spWz K) := by
  refine F.ok sc_with_zero (fun vs H Q E h => ?_) (fun cdv A outer s H vs Q E hr h => ?_)
  · obtain ⟨a, b, n, g, lo, hi, rfl, _⟩ := h
    rfl
  obtain ⟨a, b, n, g, lo, hi, rfl, ⟨k1, k2, xs, ys, hx, hy, lx, ly, fx, fy⟩, n99, q⟩ := h
  refine ⟨_, (pss_cons (ps_setLc (i := 2) (own := [("row", 3), ("span", 4)]) (g := (gTup K 2 (gCons (gName 3) (gCons (gName 4) gNil)))) (te := (tOp rCat (tCB (fun xs H Q => ∃ p ys, xs = [.ref p] ∧ (SqL K H p ys ∨ SqT K H p ys) ∧ ∀ l, H l = none → Q (.ref l) (upd H l (.lst ys))) (tCons (tVar 3) tNil)) (tLst (tCons (tOp (rIx K) (tVar 4) (tC (.int 1))) tNil)))) (tt := tYes) rfl sc_with_zero.nd rfl rfl (sw_true rfl rfl rfl (by decide +kernel)) (pi_zipK rfl bl.zip (pa_cons (pv 0) (pa_cons (pv 1) pa_nil))) (blkOk_by (N := N_with_zero) (sc := defScope s_with_zero) (by decide +kernel)) (fun _ _ _ _ _ => (pg_tup rfl (pgs_cons (pg_name (i := 3) sc_with_zero.nd rfl (by first | exact Or.inl rfl | exact Or.inr rfl)) (pgs_cons (pg_name (i := 4) sc_with_zero.nd rfl (by first | exact Or.inl rfl | exact Or.inr rfl)) pgs_nil)))) (fun _ _ _ _ _ => pts_nil) (fun _ _ _ _ _ => (pe_op op_cat (pe_callTy call_list_of rfl bl.list (by decide +kernel) (pa_cons (pv 3) pa_nil)) (pe_lst (pa_cons (pe_ix ix_seq (pv 4) pe_int (fun _ _ => rfl)) pa_nil)))))
    (pss_cons (ps_expr (pe_bm PySem.F.plainAttrs_list PySem.F.slot_list_append PySem.F.type_list_append mt_append (pv 2) (pa_cons (pe_op op_cat (pe_lc (own := [("span", 4)]) (g := (gName 4)) (te := (tCall (spOpp K) [] E0 (tCons (tOp (rIx K) (tVar 4) (tC (.int 0))) tNil))) (tt := tYes) rfl sc_with_zero.nd (pi_or (pi_list (pv 1)) (pi_tup (pv 1))) (blkOk_by (N := N_with_zero) (sc := defScope s_with_zero) (by decide +kernel)) (fun _ _ _ _ _ => (pg_name (i := 4) sc_with_zero.nd rfl (by first | exact Or.inl rfl | exact Or.inr rfl))) (fun _ _ _ _ _ => pts_nil) (fun _ _ _ _ _ => (pe_call c_opposite.ok (hr.mono (by decide)) rfl c_opposite.mg c_opposite.kp c_opposite.bi .nil pass0 (pa_cons (pe_ix ix_seq (pv 4) pe_int (fun _ _ => rfl)) pa_nil)))) (pe_lst (pa_cons pe_int pa_nil))) pa_nil)))
    (pss_one (ps_ret (pv 2))))), ?_⟩
  refine ⟨_, rfl, _, rfl, a, b, xs, ys, k1, k2, rfl, hx, hy, fun D nD => ?_⟩
  have z9 : 1000 ≤ sizeLine := by decide
  refine lc_it (walk_zipK (K := K) hx hy) (fun i H2 => ∃ rs, Pg H H2 D rs i (n + 1) (wzM n g lo hi)) ⟨[], upd_same, rfl, List.nodup_nil, List.not_mem_nil, fun k r h => (by cases h), fun r h => (by cases h), same_up nD⟩ (fun i H2 _ ⟨rs, p⟩ => p.sm) ?_ ?_
  · rintro i x H2 H3 hi' ⟨rs, p⟩ ⟨T, u, v, rfl, nT, rfl, e1, e2⟩
    have hin : i < n := by omega
    have p1 := p.same (same_up (o := .tup [u, v]) nT)
    have tT : (upd H2 T (.tup [u, v])) T = some (.tup [u, v]) := upd_same
    generalize upd H2 T (.tup [u, v]) = H3 at p1 tT ⊢
    obtain ⟨kr, pr, rfl, hr'⟩ := fx i u e1
    obtain ⟨ks, ps, rfl, hs'⟩ := fy i v e2
    refine ⟨T, _, rfl, SqT.of tT, rfl, _, _, rfl, _, _, rfl, ⟨rfl, ?_⟩⟩
    refine ⟨rfl, ?_⟩
    unfold tYes
    show (if (true : Bool) = true then _ else _)
    rw [if_pos rfl]
    refine ⟨_, rfl, pr, rowV n g i, rfl, ?_, fun l nl => ?_⟩
    · cases kr
      · exact .inl (same_sqK p1.sm hr')
      · exact .inr (same_sqK p1.sm hr')
    have p2 := p1.same (same_up (o := .lst (rowV n g i)) nl)
    have tl : (upd H3 l (.lst (rowV n g i))) l = some (.lst (rowV n g i)) := upd_same
    generalize upd H3 l (.lst (rowV n g i)) = H4 at p2 tl ⊢
    refine ⟨_, rfl, ix_pair (same_sqK p2.sm hs') (.inr ⟨rfl, rfl⟩) ⟨by show 1 ≤ sizeLine; omega, fun m nm => ?_⟩⟩
    have sm := same_up (o := .lst [ov (hi i)]) nm
    have p3 := p2.same sm
    have tl2 := sm _ _ tl
    have tm : (upd H4 m (.lst [ov (hi i)])) m = some (.lst [ov (hi i)]) := upd_same
    generalize upd H4 m (.lst [ov (hi i)]) = H5 at p3 tl2 tm ⊢
    refine ⟨l, m, _, _, rfl, rfl, tl2, tm, by rw [rowV_len]; show n + 1 ≤ sizeLine; omega, fun c nc => ?_⟩
    rw [← wz_row hin]
    have cD : D ≠ c := fun e => by rw [← e, p3.top] at nc; cases nc
    exact ⟨_, by rw [upd_ne cD]; exact p3.top, by rw [List.length_map, p3.len]; omega, _, p3.app nD nc⟩
  rintro H2 ⟨rs, p⟩
  rw [show min xs.length ys.length = n by omega] at p
  refine ⟨_, rfl, .inl ⟨rfl, _, SqL.of p.top⟩, ?_⟩
  refine tConsI (tOpI ?_)
  show tLc (fun σ H R => iList K (tVar 1) σ H R ∨ iTup K (tVar 1) σ H R) (gName 4) tYes (tCall (spOpp K) [] E0 (tCons (tOp (rIx K) (tVar 4) (tC (.int 0))) tNil)) [4] [some (.ref a), some (.ref b), some (.ref D), none, none] H2 _
  refine lc_spans (K := K) (same_sqK p.sm hy) ly (fun i y e => by
    obtain ⟨k, q, e1, h1⟩ := fy i y e
    exact ⟨k, q, _, e1, same_sqK p.sm h1⟩) fun E' H3 s3 tE => ⟨by show 1 ≤ sizeLine; omega, fun m nm => ?_⟩
  have p3 := p.same s3
  have sm := same_up (o := .lst [.int 0]) nm
  have p4 := p3.same sm
  have tE4 := sm _ _ tE
  have tm : (upd H3 m (.lst [.int 0])) m = some (.lst [.int 0]) := upd_same
  generalize upd H3 m (.lst [.int 0]) = H4 at p4 tE4 tm ⊢
  refine ⟨E', m, _, _, rfl, rfl, tE4, tm, by rw [List.length_map, List.length_range]; show n + 1 ≤ sizeLine; omega, fun c nc => ?_⟩
  rw [← wz_last (g := g) (hi := hi)]
  have cD : D ≠ c := fun e => by rw [← e, p4.top] at nc; cases nc
  have p5 := p4.app nD nc
  exact ⟨D, _, _, rfl, rfl, by rw [upd_ne cD]; exact p4.top, by rw [List.length_map, p4.len]; omega, _, rfl, q D _ _ ⟨p5.top, p5.len, p5.nd, p5.na, p5.row⟩ nD p5.fr p5.sm⟩
end
end Sh
set_option Elab.async false
set_option linter.all false
set_option maxRecDepth 100000
set_option maxHeartbeats 4000000
/-! the grid of gaps_closed, once it is small, as data -/
namespace Sh
open PySem PySem.Spec PyProof.Rows L2
section
variable {K : PySem.W.Frag} {ρ : List En} {N : List En → Prop} {R : Dt → List En → Prop}
theorem rd_ov {G : Hp} {o : Option Int} : RD K G (oD o) (ov o) := by
  cases o
  · exact rfl
  · exact rfl
theorem rd_ov' {G : Hp} {o : Option Int} {x : V} (r : RD K G (oD o) x) : x = ov o := by
  cases o
  · exact r
  · exact r
theorem rds_ov {G : Hp} : ∀ {l : List (Option Int)}, RDs K G (l.map oD) (l.map ov)
  | [] => rfl
  | o :: l => ⟨ov o, l.map ov, rfl, rd_ov, rds_ov (l := l)⟩
theorem rds_ov' {G : Hp} : ∀ {l : List (Option Int)} {xs : List V}, RDs K G (l.map oD) xs → xs = l.map ov
  | [], _, h => h
  | o :: l, _, ⟨x, r, e, h1, h2⟩ => by rw [e, rd_ov' h1, rds_ov' (l := l) h2]; rfl
theorem rds_of {G : Hp} : ∀ {ds : List Dt} {vs : List V}, ds.length = vs.length → (∀ (i : Nat) (d : Dt) (v : V), ds[i]? = some d → vs[i]? = some v → RD K G d v) → RDs K G ds vs
  | [], [], _, _ => rfl
  | [], _ :: _, h, _ => by cases h
  | _ :: _, [], h, _ => by cases h
  | d :: ds, v :: vs, h, f => ⟨v, vs, rfl, f 0 d v rfl rfl, rds_of (by simpa using h) fun i d' v' h1 h2 => f (i + 1) d' v' (by simpa using h1) (by simpa using h2)⟩
/-- a row, a grid as data -/
def rwD (m : Nat) (M : Mx) (k : Nat) : List Dt := ((List.range m).map fun j => M k j).map oD
def grD (m : Nat) (M : Mx) : List Dt := (List.range m).map fun k => .lst (rwD m M k)
theorem row_map {m : Nat} {M : Mx} {k : Nat} : rowV m M k = ((List.range m).map fun j => M k j).map ov := by
  unfold rowV; rw [List.map_map]; rfl
theorem grD_at {m : Nat} {M : Mx} {k : Nat} (h : k < m) : (grD m M)[k]? = some (.lst (rwD m M k)) := by
  unfold grD; rw [List.getElem?_map, List.getElem?_range h]; rfl
theorem rwD_at {m : Nat} {M : Mx} {k j : Nat} (h : j < m) : (rwD m M k)[j]? = some (oD (M k j)) := by
  unfold rwD; rw [List.map_map, List.getElem?_map, List.getElem?_range h]; rfl
theorem gr_nw {G H H' : Hp} {a : Addr} {rs : List Addr} {m : Nat} {M : Mx} (s : Same G H) (sm : Same H H') (g : Gr H' a rs m M) (na : H a = none) (nr : ∀ r ∈ rs, H r = none) : ∃ G', Nw G H G' H' ∧ RD K G' (.lst (grD m M)) (.ref a) := by
  classical
  have gN : ∀ c, (c = a ∨ c ∈ rs) → G c = none := fun c hc => by
    cases e : G c with
    | none => rfl
    | some o =>
      have h := s _ _ e
      rcases hc with rfl | hc
      · rw [na] at h; cases h
      · rw [nr _ hc] at h; cases h
  have sg : Same G (fun c => if c = a ∨ c ∈ rs then H' c else G c) := fun c o e => by
    show (if _ then _ else _) = _
    rw [if_neg (fun hc => by rw [gN c hc] at e; cases e)]; exact e
  refine ⟨fun c => if c = a ∨ c ∈ rs then H' c else G c, ⟨sg, fun c o e => ?_, sm, fun c e1 e2 => ?_⟩, ?_⟩
  · have e' : (if c = a ∨ c ∈ rs then H' c else G c) = some o := e
    by_cases hc : c = a ∨ c ∈ rs
    · rw [if_pos hc] at e'; exact e'
    · rw [if_neg hc] at e'; exact sm _ _ (s _ _ e')
  · show (if _ then _ else _) = _
    rw [if_neg (fun hc => by
      rcases hc with rfl | hc
      · exact e2 na
      · exact e2 (nr _ hc))]
    exact e1
  · refine ⟨a, rs.map V.ref, rfl, ?_, rds_of (by unfold grD; rw [List.length_map, List.length_map, List.length_range, g.len]) fun k d v h1 h2 => ?_⟩
    · show (if _ then _ else _) = _
      rw [if_pos (.inl rfl)]; exact g.top
    · have hk : k < m := by
        have := (List.getElem?_eq_some_iff.mp h1).1
        unfold grD at this; rw [List.length_map, List.length_range] at this; exact this
      rw [grD_at hk] at h1
      cases h1
      rw [List.getElem?_map] at h2
      cases er : rs[k]? with
      | none => rw [er] at h2; cases h2
      | some r =>
        rw [er] at h2
        cases h2
        refine ⟨r, rowV m M k, rfl, ?_, by rw [row_map]; exact rds_ov⟩
        show (if _ then _ else _) = _
        rw [if_pos (.inr (List.mem_of_getElem? er))]
        exact g.row k r er
/-- what with_zero is given, as data -/
def WzD (d1 d2 : Dt) (n : Nat) (g : Mx) (lo hi : Nat → Option Int) : Prop := ∃ k1 k2 l m, d1 = sq k1 l ∧ d2 = sq k2 m ∧ l.length = n ∧ m.length = n ∧
  (∀ (i : Nat) (d : Dt), l[i]? = some d → ∃ k, d = sq k (rwD n g i)) ∧ ∀ (i : Nat) (d : Dt), m[i]? = some d → ∃ k, d = sq k [oD (lo i), oD (hi i)]
theorem wz_in {G H : Hp} {d1 d2 : Dt} {x y : V} {n : Nat} {g : Mx} {lo hi : Nat → Option Int} (s : Same G H) (w : WzD d1 d2 n g lo hi) (r1 : RD K G d1 x) (r2 : RD K G d2 y) : ∃ a b, x = .ref a ∧ y = .ref b ∧ WzIn K H a b n g lo hi := by
  obtain ⟨k1, k2, l, m, rfl, rfl, ll, lm, f1, f2⟩ := w
  obtain ⟨a, xs, rfl, h1, q1⟩ := sqK_of s r1
  obtain ⟨b, ys, rfl, h2, q2⟩ := sqK_of s r2
  refine ⟨a, b, rfl, rfl, k1, k2, xs, ys, same_sqK s h1, same_sqK s h2, by rw [q1.length, ll], by rw [q2.length, lm], fun i x e => ?_, fun i y e => ?_⟩
  · obtain ⟨d, e1, rd⟩ := q1.back e
    obtain ⟨k, rfl⟩ := f1 i d e1
    obtain ⟨p, zs, rfl, h3, q3⟩ := sqK_of s rd
    refine ⟨k, p, rfl, ?_⟩
    rw [row_map, ← rds_ov' q3]
    exact same_sqK s h3
  · obtain ⟨d, e1, rd⟩ := q2.back e
    obtain ⟨k, rfl⟩ := f2 i d e1
    obtain ⟨p, zs, rfl, h3, q3⟩ := sqK_of s rd
    refine ⟨k, p, rfl, ?_⟩
    obtain ⟨u, v, rfl, r3, r4⟩ := q3.two
    rw [← rd_ov' r3, ← rd_ov' r4]
    exact same_sqK s h3
/-- ways = with_zero(gaps, spans); shorten(ways) -/
theorem as_grid {i j iw n : Nat} {d1 d2 : Dt} {g : Mx} {lo hi : Nat → Option Int} {rest : TS} (e1 : ρ[i]? = some (.da d1)) (e2 : ρ[j]? = some (.da d2)) (w : WzD d1 d2 n g lo hi) (n99 : n ≤ 99) (li : iw < ρ.length)
    (h : AS K rest (ρ.set iw (.da (.lst (grD (n + 1) (Fw.fwM (n + 1) (wzM n g lo hi)))))) N R) :
    AS K (tSeq (tAsg (tCall (spWz K) [] E0 (tCons (tVar i) (tCons (tVar j) tNil))) (gName iw)) (tSeq (tDrop (tCall (spShorten K) [] E0 (tCons (tVar iw) tNil))) rest)) ρ N R := fun B σ G H m D qn qr => by
  obtain ⟨x, x1, rx⟩ := m.da i d1 e1
  obtain ⟨y, y1, ry⟩ := m.da j d2 e2
  obtain ⟨a, b, rfl, rfl, wi⟩ := wz_in (K := K) m.sub w rx ry
  refine ⟨_, x1, _, y1, a, b, n, g, lo, hi, rfl, wi, n99, fun a' rs H1 gr na nr s1 => ?_⟩
  have lw : iw < σ.length := by rw [m.len]; exact li
  refine ⟨_, List.getElem?_set_self lw, a', rs, n + 1, _, rfl, gr, by omega, fun H2 gr2 k2 => ?_⟩
  have s2 : Same H H2 := fun c o e => k2 c o (fun hc => by rw [nr _ hc] at e; cases e) (s1 _ _ e)
  obtain ⟨G', nw, rd⟩ := gr_nw (K := K) m.sub s2 gr2 na nr
  exact h B _ G' H2 ((m.nw nw).set iw rd) D (fun σ' ρ' G2 H3 m3 s3 t3 => qn σ' ρ' G2 H3 m3 (nw.g.trans s3) ((Tr.same s2).trans t3)) (fun v d σ' ρ' G2 H3 m3 s3 t3 => qr v d σ' ρ' G2 H3 m3 (nw.g.trans s3) ((Tr.same s2).trans t3))
end
end Sh
set_option Elab.async false
set_option linter.all false
set_option maxRecDepth 100000
set_option maxHeartbeats 4000000
namespace Sh
open PySem PySem.Spec PyProof.Rows L2
abbrev s_gaps_closed : Stmt := topS 7
abbrev N_gaps_closed : List Str := ["gaps", "spans", "many", "ways", "closed", "i"]
abbrev p_gaps_closed : List Str := ["gaps", "spans"]
theorem sc_gaps_closed : FnScope N_gaps_closed p_gaps_closed (defScope s_gaps_closed) := ⟨rfl, rfl, rfl, by decide +kernel, rfl, by decide +kernel, by decide +kernel⟩
/-- what gaps_closed answers -/
def ngB (M : Mx) (i : Nat) : Bool := match M i i with
  | some x => decide (x < 0)
  | none => false
def clD (n : Nat) (M : Mx) : Dt := .tup ((List.range n).map fun i => .tup ((rwD (n + 1) M i).take n))
def prD (n : Nat) (M : Mx) : Dt := .lst ((List.range n).map fun i => .tup [oD (ngO (M n i)), oD (M i n)])
def gcD (n : Nat) (M : Mx) : Dt := if (List.range (n + 1)).any (ngB M) = true then .non else .tup [clD n M, prD n M]
def toF (f : Nat → Dt) : Dt → Dt
  | .int i => f i.toNat
  | _ => .non
theorem toF_k {f : Nat → Dt} {k : Nat} : toF f (.int (k : Int)) = f k := by show f (Int.toNat _) = _; rw [Int.toNat_natCast]
theorem toF_map {f : Nat → Dt} {k : Nat} : ((List.range k).map fun i => Dt.int ((i : Nat) : Int)).map (toF f) = (List.range k).map f := by
  rw [List.map_map]; exact List.map_congr_left fun i _ => toF_k
theorem ngB_of {M : Mx} {k : Nat} {x : Int} (h : M k k = some x) : ngB M k = decide (x < 0) := by unfold ngB; rw [h]
theorem cutD_to {l : List Dt} {n : Nat} : cutD l none (some (n : Int)) = l.take n := by
  unfold cutD
  rw [HT.sIx_none, HT.sIx_nat, List.drop_zero, Nat.sub_zero]
  by_cases h : n ≤ l.length
  · rw [Nat.min_eq_left h]
  · rw [Nat.min_eq_right (by omega), List.take_of_length_le (Nat.le_refl _), List.take_of_length_le (by omega)]
def S_ng : List Dt → Dt → Prop := fun ds r => ∃ a, ds = [oD a] ∧ r = oD (ngO a)
def S_gc : List Dt → Dt → Prop := fun ds r => ∃ d1 d2 n g lo hi, ds = [d1, d2] ∧ WzD d1 d2 n g lo hi ∧ n ≤ 98 ∧ (∀ i, i < n → ∃ x, g i i = some x) ∧ r = gcD n (Fw.fwM (n + 1) (wzM n g lo hi))
theorem wz_dg {n : Nat} {g : Mx} {lo hi : Nat → Option Int} (hg : ∀ i, i < n → ∃ x, g i i = some x) {i : Nat} (h : i < n + 1) : ∃ x, Fw.fwM (n + 1) (wzM n g lo hi) i i = some x := by
  have h2 : ∃ y, wzM n g lo hi i i = some y := by
    unfold wzM
    by_cases h1 : i < n
    · rw [if_pos h1, if_pos h1]; exact hg i h1
    · rw [if_neg h1, if_pos (by omega), if_neg h1, if_pos (by omega)]; exact ⟨0, rfl⟩
  obtain ⟨y, hy⟩ := h2
  obtain ⟨x, hx, _⟩ := Fw.fw_le (n + 1) (wzM n g lo hi) i i y hy
  exact ⟨x, hx⟩
section
variable {P : Program} {w : World} {K : PySem.W.Frag} {mg : Str → Option Value} {base : Heap}
theorem negP {f : Addr} {fd : FuncData} {k : Nat} {ps : List Str} (C : FnOk P w K mg base CX0 k f fd ps (spOpp K)) : FnOk P w K mg base CX0 k f fd ps (spP K S_ng) := C.imp fun vs H Q E h => by
  obtain ⟨G, ds, r, sm, rd, ⟨a, rfl, rfl⟩, q⟩ := h
  obtain ⟨x, rfl, e⟩ := rd.one
  exact ⟨a, by rw [rd_ov' e], q _ G H (Nw.refl sm) rd_ov⟩
theorem ok_gaps_closed (bl : Blts mg) {g_with_zero : Addr} {d_with_zero : FuncData} (c_with_zero : Cal P w K mg base 2 "with_zero" p_with_zero (spWz K) g_with_zero d_with_zero) {g_shorten : Addr} {d_shorten : FuncData} (c_shorten : Cal P w K mg base 1 "shorten" p_shorten (spShorten K) g_shorten d_shorten) {g_opposite : Addr} {d_opposite : FuncData} (c_opposite : Cal P w K mg base 1 "opposite" p_opposite (spP K S_ng) g_opposite d_opposite)  {f : Addr} {fd : FuncData} (F : Fun K "gaps_closed" "gaps_closed" s_gaps_closed f fd) : FnOk P w K mg base CX0 3 f fd p_gaps_closed (spP K (S_gc)) := by
  refine okP F sc_gaps_closed (fun ds r h => ?_) (fun cdv A outer s H E hr ds r h => ?_)
  · obtain ⟨d1, d2, n, g, lo, hi, rfl, hw, n98, hg, rfl⟩ := h
    rfl
  obtain ⟨d1, d2, n, g, lo, hi, rfl, hw, n98, hg, rfl⟩ := h
  refine ⟨_, (pss_cons (ps_set (i := 2) sc_gaps_closed.nd rfl (by first | exact Or.inl rfl | exact Or.inr rfl) (pe_callB call_len_seq rfl bl.len (by decide +kernel) (pa_cons (pv 1) pa_nil)))
    (pss_cons (ps_set (i := 3) sc_gaps_closed.nd rfl (by first | exact Or.inl rfl | exact Or.inr rfl) (pe_call c_with_zero.ok (hr.mono (by decide)) rfl c_with_zero.mg c_with_zero.kp c_with_zero.bi .nil pass0 (pa_cons (pv 0) (pa_cons (pv 1) pa_nil))))
    (pss_cons (ps_expr (pe_call c_shorten.ok (hr.mono (by decide)) rfl c_shorten.mg c_shorten.kp c_shorten.bi .nil pass0 (pa_cons (pv 3) pa_nil)))
    (pss_cons (ps_if (pt_val (pe_callB (cr_any rfl) rfl bl.any (by decide +kernel) (pa_cons (pe_lc (own := [("i", 5)]) (g := (gName 5)) (te := (tOp (rI0 fun i j => .bl (decide (i < j))) (tOp (rIxL K) (tOp (rIxL K) (tVar 3) (tVar 5)) (tVar 5)) (tC (.int 0)))) (tt := tYes) rfl sc_gaps_closed.nd (pi_range1 rfl bl.range (pa_cons (pe_op op_add (pv 2) pe_int) pa_nil)) (blkOk_by (N := N_gaps_closed) (sc := defScope s_gaps_closed) (by decide +kernel)) (fun _ _ _ _ _ => (pg_name (i := 5) sc_gaps_closed.nd rfl (by first | exact Or.inl rfl | exact Or.inr rfl))) (fun _ _ _ _ _ => pts_nil) (fun _ _ _ _ _ => (pe_cmpR op_lt (pe_ix ix_list (pe_ix ix_list (pv 3) (pv 5) (fun _ _ => rfl)) (pv 5) (fun _ _ => rfl)) pe_int (nomark _)))) pa_nil))) (pss_one (ps_ret pe_non)) pss_nil)
    (pss_cons (ps_set (i := 4) sc_gaps_closed.nd rfl (by first | exact Or.inl rfl | exact Or.inr rfl) (pe_callTy call_tuple_of rfl bl.tuple (by decide +kernel) (pa_cons (pe_lc (own := [("i", 5)]) (g := (gName 5)) (te := (tCB (fun xs H Q => ∃ p ys, xs = [.ref p] ∧ ((SqL K H p ys ∧ ∀ l, H l = none → Q (.ref l) (upd H l (.tup ys))) ∨ (SqT K H p ys ∧ Q (.ref p) H))) (tCons (tSl (rSlL K) (tOp (rIxL K) (tVar 3) (tVar 5)) tNoPart (tPart (tVar 2))) tNil))) (tt := tYes) rfl sc_gaps_closed.nd (pi_range1 rfl bl.range (pa_cons (pv 2) pa_nil)) (blkOk_by (N := N_gaps_closed) (sc := defScope s_gaps_closed) (by decide +kernel)) (fun _ _ _ _ _ => (pg_name (i := 5) sc_gaps_closed.nd rfl (by first | exact Or.inl rfl | exact Or.inr rfl))) (fun _ _ _ _ _ => pts_nil) (fun _ _ _ _ _ => (pe_callTy call_tuple_of rfl bl.tuple (by decide +kernel) (pa_cons (pe_slice sl_list (pe_ix ix_list (pv 3) (pv 5) (fun _ _ => rfl)) po_none (po_some (pv 2))) pa_nil)))) pa_nil)))
    (pss_one (ps_ret (pe_tup (pa_cons (pv 4) (pa_cons (pe_lc (own := [("i", 5)]) (g := (gName 5)) (te := (tTup (tCons (tCall (spP K S_ng) [] E0 (tCons (tOp (rIxL K) (tOp (rIxL K) (tVar 3) (tVar 2)) (tVar 5)) tNil)) (tCons (tOp (rIxL K) (tOp (rIxL K) (tVar 3) (tVar 5)) (tVar 2)) tNil)))) (tt := tYes) rfl sc_gaps_closed.nd (pi_range1 rfl bl.range (pa_cons (pv 2) pa_nil)) (blkOk_by (N := N_gaps_closed) (sc := defScope s_gaps_closed) (by decide +kernel)) (fun _ _ _ _ _ => (pg_name (i := 5) sc_gaps_closed.nd rfl (by first | exact Or.inl rfl | exact Or.inr rfl))) (fun _ _ _ _ _ => pts_nil) (fun _ _ _ _ _ => (pe_tup (pa_cons (pe_call c_opposite.ok (hr.mono (by decide)) rfl c_opposite.mg c_opposite.kp c_opposite.bi .nil pass0 (pa_cons (pe_ix ix_list (pe_ix ix_list (pv 3) (pv 2) (fun _ _ => rfl)) (pv 5) (fun _ _ => rfl)) pa_nil)) (pa_cons (pe_ix ix_list (pe_ix ix_list (pv 3) (pv 5) (fun _ _ => rfl)) (pv 2) (fun _ _ => rfl)) pa_nil))))) pa_nil)))))))))), ?_⟩
  change AS K _ [En.da _, En.da _, En.no, En.no, En.no, En.no] _ _
  try simp only [cxOf_K]
  obtain ⟨k1, k2, l, m, rfl, rfl, ll, lm, f1, f2⟩ := id hw
  refine as_seq (as_set (ae_cb (aa_cons (ae_var rfl (aa_nil (ac_len ?_))))))
  rw [lm]
  refine as_grid rfl rfl hw (by omega) (by simp) ?_
  have dgs := fun {i : Nat} (h : i < n + 1) => wz_dg (lo := lo) (hi := hi) hg h
  generalize Fw.fwM (n + 1) (wzM n g lo hi) = M at dgs ⊢
  have rg : ∀ k : Nat, (rgD 0 ((k : Nat) : Int).toNat) = (List.range k).map fun i => Dt.int ((i : Nat) : Int) := fun k => by
    unfold rgD
    rw [Int.toNat_natCast]
    exact List.map_congr_left fun i _ => by rw [Int.zero_add]
  have z9 : 1000 ≤ sizeLine := by decide
  have rl : ∀ k : Nat, ((List.range k).map fun i => Dt.int ((i : Nat) : Int)).length = k := fun k => by rw [List.length_map, List.length_range]
  refine as_seq (as_if (at_b (ae_cb (aa_cons (ae_lcMap (toF fun i => .bl (ngB M i)) ?_)))))
  repeat' (first
    | (refine ai_rng1 ?_)
    | (refine ⟨_, rfl, by omega, by omega, ?_⟩)
    | (rw [show (((n : Nat) : Int) + 1) = ((n + 1 : Nat) : Int) by omega, rg]; refine ⟨by rw [rl]; omega, fun d hd => ?_, ?_⟩)
    | (obtain ⟨k, hk, rfl⟩ := List.mem_map.mp hd; clear hd; have hk := List.mem_range.mp hk; refine agv_name (by decide) ?_)
    | (refine ar_ixL (atI_nat (grD_at (by omega))) ?_)
    | (refine ar_ixL (atI_nat (rwD_at (by omega))) ?_)
    | (obtain ⟨x, hx⟩ := dgs hk; rw [hx])
    | exact ⟨by rw [toF_k, ngB_of hx], rfl⟩
    | ((with_reducible apply ae_var); · rfl)
    | with_reducible apply ae_int
    | with_reducible apply ae_op
    | with_reducible apply aa_nil
    | with_reducible apply aa_cons
    | with_reducible apply ar_I0i
    | with_reducible apply ar_I0b
    | simp only [oD_some, oD_none]
    | fail)
  rw [toF_map, show (List.range (n + 1)).map (fun i => Dt.bl (ngB M i)) = ((List.range (n + 1)).map (ngB M)).map Dt.bl by rw [List.map_map]; rfl]
  refine ac_any ?_
  rw [show ((List.range (n + 1)).map (ngB M)).any id = (List.range (n + 1)).any (ngB M) by rw [List.any_map]; rfl]
  refine ⟨_, rfl, fun hb => ?_, fun hb => ?_⟩
  · refine as_ret (ae_non ?_)
    unfold gcD; rw [if_pos hb]
  · have e : gcD n M = .tup [clD n M, prD n M] := by unfold gcD; rw [if_neg (by rw [hb]; decide)]
    rw [e]
    refine as_next ?_
    repeat' (first
      | (with_reducible refine ae_lcMap (te := tTup _) (toF fun i => .tup [oD (ngO (M n i)), oD (M i n)]) ?_)
      | (with_reducible refine ae_lcMap (toF fun i => .tup ((rwD (n + 1) M i).take n)) ?_)
      | (refine ai_rng1 ?_)
      | (refine ⟨_, rfl, by omega, by omega, ?_⟩)
      | (rw [rg]; refine ⟨by rw [rl]; omega, fun d hd => ?_, ?_⟩)
      | (obtain ⟨k, hk, rfl⟩ := List.mem_map.mp hd; clear hd; have hk := List.mem_range.mp hk; refine agv_name (by decide) ?_)
      | (refine ar_ixL (atI_nat (grD_at (by omega))) ?_)
      | (refine ar_ixL (atI_nat (rwD_at (by omega))) ?_)
      | with_reducible apply ae_call
      | (refine ⟨_, ⟨_, rfl, rfl⟩, ?_⟩)
      | with_reducible apply ae_slD
      | (refine ao_none ?_)
      | with_reducible apply ao_some
      | exact ⟨by rw [toF_k, cutD_to], rfl⟩
      | exact ⟨by rw [toF_k], rfl⟩
      | rw [toF_map]
      | with_reducible apply as_seq
      | with_reducible apply as_ret
      | with_reducible apply as_set
      | ((with_reducible apply ae_var); · rfl)
      | with_reducible apply ae_op
      | with_reducible apply aa_nil
      | with_reducible apply aa_cons
      | with_reducible apply ae_cb
      | with_reducible apply ae_tup
      | with_reducible apply ac_tupL
      | refine ⟨sz60 (Nat.le_of_ble_eq_true rfl), ?_⟩
      | refine ⟨_, rfl, ?_⟩
      | rfl
      | fail)
end
end Sh
set_option Elab.async false
set_option linter.all false
set_option maxRecDepth 100000
set_option maxHeartbeats 4000000
/-! for t in zip(a, b), and for x, y in zip(*t); a and b lists or tuples in any mix -/
namespace Sh
open PySem PySem.Spec PyProof.Rows L2
abbrev IsZf (h : Heap) (z TI TO : Addr) (last : Value) (f : Bool) : Prop := h.get? z = some { cls := .type "zip", dict := none, data := .fields #[last, .bool f, .bool false, .ref TI, .ref TO], slots := #[] }
section
variable {prog : Program} {w : World} {A : Around} {E : Value → Shared → Prop} {s : Shared} {z TI TO i1 i2 : Addr} {fp1 fp2 : List Addr} {n1 n2 i : Nat} {P1 P2 : Nat → Value → Prop} {St1 St2 : Nat → Heap → Prop} {a1 a2 last : Value} {f : Bool}
theorem zf_alive {a : Addr} {Q : Option Obj → Shared → Prop} (h : Q (s.heap.get? a) s) : wpAny (model prog w) A (loadIfAlive a) Q E s := fun _ _ _ => h
theorem zf_free {Q : Bool → Shared → Prop} (hz : IsZf s.heap z TI TO last f) (hl : last = .none ∨ ∃ T : Addr, last = rawInt T) (h1 : Q true s) (h2 : ∀ h', IsZf h' z TI TO last true → Heap.SameBut z s.heap h' → Q false { s with heap := h' }) :
    wpAny (model prog w) A (Builtin.SmallTypes.ownedTupleIsFree (.ref z)) Q E s := by
  unfold Builtin.SmallTypes.ownedTupleIsFree
  refine wpAny_bind (wpAny_field hz rfl (x := last) rfl ?_)
  rcases hl with rfl | ⟨T, rfl⟩
  · exact wpAny_pure h1
  · show wpAny _ _ (loadIfAlive ((T : Int).toNat) >>= _) _ _ _
    rw [Int.toNat_natCast]
    refine wpAny_bind (zf_alive ?_)
    cases s.heap.get? T with
    | none =>
      simp only [Option.isNone_none, if_true]
      exact wpAny_pure h1
    | some o =>
      simp only [Option.isNone_some, Bool.false_eq_true, if_false]
      refine wpAny_bind (wpAny_field hz rfl (x := .bool f) rfl ?_)
      cases f with
      | true =>
        rw [if_neg (show ¬ ((Value.bool true != Value.bool true) = true) from Bool.false_ne_true)]
        exact wpAny_pure (h2 s.heap hz (Heap.SameBut.refl _ _))
      | false =>
        rw [if_pos (show (Value.bool false != Value.bool true) = true from rfl)]
        exact wpAny_bind (wpAny_setField_rec hz (by simp) fun h₁ hz₁ hs₁ => wpAny_pure (h2 h₁ hz₁ hs₁))
theorem zf_next_item {Q : Value → Shared → Prop} (S : ZipSep2 z TI TO i1 i2 fp1 fp2) (D1 : Draws prog w A i1 fp1 n1 P1 St1) (D2 : Draws prog w A i2 fp2 n2 P2 St2)
    (hz : IsZf s.heap z TI TO last f) (hl : last = .none ∨ ∃ T : Addr, last = rawInt T) (hTI : IsTupOf2 s.heap TI (.ref i1) (.ref i2)) (hTO : IsTupOf2 s.heap TO a1 a2) (st1 : St1 i s.heap) (st2 : St2 i s.heap) (hlt1 : i < n1) (hlt2 : i < n2)
    (hQ : ∀ x1 x2 h' tk last' f', P1 i x1 → P2 i x2 → IsZf h' z TI TO last' f' → (last' = .none ∨ ∃ T : Addr, last' = rawInt T) → (∃ b1 b2, IsTupOf2 h' TO b1 b2) → St1 (i + 1) h' → St2 (i + 1) h' → IsTupOf2 h' s.heap.objs.size x1 x2 → h'.objs.size = s.heap.objs.size + 1 →
      (∀ c o, c ≠ z → c ≠ TO → c ≠ i1 → c ≠ i2 → s.heap.get? c = some o → h'.get? c = some o) → Q (.ref s.heap.objs.size) { s with heap := h', toks := tk }) :
    wpAny (model prog w) A (Builtin.«zip.__next__» ⟨[.ref z], []⟩) (fun fin s' => ∃ v, fin = .done (.ret v) ∧ Q v s') E s := by
  obtain ⟨hp, g, d, tk0, os⟩ := s
  show wpAny _ _ (field (.ref z) 2 >>= _) _ _ _
  refine wpAny_bind (wpAny_field hz rfl (x := .bool false) rfl ?_)
  show wpAny _ _ (field (.ref z) 3 >>= _) _ _ _
  refine wpAny_bind (wpAny_field hz rfl (x := .ref TI) rfl ?_)
  refine wpAny_bind (wpAny_seqItems hTI rfl ?_)
  show wpAny _ _ (Builtin.SmallTypes.ownedTupleIsFree (.ref z) >>= _) _ _ _
  refine wpAny_bind (zf_free hz hl ?_ fun h₁ hz₁ hs₁ => ?_)
  · simp only [if_true]
    refine wpAny_bind (wpAny_rule ?_)
    refine wpAny_bind (wpAny_field hz rfl (x := .ref TO) rfl ?_)
    refine wpAny_bind (wpAny_setField_rec hz (by simp) fun g0 hz0 hs0 => ?_)
    replace hz0 : IsZf g0 z TI TO .ellipsis f := hz0
    replace hs0 : Heap.SameBut z hp g0 := hs0
    refine wpAny_bind ?_
    simp only [List.zipIdx_cons, List.zipIdx_nil, List.forIn_cons, List.forIn_nil]
    refine wpAny_bind (wpAny_bind (wpAny_onRaise ?_))
    show wpAny _ _ (Builtin.SmallTypes.nextOf (.ref i1) >>= _) _ _ ⟨g0, g, d, tk0, os⟩
    refine wpAny_bind (D1.item i _ _ _ hlt1 (D1.over st1 hs0 S.zf1) fun x1 p1 tk1 hx1 sn1 hp1 => wpAny_pure ?_)
    replace hp1 : Heap.SameBut i1 g0 p1 := hp1
    have hU1 : IsTupOf2 p1 TO a1 a2 := hp1.extBut _ _ S.Ti1 (hs0.extBut _ _ S.TOz hTO)
    refine wpAny_bind (wpAny_seqItems (s := ⟨p1, g, d, tk1, os⟩) hU1 rfl ?_)
    refine wpAny_bind (updateSeq_IsTupOf2 (s := ⟨p1, g, d, tk1, os⟩) hU1 fun g1 hT1 hs1 => ?_)
    replace hT1 : IsTupOf2 g1 TO x1 a2 := hT1
    replace hs1 : Heap.SameBut TO p1 g1 := hs1
    refine wpAny_bind (wpAny_letGo (wpAny_pure ?_))
    refine wpAny_bind (wpAny_bind (wpAny_onRaise ?_))
    show wpAny _ _ (Builtin.SmallTypes.nextOf (.ref i2) >>= _) _ _ ⟨g1, g, d, tk1, os⟩
    refine wpAny_bind (D2.item i _ _ _ hlt2 (D2.over (D2.over (D2.over st2 hs0 S.zf2) hp1 S.sep1_2) hs1 S.Tf2) fun x2 p2 tk2 hx2 sn2 hp2 => wpAny_pure ?_)
    replace hp2 : Heap.SameBut i2 g1 p2 := hp2
    have hU2 : IsTupOf2 p2 TO x1 a2 := hp2.extBut _ _ S.Ti2 hT1
    refine wpAny_bind (wpAny_seqItems (s := ⟨p2, g, d, tk2, os⟩) hU2 rfl ?_)
    refine wpAny_bind (updateSeq_IsTupOf2 (s := ⟨p2, g, d, tk2, os⟩) hU2 fun g2 hT2 hs2 => ?_)
    replace hT2 : IsTupOf2 g2 TO x1 x2 := hT2
    replace hs2 : Heap.SameBut TO p2 g2 := hs2
    refine wpAny_bind (wpAny_letGo (wpAny_pure (wpAny_pure ?_)))
    refine wpAny_bind (wpAny_seqItems (s := ⟨g2, g, d, tk2, os⟩) hT2 rfl ?_)
    refine wpAny_bind (wpAny_newTuple ?_)
    have hsz : g2.objs.size = hp.objs.size := by rw [hs2.1, hp2.1, hs1.1, hp1.1, hs0.1]
    have hzz : IsZf g2 z TI TO .ellipsis f := (hs2.extBut _ _ S.TOz.symm (hp2.extBut _ _ S.zi2 (hs1.extBut _ _ S.TOz.symm (hp1.extBut _ _ S.zi1 hz0))))
    have hkk : ∀ c o, c ≠ z → c ≠ TO → c ≠ i1 → c ≠ i2 → hp.get? c = some o → g2.get? c = some o := fun c o cz cT c1 c2 e =>
      (hs2.extBut _ _ cT (hp2.extBut _ _ c2 (hs1.extBut _ _ cT (hp1.extBut _ _ c1 (hs0.extBut _ _ cz e)))))
    have hj1 : St1 (i + 1) g2 := (D1.over (D1.over (D1.over sn1 hs1 S.Tf1) hp2 S.sep2_1) hs2 S.Tf1)
    have hj2 : St2 (i + 1) g2 := (D2.over sn2 hs2 S.Tf2)
    have hzlt : z < g2.objs.size := Heap.lt_size hzz
    show wpAny _ _ (Builtin.SmallTypes.ownedTupleHandOut (.ref z) (.ref g2.objs.size) >>= _) _ _ ⟨g2.push { cls := .type "tuple", data := .seq #[x1, x2] }, g, d, tk2, os⟩
    refine wpAny_bind ?_
    unfold Builtin.SmallTypes.ownedTupleHandOut
    have hz₆ : IsZf (g2.push { cls := .type "tuple", data := .seq #[x1, x2] }) z TI TO .ellipsis f := Heap.get?_push_of_some _ hzz
    refine wpAny_bind (wpAny_setField_rec hz₆ (by simp) fun h₇ hz₇ hs₇ => ?_)
    replace hz₇ : IsZf h₇ z TI TO (rawInt g2.objs.size) f := hz₇
    refine wpAny_setField_rec hz₇ (by simp) fun h₈ hz₈ hs₈ => ?_
    replace hz₈ : IsZf h₈ z TI TO (rawInt g2.objs.size) false := hz₈
    replace hs₇ : Heap.SameBut z (g2.push { cls := .type "tuple", data := .seq #[x1, x2] }) h₇ := hs₇
    replace hs₈ : Heap.SameBut z h₇ h₈ := hs₈
    have up : ∀ c o, c ≠ z → g2.get? c = some o → h₈.get? c = some o := fun c o c1 e => hs₈.extBut _ _ c1 (hs₇.extBut _ _ c1 (Heap.get?_push_of_some _ e))
    have hT₈ : IsTupOf2 h₈ g2.objs.size x1 x2 := hs₈.extBut _ _ (Nat.ne_of_gt hzlt) (hs₇.extBut _ _ (Nat.ne_of_gt hzlt) (Heap.get?_push_size _ rfl))
    have hz8 : h₈.objs.size = g2.objs.size + 1 := by rw [hs₈.1, hs₇.1, Heap.size_push]
    rw [hsz] at hz₈ hT₈ hz8
    refine wpAny_pure ⟨_, rfl, ?_⟩
    show Q (.ref g2.objs.size) ⟨h₈, g, d, tk2, os⟩
    rw [hsz]
    exact hQ x1 x2 h₈ tk2 _ _ hx1 hx2 hz₈ (.inr ⟨_, rfl⟩) ⟨_, _, up _ _ S.TOz hT2⟩ (D1.frame _ _ _ hj1 fun b hb o e => up b o (fun q => S.zf1 (q ▸ hb)) e) (D2.frame _ _ _ hj2 fun b hb o e => up b o (fun q => S.zf2 (q ▸ hb)) e) hT₈ hz8 fun c o cz cT c1 c2 e => up c o cz (hkk c o cz cT c1 c2 e)
  · replace hs₁ : Heap.SameBut z hp h₁ := hs₁
    simp only [Bool.false_eq_true, if_false]
    refine wpAny_bind ?_
    rw [← Array.forIn_toList]
    simp only [List.forIn_cons, List.forIn_nil]
    refine wpAny_bind (wpAny_bind (wpAny_holding ?_))
    show wpAny _ _ (Builtin.SmallTypes.nextOf (.ref i1) >>= _) _ _ ⟨h₁, g, d, tk0, os⟩
    refine wpAny_bind (D1.item i _ _ _ hlt1 (D1.over st1 hs₁ S.zf1) fun x1 p1 tk1 hx1 sn1 hp1 => wpAny_pure ?_)
    replace hp1 : Heap.SameBut i1 h₁ p1 := hp1
    refine wpAny_pure ?_
    refine wpAny_bind (wpAny_bind (wpAny_holding ?_))
    show wpAny _ _ (Builtin.SmallTypes.nextOf (.ref i2) >>= _) _ _ ⟨p1, g, d, tk1, os⟩
    refine wpAny_bind (D2.item i _ _ _ hlt2 (D2.over (D2.over st2 hs₁ S.zf2) hp1 S.sep1_2) fun x2 p2 tk2 hx2 sn2 hp2 => wpAny_pure ?_)
    replace hp2 : Heap.SameBut i2 p1 p2 := hp2
    refine wpAny_pure (wpAny_pure ?_)
    show wpAny _ _ (newTuple [x1, x2] >>= _) _ _ ⟨p2, g, d, tk2, os⟩
    refine wpAny_bind (wpAny_newTuple ?_)
    have hsz : p2.objs.size = hp.objs.size := by rw [hp2.1, hp1.1, hs₁.1]
    have hz₃ : IsZf p2 z TI TO last true := hp2.extBut _ _ S.zi2 (hp1.extBut _ _ S.zi1 hz₁)
    have hk : ∀ c o, c ≠ z → c ≠ i1 → c ≠ i2 → hp.get? c = some o → p2.get? c = some o := fun c o c1 c2 c3 e => hp2.extBut _ _ c3 (hp1.extBut _ _ c2 (hs₁.extBut _ _ c1 e))
    have hj1 : St1 (i + 1) p2 := D1.over sn1 hp2 S.sep2_1
    refine wpAny_pure ⟨_, rfl, ?_⟩
    show Q (.ref p2.objs.size) ⟨p2.push { cls := .type "tuple", data := .seq #[x1, x2] }, g, d, tk2, os⟩
    have hpp : IsTupOf2 (p2.push { cls := .type "tuple", data := .seq #[x1, x2] }) p2.objs.size x1 x2 := Heap.get?_push_size _ rfl
    have hz4 : (p2.push { cls := .type "tuple", data := .seq #[x1, x2] }).objs.size = p2.objs.size + 1 := Heap.size_push ..
    rw [hsz] at hpp hz4 ⊢
    exact hQ x1 x2 _ tk2 _ _ hx1 hx2 (Heap.get?_push_of_some _ hz₃) hl ⟨_, _, Heap.get?_push_of_some _ (hk TO _ S.TOz S.Ti1 S.Ti2 hTO)⟩ (D1.frame _ _ _ hj1 fun b hb o e => Heap.get?_push_of_some _ e) (D2.frame _ _ _ sn2 fun b hb o e => Heap.get?_push_of_some _ e) hpp hz4 fun c o c1 _ c2 c3 e => Heap.get?_push_of_some _ (hk c o c1 c2 c3 e)
theorem zf_next_end {Q : Fin → Shared → Prop} (S : ZipSep2 z TI TO i1 i2 fp1 fp2) (D1 : Draws prog w A i1 fp1 n1 P1 St1) (D2 : Draws prog w A i2 fp2 n2 P2 St2)
    (hz : IsZf s.heap z TI TO last f) (hl : last = .none ∨ ∃ T : Addr, last = rawInt T) (hTI : IsTupOf2 s.heap TI (.ref i1) (.ref i2)) (hTO : IsTupOf2 s.heap TO a1 a2) (st1 : St1 i s.heap) (st2 : St2 i s.heap) (hle1 : i ≤ n1) (hle2 : i ≤ n2) (hend : i = n1 ∨ i = n2)
    (hE : ∀ h' tk e, (∀ c o, c ≠ z → c ≠ TO → c ≠ i1 → c ≠ i2 → s.heap.get? c = some o → h'.get? c = some o) → (∃ o, h'.get? e = some o ∧ o.cls = .type "StopIteration") → E (.ref e) { s with heap := h', toks := tk }) :
    wpAny (model prog w) A (Builtin.«zip.__next__» ⟨[.ref z], []⟩) Q E s := by
  obtain ⟨hp, g, d, tk0, os⟩ := s
  show wpAny _ _ (field (.ref z) 2 >>= _) _ _ _
  refine wpAny_bind (wpAny_field hz rfl (x := .bool false) rfl ?_)
  show wpAny _ _ (field (.ref z) 3 >>= _) _ _ _
  refine wpAny_bind (wpAny_field hz rfl (x := .ref TI) rfl ?_)
  refine wpAny_bind (wpAny_seqItems hTI rfl ?_)
  show wpAny _ _ (Builtin.SmallTypes.ownedTupleIsFree (.ref z) >>= _) _ _ _
  refine wpAny_bind (zf_free hz hl ?_ fun h₁ hz₁ hs₁ => ?_)
  · simp only [if_true]
    refine wpAny_bind (wpAny_rule ?_)
    refine wpAny_bind (wpAny_field hz rfl (x := .ref TO) rfl ?_)
    refine wpAny_bind (wpAny_setField_rec hz (by simp) fun g0 hz0 hs0 => ?_)
    replace hz0 : IsZf g0 z TI TO .ellipsis f := hz0
    replace hs0 : Heap.SameBut z hp g0 := hs0
    refine wpAny_bind ?_
    simp only [List.zipIdx_cons, List.zipIdx_nil, List.forIn_cons, List.forIn_nil]
    refine wpAny_bind (wpAny_bind (wpAny_onRaise ?_))
    show wpAny _ _ (Builtin.SmallTypes.nextOf (.ref i1) >>= _) _ _ ⟨g0, g, d, tk0, os⟩
    by_cases hlt1 : i < n1
    · refine wpAny_bind (D1.item i _ _ _ hlt1 (D1.over st1 hs0 S.zf1) fun x1 p1 tk1 hx1 sn1 hp1 => wpAny_pure ?_)
      replace hp1 : Heap.SameBut i1 g0 p1 := hp1
      have hU1 : IsTupOf2 p1 TO a1 a2 := hp1.extBut _ _ S.Ti1 (hs0.extBut _ _ S.TOz hTO)
      refine wpAny_bind (wpAny_seqItems (s := ⟨p1, g, d, tk1, os⟩) hU1 rfl ?_)
      refine wpAny_bind (updateSeq_IsTupOf2 (s := ⟨p1, g, d, tk1, os⟩) hU1 fun g1 hT1 hs1 => ?_)
      replace hT1 : IsTupOf2 g1 TO x1 a2 := hT1
      replace hs1 : Heap.SameBut TO p1 g1 := hs1
      refine wpAny_bind (wpAny_letGo (wpAny_pure ?_))
      have hi2 : i = n2 := by omega
      refine wpAny_bind (wpAny_bind (wpAny_onRaise ?_))
      show wpAny _ _ (Builtin.SmallTypes.nextOf (.ref i2) >>= _) _ _ ⟨g1, g, d, tk1, os⟩
      refine wpAny_bind (D2.done ⟨g1, g, d, tk1, os⟩ _ _ (by rw [← hi2]; exact (D2.over (D2.over (D2.over st2 hs0 S.zf2) hp1 S.sep1_2) hs1 S.Tf2)) fun q e hq he => ?_)
      replace hq : Heap.ExtBut i2 g1 q := hq
      obtain ⟨oe, hoe, hce⟩ := he
      replace hoe : q.get? e = some oe := hoe
      have hzq : IsZf q z TI TO .ellipsis f := hq _ _ S.zi2 (hs1.extBut _ _ S.TOz.symm (hp1.extBut _ _ S.zi1 hz0))
      have hez : e ≠ z := fun x => by subst x; rw [hzq] at hoe; cases hoe; simp at hce
      refine wpAny_setField_rec (s := ⟨q, g, d, tk1, os⟩) hzq (by simp) fun q' _ hq' => ?_
      replace hq' : Heap.SameBut z q q' := hq'
      exact hE q' tk1 e (fun c o cz cT c1 c2 x => hq'.extBut _ _ cz (hq _ _ c2 (hs1.extBut _ _ cT (hp1.extBut _ _ c1 (hs0.extBut _ _ cz x))))) ⟨oe, hq'.extBut _ _ hez hoe, hce⟩
    · have hi1 : i = n1 := by omega
      refine wpAny_bind (D1.done ⟨g0, g, d, tk0, os⟩ _ _ (by rw [← hi1]; exact (D1.over st1 hs0 S.zf1)) fun q e hq he => ?_)
      replace hq : Heap.ExtBut i1 g0 q := hq
      obtain ⟨oe, hoe, hce⟩ := he
      replace hoe : q.get? e = some oe := hoe
      have hzq : IsZf q z TI TO .ellipsis f := hq _ _ S.zi1 hz0
      have hez : e ≠ z := fun x => by subst x; rw [hzq] at hoe; cases hoe; simp at hce
      refine wpAny_setField_rec (s := ⟨q, g, d, tk0, os⟩) hzq (by simp) fun q' _ hq' => ?_
      replace hq' : Heap.SameBut z q q' := hq'
      exact hE q' tk0 e (fun c o cz cT c1 c2 x => hq'.extBut _ _ cz (hq _ _ c1 (hs0.extBut _ _ cz x))) ⟨oe, hq'.extBut _ _ hez hoe, hce⟩
  · replace hs₁ : Heap.SameBut z hp h₁ := hs₁
    simp only [Bool.false_eq_true, if_false]
    refine wpAny_bind ?_
    rw [← Array.forIn_toList]
    simp only [List.forIn_cons, List.forIn_nil]
    refine wpAny_bind (wpAny_bind (wpAny_holding ?_))
    show wpAny _ _ (Builtin.SmallTypes.nextOf (.ref i1) >>= _) _ _ ⟨h₁, g, d, tk0, os⟩
    by_cases hlt1 : i < n1
    · refine wpAny_bind (D1.item i _ _ _ hlt1 (D1.over st1 hs₁ S.zf1) fun x1 p1 tk1 hx1 sn1 hp1 => wpAny_pure ?_)
      replace hp1 : Heap.SameBut i1 h₁ p1 := hp1
      refine wpAny_pure ?_
      refine wpAny_bind (wpAny_bind (wpAny_holding ?_))
      show wpAny _ _ (Builtin.SmallTypes.nextOf (.ref i2) >>= _) _ _ ⟨p1, g, d, tk1, os⟩
      have hi2 : i = n2 := by omega
      refine wpAny_bind (D2.done ⟨p1, g, d, tk1, os⟩ _ _ (by rw [← hi2]; exact (D2.over (D2.over st2 hs₁ S.zf2) hp1 S.sep1_2)) fun q e hq he => ?_)
      replace hq : Heap.ExtBut i2 p1 q := hq
      exact hE q tk1 e (fun c o cz _ c1 c2 x => hq _ _ c2 (hp1.extBut _ _ c1 (hs₁.extBut _ _ cz x))) he
    · have hi1 : i = n1 := by omega
      refine wpAny_bind (D1.done ⟨h₁, g, d, tk0, os⟩ _ _ (by rw [← hi1]; exact (D1.over st1 hs₁ S.zf1)) fun q e hq he => ?_)
      replace hq : Heap.ExtBut i1 h₁ q := hq
      exact hE q tk0 e (fun c o cz _ c1 c2 x => hq _ _ c1 (hs₁.extBut _ _ cz x)) he
theorem zf_pyNext_item {Q : Option Value → Shared → Prop} (S : ZipSep2 z TI TO i1 i2 fp1 fp2) (D1 : Draws prog w A.in1 i1 fp1 n1 P1 St1) (D2 : Draws prog w A.in1 i2 fp2 n2 P2 St2)
    (hz : IsZf s.heap z TI TO last f) (hl : last = .none ∨ ∃ T : Addr, last = rawInt T) (hTI : IsTupOf2 s.heap TI (.ref i1) (.ref i2)) (hTO : IsTupOf2 s.heap TO a1 a2) (st1 : St1 i s.heap) (st2 : St2 i s.heap) (hlt1 : i < n1) (hlt2 : i < n2)
    (hQ : ∀ x1 x2 h' tk last' f', P1 i x1 → P2 i x2 → IsZf h' z TI TO last' f' → (last' = .none ∨ ∃ T : Addr, last' = rawInt T) → (∃ b1 b2, IsTupOf2 h' TO b1 b2) → St1 (i + 1) h' → St2 (i + 1) h' → IsTupOf2 h' s.heap.objs.size x1 x2 → h'.objs.size = s.heap.objs.size + 1 →
      (∀ c o, c ≠ z → c ≠ TO → c ≠ i1 → c ≠ i2 → s.heap.get? c = some o → h'.get? c = some o) → Q (some (.ref s.heap.objs.size)) { s with heap := h', toks := tk }) :
    wpAny (model prog w) A (pyNext (.ref z)) Q E s := by
  have hT : s.TypeIs (.ref z) "zip" := ⟨_, hz, rfl⟩
  unfold pyNext
  exact wpAny_bind (wpAny_attempt (wpAny_callSpecial?_slot (name := Str.ofString "__next__") hT F.slot_zip_next
    (wpAny_call_entry F.slot_zip_next hT F.entry_zip_next
      (zf_next_item S D1 D2 hz hl hTI hTO st1 st2 hlt1 hlt2 fun x1 x2 h' tk l' f' y1 y2 b1 bl b2 d1 d2 b5 b6 b7 => wpAny_pure (hQ x1 x2 h' tk l' f' y1 y2 b1 bl b2 d1 d2 b5 b6 b7)) (F.args_zip_next_1 _))))
theorem zf_pyNext_end {Q : Option Value → Shared → Prop} (S : ZipSep2 z TI TO i1 i2 fp1 fp2) (D1 : Draws prog w A.in1 i1 fp1 n1 P1 St1) (D2 : Draws prog w A.in1 i2 fp2 n2 P2 St2)
    (hz : IsZf s.heap z TI TO last f) (hl : last = .none ∨ ∃ T : Addr, last = rawInt T) (hTI : IsTupOf2 s.heap TI (.ref i1) (.ref i2)) (hTO : IsTupOf2 s.heap TO a1 a2) (st1 : St1 i s.heap) (st2 : St2 i s.heap) (hle1 : i ≤ n1) (hle2 : i ≤ n2) (hend : i = n1 ∨ i = n2)
    (hQ : ∀ h' tk, (∀ c o, c ≠ z → c ≠ TO → c ≠ i1 → c ≠ i2 → s.heap.get? c = some o → h'.get? c = some o) → Q none { s with heap := h', toks := tk }) : wpAny (model prog w) A (pyNext (.ref z)) Q E s := by
  have hT : s.TypeIs (.ref z) "zip" := ⟨_, hz, rfl⟩
  unfold pyNext
  refine wpAny_bind (wpAny_attempt (wpAny_callSpecial?_slot (name := Str.ofString "__next__") hT F.slot_zip_next
    (wpAny_call_entry F.slot_zip_next hT F.entry_zip_next (zf_next_end S D1 D2 hz hl hTI hTO st1 st2 hle1 hle2 hend fun h' tk e hk he => ?_) (F.args_zip_next_1 _))))
  obtain ⟨o, ho, hc⟩ := he
  refine wpAny_bind (wpAny_isInstance (T := "StopIteration") (b := true) ⟨o, ho, hc⟩ isSubtype_stop ?_)
  exact wpAny_pure (hQ _ _ hk)
end
theorem turn_zipN {P : Program} {w : World} {K : PySem.W.Frag} {y : Str} {py : Pos} {k1 k2 : Bool} {a b z TI TO i1 i2 : Addr} (S : ZipSep2 z TI TO i1 i2 [i1, a] [i2, b]) (na : a ≠ i1) (nb : b ≠ i2) :
    Turn P w K (.Name y py) (ItzK K k1 k2 a b) [z, TI, TO, i1, i2] z (fun i h => (∃ last f, IsZf h z TI TO last f ∧ (last = .none ∨ ∃ T : Addr, last = rawInt T)) ∧ IsTupOf2 h TI (.ref i1) (.ref i2) ∧ (∃ x y, IsTupOf2 h TO x y) ∧ IsIt k1 h i1 a i ∧ IsIt k2 h i2 b i) where
  mem := by simp
  obj := fun i h st c hc => by
    obtain ⟨⟨last, f, hz, _⟩, hTI, ⟨x, y, hTO⟩, h1, h2⟩ := st
    have e' : c = z ∨ c = TI ∨ c = TO ∨ c = i1 ∨ c = i2 := by simpa using hc
    rcases e' with q | q | q | q | q
    · rw [q]; exact ⟨_, hz, fun v q => nomatch q⟩
    · rw [q]; exact ⟨_, hTI, fun v q => nomatch q⟩
    · rw [q]; exact ⟨_, hTO, fun v q => nomatch q⟩
    · rw [q]; exact h1.obj
    · rw [q]; exact h2.obj
  keep := fun i h h' st k => by
    obtain ⟨⟨last, f, hz, hl⟩, hTI, ⟨x, y, hTO⟩, h1, h2⟩ := st
    exact ⟨⟨last, f, k z (by simp) _ hz, hl⟩, k TI (by simp) _ hTI, ⟨x, y, k TO (by simp) _ hTO⟩, h1.at fun o q => k i1 (by simp) o q, h2.at fun o q => k i2 (by simp) o q⟩
  item := by
    intro X hP hw hK hc i pins s σ H E I hf st hg
    subst hP hw hK
    obtain ⟨⟨last, f, hz, hl⟩, hTI, ⟨t1, t2, hTO⟩, h1, h2⟩ := st
    obtain ⟨xs, ys, x, y, hqx, hqy, hx, hy⟩ := hg
    obtain ⟨its, rv, p, la, _⟩ := inv_sq I hqx
    obtain ⟨its2, rv2, p2, lb, _⟩ := inv_sq I hqy
    obtain ⟨u, hu, ru⟩ := rv.get hx
    obtain ⟨u2, hu2, ru2⟩ := rv2.get hy
    have hh : X.A.in1.handled = none := I.ok.hd hc
    have hlt1 : i < its.toArray.size := by
      have e1 := (List.getElem?_eq_some_iff.mp hu).1
      simpa only [List.size_toArray] using e1
    have hlt2 : i < its2.toArray.size := by
      have e2 := (List.getElem?_eq_some_iff.mp hu2).1
      simpa only [List.size_toArray] using e2
    refine wpAny_with_toks (n := s.toks) (Nat.le_refl _) (zf_pyNext_item S (draws_k (A := X.A.in1) hh k1 i1 a na its.toArray) (draws_k (A := X.A.in1) hh k2 i2 b nb its2.toArray) hz hl hTI hTO ⟨h1, p⟩ ⟨h2, p2⟩ hlt1 hlt2 fun u' u2' h' tk last' f' e1 e2 hz' hl' hTO' st1 st2 hT hsz hk htk => ?_)
    have e1' : u' = u := by
      have : some u' = some u := e1.symm.trans (by simpa using hu)
      cases this; rfl
    have e2' : u2' = u2 := by
      have : some u2' = some u2 := e2.symm.trans (by simpa using hu2)
      cases this; rfl
    subst e1' e2'
    have new : ObjOk X.prog X.w (upd H s.heap.objs.size (.tup [x, y])) h' s.heap.objs.size (.tup [x, y]) := ⟨by show 2 ≤ sizeLine; decide, [u', u2'], .cons ru (.cons ru2 .nil), ⟨_, hT, rfl, _, rfl⟩⟩
    have I1 : Inv X pins σ (upd H s.heap.objs.size (.tup [x, y])) { s with heap := h', toks := tk } :=
      I.turnedNew (t' := tk) (ch := [z, TI, TO, i1, i2]) (fun c o hb q => hk c o (fun q' => hb (by simp [q'])) (fun q' => hb (by simp [q'])) (fun q' => hb (by simp [q'])) (fun q' => hb (by simp [q'])) q) hf (Nat.le_refl _) new
    have hTI' : IsTupOf2 h' TI (.ref i1) (.ref i2) := hk TI _ S.TIz S.TITO S.TIi1 S.TIi2 hTI
    refine ⟨_, rfl, ?_⟩
    show wpAny _ _ (pure ()) _ _ _
    refine wpAny_pure ⟨.ref s.heap.objs.size, _, I1, rfl, ⟨_, x, y, rfl, I.hok.fresh (Nat.le_refl _), rfl, fun l hl => by rw [inv_inj I hl hqx]; exact hx, fun l hl => by rw [inv_inj I hl hqy]; exact hy⟩, ⟨⟨last', f', hz', hl'⟩, hTI', hTO', st1.1, st2.1⟩, fun c hcm => ?_⟩
    obtain ⟨o, ho, _⟩ : ∃ o, s.heap.get? c = some o ∧ True := by
      have e' : c = z ∨ c = TI ∨ c = TO ∨ c = i1 ∨ c = i2 := by simpa using hcm
      rcases e' with q | q | q | q | q
      · rw [q]; exact ⟨_, hz, trivial⟩
      · rw [q]; exact ⟨_, hTI, trivial⟩
      · rw [q]; exact ⟨_, hTO, trivial⟩
      · rw [q]; obtain ⟨o, e, _⟩ := h1.obj; exact ⟨o, e, trivial⟩
      · rw [q]; obtain ⟨o, e, _⟩ := h2.obj; exact ⟨o, e, trivial⟩
    rw [upd_ne (Nat.ne_of_lt (Heap.lt_size ho))]
    exact (hf c hcm).1
  done := by
    intro X hP hw hK hc i pins s σ H E I hf st hg
    subst hP hw hK
    obtain ⟨⟨last, f, hz, hl⟩, hTI, ⟨t1, t2, hTO⟩, h1, h2⟩ := st
    obtain ⟨xs, ys, hqx, hqy, hend⟩ := hg
    obtain ⟨its, rv, p, la, _⟩ := inv_sq I hqx
    obtain ⟨its2, rv2, p2, lb, _⟩ := inv_sq I hqy
    have hh : X.A.in1.handled = none := I.ok.hd hc
    have e1 := rv.length
    have e2 := rv2.length
    have hi : i = min its.toArray.size its2.toArray.size := by
      simp only [List.size_toArray]
      rw [hend, e1, e2]
    refine wpAny_with_toks (n := s.toks) (Nat.le_refl _) (zf_pyNext_end S (draws_k (A := X.A.in1) hh k1 i1 a na its.toArray) (draws_k (A := X.A.in1) hh k2 i2 b nb its2.toArray) hz hl hTI hTO ⟨h1, p⟩ ⟨h2, p2⟩ (by omega) (by omega) (by omega) fun h' tk hk htk => ?_)
    exact ⟨rfl, I.turnedL (t' := tk) (ch := [z, TI, TO, i1, i2]) (fun c o hb q => hk c o (fun q' => hb (by simp [q'])) (fun q' => hb (by simp [q'])) (fun q' => hb (by simp [q'])) (fun q' => hb (by simp [q'])) q) hf⟩
  self := fun A i s Q E st h => by
    obtain ⟨⟨last, f, hz, _⟩, _⟩ := st
    have hT : s.TypeIs (.ref z) "zip" := ⟨_, hz, rfl⟩
    refine wpAny_pyIter_slot hT F.slot_zip_iter (wpAny_call_entry F.slot_zip_iter hT F.entry_zip_iter ?_ (F.args_zip_iter_1 _))
    show wpAny _ _ (ret (.ref z)) _ _ s
    exact wpAny_pure ⟨_, rfl, "zip", _, hT, F.slot_zip_next.lookup, h⟩
/-- the call zip(a, b) -/
theorem call_zipK {X : Cx} {pins : List (Addr × Obj)} {σ : L2.St} {H : Hp} {s : Shared} {a b : Addr} {xs ys : List V} {k1 k2 : Bool} {tg : Expr} {R : It → Hp → Prop} {E : Value → Shared → Prop} (I1 : Inv X pins σ H s) (hqx : SqK X.K k1 H a xs) (hqy : SqK X.K k2 H b ys)
    (h : ∀ (h' : Heap) (i1 i2 z TI TO : Addr), Inv X pins σ H { s with heap := h' } → ZipSep2 z TI TO i1 i2 [i1, a] [i2, b] → a ≠ i1 → b ≠ i2 → IsZip h' z TI TO .none → IsTupOf2 h' TI (.ref i1) (.ref i2) → (∃ x y, IsTupOf2 h' TO x y) → IsIt k1 h' i1 a 0 → IsIt k2 h' i2 b 0 → (∀ c ∈ [z, TI, TO, i1, i2], FpOk X pins H c) →
      PIE X pins σ tg R (.ref z) { s with heap := h' }) :
    wpAny (model X.prog X.w) X.A (call (.type "zip") [.ref a, .ref b]) (fun v s1 => wpAny (model X.prog X.w) X.A (pyIter v) (PIE X pins σ tg R) E s1) E s := by
  obtain ⟨its, rv, p1, la, _⟩ := inv_sq I1 hqx
  obtain ⟨its2, rv2, p2, lb, _⟩ := inv_sq I1 hqy
  obtain ⟨o1, B1, it1⟩ := begins_k k1 a its.toArray
  obtain ⟨o2, B2, it2⟩ := begins_k k2 b its2.toArray
  refine zip_begins2 B1 B2 p1 p2 fun h' hz hTI hTO h1 h2 hsz hk => wpAny_pyIter_zip hz ?_
  have I2 : Inv X pins σ H { s with heap := h' } := I1.kept (t' := s.toks) hk
  have fresh5 : ∀ c, c ∈ [s.heap.objs.size + 4, s.heap.objs.size + 2, s.heap.objs.size + 3, s.heap.objs.size, s.heap.objs.size + 1] → FpOk X pins H c := fun c hcm => by
    have e' : c = s.heap.objs.size + 4 ∨ c = s.heap.objs.size + 2 ∨ c = s.heap.objs.size + 3 ∨ c = s.heap.objs.size ∨ c = s.heap.objs.size + 1 := by simpa using hcm
    have hle : s.heap.objs.size ≤ c := by
      rcases e' with z | z | z | z | z
      · rw [z]; exact Nat.le_add_right _ _
      · rw [z]; exact Nat.le_add_right _ _
      · rw [z]; exact Nat.le_add_right _ _
      · rw [z]; exact Nat.le_refl _
      · rw [z]; exact Nat.le_add_right _ _
    exact I1.fpOk hle (I1.hok.fresh hle)
  have S := zip_sep2 (N := s.heap.objs.size) (fp1 := [a]) (fp2 := [b]) (fun c hc => by rw [List.mem_singleton.mp hc]; exact la) (fun c hc => by rw [List.mem_singleton.mp hc]; exact lb)
  exact h h' _ _ _ _ _ I2 S (Nat.ne_of_lt la) (Nat.ne_of_lt (Nat.lt_succ_of_lt lb)) hz hTI ⟨_, _, hTO⟩ (it1 _ _ h1) (it2 _ _ h2) fresh5
/-- for t in zip(a, b) -/
theorem pi_zipN {X : Cx} {e e2 : Expr} {ta : TA} {p pos py : Pos} {y : Str} (hg : Gl X "zip") (hm : X.mg "zip" = none) (ha : PA X [e, e2] ta)
    (hs : starEach [e, e2] X.env = (false, eval e X.env) :: starEach [e2] X.env := by rfl) (hpl : (backTo pos (starEach [e2] X.env)).any (·.1) = false := by rfl) :
    PI X (.Name y py) (.Call (.Name "zip" p) [e, e2] [] pos) (iZipK X.K ta) := by
  refine ⟨fun pins s σ H R I h => ?_⟩
  refine Call_ (ld_blt I hg hm PyProof.Rows.boot_zip (PyProof.Rows.callWith_type1 (thn (ha.run pos pins s σ H _ I h) fun us s1 ⟨vs, H1, I1, r1, q1⟩ => ?_) hs hpl))
  obtain ⟨a, b, xs, ys, k1, k2, ex, hqx, hqy, q⟩ := q1
  subst ex
  cases r1 with
  | cons r rr =>
    cases rr with
    | cons r' rr =>
      cases rr
      cases r
      cases r'
      exact call_zipK I1 hqx hqy fun h' i1 i2 z TI TO I2 S na nb hz hTI hTO h1 h2 fr => ⟨z, _, _, _, H1, rfl, I2, turn_zipN S na nb, ⟨⟨_, _, hz, .inl rfl⟩, hTI, hTO, h1, h2⟩, fr, q⟩
/-- for x, y in zip(*t), t a tuple or a list of two -/
def iZipS (K : PySem.W.Frag) (te : TE) : TI := fun σ H R => te σ H fun v H1 => ∃ r a b xs ys k1 k2, v = V.ref r ∧ (SqT K H1 r [V.ref a, V.ref b] ∨ SqL K H1 r [V.ref a, V.ref b]) ∧ SqK K k1 H1 a xs ∧ SqK K k2 H1 b ys ∧ R (ItzK K k1 k2 a b) H1
theorem pi_zipS {X : Cx} {e : Expr} {te : TE} {p pos tpos sp : Pos} {elts : List Expr} {kk : Nat} (hg : Gl X "zip") (hm : X.mg "zip" = none) (he : PE X e te)
    (hs : starEach [.Starred e sp] X.env = [(true, eval e X.env)] := by rfl) :
    PI X (.Tuple elts kk tpos) (.Call (.Name "zip" p) [.Starred e sp] [] pos) (iZipS X.K te) := by
  refine ⟨fun pins s σ H R I h => ?_⟩
  refine Call_ (ld_blt I hg hm PyProof.Rows.boot_zip ?_)
  rw [hs]
  refine PySem.W.ks_call (P := fun _ => True) rfl (fun h _ => ⟨.machine, .inr (.inl rfl), ?_⟩) (PySem.W.ks_lone (thn (he.run pins s σ H _ I h) fun v s1 ⟨y, H1, I1, ry, q1⟩ => ?_))
  · exact PySem.W.Looks.of_pure rfl
  · obtain ⟨r, a, b, xs, ys, k1, k2, ey, hr, hqx, hqy, q⟩ := q1
    subst ey
    obtain rfl : v = Value.ref r := ry
    refine StX.star_any I1 hr fun us s2 I2 rv => ⟨trivial, ?_⟩
    cases rv with
    | cons r rr =>
      cases rr with
      | cons r' rr =>
        cases rr
        cases r
        cases r'
        exact call_zipK I2 hqx hqy fun h' i1 i2 z TI TO I3 S na nb hz hTI hTO h1 h2 fr => ⟨z, _, _, _, H1, rfl, I3, turn_zipK S na nb, ⟨hz, hTI, hTO, h1, h2⟩, fr, q⟩
section
variable {K : PySem.W.Frag} {ρ : List En}
theorem ai_zipS {te : TE} {Θ : List Dt → List En → Prop} (h : AE K te ρ fun d ρ1 => ∃ k k1 k2 l m, d = sq k [sq k1 l, sq k2 m] ∧ Θ (zpD l m) ρ1) : AI K (iZipS K te) ρ Θ := fun B σ G H mm Rr q =>
  h B σ G H mm _ fun v d ρ1 G1 H1 m1 s1 t1 r1 ⟨k, k1, k2, l, m, e, p⟩ => by
    subst e
    obtain ⟨r, zs, rfl, hr, rz⟩ := sqK_of m1.sub r1
    obtain ⟨x, y, rfl, r2, r3⟩ := rz.two
    obtain ⟨a, xs, rfl, h1, h2⟩ := sqK_of m1.sub r2
    obtain ⟨b, ys, rfl, h3, h4⟩ := sqK_of m1.sub r3
    refine ⟨r, a, b, xs, ys, k1, k2, rfl, ?_, same_sqK m1.sub h1, same_sqK m1.sub h3, q _ _ ρ1 G1 H1 m1 s1 t1 (wj_zipK h1 h3 h2 h4) p⟩
    have := same_sqK m1.sub hr
    cases k
    · exact .inr this
    · exact .inl this
end
end Sh
set_option Elab.async false
set_option linter.all false
set_option maxRecDepth 100000
set_option maxHeartbeats 4000000
/-! sum of ints, slices of tuples, a list times an int that will change, an item set at any place, tuple + tuple -/
namespace Sh
open PySem PySem.Spec PyProof.Rows L2
section
variable {K : PySem.W.Frag} {ρ : List En} {N : List En → Prop} {R : Dt → List En → Prop} {Φ : Dt → Prop} {Ψ : Dt → List En → Prop}
theorem as_setAtI {te ti : TE} {i : Nat} (h : AE K te ρ fun d ρ1 => (∃ l, ρ1[i]? = some (.own l)) ∧ AE K ti ρ1 fun k ρ2 => ∃ (l : List Dt) (j : Int) (n : Nat), ρ2[i]? = some (.own l) ∧ k = .int j ∧ ixN l.length j = some n ∧ N (ρ2.set i (.own (l.set n d)))) : AS K (tAsg te (gSub (tVar i) ti rSetL)) ρ N R := fun B σ G H m D qn qr =>
  h B σ G H m _ fun v d ρ1 G1 H1 m1 s1 t1 r1 ⟨⟨l0, e0⟩, h1⟩ => by
    obtain ⟨p0, xs0, a1, _⟩ := m1.own i l0 e0
    refine ⟨_, a1, h1 B σ G1 H1 m1 _ fun x k ρ2 G2 H2 m2 s2 t2 r2 ⟨l, j, n, z1, z2, z3, p⟩ => ?_⟩
    subst z2
    obtain ⟨p1, xs, b1, b2, b3, b4, b5⟩ := m2.own i l z1
    rw [a1] at b1
    cases b1
    refine ⟨p0, xs, j, n, rfl, r2, b2, by rw [b3.length]; exact z3, ?_⟩
    exact qn σ _ G2 _ (m2.chOwn z1 a1 (b3.setAt n (r1.same s2))) (s1.trans s2) ((t1.trans t2).trans fun a o b z => by rw [upd_ne (fun w => b5 (by rw [← w]; exact b))]; exact z) p
end
end Sh
set_option Elab.async false
set_option linter.all false
set_option maxRecDepth 100000
set_option maxHeartbeats 4000000
/-! tuple + tuple -/
set_option Elab.async false
set_option linter.all false
set_option maxRecDepth 100000
set_option maxHeartbeats 4000000
/-! enumerate of a tuple; xs.pop(i), list(e) as a list of one's own, its length -/
namespace Sh
open PySem PySem.Spec PyProof.Rows L2
abbrev enObj (it : Addr) : Obj := { cls := .type "enumerate", data := .fields #[.none, .bool false, .ref it, rawInt 0, .none, .none] }
abbrev tiObj (t : Addr) : Obj := { cls := .type "tuple_iterator", data := .fields #[.ref t, .int 0 0] }
theorem en_new (t : Addr) (its : Array Value) : Meets (Builtin.«enumerate.__new__» ⟨[.type "enumerate", .ref t], []⟩) fun _ R s =>
    s.heap.IsTuple t its ∧ R (.ok (.ret (.ref (s.heap.push (tiObj t)).objs.size))) { s with heap := (s.heap.push (tiObj t)).push (enObj s.heap.objs.size) } := by
  refine .of_wp fun pr wo A R s h => ?_
  obtain ⟨hp, ge, dr, tk, sy⟩ := s
  obtain ⟨ht, fin⟩ := h
  have is_sub := sub_enumerate
  have go : ∀ {A' : Around} {Ex : Value → Shared → Prop} {Qv : Value → Shared → Prop}, Qv (.ref hp.objs.size) ⟨hp.push (tiObj t), ge, dr, tk, sy⟩ → wpAny (model pr wo) A' (pyIter (.ref t)) Qv Ex ⟨hp, ge, dr, tk, sy⟩ :=
    fun q => wpAny_pyIter_tuple (s := ⟨hp, ge, dr, tk, sy⟩) ht q
  wp_walk using go
  refine wpAny_stack_any fun k => wpAny_pure ?_
  split
  · rename_i c _ _ _ _ _
    cases (c == Value.type "enumerate") <;> (wp_walk using go; exact ⟨_, rfl, fin⟩)
  · wp_walk using go
    exact ⟨_, rfl, fin⟩
section
variable {prog : Program} {w : World} {A : Around} {E : Value → Shared → Prop} {s : Shared}
theorem call_en {t : Addr} {its : Array Value} {Q : Value → Shared → Prop} (ht : s.heap.IsTuple t its)
    (q : ∀ h', IsEnum h' (s.heap.objs.size + 1) s.heap.objs.size 0 .none → h'.IsTupleIter s.heap.objs.size t 0 → (∀ b o, s.heap.get? b = some o → h'.get? b = some o) → Q (.ref (s.heap.objs.size + 1)) { s with heap := h' }) :
    wpAny (model prog w) A (call (.type "enumerate") [.ref t]) Q E s := by
  refine callType_new F.called_enumerate (by decide) (F.typeCall_enumerate_1 _) (F.newCall_enumerate_1 _) (fun o => F.args_object_init_2 o _) F.entry_enumerate_new (en_new t its) ⟨ht, ?_⟩
  have sz : (s.heap.push (tiObj t)).objs.size = s.heap.objs.size + 1 := Heap.size_push ..
  show _ ∧ _
  rw [sz]
  have e1 : ((s.heap.push (tiObj t)).push (enObj s.heap.objs.size)).get? (s.heap.objs.size + 1) = some (enObj s.heap.objs.size) := by
    have z := Heap.get?_push_size (s.heap.push (tiObj t)) (o := enObj s.heap.objs.size) rfl
    rwa [sz] at z
  exact ⟨⟨_, e1, rfl⟩, q _ e1 ⟨_, Heap.get?_push_of_some _ (Heap.get?_push_size _ rfl), rfl, rfl⟩ fun b o z => Heap.get?_push_of_some _ (Heap.get?_push_of_some _ z)⟩
end
/-- the tuple at a, each item in a new pair -/
def ItT (K : PySem.W.Frag) (a : Addr) : It :=
  ⟨fun i H => ∃ (xs : List V) (x : V), SqT K H a xs ∧ xs[i]? = some x, fun i H v H' => ∃ T x, v = .ref T ∧ H T = none ∧ H' = upd H T (.tup [.int (i : Nat), x]) ∧ ∀ xs, SqT K H a xs → xs[i]? = some x,
    fun i H => ∃ xs : List V, SqT K H a xs ∧ xs.length ≤ i⟩
theorem turn_en {P : Program} {w : World} {K : PySem.W.Frag} {es : List Expr} {k : Nat} {tp : Pos} (a e it : Addr) :
    Turn P w K (.Tuple es k tp) (ItT K a) [e, it] e (fun i h => (∃ old, IsEnum h e it ((i : Nat) : Int) old) ∧ h.IsTupleIter it a i ∧ e ≠ it) where
  mem := List.mem_cons_self
  obj := fun i h st b hb => by
    obtain ⟨⟨old, he⟩, ⟨o, ho, hc, hd⟩, _⟩ := st
    rcases List.mem_cons.mp hb with rfl | hb
    · exact ⟨_, he, fun v q => nomatch q⟩
    · cases List.mem_singleton.mp hb
      exact ⟨o, ho, fun v q => by rw [hd] at q; cases q⟩
  keep := fun i h h' st k => by
    obtain ⟨⟨old, he⟩, hit, hne⟩ := st
    exact ⟨⟨old, k e List.mem_cons_self _ he⟩, hit.at fun o q => k it (by simp) o q, hne⟩
  item := by
    intro X hP hw hK hc i pins s σ H E I hf st hg
    subst hP hw hK
    obtain ⟨⟨old, he⟩, hit, hne⟩ := st
    obtain ⟨xs, x, hq, hx⟩ := hg
    obtain ⟨its, rv, p, _⟩ := I.tuple hq
    obtain ⟨u, hu, ru⟩ := rv.get hx
    have le : e < s.heap.objs.size := Heap.lt_size he
    have li : it < s.heap.objs.size := by
      obtain ⟨_, q, _⟩ := hit
      exact Heap.lt_size q
    have ea : a ≠ e := fun z => by
      obtain ⟨o, ho, hcl, _⟩ := id p
      rw [z, he] at ho
      cases ho
      exact absurd (Value.type.inj hcl) (by decide)
    have ia : a ≠ it := fun z => by
      obtain ⟨o, ho, hcl, _⟩ := id p
      obtain ⟨o', ho', hcl', _⟩ := id hit
      rw [z, ho'] at ho
      cases ho
      rw [hcl'] at hcl
      exact absurd hcl (by decide)
    have ht : s.heap.IsTuple a its.toArray := p
    have hi : i < its.toArray.size := by
      rw [List.size_toArray]
      exact (List.getElem?_eq_some_iff.mp hu).1
    refine wpAny_pyNext_enum_itemD (Draws.tuple (A := X.A.in1) (I.ok.hd hc) it a ia its.toArray) he ⟨hit, ht⟩ hi hne (fun z => ?_) fun x' h' tk hP ho hs' hT _ kp => ?_
    · rcases List.mem_cons.mp z with z | z
      · exact hne z
      · exact ea (List.mem_singleton.mp z).symm
    · have ux : x' = u := by
        have z : its[i]? = some x' := by simpa using hP
        rw [hu] at z
        exact (Option.some.inj z).symm
      subst ux
      refine ⟨_, rfl, wpAny_letOwnedTupleGo_enum (s := { s with heap := h', toks := tk + 1 }) ho fun h2 he2 sb => ?_⟩
      have hT2 := (sb.2 _ (Nat.ne_of_gt le)).trans hT
      have new : ObjOk X.prog X.w (upd H s.heap.objs.size (.tup [.int (i : Nat), x])) h2 s.heap.objs.size (.tup [.int (i : Nat), x]) :=
        ⟨by show 2 ≤ sizeLine; decide, [.int i tk, x'], .cons ⟨_, rfl⟩ (.cons ru .nil), ⟨_, hT2, rfl, _, rfl⟩⟩
      have J : Inv X pins σ (upd H s.heap.objs.size (.tup [.int (i : Nat), x])) { s with heap := h2, toks := tk + 1 } :=
        I.turnedNew (ch := [e, it]) (fun b o nb q => (sb.2 b fun z => nb (by rw [z]; exact List.mem_cons_self)).trans (kp b o (fun z => nb (by rw [z]; exact List.mem_cons_self)) (fun z => nb (by rw [z]; simp)) q)) hf (Nat.le_refl _) new
      refine ⟨.ref s.heap.objs.size, _, J, rfl, ⟨_, x, rfl, I.hok.fresh (Nat.le_refl _), rfl, fun l hl => by rw [I.tuple_inj hl hq]; exact hx⟩, ⟨⟨x', ?_⟩, hs'.1.at fun o q => (sb.2 it hne.symm).trans q, hne⟩, fun b hb => ?_⟩
      · have e1 : ((i + 1 : Nat) : Int) = (i : Int) + 1 := by omega
        rw [e1]
        exact he2
      · have lt : b < s.heap.objs.size := by
          rcases List.mem_cons.mp hb with rfl | hb
          · exact le
          · cases List.mem_singleton.mp hb
            exact li
        rw [upd_ne (Nat.ne_of_lt lt)]
        exact (hf b hb).1
  done := by
    intro X hP hw hK hc i pins s σ H E I hf st hg
    subst hP hw hK
    obtain ⟨⟨old, he⟩, hit, hne⟩ := st
    obtain ⟨xs, hq, hx⟩ := hg
    obtain ⟨its, rv, p, _⟩ := I.tuple hq
    have ia : a ≠ it := fun z => by
      obtain ⟨o, ho, hcl, _⟩ := id p
      obtain ⟨o', ho', hcl', _⟩ := id hit
      rw [z, ho'] at ho
      cases ho
      rw [hcl'] at hcl
      exact absurd hcl (by decide)
    obtain ⟨f0, f1, f2, f3, f4, f5⟩ := hf it (by simp)
    have hl := rv.length
    have ht : s.heap.IsTuple a its.toArray := p
    have D0 := Draws.tuple (prog := X.prog) (w := X.w) (A := X.A.in1) (I.ok.hd hc) it a ia its.toArray
    have D : Draws X.prog X.w X.A.in1 it [it, a] 0 (fun _ _ => True) (fun _ h => h.IsTupleIter it a i ∧ h.IsTuple a its.toArray) :=
      ⟨fun _ h st => D0.live i h st, fun _ h h' st k => D0.frame i h h' st k, fun j s Q E hj => absurd hj (Nat.not_lt_zero j), fun s Q E st hE => wpAny_nextOf_tuple_end (I.ok.hd hc) st.1 st.2 (by simp; omega) hE⟩
    exact wpAny_pyNext_enum_endD D he ⟨hit, ht⟩ fun h' eb => ⟨rfl, I.turned (t' := s.toks) (fun b o hb q => eb b o hb q) f0 f1 f3 f4 f5⟩
  self := fun A i s Q E st h => by
    obtain ⟨⟨_, he⟩, _⟩ := st
    exact wpAny_pyIter_enum he h
def iEnT (K : PySem.W.Frag) (ta : TA) : TI := fun σ H R => ta σ H fun vs H1 => ∃ a xs, vs = [.ref a] ∧ SqT K H1 a xs ∧ R (ItT K a) H1
theorem pi_enT {X : Cx} {e : Expr} {ta : TA} {p pos tp : Pos} {es : List Expr} {k : Nat} (hg : Gl X "enumerate") (hm : X.mg "enumerate" = none) (ha : PA X [e] ta) (hs : starEach [e] X.env = [(false, eval e X.env)] := by rfl) :
    PI X (.Tuple es k tp) (.Call (.Name "enumerate" p) [e] [] pos) (iEnT X.K ta) := by
  refine ⟨fun pins s σ H R I h => Call_ (ld_blt I hg hm boot_enumerate (PyProof.Rows.callWith_type1 (thn (ha.run pos pins s σ H _ I h) fun us s1 ⟨vs, H1, I1, r1, a, xs, ex, hq, q⟩ => ?_) hs rfl))⟩
  subst ex
  obtain ⟨u, rfl, ru⟩ := vals1 r1
  obtain rfl : u = .ref a := ru
  obtain ⟨its, rv, p', hz⟩ := I1.tuple hq
  refine call_en (show s1.heap.IsTuple a its.toArray from p') fun h' he hit kp => wpAny_pyIter_enum he ?_
  have I2 : Inv X pins σ H1 { s1 with heap := h' } := I1.kept (t' := s1.toks) kp
  refine ⟨s1.heap.objs.size + 1, [s1.heap.objs.size + 1, s1.heap.objs.size], _, _, H1, rfl, I2, turn_en a (s1.heap.objs.size + 1) s1.heap.objs.size, ⟨⟨.none, he⟩, hit, Nat.succ_ne_self _⟩, fun b hb => ?_, q⟩
  have le : s1.heap.objs.size ≤ b := by
    rcases List.mem_cons.mp hb with rfl | hb
    · exact Nat.le_succ _
    · cases List.mem_singleton.mp hb
      exact Nat.le_refl _
  exact I1.fpOk le (I1.hok.fresh le)
theorem walk_enT {K : PySem.W.Frag} {a : Addr} {xs : List V} : Walk (ItT K a) xs.length (fun H => SqT K H a xs) (YPair (fun i => some (.int (i : Nat))) (fun i => xs[i]?)) := by
  refine ⟨fun i _ hi q => ⟨xs, xs[i], q, List.getElem?_eq_getElem hi⟩, fun _ q => ⟨xs, q, Nat.le_refl _⟩, fun i H v H' _ q y => ?_⟩
  obtain ⟨T, x, z1, z2, z3, z4⟩ := y
  exact ⟨T, .int (i : Nat), x, z1, z2, z3, rfl, z4 xs q⟩
section
variable {K : PySem.W.Frag} {ρ : List En} {N : List En → Prop} {R : Dt → List En → Prop} {Ψ : Dt → List En → Prop}
theorem wj_enT {a : Addr} {xs : List V} {l : List Dt} {G : Hp} (h : SqT K G a xs) (r : RDs K G l xs) : Wj K (ItT K a) (enD l) G := by
  have e := r.length
  have w := walk_enT (K := K) (a := a) (xs := xs)
  have el : (enD l).length = xs.length := by rw [enD_len, e]
  refine ⟨fun i H hi s => w.goes i H (by rw [el] at hi; exact hi) (same_sqT s h), fun H s => by rw [el]; exact w.stops H (same_sqT s h), fun i G1 H x H' hi s1 s2 y => ?_⟩
  obtain ⟨T, u, v, rfl, nT, rfl, f1, f2⟩ := w.yields i H x H' (by rw [el] at hi; exact hi) (same_sqT s2 (same_sqT s1 h)) y
  cases f1
  obtain ⟨d2, g2, q2⟩ := r.back f2
  obtain ⟨G', n, rd⟩ := nw_pair (K := K) (d := .int ((i : Nat) : Int)) s2 nT rfl (q2.same s1)
  exact ⟨G', _, n, enD_get g2, rd⟩
theorem ai_enT {ta : TA} {Θ : List Dt → List En → Prop} (h : AA K ta ρ fun ds ρ1 => ∃ l, ds = [.tup l] ∧ Θ (enD l) ρ1) : AI K (iEnT K ta) ρ Θ := fun B σ G H mm Rr q =>
  h B σ G H mm _ fun vs ds ρ1 G1 H1 m1 s1 t1 r1 ⟨l, e, p⟩ => by
    subst e
    obtain ⟨x, rfl, ⟨a, xs, rfl, h1, h2⟩⟩ := r1.one
    exact ⟨a, xs, rfl, same_sqT m1.sub h1, q _ _ ρ1 G1 H1 m1 s1 t1 (wj_enT h1 h2) p⟩
theorem enD_rg {n : Nat} {f : Nat → Dt} : enD ((List.range n).map f) = (List.range n).map fun i => .tup [.int ((i : Nat) : Int), f i] := by
  refine List.ext_getElem? fun i => ?_
  by_cases h : i < n
  · rw [enD_get (d := f i) (by rw [List.getElem?_map, List.getElem?_range h]; rfl), List.getElem?_map, List.getElem?_range h]; rfl
  · rw [List.getElem?_eq_none (by rw [enD_len]; simp; omega), List.getElem?_eq_none (by simp; omega)]
theorem ae_lenOwn {i : Nat} {l : List Dt} (e : ρ[i]? = some (.own l)) (h : Ψ (.int (l.length : Nat)) ρ) : AE K (tCB (fun xs H Q => ∃ p ys, xs = [.ref p] ∧ (SqL K H p ys ∨ SqT K H p ys) ∧ Q (.int ys.length) H) (tCons (tVar i) tNil)) ρ Ψ := fun B σ G H m Q q => by
  obtain ⟨p, xs, a1, a2, a3, a4, a5⟩ := m.own i l e
  refine ⟨_, a1, p, xs, rfl, .inl (SqL.of a2), ?_⟩
  rw [a3.length]
  exact q _ (.int (l.length : Nat)) ρ G H m (Same.refl _) Tr.refl rfl h
theorem RDs.eraseAt {G : Hp} : ∀ {l : List Dt} {xs : List V} (k : Nat), RDs K G l xs → RDs K G (l.eraseIdx k) (xs.eraseIdx k)
  | [], xs, k, h => by cases (show xs = [] from h); exact rfl
  | d :: l, xs, 0, ⟨x, r, e, h1, h2⟩ => by subst e; exact h2
  | d :: l, xs, k + 1, ⟨x, r, e, h1, h2⟩ => by subst e; exact ⟨x, r.eraseIdx k, rfl, h1, RDs.eraseAt k h2⟩
/-- xs.pop(e) -/
theorem ae_popAt {te : TE} {i : Nat} (o : ∃ l, ρ[i]? = some (.own l)) (h : AE K te ρ fun d ρ1 => ∃ (l : List Dt) (k : Nat) (e : Dt), d = .int (k : Int) ∧ k < 1000000 ∧ ρ1[i]? = some (.own l) ∧ l[k]? = some e ∧ Ψ e (ρ1.set i (.own (l.eraseIdx k)))) : AE K (tBM K "list" rPopAt (tVar i) (tCons te tNil)) ρ Ψ := fun B σ G H m Q q => by
  obtain ⟨l0, e0⟩ := o
  obtain ⟨p0, xs0, a1, a2, _⟩ := m.own i l0 e0
  refine ⟨_, a1, .inl ⟨rfl, _, SqL.of a2⟩, ?_⟩
  refine h B σ G H m _ fun v d ρ1 G1 H1 m1 s1 t1 r1 ⟨l, k, e, ed, kl, el, ek, n⟩ => ?_
  subst ed
  cases (show v = V.int k from r1)
  obtain ⟨p, xs, b1, b2, b3, b4, b5⟩ := m1.own i l el
  rw [a1] at b1
  cases b1
  obtain ⟨y, hy, ry⟩ := b3.get ek
  have lk : k < xs.length := (List.getElem?_eq_some_iff.mp hy).1
  refine ⟨p0, xs, k, k, y, rfl, rfl, b2, by omega, by omega, ?_, hy, ?_⟩
  · unfold seqIndex?
    have e1 : (if (k : Int) < 0 then (k : Int) + (xs.length : Int) else (k : Int)) = (k : Int) := if_neg (by omega)
    simp only [e1]
    rw [if_pos (by rw [Bool.and_eq_true, decide_eq_true_eq, decide_eq_true_eq]; omega), Int.toNat_natCast]
  · exact q y e (ρ1.set i (.own (l.eraseIdx k))) G1 _ (m1.chOwn el a1 (b3.eraseAt k)) s1 (t1.trans fun a o b z => by rw [upd_ne (fun w => b5 (by rw [← w]; exact b))]; exact z) ry n
/-- x = list(e), a list that will change -/
theorem as_ownList {te : TE} {i : Nat} (h : AE K te ρ fun d ρ1 => ∃ k l, d = sq k l ∧ N (ρ1.set i (.own l))) : AS K (tAsg (tCB (fun xs H Q => ∃ p ys, xs = [.ref p] ∧ (SqL K H p ys ∨ SqT K H p ys) ∧ ∀ l, H l = none → Q (.ref l) (upd H l (.lst ys))) (tCons te tNil)) (gName i)) ρ N R := fun B σ G H m D qn qr =>
  h B σ G H m _ fun v d ρ1 G1 H1 m1 s1 t1 r1 ⟨k, l, ed, n⟩ => by
    subst ed
    obtain ⟨a, xs, rfl, h1, h2⟩ := sqK_of m1.sub r1
    refine ⟨a, xs, rfl, ?_, fun p hp => qn _ _ G1 _ (m1.setOwn i hp h2) s1 (t1.trans (Tr.same (same_up hp))) n⟩
    have := same_sqK m1.sub h1
    cases k
    · exact .inl this
    · exact .inr this
/-- x, y = list(e), [] -/
theorem as_parL {te : TE} {i j : Nat} (h : AE K te ρ fun d ρ1 => ∃ k l, d = sq k l ∧ N ((ρ1.set i (.own l)).set j (.own []))) : AS K (tPar i j (tCons (tCB (fun xs H Q => ∃ p ys, xs = [.ref p] ∧ (SqL K H p ys ∨ SqT K H p ys) ∧ ∀ l, H l = none → Q (.ref l) (upd H l (.lst ys))) (tCons te tNil)) (tCons (tLst tNil) tNil))) ρ N R := fun B σ G H m D qn qr =>
  h B σ G H m _ fun v d ρ1 G1 H1 m1 s1 t1 r1 ⟨k, l, ed, n⟩ => by
    subst ed
    obtain ⟨a, xs, rfl, h1, h2⟩ := sqK_of m1.sub r1
    refine ⟨a, xs, rfl, ?_, fun p hp => ⟨Nat.zero_le _, fun p2 hp2 => ⟨.ref p, .ref p2, rfl, ?_⟩⟩⟩
    · have := same_sqK m1.sub h1
      cases k
      · exact .inl this
      · exact .inr this
    · have m2 := m1.setOwn i hp h2
      exact qn _ _ G1 _ (m2.setOwn (l := []) (xs := []) j hp2 rfl) s1 ((t1.trans (Tr.same (same_up hp))).trans (Tr.same (same_up hp2))) n
end
end Sh
set_option Elab.async false
set_option linter.all false
set_option maxRecDepth 100000
set_option maxHeartbeats 4000000
namespace Sh
open PySem PySem.Spec PyProof.Rows L2
abbrev s_tightest_high : Stmt := topS 2
abbrev N_tightest_high : List Str := ["one", "other"]
abbrev p_tightest_high : List Str := ["one", "other"]
theorem sc_tightest_high : FnScope N_tightest_high p_tightest_high (defScope s_tightest_high) := ⟨rfl, rfl, rfl, by decide +kernel, rfl, by decide +kernel, by decide +kernel⟩
abbrev s_high_within : Stmt := topS 3
abbrev N_high_within : List Str := ["one", "other"]
abbrev p_high_within : List Str := ["one", "other"]
theorem sc_high_within : FnScope N_high_within p_high_within (defScope s_high_within) := ⟨rfl, rfl, rfl, by decide +kernel, rfl, by decide +kernel, by decide +kernel⟩
abbrev s_loosest_high : Stmt := topS 1
abbrev N_loosest_high : List Str := ["one", "other"]
abbrev p_loosest_high : List Str := ["one", "other"]
theorem sc_loosest_high : FnScope N_loosest_high p_loosest_high (defScope s_loosest_high) := ⟨rfl, rfl, rfl, by decide +kernel, rfl, by decide +kernel, by decide +kernel⟩
abbrev s_total : Stmt := topS 4
abbrev N_total : List Str := ["one", "other"]
abbrev p_total : List Str := ["one", "other"]
theorem sc_total : FnScope N_total p_total (defScope s_total) := ⟨rfl, rfl, rfl, by decide +kernel, rfl, by decide +kernel, by decide +kernel⟩
abbrev s_gaps_within : Stmt := topS 8
abbrev N_gaps_within : List Str := ["one", "other", "left", "right", "a", "b"]
abbrev p_gaps_within : List Str := ["one", "other"]
theorem sc_gaps_within : FnScope N_gaps_within p_gaps_within (defScope s_gaps_within) := ⟨rfl, rfl, rfl, by decide +kernel, rfl, by decide +kernel, by decide +kernel⟩
abbrev s_gaps_join : Stmt := topS 9
abbrev N_gaps_join : List Str := ["one", "other", "rows", "a", "b"]
abbrev p_gaps_join : List Str := ["one", "other"]
theorem sc_gaps_join : FnScope N_gaps_join p_gaps_join (defScope s_gaps_join) := ⟨rfl, rfl, rfl, by decide +kernel, rfl, by decide +kernel, by decide +kernel⟩
abbrev s_gaps_moved : Stmt := topS 10
abbrev N_gaps_moved : List Str := ["gaps", "i", "n", "moves", "k", "a", "row", "b", "bound"]
abbrev p_gaps_moved : List Str := ["gaps", "i", "n"]
theorem sc_gaps_moved : FnScope N_gaps_moved p_gaps_moved (defScope s_gaps_moved) := ⟨rfl, rfl, rfl, by decide +kernel, rfl, by decide +kernel, by decide +kernel⟩
abbrev s_gaps_bound : Stmt := topS 11
abbrev N_gaps_bound : List Str := ["gaps", "i", "j", "n", "a", "row", "b", "bound"]
abbrev p_gaps_bound : List Str := ["gaps", "i", "j", "n"]
theorem sc_gaps_bound : FnScope N_gaps_bound p_gaps_bound (defScope s_gaps_bound) := ⟨rfl, rfl, rfl, by decide +kernel, rfl, by decide +kernel, by decide +kernel⟩
theorem zp_rg {f g : Nat → Dt} {n : Nat} : zpD ((List.range n).map f) ((List.range n).map g) = (List.range n).map fun i => .tup [f i, g i] := by
  unfold zpD
  rw [List.zip_map', List.map_map]; rfl
theorem rw_rg {n : Nat} {M : Mx} {i : Nat} : rwD n M i = (List.range n).map fun j => oD (M i j) := by
  unfold rwD; rw [List.map_map]; rfl
theorem rg_at {n i : Nat} {f : Nat → Dt} {d : Dt} (h : ((List.range n).map f)[i]? = some d) : i < n ∧ d = f i := by
  have l := (List.getElem?_eq_some_iff.mp h).1
  rw [List.length_map, List.length_range] at l
  rw [List.getElem?_map, List.getElem?_range l] at h
  exact ⟨l, by cases h; rfl⟩
def tmH : Option Int → Option Int → Option Int
  | some a, some b => some (if b < a then b else a)
  | some a, none => some a
  | none, b => b
def hwI (a b : Option Int) : Bool := match b with | none => true | some y => match a with | none => false | some x => decide (x ≤ y)
def jnH : Option Int → Option Int → Option Int
  | some a, some b => some (if b > a then b else a)
  | _, _ => none
def adO : Option Int → Option Int → Option Int
  | some a, some b => some (a + b)
  | _, _ => none
def S_lh (ds : List Dt) (r : Dt) : Prop := ∃ a b, ds = [oD a, oD b] ∧ r = oD (jnH a b)
def S_to (ds : List Dt) (r : Dt) : Prop := ∃ a b, ds = [oD a, oD b] ∧ r = oD (adO a b)
def S_th (ds : List Dt) (r : Dt) : Prop := ∃ a b, ds = [oD a, oD b] ∧ r = oD (tmH a b)
def S_hw (ds : List Dt) (r : Dt) : Prop := ∃ a b, ds = [oD a, oD b] ∧ r = .bl (hwI a b)
/-- bounds as data: a tuple or a list of tuples or lists -/
def gD (k k' : Bool) (n : Nat) (M : Mx) : Dt := sq k ((List.range n).map fun i => sq k' (rwD n M i))
def wiM (n : Nat) (M N : Mx) : Bool := (List.range n).all fun i => (List.range n).all fun j => hwI (M i j) (N i j)
def S_gw (ds : List Dt) (r : Dt) : Prop := ∃ a a' b b' n M N, ds = [gD a a' n M, gD b b' n N] ∧ n ≤ 90 ∧ r = .bl (wiM n M N)
def S_gm (f : Option Int → Option Int → Option Int) (ds : List Dt) (r : Dt) : Prop := ∃ a a' b b' n M N, ds = [gD a a' n M, gD b b' n N] ∧ n ≤ 98 ∧ r = gD true true n (fun i j => f (M i j) (N i j))
def unO : Dt → Option Int
  | .int i => some i
  | _ => none
theorem unO_is {o : Option Int} : unO (oD o) = o := by cases o <;> rfl
def its : Dt → List Dt
  | .tup l => l
  | .lst l => l
  | _ => []
theorem its_sq {k : Bool} {l : List Dt} : its (sq k l) = l := by cases k <;> rfl
def celF (f : Option Int → Option Int → Option Int) : Dt → Dt
  | .tup [p, q] => oD (f (unO p) (unO q))
  | _ => .non
def rowF (f : Option Int → Option Int → Option Int) : Dt → Dt
  | .tup [x, y] => .tup ((zpD (its x) (its y)).map (celF f))
  | _ => .non
theorem zp_row {n i : Nat} {M N : Mx} : zpD (rwD n M i) (rwD n N i) = (List.range n).map fun j => .tup [oD (M i j), oD (N i j)] := by rw [rw_rg, rw_rg, zp_rg]
theorem cel_map {f : Option Int → Option Int → Option Int} {n i : Nat} {M N : Mx} : ((List.range n).map fun j => Dt.tup [oD (M i j), oD (N i j)]).map (celF f) = rwD n (fun i j => f (M i j) (N i j)) i := by
  rw [rw_rg, List.map_map]
  refine List.map_congr_left fun j _ => ?_
  show oD (f (unO (oD (M i j))) (unO (oD (N i j)))) = _
  rw [unO_is, unO_is]
theorem row_is {f : Option Int → Option Int → Option Int} {n i : Nat} {k k' : Bool} {M N : Mx} : rowF f (.tup [sq k (rwD n M i), sq k' (rwD n N i)]) = .tup (rwD n (fun i j => f (M i j) (N i j)) i) := by
  show Dt.tup _ = _
  rw [its_sq, its_sq, zp_row, cel_map]
def hwF : Dt → Dt → Dt
  | _, .tup [p, q] => .bl (hwI (unO p) (unO q))
  | _, _ => .non
def hwL : Dt → List Dt
  | .tup [x, y] => zpD (its x) (its y)
  | _ => []
theorem hwL_is {n i : Nat} {k k' : Bool} {M N : Mx} : hwL (.tup [sq k (rwD n M i), sq k' (rwD n N i)]) = (List.range n).map fun j => .tup [oD (M i j), oD (N i j)] := by
  show zpD (its _) (its _) = _
  rw [its_sq, its_sq, zp_row]
theorem hw_flat {n : Nat} {k k' : Bool} {M N : Mx} : (((List.range n).map fun i => Dt.tup [sq k (rwD n M i), sq k' (rwD n N i)]).flatMap fun d => (hwL d).map (hwF d)) = (((List.range n).flatMap fun i => (List.range n).map fun j => hwI (M i j) (N i j))).map Dt.bl := by
  rw [List.flatMap_map, List.map_flatMap]
  congr 1
  funext i
  rw [hwL_is, List.map_map, List.map_map]
  refine List.map_congr_left fun j _ => ?_
  show Dt.bl (hwI (unO (oD (M i j))) (unO (oD (N i j)))) = _
  rw [unO_is, unO_is]; rfl
theorem all_flat {l : List Nat} {f : Nat → List Bool} : (l.flatMap f).all id = l.all fun i => (f i).all id := by
  induction l with
  | nil => rfl
  | cons a l ih => rw [List.flatMap_cons, List.all_append, ih, List.all_cons]
theorem flat_len {n : Nat} {f : Nat → Nat → Bool} : ((List.range n).flatMap fun i => (List.range n).map fun j => f i j).length = n * n := by
  have : ∀ l : List Nat, (l.flatMap fun i => (List.range n).map fun j => f i j).length = l.length * n := fun l => by
    induction l with
    | nil => simp
    | cons a l ih => rw [List.flatMap_cons, List.length_append, ih, List.length_map, List.length_range, List.length_cons, Nat.succ_mul]; omega
  rw [this, List.length_range]
section
variable {P : Program} {w : World} {K : PySem.W.Frag} {mg : Str → Option Value} {base : Heap}
theorem ok_tightest_high (bl : Blts mg)   {f : Addr} {fd : FuncData} (F : Fun K "tightest_high" "tightest_high" s_tightest_high f fd) : FnOk P w K mg base CX0 1 f fd p_tightest_high (spP K (S_th)) := by
  refine okP F sc_tightest_high (fun ds r h => ?_) (fun cdv A outer s H E hr ds r h => ?_)
  · obtain ⟨a, b, rfl, rfl⟩ := h
    rfl
  obtain ⟨a, b, rfl, rfl⟩ := h
  refine ⟨_, (pss_cons (ps_if (pt_cmpR op_isN (pv 0) pe_non (nomark _)) (pss_one (ps_ret (pv 1))) pss_nil)
    (pss_cons (ps_if (pt_cmpR op_isN (pv 1) pe_non (nomark _)) (pss_one (ps_ret (pv 0))) pss_nil)
    (pss_one (ps_ret (pe_callB (call_min2 rfl) rfl bl.min (by decide +kernel) (pa_cons (pv 0) (pa_cons (pv 1) pa_nil))))))), ?_⟩
  change AS K _ [En.da _, En.da _] _ _
  try simp only [cxOf_K]
  cases a with
  | none =>
    cases b with
    | none =>
      repeat' (first
        | with_reducible apply as_seq
        | with_reducible apply as_ret
        | with_reducible apply as_if
        | ((with_reducible apply ae_var); · rfl)
        | with_reducible apply ae_non
        | with_reducible apply ae_op
        | with_reducible apply at_test
        | with_reducible apply ar_isN
        | refine ⟨_, rfl, ?_⟩
        | (refine ⟨fun hc => ?_, fun hc => ?_⟩ <;> (first | (exfalso; exact absurd (show false = true from hc) (by decide)) | (exfalso; exact absurd (show true = false from hc) (by decide)) | (exfalso; simp at hc; done) | skip))
        | rfl
        | fail)
    | some y =>
      repeat' (first
        | with_reducible apply as_seq
        | with_reducible apply as_ret
        | with_reducible apply as_if
        | ((with_reducible apply ae_var); · rfl)
        | with_reducible apply ae_non
        | with_reducible apply ae_op
        | with_reducible apply at_test
        | with_reducible apply ar_isN
        | refine ⟨_, rfl, ?_⟩
        | (refine ⟨fun hc => ?_, fun hc => ?_⟩ <;> (first | (exfalso; exact absurd (show false = true from hc) (by decide)) | (exfalso; exact absurd (show true = false from hc) (by decide)) | (exfalso; simp at hc; done) | skip))
        | rfl
        | fail)
  | some x =>
    cases b with
    | none =>
      repeat' (first
        | with_reducible apply as_seq
        | with_reducible apply as_ret
        | with_reducible apply as_next
        | with_reducible apply as_if
        | ((with_reducible apply ae_var); · rfl)
        | with_reducible apply ae_non
        | with_reducible apply ae_op
        | with_reducible apply at_test
        | with_reducible apply ar_isN
        | refine ⟨_, rfl, ?_⟩
        | (refine ⟨fun hc => ?_, fun hc => ?_⟩ <;> (first | (exfalso; exact absurd (show false = true from hc) (by decide)) | (exfalso; exact absurd (show true = false from hc) (by decide)) | (exfalso; simp at hc; done) | skip))
        | rfl
        | fail)
    | some y =>
      repeat' (first
        | with_reducible apply as_seq
        | with_reducible apply as_ret
        | with_reducible apply as_next
        | with_reducible apply as_if
        | ((with_reducible apply ae_var); · rfl)
        | with_reducible apply ae_non
        | with_reducible apply ae_op
        | with_reducible apply aa_nil
        | with_reducible apply aa_cons
        | with_reducible apply ae_cb
        | with_reducible apply at_test
        | with_reducible apply ar_isN
        | with_reducible apply ac_min2
        | refine ⟨_, rfl, ?_⟩
        | (refine ⟨fun hc => ?_, fun hc => ?_⟩ <;> (first | (exfalso; exact absurd (show false = true from hc) (by decide)) | (exfalso; exact absurd (show true = false from hc) (by decide)) | (exfalso; simp at hc; done) | skip))
        | rfl
        | simp only [oD_some, oD_none]
        | fail)
theorem ok_high_within (bl : Blts mg)   {f : Addr} {fd : FuncData} (F : Fun K "high_within" "high_within" s_high_within f fd) : FnOk P w K mg base CX0 1 f fd p_high_within (spP K (S_hw)) := by
  refine okP F sc_high_within (fun ds r h => ?_) (fun cdv A outer s H E hr ds r h => ?_)
  · obtain ⟨a, b, rfl, rfl⟩ := h
    rfl
  obtain ⟨a, b, rfl, rfl⟩ := h
  refine ⟨_, (pss_one (ps_ret (pe_or (pe_cmpR op_isN (pv 1) pe_non (nomark _)) (pe_one (pe_and (pe_cmpR op_notN (pv 0) pe_non (nomark _)) (pe_one (pe_cmpR op_le (pv 0) (pv 1) (nomark _)))))))), ?_⟩
  change AS K _ [En.da _, En.da _] _ _
  try simp only [cxOf_K]
  cases a with
  | none =>
    cases b with
    | none =>
      repeat' (first
        | with_reducible apply as_ret
        | ((with_reducible apply ae_var); · rfl)
        | with_reducible apply ae_non
        | with_reducible apply ae_op
        | with_reducible apply ae_orV
        | with_reducible apply ar_isN
        | refine ⟨_, rfl, ?_⟩
        | (refine ⟨fun hc => ?_, fun hc => ?_⟩ <;> (first | (exfalso; exact absurd (show false = true from hc) (by decide)) | (exfalso; exact absurd (show true = false from hc) (by decide)) | (exfalso; simp at hc; done) | skip))
        | rfl
        | fail)
    | some y =>
      repeat' (first
        | with_reducible apply as_ret
        | ((with_reducible apply ae_var); · rfl)
        | with_reducible apply ae_non
        | with_reducible apply ae_op
        | with_reducible apply ae_andV
        | with_reducible apply ae_orV
        | with_reducible apply ar_isN
        | with_reducible apply ar_notN
        | refine ⟨_, rfl, ?_⟩
        | (refine ⟨fun hc => ?_, fun hc => ?_⟩ <;> (first | (exfalso; exact absurd (show false = true from hc) (by decide)) | (exfalso; exact absurd (show true = false from hc) (by decide)) | (exfalso; simp at hc; done) | skip))
        | rfl
        | fail)
  | some x =>
    cases b with
    | none =>
      repeat' (first
        | with_reducible apply as_ret
        | ((with_reducible apply ae_var); · rfl)
        | with_reducible apply ae_non
        | with_reducible apply ae_op
        | with_reducible apply ae_orV
        | with_reducible apply ar_isN
        | refine ⟨_, rfl, ?_⟩
        | (refine ⟨fun hc => ?_, fun hc => ?_⟩ <;> (first | (exfalso; exact absurd (show false = true from hc) (by decide)) | (exfalso; exact absurd (show true = false from hc) (by decide)) | (exfalso; simp at hc; done) | skip))
        | rfl
        | fail)
    | some y =>
      repeat' (first
        | with_reducible apply as_ret
        | ((with_reducible apply ae_var); · rfl)
        | with_reducible apply ae_non
        | with_reducible apply ae_op
        | with_reducible apply ae_andV
        | with_reducible apply ae_orV
        | with_reducible apply ar_I0b
        | with_reducible apply ar_isN
        | with_reducible apply ar_notN
        | refine ⟨_, rfl, ?_⟩
        | (refine ⟨fun hc => ?_, fun hc => ?_⟩ <;> (first | (exfalso; exact absurd (show false = true from hc) (by decide)) | (exfalso; exact absurd (show true = false from hc) (by decide)) | (exfalso; simp at hc; done) | skip))
        | rfl
        | simp only [oD_some, oD_none]
        | fail)
theorem ok_gaps_within (bl : Blts mg) {g_high_within : Addr} {d_high_within : FuncData} (c_high_within : Cal P w K mg base 1 "high_within" p_high_within (spP K S_hw) g_high_within d_high_within)  {f : Addr} {fd : FuncData} (F : Fun K "gaps_within" "gaps_within" s_gaps_within f fd) : FnOk P w K mg base CX0 2 f fd p_gaps_within (spP K (S_gw)) := by
  refine okP F sc_gaps_within (fun ds r h => ?_) (fun cdv A outer s H E hr ds r h => ?_)
  · obtain ⟨a, a', b, b', n, M, N, rfl, n90, rfl⟩ := h
    rfl
  obtain ⟨a, a', b, b', n, M, N, rfl, n90, rfl⟩ := h
  refine ⟨_, (pss_one (ps_ret (pe_callB (cr_all rfl) rfl bl.all (by decide +kernel) (pa_cons (pe_lc2 (own := [("left", 2), ("right", 3), ("a", 4), ("b", 5)]) (vs1 := [4, 5]) (g := (gTup K 2 (gCons (gName 2) (gCons (gName 3) gNil)))) (g1 := (gTup K 2 (gCons (gName 4) (gCons (gName 5) gNil)))) (tt := tYes) (tt1 := tYes) (te := (tCall (spP K S_hw) [] E0 (tCons (tVar 4) (tCons (tVar 5) tNil)))) (wi1 := (iZipK K (tCons (tVar 2) (tCons (tVar 3) tNil)))) rfl sc_gaps_within.nd (pi_zipK rfl bl.zip (pa_cons (pv 0) (pa_cons (pv 1) pa_nil))) (blkOk_by (N := N_gaps_within) (sc := defScope s_gaps_within) (by decide +kernel)) (by decide) (fun _ _ _ _ _ => (pg_tup rfl (pgs_cons (pg_name (i := 2) sc_gaps_within.nd rfl (by first | exact Or.inl rfl | exact Or.inr rfl)) (pgs_cons (pg_name (i := 3) sc_gaps_within.nd rfl (by first | exact Or.inl rfl | exact Or.inr rfl)) pgs_nil)))) (fun _ _ _ _ _ => pts_nil) (fun _ _ _ _ _ => (pi_zipK rfl bl.zip (pa_cons (pv 2) (pa_cons (pv 3) pa_nil)))) (fun _ _ _ _ _ => (pg_tup rfl (pgs_cons (pg_name (i := 4) sc_gaps_within.nd rfl (by first | exact Or.inl rfl | exact Or.inr rfl)) (pgs_cons (pg_name (i := 5) sc_gaps_within.nd rfl (by first | exact Or.inl rfl | exact Or.inr rfl)) pgs_nil)))) (fun _ _ _ _ _ => pts_nil) (fun _ _ _ _ _ => (pe_call c_high_within.ok (hr.mono (by decide)) rfl c_high_within.mg c_high_within.kp c_high_within.bi .nil pass0 (pa_cons (pv 4) (pa_cons (pv 5) pa_nil))))) pa_nil)))), ?_⟩
  change AS K _ [En.da _, En.da _, En.no, En.no, En.no, En.no] _ _
  try simp only [cxOf_K]
  have z9 : 9000 ≤ sizeLine := by decide
  have hnn : n * n ≤ 8100 := Nat.mul_le_mul n90 n90
  refine as_ret (ae_cb (aa_cons (ae_lc2Map hwF hwL (by decide) (ai_zipK (aa_cons (ae_var rfl (aa_cons (ae_var rfl (aa_nil ⟨a, b, _, _, rfl, ?_⟩)))))))))
  rw [zp_rg]
  refine ⟨by rw [hw_flat, List.length_map, flat_len]; omega, fun d hd => ?_, ?_⟩
  · obtain ⟨i, hi, rfl⟩ := List.mem_map.mp hd
    refine agv_tup rfl (agvs_cons (agv_name (by decide) (agvs_cons (agv_name (by decide) (agvs_nil (ai_zipK (aa_cons (ae_var rfl (aa_cons (ae_var rfl (aa_nil ⟨a', b', _, _, rfl, ?_⟩)))))))))))
    rw [hwL_is, zp_row]
    refine ⟨rfl, rfl, fun d1 hd1 => ?_⟩
    obtain ⟨j, hj, rfl⟩ := List.mem_map.mp hd1
    refine agv_tup rfl (agvs_cons (agv_name (by decide) (agvs_cons (agv_name (by decide) (agvs_nil (ae_call (aa_cons (ae_var rfl (aa_cons (ae_var rfl (aa_nil ⟨_, ⟨_, _, rfl, rfl⟩, ?_⟩)))))))))))
    exact ⟨by show _ = Dt.bl (hwI (unO (oD (M i j))) (unO (oD (N i j)))); rw [unO_is, unO_is], rfl⟩
  · rw [hw_flat]
    refine aa_nil (ac_all ?_)
    rw [all_flat]
    show _ = Dt.bl (wiM n M N)
    unfold wiM
    congr 2
    funext i
    rw [List.all_map]; rfl
theorem ok_loosest_high (bl : Blts mg)   {f : Addr} {fd : FuncData} (F : Fun K "loosest_high" "loosest_high" s_loosest_high f fd) : FnOk P w K mg base CX0 1 f fd p_loosest_high (spP K (S_lh)) := by
  refine okP F sc_loosest_high (fun ds r h => ?_) (fun cdv A outer s H E hr ds r h => ?_)
  · obtain ⟨a, b, rfl, rfl⟩ := h
    rfl
  obtain ⟨a, b, rfl, rfl⟩ := h
  refine ⟨_, (pss_cons (ps_if (PW.pt (pw_or (pt_cmpR op_isN (pv 0) pe_non (nomark _)) (pw_or1 (pt_cmpR op_isN (pv 1) pe_non (nomark _))))) (pss_one (ps_ret pe_non)) pss_nil)
    (pss_one (ps_ret (pe_callB (call_max2 rfl) rfl bl.max (by decide +kernel) (pa_cons (pv 0) (pa_cons (pv 1) pa_nil)))))), ?_⟩
  change AS K _ [En.da _, En.da _] _ _
  try simp only [cxOf_K]
  cases a with
  | none =>
    cases b with
    | none =>
      repeat' (first
        | with_reducible apply as_seq
        | with_reducible apply as_ret
        | with_reducible apply as_if
        | ((with_reducible apply ae_var); · rfl)
        | with_reducible apply ae_non
        | with_reducible apply ae_op
        | with_reducible apply at_test
        | with_reducible apply at_or
        | with_reducible apply ar_isN
        | refine ⟨_, rfl, ?_⟩
        | (refine ⟨fun hc => ?_, fun hc => ?_⟩ <;> (first | (exfalso; exact absurd (show false = true from hc) (by decide)) | (exfalso; exact absurd (show true = false from hc) (by decide)) | (exfalso; simp at hc; done) | skip))
        | rfl
        | fail)
    | some y =>
      repeat' (first
        | with_reducible apply as_seq
        | with_reducible apply as_ret
        | with_reducible apply as_if
        | ((with_reducible apply ae_var); · rfl)
        | with_reducible apply ae_non
        | with_reducible apply ae_op
        | with_reducible apply at_test
        | with_reducible apply at_or
        | with_reducible apply ar_isN
        | refine ⟨_, rfl, ?_⟩
        | (refine ⟨fun hc => ?_, fun hc => ?_⟩ <;> (first | (exfalso; exact absurd (show false = true from hc) (by decide)) | (exfalso; exact absurd (show true = false from hc) (by decide)) | (exfalso; simp at hc; done) | skip))
        | rfl
        | fail)
  | some x =>
    cases b with
    | none =>
      repeat' (first
        | with_reducible apply as_seq
        | with_reducible apply as_ret
        | with_reducible apply as_if
        | ((with_reducible apply ae_var); · rfl)
        | with_reducible apply ae_non
        | with_reducible apply ae_op
        | with_reducible apply at_test
        | with_reducible apply at_or
        | with_reducible apply ar_isN
        | refine ⟨_, rfl, ?_⟩
        | (refine ⟨fun hc => ?_, fun hc => ?_⟩ <;> (first | (exfalso; exact absurd (show false = true from hc) (by decide)) | (exfalso; exact absurd (show true = false from hc) (by decide)) | (exfalso; simp at hc; done) | skip))
        | rfl
        | fail)
    | some y =>
      repeat' (first
        | with_reducible apply as_seq
        | with_reducible apply as_ret
        | with_reducible apply as_next
        | with_reducible apply as_if
        | ((with_reducible apply ae_var); · rfl)
        | with_reducible apply ae_non
        | with_reducible apply ae_op
        | with_reducible apply aa_nil
        | with_reducible apply aa_cons
        | with_reducible apply ae_cb
        | with_reducible apply at_test
        | with_reducible apply at_or
        | with_reducible apply ar_isN
        | with_reducible apply ac_max2
        | refine ⟨_, rfl, ?_⟩
        | (refine ⟨fun hc => ?_, fun hc => ?_⟩ <;> (first | (exfalso; exact absurd (show false = true from hc) (by decide)) | (exfalso; exact absurd (show true = false from hc) (by decide)) | (exfalso; simp at hc; done) | skip))
        | rfl
        | simp only [oD_some, oD_none]
        | fail)
theorem ok_total (bl : Blts mg)   {f : Addr} {fd : FuncData} (F : Fun K "total" "total" s_total f fd) : FnOk P w K mg base CX0 1 f fd p_total (spP K (S_to)) := by
  refine okP F sc_total (fun ds r h => ?_) (fun cdv A outer s H E hr ds r h => ?_)
  · obtain ⟨a, b, rfl, rfl⟩ := h
    rfl
  obtain ⟨a, b, rfl, rfl⟩ := h
  refine ⟨_, (pss_cons (ps_if (PW.pt (pw_or (pt_cmpR op_isN (pv 0) pe_non (nomark _)) (pw_or1 (pt_cmpR op_isN (pv 1) pe_non (nomark _))))) (pss_one (ps_ret pe_non)) pss_nil)
    (pss_one (ps_ret (pe_op op_add (pv 0) (pv 1))))), ?_⟩
  change AS K _ [En.da _, En.da _] _ _
  try simp only [cxOf_K]
  cases a with
  | none =>
    cases b with
    | none =>
      repeat' (first
        | with_reducible apply as_seq
        | with_reducible apply as_ret
        | with_reducible apply as_if
        | ((with_reducible apply ae_var); · rfl)
        | with_reducible apply ae_non
        | with_reducible apply ae_op
        | with_reducible apply at_test
        | with_reducible apply at_or
        | with_reducible apply ar_isN
        | refine ⟨_, rfl, ?_⟩
        | (refine ⟨fun hc => ?_, fun hc => ?_⟩ <;> (first | (exfalso; exact absurd (show false = true from hc) (by decide)) | (exfalso; exact absurd (show true = false from hc) (by decide)) | (exfalso; simp at hc; done) | skip))
        | rfl
        | fail)
    | some y =>
      repeat' (first
        | with_reducible apply as_seq
        | with_reducible apply as_ret
        | with_reducible apply as_if
        | ((with_reducible apply ae_var); · rfl)
        | with_reducible apply ae_non
        | with_reducible apply ae_op
        | with_reducible apply at_test
        | with_reducible apply at_or
        | with_reducible apply ar_isN
        | refine ⟨_, rfl, ?_⟩
        | (refine ⟨fun hc => ?_, fun hc => ?_⟩ <;> (first | (exfalso; exact absurd (show false = true from hc) (by decide)) | (exfalso; exact absurd (show true = false from hc) (by decide)) | (exfalso; simp at hc; done) | skip))
        | rfl
        | fail)
  | some x =>
    cases b with
    | none =>
      repeat' (first
        | with_reducible apply as_seq
        | with_reducible apply as_ret
        | with_reducible apply as_if
        | ((with_reducible apply ae_var); · rfl)
        | with_reducible apply ae_non
        | with_reducible apply ae_op
        | with_reducible apply at_test
        | with_reducible apply at_or
        | with_reducible apply ar_isN
        | refine ⟨_, rfl, ?_⟩
        | (refine ⟨fun hc => ?_, fun hc => ?_⟩ <;> (first | (exfalso; exact absurd (show false = true from hc) (by decide)) | (exfalso; exact absurd (show true = false from hc) (by decide)) | (exfalso; simp at hc; done) | skip))
        | rfl
        | fail)
    | some y =>
      repeat' (first
        | with_reducible apply as_seq
        | with_reducible apply as_ret
        | with_reducible apply as_next
        | with_reducible apply as_if
        | ((with_reducible apply ae_var); · rfl)
        | with_reducible apply ae_non
        | with_reducible apply ae_op
        | with_reducible apply at_test
        | with_reducible apply at_or
        | with_reducible apply ar_I0i
        | with_reducible apply ar_isN
        | refine ⟨_, rfl, ?_⟩
        | (refine ⟨fun hc => ?_, fun hc => ?_⟩ <;> (first | (exfalso; exact absurd (show false = true from hc) (by decide)) | (exfalso; exact absurd (show true = false from hc) (by decide)) | (exfalso; simp at hc; done) | skip))
        | rfl
        | simp only [oD_some, oD_none]
        | fail)
theorem ok_gaps_join (bl : Blts mg) {g_loosest_high : Addr} {d_loosest_high : FuncData} (c_loosest_high : Cal P w K mg base 1 "loosest_high" p_loosest_high (spP K S_lh) g_loosest_high d_loosest_high)  {f : Addr} {fd : FuncData} (F : Fun K "gaps_join" "gaps_join" s_gaps_join f fd) : FnOk P w K mg base CX0 2 f fd p_gaps_join (spP K (S_gm jnH)) := by
  refine okP F sc_gaps_join (fun ds r h => ?_) (fun cdv A outer s H E hr ds r h => ?_)
  · obtain ⟨a, a', b, b', n, M, N, rfl, n98, rfl⟩ := h
    rfl
  obtain ⟨a, a', b, b', n, M, N, rfl, n98, rfl⟩ := h
  refine ⟨_, (pss_one (ps_ret (pe_callTy call_tuple_of rfl bl.tuple (by decide +kernel) (pa_cons (pe_lc (own := [("rows", 2)]) (g := (gName 2)) (te := (tCB (fun xs H Q => ∃ p ys, xs = [.ref p] ∧ ((SqL K H p ys ∧ ∀ l, H l = none → Q (.ref l) (upd H l (.tup ys))) ∨ (SqT K H p ys ∧ Q (.ref p) H))) (tCons (tLc (iZipS K (tVar 2)) (gTup K 2 (gCons (gName 3) (gCons (gName 4) gNil))) tYes (tCall (spP K S_lh) [] E0 (tCons (tVar 3) (tCons (tVar 4) tNil))) (List.map (fun x => x.2) [(("a" : Str), (3 : Nat)), (("b" : Str), (4 : Nat))])) tNil))) (tt := tYes) rfl sc_gaps_join.nd (pi_zipN rfl bl.zip (pa_cons (pv 0) (pa_cons (pv 1) pa_nil))) (blkOk_by (N := N_gaps_join) (sc := defScope s_gaps_join) (by decide +kernel)) (fun _ _ _ _ _ => (pg_name (i := 2) sc_gaps_join.nd rfl (by first | exact Or.inl rfl | exact Or.inr rfl))) (fun _ _ _ _ _ => pts_nil) (fun _ _ _ _ _ => (pe_callTy call_tuple_of rfl bl.tuple (by decide +kernel) (pa_cons (by exact (pe_lc (own := [("a", 3), ("b", 4)]) (g := (gTup K 2 (gCons (gName 3) (gCons (gName 4) gNil)))) (te := (tCall (spP K S_lh) [] E0 (tCons (tVar 3) (tCons (tVar 4) tNil)))) (tt := tYes) rfl sc_gaps_join.nd (pi_zipS rfl bl.zip (pv 2)) (blkOk_by (by rfl)) (fun _ _ _ _ _ => (pg_tup rfl (pgs_cons (pg_name (i := 3) sc_gaps_join.nd rfl (by first | exact Or.inl rfl | exact Or.inr rfl)) (pgs_cons (pg_name (i := 4) sc_gaps_join.nd rfl (by first | exact Or.inl rfl | exact Or.inr rfl)) pgs_nil)))) (fun _ _ _ _ _ => pts_nil) (fun _ _ _ _ _ => (pe_call c_loosest_high.ok (hr.mono (by decide)) rfl c_loosest_high.mg c_loosest_high.kp c_loosest_high.bi .nil pass0 (pa_cons (pv 3) (pa_cons (pv 4) pa_nil)))))) pa_nil)))) pa_nil)))), ?_⟩
  change AS K _ [En.da _, En.da _, En.no, En.no, En.no] _ _
  try simp only [cxOf_K]
  have z9 : 9000 ≤ sizeLine := by decide
  refine as_ret (ae_cb (aa_cons (ae_lcMap (rowF jnH) (ai_zipK (aa_cons (ae_var rfl (aa_cons (ae_var rfl (aa_nil ⟨a, b, _, _, rfl, ?_⟩)))))))))
  rw [zp_rg]
  refine ⟨by rw [List.length_map, List.length_range]; omega, fun d hd => ?_, ?_⟩
  · obtain ⟨i, hi, rfl⟩ := List.mem_map.mp hd
    refine agv_name (by decide) (ae_cb (aa_cons (ae_lcMap (celF jnH) (ai_zipS (ae_var rfl ⟨true, a', b', _, _, rfl, ?_⟩)))))
    rw [zp_row]
    refine ⟨by rw [List.length_map, List.length_range]; omega, fun d hd => ?_, ?_⟩
    · obtain ⟨j, hj, rfl⟩ := List.mem_map.mp hd
      refine agv_tup rfl (agvs_cons (agv_name (by decide) (agvs_cons (agv_name (by decide) (agvs_nil (ae_call (aa_cons (ae_var rfl (aa_cons (ae_var rfl (aa_nil ⟨_, ⟨_, _, rfl, rfl⟩, ?_⟩)))))))))))
      exact ⟨by show _ = oD (jnH (unO (oD (M i j))) (unO (oD (N i j)))); rw [unO_is, unO_is], rfl⟩
    · rw [cel_map]
      exact aa_nil (ac_tupL ⟨row_is.symm, rfl⟩)
  · refine aa_nil (ac_tupL ?_)
    show _ = gD true true n _
    unfold gD
    rw [List.map_map]
    show Dt.tup _ = Dt.tup _
    congr 1
    exact List.map_congr_left fun i _ => row_is
def yV (a : Nat) (v : Int) (k : Nat) : Int := if k = a then v else 0
def mvM (M : Mx) (a : Nat) (v : Int) : Mx := fun i j => adO (M i j) (some (yV a v i - yV a v j))
def bdM (M : Mx) (a c : Nat) (v : Int) : Mx := fun i j => if i = a ∧ j = c then tmH (M i j) (some v) else M i j
def S_mv (ds : List Dt) (r : Dt) : Prop := ∃ (n : Nat) (M : Mx) (a : Nat) (v : Int), ds = [gD true true n M, .int (a : Int), .int v] ∧ n ≤ 90 ∧ r = gD true true n (mvM M a v)
def S_bd (ds : List Dt) (r : Dt) : Prop := ∃ (n : Nat) (M : Mx) (a c : Nat) (v : Int), ds = [gD true true n M, .int (a : Int), .int (c : Int), .int v] ∧ n ≤ 90 ∧ r = gD true true n (bdM M a c v)
theorem eqv_2 {i j k l : Nat} : PyData.eqv (Dt.tup [.int (i : Int), .int (j : Int)]).pd (Dt.tup [.int (k : Int), .int (l : Int)]).pd = decide (i = k ∧ j = l) := by
  have h := PySem.W.Datum.eqv ((i : Int), (j : Int)) ((k : Int), (l : Int))
  refine Eq.trans h ?_
  rw [decide_eq_decide, Prod.mk.injEq]
  omega
/-- data of (place, row), of (place, bound) -/
def enR (g : Nat → Nat → Option Int → Option Int) : Dt → Dt
  | .tup [.int a, .tup l] => .tup ((enD l).map fun d => match d with | .tup [.int b, o] => oD (g a.toNat b.toNat (unO o)) | _ => .non)
  | _ => .non
def enC (g : Nat → Nat → Option Int → Option Int) (a : Nat) : Dt → Dt := fun d => match d with | .tup [.int b, o] => oD (g a b.toNat (unO o)) | _ => .non
theorem enC_is {g : Nat → Nat → Option Int → Option Int} {a b : Nat} {o : Option Int} : enC g a (.tup [.int (b : Int), oD o]) = oD (g a b o) := by
  show oD (g a ((b : Int)).toNat (unO (oD o))) = _
  rw [unO_is, Int.toNat_natCast]
theorem enC_map {g : Nat → Nat → Option Int → Option Int} {n a : Nat} {M : Mx} : (enD (rwD n M a)).map (enC g a) = rwD n (fun i j => g i j (M i j)) a := by
  rw [rw_rg, rw_rg, enD_rg, List.map_map]
  exact List.map_congr_left fun j _ => enC_is
theorem enR_is {g : Nat → Nat → Option Int → Option Int} {n a : Nat} {M : Mx} : enR g (.tup [.int (a : Int), .tup (rwD n M a)]) = .tup (rwD n (fun i j => g i j (M i j)) a) := by
  show Dt.tup ((enD (rwD n M a)).map (enC g ((a : Int)).toNat)) = _
  rw [Int.toNat_natCast, enC_map]
end
section
variable {P : Program} {w : World} {K : PySem.W.Frag} {mg : Str → Option Value} {base : Heap}
theorem ok_gaps_moved (bl : Blts mg) {g_total : Addr} {d_total : FuncData} (c_total : Cal P w K mg base 1 "total" p_total (spP K S_to) g_total d_total)  {f : Addr} {fd : FuncData} (F : Fun K "gaps_moved" "gaps_moved" s_gaps_moved f fd) : FnOk P w K mg base CX0 2 f fd p_gaps_moved (spP K (S_mv)) := by
  refine okP F sc_gaps_moved (fun ds r h => ?_) (fun cdv A outer s H E hr ds r h => ?_)
  · obtain ⟨n, M, a, v, rfl, n90, rfl⟩ := h
    rfl
  obtain ⟨n, M, a, v, rfl, n90, rfl⟩ := h
  refine ⟨_, (pss_cons (ps_set (i := 3) sc_gaps_moved.nd rfl (by first | exact Or.inl rfl | exact Or.inr rfl) (pe_lc (own := [("k", 4)]) (g := (gName 4)) (te := (tIf (tTest (tOp rEq (tVar 4) (tVar 1))) (tVar 2) (tC (.int 0)))) (tt := tYes) rfl sc_gaps_moved.nd (pi_range1 rfl bl.range (pa_cons (pe_callB call_len_seq rfl bl.len (by decide +kernel) (pa_cons (pv 0) pa_nil)) pa_nil)) (blkOk_by (N := N_gaps_moved) (sc := defScope s_gaps_moved) (by decide +kernel)) (fun _ _ _ _ _ => (pg_name (i := 4) sc_gaps_moved.nd rfl (by first | exact Or.inl rfl | exact Or.inr rfl))) (fun _ _ _ _ _ => pts_nil) (fun _ _ _ _ _ => (pe_ifExp (pt_cmpR op_eq (pv 4) (pv 1) (nomark _)) (pv 2) pe_int))))
    (pss_one (ps_ret (pe_callTy call_tuple_of rfl bl.tuple (by decide +kernel) (pa_cons (pe_lc (own := [("a", 5), ("row", 6)]) (g := (gTup K 2 (gCons (gName 5) (gCons (gName 6) gNil)))) (te := (tCB (fun xs H Q => ∃ p ys, xs = [.ref p] ∧ ((SqL K H p ys ∧ ∀ l, H l = none → Q (.ref l) (upd H l (.tup ys))) ∨ (SqT K H p ys ∧ Q (.ref p) H))) (tCons (tLc (iEnT K (tCons (tVar 6) tNil)) (gTup K 2 (gCons (gName 7) (gCons (gName 8) gNil))) tYes (tCall (spP K S_to) [] E0 (tCons (tVar 8) (tCons (tOp (rI0 fun i j => .int (i - j)) (tOp (rIxL K) (tVar 3) (tVar 5)) (tOp (rIxL K) (tVar 3) (tVar 7))) tNil))) (List.map (fun x => x.2) [(("b" : Str), (7 : Nat)), (("bound" : Str), (8 : Nat))])) tNil))) (tt := tYes) rfl sc_gaps_moved.nd (pi_enT rfl bl.enumerate (pa_cons (pv 0) pa_nil)) (blkOk_by (N := N_gaps_moved) (sc := defScope s_gaps_moved) (by decide +kernel)) (fun _ _ _ _ _ => (pg_tup rfl (pgs_cons (pg_name (i := 5) sc_gaps_moved.nd rfl (by first | exact Or.inl rfl | exact Or.inr rfl)) (pgs_cons (pg_name (i := 6) sc_gaps_moved.nd rfl (by first | exact Or.inl rfl | exact Or.inr rfl)) pgs_nil)))) (fun _ _ _ _ _ => pts_nil) (fun _ _ _ _ _ => (pe_callTy call_tuple_of rfl bl.tuple (by decide +kernel) (pa_cons (by exact (pe_lc (own := [("b", 7), ("bound", 8)]) (g := (gTup K 2 (gCons (gName 7) (gCons (gName 8) gNil)))) (te := (tCall (spP K S_to) [] E0 (tCons (tVar 8) (tCons (tOp (rI0 fun i j => .int (i - j)) (tOp (rIxL K) (tVar 3) (tVar 5)) (tOp (rIxL K) (tVar 3) (tVar 7))) tNil)))) (tt := tYes) rfl sc_gaps_moved.nd (pi_enT rfl bl.enumerate (pa_cons (pv 6) pa_nil)) (blkOk_by (by rfl)) (fun _ _ _ _ _ => (pg_tup rfl (pgs_cons (pg_name (i := 7) sc_gaps_moved.nd rfl (by first | exact Or.inl rfl | exact Or.inr rfl)) (pgs_cons (pg_name (i := 8) sc_gaps_moved.nd rfl (by first | exact Or.inl rfl | exact Or.inr rfl)) pgs_nil)))) (fun _ _ _ _ _ => pts_nil) (fun _ _ _ _ _ => (pe_call c_total.ok (hr.mono (by decide)) rfl c_total.mg c_total.kp c_total.bi .nil pass0 (pa_cons (pv 8) (pa_cons (pe_op op_sub (pe_ix ix_list (pv 3) (pv 5) (fun _ _ => rfl)) (pe_ix ix_list (pv 3) (pv 7) (fun _ _ => rfl))) pa_nil)))))) pa_nil)))) pa_nil))))), ?_⟩
  change AS K _ [En.da _, En.da _, En.da _, En.no, En.no, En.no, En.no, En.no, En.no] _ _
  try simp only [cxOf_K]
  have z9 : 9000 ≤ sizeLine := by decide
  have rg : ∀ k : Nat, (rgD 0 ((k : Nat) : Int).toNat) = (List.range k).map fun i => Dt.int ((i : Nat) : Int) := fun k => by
    unfold rgD
    rw [Int.toNat_natCast]
    exact List.map_congr_left fun i _ => by rw [Int.zero_add]
  have rl : ∀ k : Nat, ((List.range k).map fun i => Dt.int ((i : Nat) : Int)).length = k := fun k => by rw [List.length_map, List.length_range]
  refine as_seq (as_set (ae_lcMap (toF fun k => .int (yV a v k)) (ai_rng1 (aa_cons (ae_cb (aa_cons (ae_var rfl (aa_nil (ac_lenT (aa_nil ⟨_, rfl, ?_, ?_, ?_⟩))))))))))
  · rw [List.length_map, List.length_range]; omega
  · rw [List.length_map, List.length_range]; omega
  rw [List.length_map, List.length_range, rg]
  refine ⟨(by rw [rl]; omega), fun d hd => ?_, ?_⟩
  · obtain ⟨k, hk, rfl⟩ := List.mem_map.mp hd
    refine agv_name (by decide) (ae_if (at_test (ae_op (ae_var rfl (ae_var rfl (ar_eq3 ⟨rfl, rfl, rfl⟩ ⟨_, rfl, fun h => ae_var rfl ⟨?_, rfl⟩, fun h => ae_int ⟨?_, rfl⟩⟩))))))
    · have e : k = a := by have := of_decide_eq_true h; injection this with q; omega
      rw [toF_k]; unfold yV; rw [if_pos e]
    · have e : ¬ k = a := by have := of_decide_eq_false h; intro z; exact this (by rw [z])
      rw [toF_k]; unfold yV; rw [if_neg e]
  rw [toF_map]
  have mvat : ∀ k, k < n → atI ((List.range n).map fun k => Dt.int (yV a v k)) ((k : Nat) : Int) = some (.int (yV a v k)) := fun k hk => atI_nat (by rw [List.getElem?_map, List.getElem?_range hk]; rfl)
  refine as_ret (ae_cb (aa_cons (ae_lcMap (enR (fun i j o => adO o (some (yV a v i - yV a v j)))) (ai_enT (aa_cons (ae_var rfl (aa_nil ⟨_, rfl, ?_⟩)))))))
  have ee : enD ((List.range n).map fun i => sq true (rwD n M i)) = (List.range n).map fun i => .tup [.int ((i : Nat) : Int), .tup (rwD n M i)] := enD_rg
  rw [ee]
  refine ⟨(by rw [List.length_map, List.length_range]; omega), fun d hd => ?_, ?_⟩
  · obtain ⟨i, hi, rfl⟩ := List.mem_map.mp hd
    have hi := List.mem_range.mp hi
    refine agv_tup rfl (agvs_cons (agv_name (by decide) (agvs_cons (agv_name (by decide) (agvs_nil (ae_cb (aa_cons (ae_lcMap (enC (fun i j o => adO o (some (yV a v i - yV a v j))) i) (ai_enT (aa_cons (ae_var rfl (aa_nil ⟨_, rfl, ?_⟩))))))))))))
    refine ⟨(by rw [enD_len, rw_rg, List.length_map, List.length_range]; omega), fun d hd => ?_, ?_⟩
    · rw [rw_rg, enD_rg] at hd
      obtain ⟨j, hj, rfl⟩ := List.mem_map.mp hd
      have hj := List.mem_range.mp hj
      refine agv_tup rfl (agvs_cons (agv_name (by decide) (agvs_cons (agv_name (by decide) (agvs_nil ?_)))))
      refine ae_call (aa_cons (ae_var rfl (aa_cons (ae_op (ae_op (ae_var rfl (ae_var rfl (ar_ixL (mvat i hi) (ae_op (ae_var rfl (ae_var rfl (ar_ixL (mvat j hj) (ar_I0i (aa_nil ⟨_, ⟨_, some (yV a v i - yV a v j), rfl, rfl⟩, ?_⟩))))))))))))))
      exact ⟨(by rw [enC_is]), rfl⟩
    · rw [enC_map]
      exact aa_nil (ac_tupL ⟨(by rw [enR_is]), rfl⟩)
  · refine aa_nil (ac_tupL ?_)
    show _ = Dt.tup ((List.range n).map fun i => Dt.tup (rwD n (mvM M a v) i))
    rw [List.map_map]
    congr 1
    exact List.map_congr_left fun i _ => enR_is
theorem ok_gaps_bound (bl : Blts mg) {g_tightest_high : Addr} {d_tightest_high : FuncData} (c_tightest_high : Cal P w K mg base 1 "tightest_high" p_tightest_high (spP K S_th) g_tightest_high d_tightest_high)  {f : Addr} {fd : FuncData} (F : Fun K "gaps_bound" "gaps_bound" s_gaps_bound f fd) : FnOk P w K mg base CX0 2 f fd p_gaps_bound (spP K (S_bd)) := by
  refine okP F sc_gaps_bound (fun ds r h => ?_) (fun cdv A outer s H E hr ds r h => ?_)
  · obtain ⟨n, M, a, c, v, rfl, n90, rfl⟩ := h
    rfl
  obtain ⟨n, M, a, c, v, rfl, n90, rfl⟩ := h
  refine ⟨_, (pss_one (ps_ret (pe_callTy call_tuple_of rfl bl.tuple (by decide +kernel) (pa_cons (pe_lc (own := [("a", 4), ("row", 5)]) (g := (gTup K 2 (gCons (gName 4) (gCons (gName 5) gNil)))) (te := (tCB (fun xs H Q => ∃ p ys, xs = [.ref p] ∧ ((SqL K H p ys ∧ ∀ l, H l = none → Q (.ref l) (upd H l (.tup ys))) ∨ (SqT K H p ys ∧ Q (.ref p) H))) (tCons (tLc (iEnT K (tCons (tVar 5) tNil)) (gTup K 2 (gCons (gName 6) (gCons (gName 7) gNil))) tYes (tIf (tTest (tOp (rEqD K) (tTup (tCons (tVar 4) (tCons (tVar 6) tNil))) (tTup (tCons (tVar 1) (tCons (tVar 2) tNil))))) (tCall (spP K S_th) [] E0 (tCons (tVar 7) (tCons (tVar 3) tNil))) (tVar 7)) (List.map (fun x => x.2) [(("b" : Str), (6 : Nat)), (("bound" : Str), (7 : Nat))])) tNil))) (tt := tYes) rfl sc_gaps_bound.nd (pi_enT rfl bl.enumerate (pa_cons (pv 0) pa_nil)) (blkOk_by (N := N_gaps_bound) (sc := defScope s_gaps_bound) (by decide +kernel)) (fun _ _ _ _ _ => (pg_tup rfl (pgs_cons (pg_name (i := 4) sc_gaps_bound.nd rfl (by first | exact Or.inl rfl | exact Or.inr rfl)) (pgs_cons (pg_name (i := 5) sc_gaps_bound.nd rfl (by first | exact Or.inl rfl | exact Or.inr rfl)) pgs_nil)))) (fun _ _ _ _ _ => pts_nil) (fun _ _ _ _ _ => (pe_callTy call_tuple_of rfl bl.tuple (by decide +kernel) (pa_cons (by exact (pe_lc (own := [("b", 6), ("bound", 7)]) (g := (gTup K 2 (gCons (gName 6) (gCons (gName 7) gNil)))) (te := (tIf (tTest (tOp (rEqD K) (tTup (tCons (tVar 4) (tCons (tVar 6) tNil))) (tTup (tCons (tVar 1) (tCons (tVar 2) tNil))))) (tCall (spP K S_th) [] E0 (tCons (tVar 7) (tCons (tVar 3) tNil))) (tVar 7))) (tt := tYes) rfl sc_gaps_bound.nd (pi_enT rfl bl.enumerate (pa_cons (pv 5) pa_nil)) (blkOk_by (by rfl)) (fun _ _ _ _ _ => (pg_tup rfl (pgs_cons (pg_name (i := 6) sc_gaps_bound.nd rfl (by first | exact Or.inl rfl | exact Or.inr rfl)) (pgs_cons (pg_name (i := 7) sc_gaps_bound.nd rfl (by first | exact Or.inl rfl | exact Or.inr rfl)) pgs_nil)))) (fun _ _ _ _ _ => pts_nil) (fun _ _ _ _ _ => (pe_ifExp (pt_cmpR (op_eqD hr.units) (pe_tup (pa_cons (pv 4) (pa_cons (pv 6) pa_nil))) (pe_tup (pa_cons (pv 1) (pa_cons (pv 2) pa_nil))) (nomark _)) (pe_call c_tightest_high.ok (hr.mono (by decide)) rfl c_tightest_high.mg c_tightest_high.kp c_tightest_high.bi .nil pass0 (pa_cons (pv 7) (pa_cons (pv 3) pa_nil))) (pv 7))))) pa_nil)))) pa_nil)))), ?_⟩
  change AS K _ [En.da _, En.da _, En.da _, En.da _, En.no, En.no, En.no, En.no] _ _
  try simp only [cxOf_K]
  have z9 : 9000 ≤ sizeLine := by decide
  refine as_ret (ae_cb (aa_cons (ae_lcMap (enR (fun i j o => if i = a ∧ j = c then tmH o (some v) else o)) (ai_enT (aa_cons (ae_var rfl (aa_nil ⟨_, rfl, ?_⟩)))))))
  have ee : enD ((List.range n).map fun i => sq true (rwD n M i)) = (List.range n).map fun i => .tup [.int ((i : Nat) : Int), .tup (rwD n M i)] := enD_rg
  rw [ee]
  refine ⟨(by rw [List.length_map, List.length_range]; omega), fun d hd => ?_, ?_⟩
  · obtain ⟨i, hi, rfl⟩ := List.mem_map.mp hd
    have hi := List.mem_range.mp hi
    refine agv_tup rfl (agvs_cons (agv_name (by decide) (agvs_cons (agv_name (by decide) (agvs_nil (ae_cb (aa_cons (ae_lcMap (enC (fun i j o => if i = a ∧ j = c then tmH o (some v) else o) i) (ai_enT (aa_cons (ae_var rfl (aa_nil ⟨_, rfl, ?_⟩))))))))))))
    refine ⟨(by rw [enD_len, rw_rg, List.length_map, List.length_range]; omega), fun d hd => ?_, ?_⟩
    · rw [rw_rg, enD_rg] at hd
      obtain ⟨j, hj, rfl⟩ := List.mem_map.mp hd
      have hj := List.mem_range.mp hj
      refine agv_tup rfl (agvs_cons (agv_name (by decide) (agvs_cons (agv_name (by decide) (agvs_nil ?_)))))
      refine ae_if (at_test (ae_op (ae_tup (aa_cons (ae_var rfl (aa_cons (ae_var rfl (aa_nil ⟨by show 2 ≤ sizeLine; omega, ae_tup (aa_cons (ae_var rfl (aa_cons (ae_var rfl (aa_nil ⟨by show 2 ≤ sizeLine; omega, ar_eqD rfl rfl rfl rfl ?_⟩)))))⟩))))))))
      rw [eqv_2]
      refine ⟨_, rfl, fun h => ?_, fun h => ?_⟩
      · have e := of_decide_eq_true h
        refine ae_call (aa_cons (ae_var rfl (aa_cons (ae_var rfl (aa_nil ⟨_, ⟨_, some v, rfl, rfl⟩, ?_, rfl⟩)))))
        rw [enC_is, if_pos e]
      · have e := of_decide_eq_false h
        refine ae_var rfl ⟨?_, rfl⟩
        rw [enC_is, if_neg e]
    · rw [enC_map]
      exact aa_nil (ac_tupL ⟨(by rw [enR_is]), rfl⟩)
  · refine aa_nil (ac_tupL ?_)
    show _ = Dt.tup ((List.range n).map fun i => Dt.tup (rwD n (bdM M a c v) i))
    rw [List.map_map]
    congr 1
    exact List.map_congr_left fun i _ => enR_is
end
end Sh
set_option Elab.async false
set_option linter.all false
set_option maxRecDepth 100000
set_option maxHeartbeats 4000000
namespace Sh
open PySem PySem.Spec PyProof.Rows L2
abbrev s_l_hull : Stmt := topS 23
abbrev N_l_hull : List Str := ["_law_stores", "_law_at", "_law_pairs_so", "_law_size", "_law_made", "_law_to", "_law_store"]
abbrev p_l_hull : List Str := ["_law_stores"]
theorem sc_l_hull : FnScope N_l_hull p_l_hull (defScope s_l_hull) := ⟨rfl, rfl, rfl, by decide +kernel, rfl, by decide +kernel, by decide +kernel⟩
/-- the greatest, the least of some numbers -/
def mxI : List Int → Int
  | [] => 0
  | [x] => x
  | x :: y :: l => let m := mxI (y :: l); if x ≤ m then m else x
theorem mxI_is : ∀ {l : List Int}, l ≠ [] → mxI l ∈ l ∧ ∀ y ∈ l, y ≤ mxI l
  | [], h => absurd rfl h
  | [x], _ => ⟨List.mem_singleton.mpr rfl, fun y h => by rw [List.mem_singleton.mp h]; exact Int.le_refl _⟩
  | x :: y :: l, _ => by
    obtain ⟨h1, h2⟩ := mxI_is (l := y :: l) (by simp)
    have e : mxI (x :: y :: l) = if x ≤ mxI (y :: l) then mxI (y :: l) else x := rfl
    rw [e]
    by_cases h : x ≤ mxI (y :: l)
    · rw [if_pos h]
      refine ⟨List.mem_cons_of_mem _ h1, fun z hz => ?_⟩
      rcases List.mem_cons.mp hz with rfl | hz
      · exact h
      · exact h2 z hz
    · rw [if_neg h]
      refine ⟨List.mem_cons_self, fun z hz => ?_⟩
      rcases List.mem_cons.mp hz with rfl | hz
      · exact Int.le_refl _
      · have := h2 z hz; omega
theorem mx_eq {l : List Int} {m : Int} (h1 : m ∈ l) (h2 : ∀ y ∈ l, y ≤ m) : m = mxI l := by
  obtain ⟨h3, h4⟩ := mxI_is (l := l) (by intro e; rw [e] at h1; cases h1)
  have := h2 _ h3
  have := h4 _ h1
  omega
def mnI (l : List Int) : Int := - mxI (l.map fun x => -x)
theorem mn_eq {l : List Int} {m : Int} (h1 : m ∈ l) (h2 : ∀ y ∈ l, m ≤ y) : m = mnI l := by
  have := mx_eq (l := l.map fun x => -x) (m := -m) (List.mem_map.mpr ⟨m, h1, rfl⟩) fun y hy => by
    obtain ⟨z, hz, rfl⟩ := List.mem_map.mp hy
    have := h2 z hz
    omega
  unfold mnI; omega
def isD (s : List Int) : Dt := .tup (s.map Dt.int)
def gt (s : List Int) (i : Nat) : Int := s.getD i 0
def hrD (n : Nat) (ss : List (List Int)) (i : Nat) : Dt := .tup ((List.range n).map fun j => .int (mxI (ss.map fun s => gt s i - gt s j)))
def hpD (ss : List (List Int)) (i : Nat) : Dt := .tup [.int (mnI (ss.map fun s => gt s i)), .int (mxI (ss.map fun s => gt s i))]
def huD (n : Nat) (ss : List (List Int)) : Dt := .tup [.tup ((List.range n).map (hrD n ss)), .lst ((List.range n).map (hpD ss))]
def S_hu : List Dt → Dt → Prop := fun ds r => ∃ n s0 ss, ds = [.lst ((s0 :: ss).map isD)] ∧ n ≤ 98 ∧ (s0 :: ss).length ≤ 8000 ∧ (∀ s, s ∈ s0 :: ss → s.length = n) ∧ r = huD n (s0 :: ss)
def stF (f : List Int → Int) : Dt → Dt
  | .tup l => .int (f (l.map fun d => match d with | .int i => i | _ => 0))
  | _ => .non
theorem stF_is {f : List Int → Int} {s : List Int} : stF f (isD s) = .int (f s) := by
  show Dt.int (f ((s.map Dt.int).map _)) = _
  rw [List.map_map]; congr 2; exact List.map_id s
theorem stF_map {f : List Int → Int} {ss : List (List Int)} : (ss.map isD).map (stF f) = (ss.map f).map Dt.int := by
  rw [List.map_map, List.map_map]; exact List.map_congr_left fun s _ => stF_is
theorem gt_at {s : List Int} {i : Nat} (h : i < s.length) : (s.map Dt.int)[i]? = some (.int (gt s i)) := by
  rw [List.getElem?_map]; unfold gt; rw [List.getD_eq_getElem?_getD, List.getElem?_eq_getElem h]; rfl
section
variable {P : Program} {w : World} {K : PySem.W.Frag} {mg : Str → Option Value} {base : Heap}
theorem ok_l_hull (bl : Blts mg)   {f : Addr} {fd : FuncData} (F : Fun K "_law_hull" "_law_hull" s_l_hull f fd) : FnOk P w K mg base CX0 1 f fd p_l_hull (spP K (S_hu)) := by
  refine okP F sc_l_hull (fun ds r h => ?_) (fun cdv A outer s H E hr ds r h => ?_)
  · obtain ⟨n, s0, ss, rfl, n98, l9, hs, rfl⟩ := h
    rfl
  obtain ⟨n, s0, ss, rfl, n98, l9, hs, rfl⟩ := h
  refine ⟨_, (pss_cons (ps_par (i := 3) (j := 4) (by rfl) sc_l_hull.nd rfl rfl (by decide) rfl rfl (pa_cons (pe_callB call_len_seq rfl bl.len (by decide +kernel) (pa_cons (pe_ix ix_list (pv 0) pe_int (fun _ _ => rfl)) pa_nil)) (pa_cons (pe_lst pa_nil) pa_nil)) (by rfl))
    (pss_cons (ps_for PassesOwn.never rfl (pi_range1 rfl bl.range (pa_cons (pv 3) pa_nil)) (pg_name (i := 1) sc_l_hull.nd rfl (by first | exact Or.inl rfl | exact Or.inr rfl)) (pss_one (ps_expr (pe_bm PySem.F.plainAttrs_list PySem.F.slot_list_append PySem.F.type_list_append mt_append (pv 4) (pa_cons (pe_callTy call_tuple_of rfl bl.tuple (by decide +kernel) (pa_cons (pe_lc (own := [("_law_to", 5)]) (g := (gName 5)) (te := (tCB (rMax K) (tCons (tLc (iList K (tVar 0)) (gName 6) tYes (tOp (rI0 fun i j => .int (i - j)) (tOp (rIxT K) (tVar 6) (tVar 1)) (tOp (rIxT K) (tVar 6) (tVar 5))) (List.map (fun x => x.2) [(("_law_store" : Str), (6 : Nat))])) tNil))) (tt := tYes) rfl sc_l_hull.nd (pi_range1 rfl bl.range (pa_cons (pv 3) pa_nil)) (blkOk_by (N := N_l_hull) (sc := defScope s_l_hull) (by decide +kernel)) (fun _ _ _ _ _ => (pg_name (i := 5) sc_l_hull.nd rfl (by first | exact Or.inl rfl | exact Or.inr rfl))) (fun _ _ _ _ _ => pts_nil) (fun _ _ _ _ _ => (pe_callB (cr_max rfl) rfl bl.max (by decide +kernel) (pa_cons (by exact (pe_lc (own := [("_law_store", 6)]) (g := (gName 6)) (te := (tOp (rI0 fun i j => .int (i - j)) (tOp (rIxT K) (tVar 6) (tVar 1)) (tOp (rIxT K) (tVar 6) (tVar 5)))) (tt := tYes) rfl sc_l_hull.nd (pi_list (pv 0)) (blkOk_by (by rfl)) (fun _ _ _ _ _ => (pg_name (i := 6) sc_l_hull.nd rfl (by first | exact Or.inl rfl | exact Or.inr rfl))) (fun _ _ _ _ _ => pts_nil) (fun _ _ _ _ _ => (pe_op op_sub (pe_ix ix_tup (pv 6) (pv 1) (fun _ _ => rfl)) (pe_ix ix_tup (pv 6) (pv 5) (fun _ _ => rfl)))))) pa_nil)))) pa_nil)) pa_nil)))))
    (pss_cons (ps_setLc (i := 2) (own := [("_law_at", 1)]) (g := (gName 1)) (te := (tTup (tCons (tCB (rMin K) (tCons (tLc (iList K (tVar 0)) (gName 6) tYes (tOp (rIxT K) (tVar 6) (tVar 1)) (List.map (fun x => x.2) [(("_law_store" : Str), (6 : Nat))])) tNil)) (tCons (tCB (rMax K) (tCons (tLc (iList K (tVar 0)) (gName 6) tYes (tOp (rIxT K) (tVar 6) (tVar 1)) (List.map (fun x => x.2) [(("_law_store" : Str), (6 : Nat))])) tNil)) tNil)))) (tt := tYes) rfl sc_l_hull.nd rfl rfl (sw_true rfl rfl rfl (by decide +kernel)) (pi_range1 rfl bl.range (pa_cons (pv 3) pa_nil)) (blkOk_by (N := N_l_hull) (sc := defScope s_l_hull) (by decide +kernel)) (fun _ _ _ _ _ => (pg_name (i := 1) sc_l_hull.nd rfl (by first | exact Or.inl rfl | exact Or.inr rfl))) (fun _ _ _ _ _ => pts_nil) (fun _ _ _ _ _ => (pe_tup (pa_cons (pe_callB (cr_min rfl) rfl bl.min (by decide +kernel) (pa_cons (by exact (pe_lc (own := [("_law_store", 6)]) (g := (gName 6)) (te := (tOp (rIxT K) (tVar 6) (tVar 1))) (tt := tYes) rfl sc_l_hull.nd (pi_list (pv 0)) (blkOk_by (by rfl)) (fun _ _ _ _ _ => (pg_name (i := 6) sc_l_hull.nd rfl (by first | exact Or.inl rfl | exact Or.inr rfl))) (fun _ _ _ _ _ => pts_nil) (fun _ _ _ _ _ => (pe_ix ix_tup (pv 6) (pv 1) (fun _ _ => rfl))))) pa_nil)) (pa_cons (pe_callB (cr_max rfl) rfl bl.max (by decide +kernel) (pa_cons (by exact (pe_lc (own := [("_law_store", 6)]) (g := (gName 6)) (te := (tOp (rIxT K) (tVar 6) (tVar 1))) (tt := tYes) rfl sc_l_hull.nd (pi_list (pv 0)) (blkOk_by (by rfl)) (fun _ _ _ _ _ => (pg_name (i := 6) sc_l_hull.nd rfl (by first | exact Or.inl rfl | exact Or.inr rfl))) (fun _ _ _ _ _ => pts_nil) (fun _ _ _ _ _ => (pe_ix ix_tup (pv 6) (pv 1) (fun _ _ => rfl))))) pa_nil)) pa_nil)))))
    (pss_one (ps_ret (pe_tup (pa_cons (pe_callTy call_tuple_of rfl bl.tuple (by decide +kernel) (pa_cons (pv 4) pa_nil)) (pa_cons (pv 2) pa_nil)))))))), ?_⟩
  change AS K _ [En.da _, En.no, En.no, En.no, En.no, En.no, En.no] _ _
  try simp only [cxOf_K]
  have z9 : 9000 ≤ sizeLine := by decide
  have rg : ∀ k : Nat, (rgD 0 ((k : Nat) : Int).toNat) = (List.range k).map fun i => Dt.int ((i : Nat) : Int) := fun k => by
    unfold rgD
    rw [Int.toNat_natCast]
    exact List.map_congr_left fun i _ => by rw [Int.zero_add]
  have rl : ∀ k : Nat, ((List.range k).map fun i => Dt.int ((i : Nat) : Int)).length = k := fun k => by rw [List.length_map, List.length_range]
  refine as_seq (as_parO (ae_cb (aa_cons (ae_op (ae_var rfl (ae_int (ar_ixL (d := isD s0) (show atI _ ((0 : Nat) : Int) = _ from atI_nat rfl) (aa_nil (ac_lenT ?_)))))))))
  rw [List.length_map, hs s0 List.mem_cons_self]
  refine aa_nil ⟨Nat.zero_le _, ?_⟩
  have ne : s0 :: ss ≠ [] := by simp
  generalize s0 :: ss = S at hs l9 ne ⊢
  have ml : ∀ f : List Int → Int, 0 < (S.map f).length := fun f => by
    rw [List.length_map]; exact List.length_pos_iff.mpr ne
  refine as_seq (as_for (ai_rng1 (aa_cons (ae_var rfl (aa_nil ⟨_, rfl, by omega, by omega, ?_⟩)))))
  rw [rg]
  refine ⟨fun i ρ => ∃ e1, ρ = [.da (.lst (S.map isD)), e1, .no, .da (.int (n : Nat)), .own ((List.range i).map (hrD n S)), .no, .no], ⟨_, rfl⟩, ?_, ?_⟩
  · rintro i d ρ2 hd ⟨e1, rfl⟩
    obtain ⟨hi, rfl⟩ := rg_at hd
    refine ag_name (as_append (ae_cb (aa_cons (ae_lcMap (toF fun j => .int (mxI (S.map fun s => gt s i - gt s j))) (ai_rng1 (aa_cons (ae_var rfl (aa_nil ⟨_, rfl, by omega, by omega, ?_⟩))))))) ⟨_, rfl⟩)
    rw [rg]
    refine ⟨by rw [rl]; omega, fun d hd => ?_, ?_⟩
    · obtain ⟨j, hj, rfl⟩ := List.mem_map.mp hd
      have hj := List.mem_range.mp hj
      refine agv_name (by decide) (ae_cb (aa_cons (ae_lcMap (stF fun s => gt s i - gt s j) (ai_list (ae_var rfl ⟨_, rfl, (by rw [List.length_map]; omega), fun d hd => ?_, ?_⟩)))))
      · obtain ⟨s, hs', rfl⟩ := List.mem_map.mp hd
        have ls := hs s hs'
        refine agv_name (by decide) (ae_op (ae_op (ae_var rfl (ae_var rfl (ar_ixT (atI_nat (gt_at (by omega))) (ae_op (ae_var rfl (ae_var rfl (ar_ixT (atI_nat (gt_at (by omega))) (ar_I0i ⟨(by rw [stF_is]), rfl⟩))))))))))
      · rw [stF_map]
        refine aa_nil (ac_max (ml _) fun m h1 h2 => ⟨by rw [toF_k, ← mx_eq h1 h2], rfl⟩)
    · rw [toF_map]
      refine aa_nil (ac_tupL ⟨_, rfl, (by rw [List.length_map, List.length_range]; omega), ⟨.da (.int ((i : Nat) : Int)), ?_⟩⟩)
      rw [List.range_succ, List.map_append]; rfl
  · rintro ρ ⟨e1, rfl⟩
    rw [rl]
    refine as_seq (as_set (ae_lcMap (toF fun i => hpD S i) (ai_rng1 (aa_cons (ae_var rfl (aa_nil ⟨_, rfl, by omega, by omega, ?_⟩))))))
    rw [rg]
    refine ⟨by rw [rl]; omega, fun d hd => ?_, ?_⟩
    · obtain ⟨j, hj, rfl⟩ := List.mem_map.mp hd
      have hj := List.mem_range.mp hj
      refine agv_name (by decide) (ae_tup (aa_cons (ae_cb (aa_cons (ae_lcMap (stF fun s => gt s j) (ai_list (ae_var rfl ⟨_, rfl, (by rw [List.length_map]; omega), fun d hd => ?_, ?_⟩)))))))
      · obtain ⟨s, hs', rfl⟩ := List.mem_map.mp hd
        have ls := hs s hs'
        exact agv_name (by decide) (ae_op (ae_var rfl (ae_var rfl (ar_ixT (atI_nat (gt_at (by omega))) ⟨(by rw [stF_is]), rfl⟩))))
      rw [stF_map]
      refine aa_nil (ac_min (ml _) fun m1 h1 h2 => ?_)
      rw [mn_eq h1 h2]
      refine aa_cons (ae_cb (aa_cons (ae_lcMap (stF fun s => gt s j) (ai_list (ae_var rfl ⟨_, rfl, (by rw [List.length_map]; omega), fun d hd => ?_, ?_⟩)))))
      · obtain ⟨s, hs', rfl⟩ := List.mem_map.mp hd
        have ls := hs s hs'
        exact agv_name (by decide) (ae_op (ae_var rfl (ae_var rfl (ar_ixT (atI_nat (gt_at (by omega))) ⟨(by rw [stF_is]), rfl⟩))))
      rw [stF_map]
      refine aa_nil (ac_max (ml _) fun m2 h3 h4 => ?_)
      rw [mx_eq h3 h4]
      refine aa_nil ⟨by show 2 ≤ sizeLine; omega, ?_⟩
      exact ⟨by rw [toF_k]; rfl, rfl⟩
    · rw [toF_map]
      refine as_ret (ae_tup (aa_cons (ae_cb (aa_cons (ae_frz (i := 4) rfl (ae_var rfl (aa_nil (ac_tupL (aa_cons (ae_var rfl (aa_nil ⟨by show 2 ≤ sizeLine; omega, ?_⟩)))))))))))
      rfl
end
end Sh
set_option Elab.async false
set_option linter.all false
set_option maxRecDepth 100000
set_option maxHeartbeats 4000000
/-! what the law of gaps that stay closed expects is what gaps_closed answers -/
namespace Sh
open PySem PySem.Spec PyProof.Rows L2
theorem take_rw {n : Nat} {M : Mx} {i : Nat} : (rwD (n + 1) M i).take n = rwD n M i := by
  rw [rw_rg, rw_rg, List.range_succ, List.map_append, List.take_left' (by simp)]
theorem cl_gD {n : Nat} {M : Mx} : clD n M = gD true true n M := by
  unfold clD gD
  show Dt.tup _ = Dt.tup _
  congr 1
  exact List.map_congr_left fun i _ => by rw [take_rw]; rfl
theorem gc_non {n : Nat} {F : Mx} (h : ∃ i b, i < n + 1 ∧ F i i = some b ∧ b < 0) : gcD n F = .non := by
  obtain ⟨i, b, hi, e, l⟩ := h
  unfold gcD
  rw [if_pos (List.any_eq_true.mpr ⟨i, List.mem_range.mpr hi, by unfold ngB; rw [e]; exact decide_eq_true l⟩)]
theorem gc_tup {n : Nat} {F : Mx} (h : ∀ i, i < n + 1 → F i i = some 0) : gcD n F = .tup [clD n F, prD n F] := by
  unfold gcD
  rw [if_neg]
  intro a
  obtain ⟨i, hi, e⟩ := List.any_eq_true.mp a
  unfold ngB at e
  rw [h i (List.mem_range.mp hi)] at e
  cases e
theorem gd_congr {k k' : Bool} {n : Nat} {M N : Mx} (h : ∀ i j, i < n → j < n → M i j = N i j) : gD k k' n M = gD k k' n N := by
  unfold gD
  congr 1
  refine List.map_congr_left fun i hi => ?_
  rw [rw_rg, rw_rg]
  congr 1
  exact List.map_congr_left fun j hj => by rw [h i j (List.mem_range.mp hi) (List.mem_range.mp hj)]
theorem wz_in' {n i j : Nat} {g : Mx} {lo hi : Nat → Option Int} (h1 : i < n) (h2 : j < n) : wzM n g lo hi i j = g i j := by unfold wzM; rw [if_pos h1, if_pos h2]
theorem wz_hi {n i : Nat} {g : Mx} {lo hi : Nat → Option Int} (h1 : i < n) : wzM n g lo hi i n = hi i := by unfold wzM; rw [if_pos h1, if_neg (by omega), if_pos rfl]
theorem wz_lo {n j : Nat} {g : Mx} {lo hi : Nat → Option Int} (h1 : j < n) : wzM n g lo hi n j = ngO (lo j) := by unfold wzM; rw [if_neg (by omega), if_pos rfl, if_pos h1]
theorem wz_00 {n : Nat} {g : Mx} {lo hi : Nat → Option Int} : wzM n g lo hi n n = some 0 := by unfold wzM; rw [if_neg (by omega), if_pos rfl, if_neg (by omega), if_pos rfl]
theorem wz_dg0 {n : Nat} {g : Mx} {lo hi : Nat → Option Int} (hg : ∀ i, i < n → g i i = some 0) : ∀ i, i < n + 1 → wzM n g lo hi i i = some 0 := fun i hi => by
  by_cases h : i < n
  · rw [wz_in' h h]; exact hg i h
  · rw [show i = n by omega]; exact wz_00
theorem hw_le {a b : Option Int} (h : Fw.le a b) : hwI a b = true := by
  cases b with
  | none => rfl
  | some y => obtain ⟨x, e, l⟩ := h y rfl; rw [e]; exact decide_eq_true l
/-- closed bounds lie within what they come from -/
theorem wi_closed {n m : Nat} {g : Mx} {lo hi : Nat → Option Int} : wiM n (Fw.fwM m (wzM n g lo hi)) g = true := by
  unfold wiM
  rw [List.all_eq_true]
  intro i qi
  rw [List.all_eq_true]
  intro j qj
  have := Fw.fw_le m (wzM n g lo hi) i j
  rw [wz_in' (List.mem_range.mp qi) (List.mem_range.mp qj)] at this
  exact hw_le this
def prsD (n : Nat) (lo hi : Nat → Option Int) : Dt := .lst ((List.range n).map fun i => .tup [oD (lo i), oD (hi i)])
theorem pr_prs {n : Nat} {M : Mx} : prD n M = prsD n (fun i => ngO (M n i)) (fun i => M i n) := rfl
theorem prs_congr {n : Nat} {lo hi lo' hi' : Nat → Option Int} (h : ∀ i, i < n → lo i = lo' i ∧ hi i = hi' i) : prsD n lo hi = prsD n lo' hi' := by
  unfold prsD
  congr 1
  refine List.map_congr_left fun i hi => ?_
  obtain ⟨h1, h2⟩ := h i (List.mem_range.mp hi)
  rw [h1, h2]
theorem wz_std {k' : Bool} {n : Nat} {M : Mx} {lo hi : Nat → Option Int} : WzD (gD true k' n M) (prsD n lo hi) n M lo hi := by
  refine ⟨true, false, _, _, rfl, rfl, by simp, by simp, fun i d hd => ?_, fun i d hd => ?_⟩
  · obtain ⟨_, rfl⟩ := rg_at hd
    exact ⟨k', rfl⟩
  · obtain ⟨_, rfl⟩ := rg_at hd
    exact ⟨true, rfl⟩
theorem ngO2 {o : Option Int} : ngO (ngO o) = o := by
  cases o with
  | none => rfl
  | some x => show some (- -x) = some x; rw [Int.neg_neg]
def clsD (n : Nat) (F : Mx) : Dt := .tup [gD true true n F, prD n F]
theorem gc_cls {n : Nat} {F : Mx} (h : ∀ i, i < n + 1 → F i i = some 0) : gcD n F = clsD n F := by
  rw [gc_tup h, cl_gD]; rfl
theorem dg_or {n : Nat} {F : Mx} : Fw.dg n F ∨ ∃ i b, i < n ∧ F i i = some b ∧ b < 0 := by
  apply Classical.byContradiction
  intro no
  have h1 := fun h => no (.inl h)
  exact h1 fun i hi b e => by
    rcases (by omega : b < 0 ∨ 0 ≤ b) with q | q
    · exact absurd (.inr ⟨i, b, hi, e, q⟩) no
    · exact q
theorem not_dg {n : Nat} {F : Mx} (h : ∃ i b, i < n ∧ F i i = some b ∧ b < 0) : ¬ Fw.dg n F := fun d => by
  obtain ⟨i, b, hi, e, l⟩ := h
  have := d i hi b e
  omega
theorem closed_same {n : Nat} {M : Mx} {lo hi : Nat → Option Int} (hM : ∀ i, i < n → M i i = some 0) (t : Fw.TriD (wzM n M lo hi)) : gcD n (Fw.fwM (n + 1) (wzM n M lo hi)) = .tup [gD true true n M, prsD n lo hi] := by
  rw [Fw.fw_same t, gc_cls (wz_dg0 hM)]
  unfold clsD
  congr 2
  · exact gd_congr fun i j h1 h2 => wz_in' h1 h2
  · rw [pr_prs]
    congr 1
    exact prs_congr fun i h1 => ⟨by rw [wz_lo h1, ngO2], wz_hi h1⟩
/-! hulls -/
def huM (ss : List (List Int)) : Mx := fun i j => some (mxI (ss.map fun s => gt s i - gt s j))
def huL (ss : List (List Int)) (i : Nat) : Option Int := some (mnI (ss.map fun s => gt s i))
def huH (ss : List (List Int)) (i : Nat) : Option Int := some (mxI (ss.map fun s => gt s i))
theorem hu_std {n : Nat} {ss : List (List Int)} : huD n ss = .tup [gD true true n (huM ss), prsD n (huL ss) (huH ss)] := by
  unfold huD
  congr 2
  show Dt.tup _ = Dt.tup _
  congr 1
  refine List.map_congr_left fun i _ => ?_
  unfold hrD
  show _ = Dt.tup (rwD n (huM ss) i)
  rw [rw_rg]; rfl
def hx (n : Nat) (ss : List (List Int)) : Mx := fun i j => if i ≤ n ∧ j ≤ n then some (mxI (ss.map fun s => gt s i - gt s j)) else none
theorem mx0 {ss : List (List Int)} {i : Nat} (ne : ss ≠ []) : mxI (ss.map fun s => gt s i - gt s i) = 0 := by
  have := (mxI_is (l := ss.map fun s => gt s i - gt s i) (by simpa using ne)).1
  obtain ⟨s, _, e⟩ := List.mem_map.mp this
  omega
theorem hu_wz {n : Nat} {ss : List (List Int)} (hl : ∀ s, s ∈ ss → s.length = n) (ne : ss ≠ []) : wzM n (huM ss) (huL ss) (huH ss) = hx n ss := by
  have z : ∀ s, s ∈ ss → gt s n = 0 := fun s hs => by unfold gt; rw [List.getD_eq_getElem?_getD, List.getElem?_eq_none (by rw [hl s hs]; exact Nat.le_refl _)]; rfl
  funext i j
  unfold hx
  by_cases h1 : i < n
  · by_cases h2 : j < n
    · rw [wz_in' h1 h2, if_pos (by omega)]; rfl
    · by_cases h3 : j = n
      · rw [h3, wz_hi h1, if_pos (by omega)]
        unfold huH
        congr 2
        exact List.map_congr_left fun s hs => by rw [z s hs, Int.sub_zero]
      · rw [if_neg (by omega)]; exact wz_fin i j (.inr (by omega))
  · by_cases h0 : i = n
    · by_cases h2 : j < n
      · rw [h0, wz_lo h2, if_pos (by omega)]
        unfold huL mnI
        show some (- -_) = _
        rw [Int.neg_neg, List.map_map]
        congr 2
        exact List.map_congr_left fun s hs => by rw [z s hs, Int.zero_sub]; rfl
      · by_cases h3 : j = n
        · rw [h0, h3, wz_00, if_pos (by omega), mx0 ne]
        · rw [if_neg (by omega)]; exact wz_fin i j (.inr (by omega))
    · rw [if_neg (by omega)]; exact wz_fin i j (.inl (by omega))
theorem hx_some {n : Nat} {ss : List (List Int)} {i j : Nat} {b : Int} (h : hx n ss i j = some b) : i ≤ n ∧ j ≤ n ∧ b = mxI (ss.map fun s => gt s i - gt s j) := by
  unfold hx at h
  by_cases c : i ≤ n ∧ j ≤ n
  · rw [if_pos c] at h; cases h; exact ⟨c.1, c.2, rfl⟩
  · rw [if_neg c] at h; cases h
theorem hx_at {n : Nat} {ss : List (List Int)} {i j : Nat} (h1 : i ≤ n) (h2 : j ≤ n) : hx n ss i j = some (mxI (ss.map fun s => gt s i - gt s j)) := by unfold hx; rw [if_pos ⟨h1, h2⟩]
theorem mx_le {ss : List (List Int)} (ne : ss ≠ []) {f : List Int → Int} {b : Int} (h : ∀ s, s ∈ ss → f s ≤ b) : mxI (ss.map f) ≤ b := by
  have := (mxI_is (l := ss.map f) (by simpa using ne)).1
  obtain ⟨s, hs, e⟩ := List.mem_map.mp this
  have := h s hs
  omega
theorem le_mx {ss : List (List Int)} {f : List Int → Int} {s : List Int} (hs : s ∈ ss) : f s ≤ mxI (ss.map f) := (mxI_is (l := ss.map f) (by intro e; rw [List.map_eq_nil_iff] at e; rw [e] at hs; cases hs)).2 _ (List.mem_map.mpr ⟨s, hs, rfl⟩)
theorem hx_tri {n : Nat} {ss : List (List Int)} (ne : ss ≠ []) : Fw.TriD (hx n ss) := fun v i j x y h1 h2 => by
  obtain ⟨a1, a2, rfl⟩ := hx_some h1
  obtain ⟨b1, b2, rfl⟩ := hx_some h2
  rw [hx_at a1 b2]
  refine fun z e => ⟨_, rfl, ?_⟩
  cases e
  refine mx_le ne fun s hs => ?_
  have l1 : gt s i - gt s v ≤ _ := le_mx (f := fun s => gt s i - gt s v) hs
  have l2 : gt s v - gt s j ≤ _ := le_mx (f := fun s => gt s v - gt s j) hs
  omega
theorem hu_dg {n : Nat} {ss : List (List Int)} (ne : ss ≠ []) : ∀ i, i < n → huM ss i i = some 0 := fun i _ => by unfold huM; rw [mx0 ne]
theorem hull_same {n : Nat} {ss : List (List Int)} (hl : ∀ s, s ∈ ss → s.length = n) (ne : ss ≠ []) : gcD n (Fw.fwM (n + 1) (wzM n (huM ss) (huL ss) (huH ss))) = huD n ss := by
  rw [closed_same (hu_dg ne) (by rw [hu_wz hl ne]; exact hx_tri ne), hu_std]
/-! two hulls joined -/
def jnM (M N : Mx) : Mx := fun i j => jnH (M i j) (N i j)
theorem jn_some {a b : Option Int} {x : Int} (h : jnH a b = some x) : ∃ y z, a = some y ∧ b = some z ∧ y ≤ x ∧ z ≤ x ∧ (x = y ∨ x = z) := by
  cases a with
  | none => cases h
  | some y =>
    cases b with
    | none => cases h
    | some z =>
      have h : some (if z > y then z else y) = some x := h
      injection h with h
      refine ⟨y, z, rfl, rfl, ?_⟩
      by_cases c : z > y
      · rw [if_pos c] at h; omega
      · rw [if_neg c] at h; omega
theorem jn_tri {M N : Mx} (t : Fw.TriD M) (u : Fw.TriD N) : Fw.TriD (jnM M N) := fun v i j x y h1 h2 => by
  obtain ⟨a, b, e1, e2, l1, l2, _⟩ := jn_some h1
  obtain ⟨c, d, e3, e4, l3, l4, _⟩ := jn_some h2
  obtain ⟨p, e5, l5⟩ := t v i j a c e1 e3 _ rfl
  obtain ⟨q, e6, l6⟩ := u v i j b d e2 e4 _ rfl
  have e : jnM M N i j = some (if q > p then q else p) := by unfold jnM; rw [e5, e6]; rfl
  rw [e]
  refine fun z ez => ⟨_, rfl, ?_⟩
  cases ez
  by_cases c : q > p
  · rw [if_pos c]; omega
  · rw [if_neg c]; omega
def jL (ss tt : List (List Int)) (i : Nat) : Option Int := tmH (huL ss i) (huL tt i)
def jH (ss tt : List (List Int)) (i : Nat) : Option Int := jnH (huH ss i) (huH tt i)
theorem jn_wz {n : Nat} {ss tt : List (List Int)} : wzM n (jnM (huM ss) (huM tt)) (jL ss tt) (jH ss tt) = jnM (wzM n (huM ss) (huL ss) (huH ss)) (wzM n (huM tt) (huL tt) (huH tt)) := by
  funext i j
  by_cases h1 : i < n
  · by_cases h2 : j < n
    · unfold jnM; rw [wz_in' h1 h2, wz_in' h1 h2, wz_in' h1 h2]
    · by_cases h3 : j = n
      · rw [h3, wz_hi h1]; unfold jnM; rw [wz_hi h1, wz_hi h1]; rfl
      · unfold jnM; rw [wz_fin i j (.inr (by omega)), wz_fin i j (.inr (by omega))]; rfl
  · by_cases h0 : i = n
    · by_cases h2 : j < n
      · rw [h0, wz_lo h2]; unfold jnM; rw [wz_lo h2, wz_lo h2]
        unfold jL huL
        show some (-(if _ < _ then _ else _)) = some (if -_ > -_ then -_ else -_)
        congr 1
        by_cases c : mnI (tt.map fun s => gt s j) < mnI (ss.map fun s => gt s j)
        · rw [if_pos c, if_pos (by omega)]
        · rw [if_neg c, if_neg (by omega)]
      · by_cases h3 : j = n
        · rw [h0, h3, wz_00]; unfold jnM; rw [wz_00, wz_00]; rfl
        · unfold jnM; rw [wz_fin i j (.inr (by omega)), wz_fin i j (.inr (by omega))]; rfl
    · unfold jnM; rw [wz_fin i j (.inl (by omega)), wz_fin i j (.inl (by omega))]; rfl
def jD (n : Nat) (ss tt : List (List Int)) : Dt := .tup [gD true true n (jnM (huM ss) (huM tt)), prsD n (jL ss tt) (jH ss tt)]
theorem join_same {n : Nat} {ss tt : List (List Int)} (hs : ∀ s, s ∈ ss → s.length = n) (ns : ss ≠ []) (ht : ∀ s, s ∈ tt → s.length = n) (nt : tt ≠ []) : gcD n (Fw.fwM (n + 1) (wzM n (jnM (huM ss) (huM tt)) (jL ss tt) (jH ss tt))) = jD n ss tt := by
  refine closed_same (fun i hi => by unfold jnM; rw [hu_dg ns i hi, hu_dg nt i hi]; rfl) ?_
  rw [jn_wz, hu_wz hs ns, hu_wz ht nt]
  exact jn_tri (hx_tri ns) (hx_tri nt)
theorem jn_wi {n : Nat} {ss tt : List (List Int)} : wiM n (huM ss) (jnM (huM ss) (huM tt)) = true := by
  unfold wiM
  rw [List.all_eq_true]
  intro i _
  rw [List.all_eq_true]
  intro j _
  refine hw_le fun y e => ?_
  obtain ⟨a, b, e1, e2, l1, _⟩ := jn_some e
  exact ⟨a, e1, l1⟩
/-! other names -/
structure Pm (n : Nat) (p : List Nat) : Prop where
  len : p.length = n
  lt : ∀ i, i ∈ p → i < n
  nd : p.Nodup
  all : ∀ i, i < n → i ∈ p
theorem pm_of {n : Nat} {p : List Nat} (h : p.Perm (List.range n)) : Pm n p :=
  ⟨by rw [h.length_eq, List.length_range], fun i hi => List.mem_range.mp (h.mem_iff.mp hi), h.nodup_iff.mpr List.nodup_range, fun i hi => h.mem_iff.mpr (List.mem_range.mpr hi)⟩
def piN (n : Nat) (p : List Nat) (i : Nat) : Nat := if i < n then p.getD i 0 else i
def qiN (n : Nat) (p : List Nat) (i : Nat) : Nat := if i < n then p.idxOf i else i
theorem pi_in {n : Nat} {p : List Nat} (h : Pm n p) {i : Nat} (hi : i < n) : piN n p i = p[i]'(by rw [h.len]; exact hi) := by
  unfold piN
  rw [if_pos hi, List.getD_eq_getElem?_getD, List.getElem?_eq_getElem (by rw [h.len]; exact hi)]; rfl
theorem pi_lt {n : Nat} {p : List Nat} (h : Pm n p) {i : Nat} (hi : i < n) : piN n p i < n := by
  rw [pi_in h hi]; exact h.lt _ (List.getElem_mem _)
theorem pi_out {n : Nat} {p : List Nat} {i : Nat} (hi : n ≤ i) : piN n p i = i := by unfold piN; rw [if_neg (by omega)]
theorem qi_in {n : Nat} {p : List Nat} {i : Nat} (hi : i < n) : qiN n p i = p.idxOf i := by unfold qiN; rw [if_pos hi]
theorem qi_lt {n : Nat} {p : List Nat} (h : Pm n p) {i : Nat} (hi : i < n) : qiN n p i < n := by
  rw [qi_in hi]
  have := List.idxOf_lt_length_iff.mpr (h.all i hi)
  rw [h.len] at this; exact this
theorem pi_qi {n : Nat} {p : List Nat} (h : Pm n p) (i : Nat) : piN n p (qiN n p i) = i := by
  by_cases hi : i < n
  · rw [pi_in h (qi_lt h hi)]
    have e := List.getElem_idxOf (xs := p) (x := i) (List.idxOf_lt_length_iff.mpr (h.all i hi))
    simp only [qi_in hi]; exact e
  · have e : qiN n p i = i := by unfold qiN; rw [if_neg hi]
    rw [e, pi_out (by omega)]
theorem qi_pi {n : Nat} {p : List Nat} (h : Pm n p) (i : Nat) : qiN n p (piN n p i) = i := by
  by_cases hi : i < n
  · rw [qi_in (pi_lt h hi), pi_in h hi]
    exact h.nd.idxOf_getElem i _
  · rw [pi_out (by omega)]; unfold qiN; rw [if_neg hi]
def ordD (p : List Nat) : Dt := .lst (p.map fun (i : Nat) => .int (i : Int))
def inD (p : List Nat) (M : Mx) (lo hi : Nat → Option Int) : Dt := .tup [.tup (p.map fun a => .tup (p.map fun b => oD (M a b))), .lst (p.map fun a => .tup [oD (lo a), oD (hi a)])]
theorem p_map {n : Nat} {p : List Nat} (h : Pm n p) {f : Nat → Dt} : p.map f = (List.range n).map fun i => f (piN n p i) := by
  refine List.ext_getElem? fun i => ?_
  rw [List.getElem?_map, List.getElem?_map]
  by_cases hi : i < n
  · rw [List.getElem?_range hi, List.getElem?_eq_getElem (by rw [h.len]; exact hi)]
    show some (f _) = some (f (piN n p i))
    rw [pi_in h hi]
  · rw [List.getElem?_eq_none (by rw [h.len]; omega), List.getElem?_eq_none (by simp; omega)]; rfl
theorem in_std {n : Nat} {p : List Nat} (h : Pm n p) {M : Mx} {lo hi : Nat → Option Int} : inD p M lo hi = .tup [gD true true n (fun i j => M (piN n p i) (piN n p j)), prsD n (fun i => lo (piN n p i)) (fun i => hi (piN n p i))] := by
  unfold inD prsD
  rw [p_map h, p_map h]
  congr 2
  show Dt.tup _ = Dt.tup _
  congr 1
  refine List.map_congr_left fun i _ => ?_
  show _ = Dt.tup (rwD n _ i)
  rw [rw_rg, p_map h]
theorem pm_wz {n : Nat} {p : List Nat} (h : Pm n p) {M : Mx} {lo hi : Nat → Option Int} : wzM n (fun i j => M (piN n p i) (piN n p j)) (fun i => lo (piN n p i)) (fun i => hi (piN n p i)) = fun i j => wzM n M lo hi (piN n p i) (piN n p j) := by
  funext i j
  by_cases h1 : i < n
  · by_cases h2 : j < n
    · rw [wz_in' h1 h2, wz_in' (pi_lt h h1) (pi_lt h h2)]
    · by_cases h3 : j = n
      · rw [h3, wz_hi h1, pi_out (Nat.le_refl n), wz_hi (pi_lt h h1)]
      · rw [wz_fin i j (.inr (by omega)), pi_out (i := j) (by omega), wz_fin _ j (.inr (by omega))]
  · by_cases h0 : i = n
    · by_cases h2 : j < n
      · rw [h0, wz_lo h2, pi_out (Nat.le_refl n), wz_lo (pi_lt h h2)]
      · by_cases h3 : j = n
        · rw [h0, h3, wz_00, pi_out (Nat.le_refl n), wz_00]
        · rw [wz_fin i j (.inr (by omega)), pi_out (i := j) (by omega), wz_fin _ j (.inr (by omega))]
    · rw [wz_fin i j (.inl (by omega)), pi_out (i := i) (by omega), wz_fin i _ (.inl (by omega))]
theorem pn_lt {n : Nat} {p : List Nat} (h : Pm n p) : ∀ i, i < n + 1 → piN n p i < n + 1 := fun i hi => by
  by_cases c : i < n
  · have := pi_lt h c; omega
  · rw [pi_out (by omega)]; exact hi
theorem pn_out {n : Nat} {p : List Nat} : ∀ i, n + 1 ≤ i → n + 1 ≤ piN n p i := fun i hi => by rw [pi_out (by omega)]; exact hi
theorem qn_lt {n : Nat} {p : List Nat} (h : Pm n p) : ∀ i, i < n + 1 → qiN n p i < n + 1 := fun i hi => by
  by_cases c : i < n
  · have := qi_lt h c; omega
  · unfold qiN; rw [if_neg c]; exact hi
theorem perm_non {n : Nat} {p : List Nat} (h : Pm n p) {M : Mx} {lo hi : Nat → Option Int} (hM : ∀ i, i < n → M i i = some 0) (no : ¬ Fw.dg (n + 1) (Fw.fwM (n + 1) (wzM n M lo hi))) :
    gcD n (Fw.fwM (n + 1) (wzM n (fun i j => M (piN n p i) (piN n p j)) (fun i => lo (piN n p i)) (fun i => hi (piN n p i)))) = .non := by
  rw [pm_wz h]
  rcases dg_or (n := n + 1) (F := Fw.fwM (n + 1) fun i j => wzM n M lo hi (piN n p i) (piN n p j)) with d | e
  · exact absurd (Fw.dg_perm wz_fin (wz_dg0 hM) (pn_lt h) pn_out (qn_lt h) (pi_qi h) d) no
  · exact gc_non e
theorem perm_cls {n : Nat} {p : List Nat} (h : Pm n p) {M : Mx} {lo hi : Nat → Option Int} (hM : ∀ i, i < n → M i i = some 0) (d : Fw.dg (n + 1) (Fw.fwM (n + 1) (wzM n M lo hi))) :
    gcD n (Fw.fwM (n + 1) (wzM n (fun i j => M (piN n p i) (piN n p j)) (fun i => lo (piN n p i)) (fun i => hi (piN n p i)))) = inD p (Fw.fwM (n + 1) (wzM n M lo hi)) (fun i => ngO (Fw.fwM (n + 1) (wzM n M lo hi) n i)) (fun i => Fw.fwM (n + 1) (wzM n M lo hi) i n) := by
  have g := Fw.good wz_fin (wz_dg0 hM) d
  rw [pm_wz h, Fw.fw_perm wz_fin (wz_dg0 hM) (pn_lt h) pn_out (pi_qi h) (qi_pi h) d, in_std h, gc_cls (F := fun i j => Fw.fwM (n + 1) (wzM n M lo hi) (piN n p i) (piN n p j)) fun i hi => g.z _ (pn_lt h i hi)]
  unfold clsD
  congr 2
  rw [pr_prs]
  congr 1
  exact prs_congr fun i _ => ⟨by rw [pi_out (Nat.le_refl n)], by rw [pi_out (Nat.le_refl n)]⟩
/-! closed once more, moved, with one bound more -/
theorem wz_good {n : Nat} {W F : Mx} (g : Fw.Good (n + 1) W F) : wzM n F (fun i => ngO (F n i)) (fun i => F i n) = F := by
  funext i j
  by_cases h1 : i < n
  · by_cases h2 : j < n
    · rw [wz_in' h1 h2]
    · by_cases h3 : j = n
      · rw [h3, wz_hi h1]
      · rw [wz_fin i j (.inr (by omega)), g.f i j (.inr (by omega))]
  · by_cases h0 : i = n
    · by_cases h2 : j < n
      · rw [h0, wz_lo h2, ngO2]
      · by_cases h3 : j = n
        · rw [h0, h3, wz_00, g.z n (Nat.lt_succ_self n)]
        · rw [wz_fin i j (.inr (by omega)), g.f i j (.inr (by omega))]
    · rw [wz_fin i j (.inl (by omega)), g.f i j (.inl (by omega))]
theorem again_cls {n : Nat} {W F : Mx} (g : Fw.Good (n + 1) W F) : gcD n (Fw.fwM (n + 1) (wzM n F (fun i => ngO (F n i)) (fun i => F i n))) = clsD n F := by
  rw [wz_good g, Fw.fw_same g.t, gc_cls g.z]
def shO (a : Nat) (v : Int) (lo : Nat → Option Int) (i : Nat) : Option Int := if i = a then (lo i).map (· + v) else lo i
theorem sh_is {a : Nat} {v : Int} {lo : Nat → Option Int} {i : Nat} : shO a v lo i = (lo i).map (· + yV a v i) := by
  unfold shO yV
  by_cases c : i = a
  · rw [if_pos c, if_pos c]
  · rw [if_neg c, if_neg c]
    cases lo i with
    | none => rfl
    | some x => show some x = some (x + 0); rw [Int.add_zero]
theorem ad_mv {M : Mx} {a : Nat} {v : Int} {i j : Nat} : mvM M a v i j = Fw.mv (yV a v) M i j := by
  unfold mvM Fw.mv
  cases M i j <;> rfl
theorem mv_wz {n a : Nat} {v : Int} (ha : a < n) {M : Mx} {lo hi : Nat → Option Int} : wzM n (mvM M a v) (shO a v lo) (shO a v hi) = Fw.mv (yV a v) (wzM n M lo hi) := by
  have yn : yV a v n = 0 := by unfold yV; rw [if_neg (by omega)]
  funext i j
  by_cases h1 : i < n
  · by_cases h2 : j < n
    · rw [wz_in' h1 h2, ad_mv]; unfold Fw.mv; rw [wz_in' h1 h2]
    · by_cases h3 : j = n
      · rw [h3, wz_hi h1, sh_is]; unfold Fw.mv; rw [wz_hi h1, yn, Int.sub_zero]
      · unfold Fw.mv; rw [wz_fin i j (.inr (by omega)), wz_fin i j (.inr (by omega))]; rfl
  · by_cases h0 : i = n
    · by_cases h2 : j < n
      · rw [h0, wz_lo h2, sh_is]; unfold Fw.mv; rw [wz_lo h2, yn]
        cases lo j with
        | none => rfl
        | some x => show some (-(x + yV a v j)) = some (-x + (0 - yV a v j)); congr 1; omega
      · by_cases h3 : j = n
        · rw [h0, h3, wz_00]; unfold Fw.mv; rw [wz_00, yn]; rfl
        · unfold Fw.mv; rw [wz_fin i j (.inr (by omega)), wz_fin i j (.inr (by omega))]; rfl
    · unfold Fw.mv; rw [wz_fin i j (.inl (by omega)), wz_fin i j (.inl (by omega))]; rfl
def mvDue (n a : Nat) (v : Int) (F : Mx) : Dt := .tup [gD true true n (mvM F a v), prsD n (shO a v fun i => ngO (F n i)) (shO a v fun i => F i n)]
theorem mv_cls {n a : Nat} {v : Int} (ha : a < n) {M : Mx} {lo hi : Nat → Option Int} (hM : ∀ i, i < n → M i i = some 0) (d : Fw.dg (n + 1) (Fw.fwM (n + 1) (wzM n M lo hi))) :
    gcD n (Fw.fwM (n + 1) (wzM n (mvM M a v) (shO a v lo) (shO a v hi))) = mvDue n a v (Fw.fwM (n + 1) (wzM n M lo hi)) := by
  have g := Fw.good wz_fin (wz_dg0 hM) d
  have yn : yV a v n = 0 := by unfold yV; rw [if_neg (by omega)]
  rw [mv_wz ha, Fw.fw_mv wz_fin (wz_dg0 hM) d, gc_cls fun i hi => by rw [Fw.mv_at (g.z i hi)]; congr 1; omega]
  unfold clsD mvDue
  congr 2
  · exact gd_congr fun i j _ _ => ad_mv.symm
  · rw [pr_prs]
    congr 1
    generalize Fw.fwM (n + 1) (wzM n M lo hi) = FF
    refine prs_congr fun i _ => ⟨?_, ?_⟩
    · rw [sh_is]
      unfold Fw.mv
      rw [yn]
      cases FF n i with
      | none => rfl
      | some x => show some (-(x + (0 - yV a v i))) = some (-x + yV a v i); congr 1; omega
    · rw [sh_is]
      unfold Fw.mv
      rw [yn, Int.sub_zero]
theorem mv_dg {M : Mx} {a n : Nat} {v : Int} (hM : ∀ i, i < n → M i i = some 0) : ∀ i, i < n → mvM M a v i i = some 0 := fun i hi => by
  unfold mvM; rw [hM i hi]; show some _ = some _; congr 1; omega
theorem bd_dg {M : Mx} {a c n : Nat} {v : Int} (h : a ≠ c) (hM : ∀ i, i < n → M i i = some 0) : ∀ i, i < n → bdM M a c v i i = some 0 := fun i hi => by
  unfold bdM; rw [if_neg (by omega)]; exact hM i hi
theorem tm_le {a : Option Int} {v : Int} : Fw.le (tmH a (some v)) a ∧ Fw.le (tmH a (some v)) (some v) := by
  cases a with
  | none => exact ⟨fun y e => (by cases e), fun y e => ⟨v, rfl, by cases e; omega⟩⟩
  | some x =>
    show Fw.le (some (if v < x then v else x)) _ ∧ Fw.le (some (if v < x then v else x)) _
    by_cases c : v < x
    · rw [if_pos c]; exact ⟨fun y e => ⟨v, rfl, by cases e; omega⟩, fun y e => ⟨v, rfl, by cases e; omega⟩⟩
    · rw [if_neg c]; exact ⟨fun y e => ⟨x, rfl, by cases e; omega⟩, fun y e => ⟨x, rfl, by cases e; omega⟩⟩
theorem le_tm {f : Option Int} {a : Option Int} {v : Int} (h1 : Fw.le f a) (h2 : Fw.le f (some v)) : Fw.le f (tmH a (some v)) := by
  cases a with
  | none => exact h2
  | some x =>
    show Fw.le f (some (if v < x then v else x))
    by_cases c : v < x
    · rw [if_pos c]; exact h2
    · rw [if_neg c]; exact h1
theorem bd_cls {n a c : Nat} {x e : Int} (ha : a < n) (hc : c < n) (hac : a ≠ c) (he : 0 ≤ e) {M : Mx} {lo hi : Nat → Option Int} (hM : ∀ i, i < n → M i i = some 0) (d : Fw.dg (n + 1) (Fw.fwM (n + 1) (wzM n M lo hi))) (hx : Fw.fwM (n + 1) (wzM n M lo hi) a c = some x) :
    gcD n (Fw.fwM (n + 1) (wzM n (bdM M a c (x + e)) lo hi)) = clsD n (Fw.fwM (n + 1) (wzM n M lo hi)) := by
  have g := Fw.good wz_fin (wz_dg0 hM) d
  have other : ∀ i j, ¬ (i = a ∧ j = c) → wzM n (bdM M a c (x + e)) lo hi i j = wzM n M lo hi i j := fun i j h => by
    unfold wzM bdM
    rw [if_neg h]
  have at' : wzM n (bdM M a c (x + e)) lo hi a c = tmH (wzM n M lo hi a c) (some (x + e)) := by
    rw [wz_in' ha hc, wz_in' ha hc]
    unfold bdM; rw [if_pos ⟨rfl, rfl⟩]
  rw [Fw.fw_mid wz_fin (wz_dg0 hM) d (fun i j => ?_) (fun i j => ?_) wz_fin (wz_dg0 (bd_dg hac hM)), gc_cls g.z]
  · by_cases h : i = a ∧ j = c
    · rw [h.1, h.2, at']
      refine le_tm (g.le a c) ?_
      rw [hx]
      exact fun y ey => ⟨x, rfl, by cases ey; omega⟩
    · rw [other i j h]; exact g.le i j
  · by_cases h : i = a ∧ j = c
    · rw [h.1, h.2, at']; exact tm_le.1
    · rw [other i j h]; exact Fw.le_refl _
end Sh
set_option Elab.async false
set_option linter.all false
set_option maxRecDepth 100000
set_option maxHeartbeats 4000000
namespace Sh
open PySem PySem.Spec PyProof.Rows L2
section
variable {P : Program} {w : World} {K : PySem.W.Frag} {mg : Str → Option Value} {base : Heap}
mutual
def Dt.dep : Dt → Nat
  | .tup l => deps l + 1 | .lst l => deps l + 1 | _ => 1
def deps : List Dt → Nat
  | [] => 0
  | d :: l => max d.dep (deps l)
end
mutual
/-- no classes, short -/
def Dt.fit : Dt → Bool
  | .ty _ => false
  | .tup l => decide (l.length ≤ 9000) && fits l
  | .lst l => decide (l.length ≤ 9000) && fits l
  | _ => true
def fits : List Dt → Bool
  | [] => true
  | d :: l => d.fit && fits l
end
theorem deps_mem : ∀ {l : List Dt} {d : Dt}, d ∈ l → d.dep ≤ deps l
  | e :: l, d, h => by
    unfold deps
    rcases List.mem_cons.mp h with rfl | h
    · omega
    · have := deps_mem h; omega
theorem fits_mem : ∀ {l : List Dt} {d : Dt}, fits l = true → d ∈ l → d.fit = true
  | e :: l, d, f, h => by
    unfold fits at f
    rw [Bool.and_eq_true] at f
    rcases List.mem_cons.mp h with rfl | h
    · exact f.1
    · exact fits_mem f.2 h
def S_same (n : Nat) (ds : List Dt) (r : Dt) : Prop := ∃ d, ds = [d, d] ∧ d.dep ≤ n ∧ d.fit = true ∧ r = .bl true
theorem zp_self : ∀ {l : List Dt} {d : Dt}, d ∈ zpD l l → ∃ e, e ∈ l ∧ d = .tup [e, e]
  | [], d, h => by simp [zpD] at h
  | a :: l, d, h => by
    rcases List.mem_cons.mp (show d ∈ Dt.tup [a, a] :: zpD l l from h) with rfl | h
    · exact ⟨a, List.mem_cons_self, rfl⟩
    · obtain ⟨e, h1, h2⟩ := zp_self h
      exact ⟨e, List.mem_cons_of_mem _ h1, h2⟩
theorem none0 {ps : List Str} {f : Addr} {fd : FuncData} {sp : Sp} (no : ∀ vs H Q E, ¬ sp vs H Q E) : FnOk P w K mg base CX0 0 f fd ps sp :=
  ⟨fun vs H Q E h => absurd h (no vs H Q E), fun A outer s H args us vs Q E _ _ _ _ h => absurd h (no vs H Q E)⟩
theorem dep_pos (d : Dt) : 1 ≤ d.dep := by cases d <;> simp [Dt.dep]
theorem map_true {l : List Dt} : (l.map fun _ => Dt.bl true) = (List.replicate l.length true).map Dt.bl := by rw [List.map_const', List.map_replicate]
theorem all_true (n : Nat) : (List.replicate n true).all id = true := by simp
abbrev s_l_same : Stmt := topS 19
abbrev N_l_same : List Str := ["_law_found", "_law_due", "_law_mine", "_law_its"]
abbrev p_l_same : List Str := ["_law_found", "_law_due"]
theorem sc_l_same : FnScope N_l_same p_l_same (defScope s_l_same) := ⟨rfl, rfl, rfl, by decide +kernel, rfl, by decide +kernel, by decide +kernel⟩
theorem ok_l_same (bl : Blts mg) {n : Nat} {g_l_same : Addr} {d_l_same : FuncData} (c_l_same : Cal P w K mg base n "_law_same" p_l_same (spP K (S_same n)) g_l_same d_l_same) {f : Addr} {fd : FuncData} (F : Fun K "_law_same" "_law_same" s_l_same f fd) : FnOk P w K mg base CX0 (n + 1) f fd p_l_same (spP K (S_same (n + 1))) := by
  refine okP F sc_l_same (fun ds r h => ?_) (fun cdv A outer s H E hr ds r h => ?_)
  · obtain ⟨d, rfl, n1, f1, rfl⟩ := h
    rfl
  obtain ⟨d, rfl, n1, f1, rfl⟩ := h
  refine ⟨_, (pss_cons (ps_if (pt_val (pe_callB call_isiT rfl bl.isinstance (by decide +kernel) (pa_cons (pv 1) (pa_cons (pe_tup (pa_cons (pe_bltn (v := .ty "list") rfl bl.list (by decide +kernel) rfl) (pa_cons (pe_bltn (v := .ty "tuple") rfl bl.tuple (by decide +kernel) rfl) pa_nil))) pa_nil)))) (pss_cons (ps_if (PW.pt (pw_or (pt_cmpR op_ne (pe_callB call_isi rfl bl.isinstance (by decide +kernel) (pa_cons (pv 0) (pa_cons (pe_bltn (v := .ty "list") rfl bl.list (by decide +kernel) rfl) pa_nil))) (pe_callB call_isi rfl bl.isinstance (by decide +kernel) (pa_cons (pv 1) (pa_cons (pe_bltn (v := .ty "list") rfl bl.list (by decide +kernel) rfl) pa_nil))) (nomark _)) (pw_or1 (pt_cmpR op_ne (pe_callB call_isi rfl bl.isinstance (by decide +kernel) (pa_cons (pv 0) (pa_cons (pe_bltn (v := .ty "tuple") rfl bl.tuple (by decide +kernel) rfl) pa_nil))) (pe_callB call_isi rfl bl.isinstance (by decide +kernel) (pa_cons (pv 1) (pa_cons (pe_bltn (v := .ty "tuple") rfl bl.tuple (by decide +kernel) rfl) pa_nil))) (nomark _))))) (pss_one (ps_ret pe_bl)) pss_nil)
    (pss_one (ps_ret (pe_and (pe_cmpR op_eq (pe_callB call_len_seq rfl bl.len (by decide +kernel) (pa_cons (pv 0) pa_nil)) (pe_callB call_len_seq rfl bl.len (by decide +kernel) (pa_cons (pv 1) pa_nil)) (nomark _)) (pe_one (pe_callB (cr_all rfl) rfl bl.all (by decide +kernel) (pa_cons (pe_lc (own := [("_law_mine", 2), ("_law_its", 3)]) (g := (gTup K 2 (gCons (gName 2) (gCons (gName 3) gNil)))) (tt := tYes) rfl sc_l_same.nd (RZ.pi_zipA rfl bl.zip (pa_cons (pv 0) (pa_cons (pv 1) pa_nil))) (blkOk_by (N := N_l_same) (sc := defScope s_l_same) (by decide +kernel)) (fun _ _ _ _ _ => (pg_tup rfl (pgs_cons (pg_name (i := 2) sc_l_same.nd rfl (by first | exact Or.inl rfl | exact Or.inr rfl)) (pgs_cons (pg_name (i := 3) sc_l_same.nd rfl (by first | exact Or.inl rfl | exact Or.inr rfl)) pgs_nil)))) (fun _ _ _ _ _ => pts_nil) (fun _ _ _ _ _ => (pe_call c_l_same.ok hr rfl c_l_same.mg c_l_same.kp c_l_same.bi .nil pass0 (pa_cons (pv 2) (pa_cons (pv 3) pa_nil))))) pa_nil))))))) pss_nil)
    (pss_cons (ps_if (PW.pt (pw_or (pt_cmpR op_isN (pv 1) pe_non (nomark _)) (pw_or1 (pt_val (pe_callB call_isiT rfl bl.isinstance (by decide +kernel) (pa_cons (pv 1) (pa_cons (pe_tup (pa_cons (pe_bltn (v := .ty "bool") rfl bl.bool (by decide +kernel) rfl) (pa_cons (pe_bltn (v := .ty "str") rfl bl.str (by decide +kernel) rfl) pa_nil))) pa_nil))))))) (pss_one (ps_ret (pe_and (pe_cmpR op_eq (pv 0) (pv 1) (nomark _)) (pe_and (pe_cmpR op_eq (pe_callB call_isi rfl bl.isinstance (by decide +kernel) (pa_cons (pv 0) (pa_cons (pe_bltn (v := .ty "bool") rfl bl.bool (by decide +kernel) rfl) pa_nil))) (pe_callB call_isi rfl bl.isinstance (by decide +kernel) (pa_cons (pv 1) (pa_cons (pe_bltn (v := .ty "bool") rfl bl.bool (by decide +kernel) rfl) pa_nil))) (nomark _)) (pe_one (pe_cmpR op_eq (pe_cmpR op_isN (pv 0) pe_non (nomark _)) (pe_cmpR op_isN (pv 1) pe_non (nomark _)) (nomark _))))))) pss_nil)
    (pss_one (ps_ret (pe_and (pe_callB call_isi rfl bl.isinstance (by decide +kernel) (pa_cons (pv 0) (pa_cons (pe_bltn (v := .ty "int") rfl bl.int (by decide +kernel) rfl) pa_nil))) (pe_and (pe_not (pe_callB call_isi rfl bl.isinstance (by decide +kernel) (pa_cons (pv 0) (pa_cons (pe_bltn (v := .ty "bool") rfl bl.bool (by decide +kernel) rfl) pa_nil)))) (pe_one (pe_cmpR op_eq (pv 0) (pv 1) (nomark _))))))))), ?_⟩
  change AS K _ [En.da _, En.da _, En.no, En.no] _ _
  try simp only [cxOf_K]
  cases d with
  | non =>
    repeat' (first
      | ((with_reducible apply ac_isi1); · first | exact ⟨rfl, kb_NoneType_list⟩ | exact ⟨rfl, kb_NoneType_tuple⟩ | exact ⟨rfl, kb_NoneType_bool⟩ | exact ⟨rfl, kb_NoneType_int⟩ | exact ⟨rfl, kb_NoneType_str⟩)
      | (first | refine ⟨rfl, false, .inr ⟨kb_NoneType_list, kb_NoneType_tuple⟩, ?_⟩ | refine ⟨rfl, false, .inr ⟨kb_NoneType_bool, kb_NoneType_str⟩, ?_⟩)
      | with_reducible apply as_seq
      | with_reducible apply as_ret
      | with_reducible apply as_next
      | with_reducible apply as_if
      | ((with_reducible apply ae_var); · rfl)
      | with_reducible apply ae_non
      | with_reducible apply ae_ty
      | with_reducible apply ae_isi2
      | with_reducible apply ae_op
      | with_reducible apply aa_nil
      | with_reducible apply aa_cons
      | with_reducible apply ae_cb
      | with_reducible apply at_test
      | with_reducible apply at_b
      | with_reducible apply at_or
      | with_reducible apply ae_andV
      | with_reducible apply ar_isN
      | ((with_reducible apply ar_eq3); · exact ⟨rfl, rfl, rfl⟩)
      | refine ⟨_, rfl, ?_⟩
      | (refine ⟨fun hc => ?_, fun hc => ?_⟩ <;> (first | (exfalso; exact absurd (show false = true from hc) (by decide)) | (exfalso; exact absurd (show true = false from hc) (by decide)) | (exfalso; simp at hc; done) | skip))
      | rfl
      | fail)
  | bl b =>
    repeat' (first
      | ((with_reducible apply ac_isi1); · first | exact ⟨rfl, kb_bool_list⟩ | exact ⟨rfl, kb_bool_tuple⟩ | exact ⟨rfl, kb_bool_bool⟩ | exact ⟨rfl, kb_bool_int⟩ | exact ⟨rfl, kb_bool_str⟩)
      | (first | refine ⟨rfl, false, .inr ⟨kb_bool_list, kb_bool_tuple⟩, ?_⟩ | refine ⟨rfl, true, .inl ⟨kb_bool_bool, rfl⟩, ?_⟩)
      | with_reducible apply as_seq
      | with_reducible apply as_ret
      | with_reducible apply as_next
      | with_reducible apply as_if
      | ((with_reducible apply ae_var); · rfl)
      | with_reducible apply ae_non
      | with_reducible apply ae_ty
      | with_reducible apply ae_isi2
      | with_reducible apply ae_op
      | with_reducible apply aa_nil
      | with_reducible apply aa_cons
      | with_reducible apply ae_cb
      | with_reducible apply at_test
      | with_reducible apply at_b
      | with_reducible apply at_or
      | with_reducible apply ae_andV
      | with_reducible apply ar_isN
      | ((with_reducible apply ar_eq3); · exact ⟨rfl, rfl, rfl⟩)
      | refine ⟨_, rfl, ?_⟩
      | (refine ⟨fun hc => ?_, fun hc => ?_⟩ <;> (first | (exfalso; exact absurd (show false = true from hc) (by decide)) | (exfalso; exact absurd (show true = false from hc) (by decide)) | (exfalso; simp at hc; done) | skip))
      | rfl
      | fail)
  | int i =>
    repeat' (first
      | ((with_reducible apply ac_isi1); · first | exact ⟨rfl, kb_int_list⟩ | exact ⟨rfl, kb_int_tuple⟩ | exact ⟨rfl, kb_int_bool⟩ | exact ⟨rfl, kb_int_int⟩ | exact ⟨rfl, kb_int_str⟩)
      | (first | refine ⟨rfl, false, .inr ⟨kb_int_list, kb_int_tuple⟩, ?_⟩ | refine ⟨rfl, false, .inr ⟨kb_int_bool, kb_int_str⟩, ?_⟩)
      | with_reducible apply as_seq
      | with_reducible apply as_ret
      | with_reducible apply as_next
      | with_reducible apply as_if
      | ((with_reducible apply ae_var); · rfl)
      | with_reducible apply ae_non
      | with_reducible apply ae_ty
      | with_reducible apply ae_isi2
      | with_reducible apply ae_op
      | with_reducible apply aa_nil
      | with_reducible apply aa_cons
      | with_reducible apply ae_cb
      | with_reducible apply at_test
      | with_reducible apply at_b
      | with_reducible apply at_or
      | with_reducible apply ae_andV
      | with_reducible apply ae_notV
      | with_reducible apply ar_isN
      | ((with_reducible apply ar_eq3); · exact ⟨rfl, rfl, rfl⟩)
      | refine ⟨_, rfl, ?_⟩
      | (refine ⟨fun hc => ?_, fun hc => ?_⟩ <;> (first | (exfalso; exact absurd (show false = true from hc) (by decide)) | (exfalso; exact absurd (show true = false from hc) (by decide)) | (exfalso; simp at hc; done) | skip))
      | rfl
      | simp only [oD_some, oD_none]
      | fail)
  | str z =>
    repeat' (first
      | ((with_reducible apply ac_isi1); · first | exact ⟨rfl, kb_str_list⟩ | exact ⟨rfl, kb_str_tuple⟩ | exact ⟨rfl, kb_str_bool⟩ | exact ⟨rfl, kb_str_int⟩ | exact ⟨rfl, kb_str_str⟩)
      | (first | refine ⟨rfl, false, .inr ⟨kb_str_list, kb_str_tuple⟩, ?_⟩ | refine ⟨rfl, true, .inr ⟨kb_str_bool, kb_str_str⟩, ?_⟩)
      | with_reducible apply as_seq
      | with_reducible apply as_ret
      | with_reducible apply as_next
      | with_reducible apply as_if
      | ((with_reducible apply ae_var); · rfl)
      | with_reducible apply ae_non
      | with_reducible apply ae_ty
      | with_reducible apply ae_isi2
      | with_reducible apply ae_op
      | with_reducible apply aa_nil
      | with_reducible apply aa_cons
      | with_reducible apply ae_cb
      | with_reducible apply at_test
      | with_reducible apply at_b
      | with_reducible apply at_or
      | with_reducible apply ae_andV
      | with_reducible apply ar_isN
      | ((with_reducible apply ar_eq3); · exact ⟨rfl, rfl, rfl⟩)
      | refine ⟨_, rfl, ?_⟩
      | (refine ⟨fun hc => ?_, fun hc => ?_⟩ <;> (first | (exfalso; exact absurd (show false = true from hc) (by decide)) | (exfalso; exact absurd (show true = false from hc) (by decide)) | (exfalso; simp at hc; done) | skip))
      | rfl
      | fail)
  | ty T => exact absurd f1 (fun z => nomatch z)
  | tup l =>
    have hl : l.length ≤ 9000 := by
      have f2 : (decide (l.length ≤ 9000) && fits l) = true := f1
      rw [Bool.and_eq_true] at f2; exact of_decide_eq_true f2.1
    have hf : fits l = true := by
      have f2 : (decide (l.length ≤ 9000) && fits l) = true := f1
      rw [Bool.and_eq_true] at f2; exact f2.2
    have hd : deps l ≤ n := Nat.le_of_succ_le_succ (show deps l + 1 ≤ n + 1 from n1)
    repeat' (first
      | ((with_reducible apply ac_isi1); · first | exact ⟨rfl, kb_tuple_list⟩ | exact ⟨rfl, kb_tuple_tuple⟩ | exact ⟨rfl, kb_tuple_bool⟩ | exact ⟨rfl, kb_tuple_int⟩ | exact ⟨rfl, kb_tuple_str⟩)
      | (first | refine ⟨rfl, true, .inr ⟨kb_tuple_list, kb_tuple_tuple⟩, ?_⟩ | refine ⟨rfl, false, .inr ⟨kb_tuple_bool, kb_tuple_str⟩, ?_⟩)
      | with_reducible apply as_seq
      | with_reducible apply as_ret
      | with_reducible apply as_next
      | with_reducible apply as_if
      | ((with_reducible apply ae_var); · rfl)
      | with_reducible apply ae_ty
      | with_reducible apply ae_isi2
      | with_reducible apply ae_op
      | with_reducible apply aa_nil
      | with_reducible apply aa_cons
      | with_reducible apply ae_cb
      | with_reducible apply at_test
      | with_reducible apply at_b
      | with_reducible apply at_or
      | with_reducible apply ae_andV
      | with_reducible apply ac_lenT
      | ((with_reducible apply ar_eq3); · exact ⟨rfl, rfl, rfl⟩)
      | ((with_reducible apply ar_ne3); · exact ⟨rfl, rfl, rfl⟩)
      | refine ⟨_, rfl, ?_⟩
      | (refine ⟨fun hc => ?_, fun hc => ?_⟩ <;> (first | (exfalso; exact absurd (show false = true from hc) (by decide)) | (exfalso; exact absurd (show true = false from hc) (by decide)) | (exfalso; simp at hc; done) | skip))
      | fail)
    refine ae_lcMap (fun _ => .bl true) ?_
    refine ai_zipT ?_
    repeat' (first | (with_reducible apply aa_cons) | ((with_reducible apply ae_var); · rfl) | (with_reducible apply aa_nil))
    refine ⟨l, l, rfl, ?_, fun d hm => ?_, ?_⟩
    · rw [zpD_len, Nat.min_self]; exact Nat.lt_of_le_of_lt hl (by decide)
    · obtain ⟨e, he, rfl⟩ := zp_self hm
      refine agv_tup rfl (agvs_cons (agv_name (by decide) (agvs_cons (agv_name (by decide) (agvs_nil ?_)))))
      refine ae_call ?_
      repeat' (first | (with_reducible apply aa_cons) | ((with_reducible apply ae_var); · rfl) | (with_reducible apply aa_nil))
      exact ⟨.bl true, ⟨e, rfl, Nat.le_trans (deps_mem he) hd, fits_mem hf he, rfl⟩, rfl, rfl⟩
    · refine aa_nil ?_
      rw [map_true]
      refine ac_all ?_
      rw [all_true]
  | lst l =>
    have hl : l.length ≤ 9000 := by
      have f2 : (decide (l.length ≤ 9000) && fits l) = true := f1
      rw [Bool.and_eq_true] at f2; exact of_decide_eq_true f2.1
    have hf : fits l = true := by
      have f2 : (decide (l.length ≤ 9000) && fits l) = true := f1
      rw [Bool.and_eq_true] at f2; exact f2.2
    have hd : deps l ≤ n := Nat.le_of_succ_le_succ (show deps l + 1 ≤ n + 1 from n1)
    repeat' (first
      | ((with_reducible apply ac_isi1); · first | exact ⟨rfl, kb_list_list⟩ | exact ⟨rfl, kb_list_tuple⟩ | exact ⟨rfl, kb_list_bool⟩ | exact ⟨rfl, kb_list_int⟩ | exact ⟨rfl, kb_list_str⟩)
      | (first | refine ⟨rfl, true, .inl ⟨kb_list_list, rfl⟩, ?_⟩ | refine ⟨rfl, false, .inr ⟨kb_list_bool, kb_list_str⟩, ?_⟩)
      | with_reducible apply as_seq
      | with_reducible apply as_ret
      | with_reducible apply as_next
      | with_reducible apply as_if
      | ((with_reducible apply ae_var); · rfl)
      | with_reducible apply ae_ty
      | with_reducible apply ae_isi2
      | with_reducible apply ae_op
      | with_reducible apply aa_nil
      | with_reducible apply aa_cons
      | with_reducible apply ae_cb
      | with_reducible apply at_test
      | with_reducible apply at_b
      | with_reducible apply at_or
      | with_reducible apply ae_andV
      | with_reducible apply ac_lenL
      | ((with_reducible apply ar_eq3); · exact ⟨rfl, rfl, rfl⟩)
      | ((with_reducible apply ar_ne3); · exact ⟨rfl, rfl, rfl⟩)
      | refine ⟨_, rfl, ?_⟩
      | (refine ⟨fun hc => ?_, fun hc => ?_⟩ <;> (first | (exfalso; exact absurd (show false = true from hc) (by decide)) | (exfalso; exact absurd (show true = false from hc) (by decide)) | (exfalso; simp at hc; done) | skip))
      | fail)
    refine ae_lcMap (fun _ => .bl true) ?_
    refine ai_zipL ?_
    repeat' (first | (with_reducible apply aa_cons) | ((with_reducible apply ae_var); · rfl) | (with_reducible apply aa_nil))
    refine ⟨l, l, rfl, ?_, fun d hm => ?_, ?_⟩
    · rw [zpD_len, Nat.min_self]; exact Nat.lt_of_le_of_lt hl (by decide)
    · obtain ⟨e, he, rfl⟩ := zp_self hm
      refine agv_tup rfl (agvs_cons (agv_name (by decide) (agvs_cons (agv_name (by decide) (agvs_nil ?_)))))
      refine ae_call ?_
      repeat' (first | (with_reducible apply aa_cons) | ((with_reducible apply ae_var); · rfl) | (with_reducible apply aa_nil))
      exact ⟨.bl true, ⟨e, rfl, Nat.le_trans (deps_mem he) hd, fits_mem hf he, rfl⟩, rfl, rfl⟩
    · refine aa_nil ?_
      rw [map_true]
      refine ac_all ?_
      rw [all_true]
theorem all_same (bl : Blts mg) {f : Addr} {fd : FuncData} (F : Fun K "_law_same" "_law_same" s_l_same f fd) (bG : Binds K fd p_l_same []) (mG : mg "_law_same" = some (.ref f)) : ∀ n : Nat, FnOk P w K mg base CX0 n f fd p_l_same (spP K (S_same n))
  | 0 => none0 fun vs H Q E h => by
    obtain ⟨G, ds, r, _, _, ⟨d, _, h1, _⟩, _⟩ := h
    have := dep_pos d
    omega
  | n + 1 => ok_l_same bl ⟨all_same bl F bG mG n, bG, F.kp, mG⟩ F
end
end Sh
set_option Elab.async false
set_option linter.all false
set_option maxRecDepth 100000
set_option maxHeartbeats 4000000
/-! draws below greater numbers -/
namespace Sh
open PySem PySem.Spec PyProof.Rows L2
section
variable {P : Program} {w : World} {K : PySem.W.Frag} {mg : Str → Option Value} {base : Heap}
theorem fdW_ok {x m : Int} (m0 : 1 ≤ m) (m1 : m ≤ 100000000000000) : CDivW x m := ⟨by omega, (Nat.log2_lt (by omega)).mpr (Nat.lt_of_le_of_lt (show m.natAbs ≤ 100000000000000 by omega) (by decide +kernel))⟩
theorem scTakeL : FnScope ["_law_box_here", "_law_below", "_law_found", "_law_once", "_law_twice", "_law_little"] ["_law_box_here", "_law_below"] (defScope sTake) := ⟨rfl, rfl, rfl, by decide +kernel, rfl, by decide +kernel, by decide +kernel⟩
def spTake2 : Sp := fun vs H Q _ => ∃ (b : Addr) (m y c : Int), vs = [.ref b, .int m] ∧ Bx H b y c ∧ 0 ≤ c ∧ c + 1 < 1000000000000 ∧ 1 ≤ m ∧ m ≤ 10 ^ 14 ∧
  ∀ v c' H', 0 ≤ v → v < m → c ≤ c' → c' ≤ c + 2 → Bx H' b y c' → But b H H' → Q (.int v) H'
theorem ok_take2 {f g : Addr} {fd gd : FuncData} {n : Nat} (F : Fun K "_law_take" "_law_take" sTake f fd) (G : FnOk P w K mg base CX0 n g gd ["_law_box_here", "_law_below"] spTake) (bG : Binds K gd ["_law_box_here", "_law_below"] []) (kG : PySem.W.keepIn K (.ref g) = true)
    (mG : mg "_law_take" = some (.ref g)) : FnOk P w K mg base CX0 (n + 1) f fd ["_law_box_here", "_law_below"] spTake2 := by
  refine F.ok scTakeL (fun vs H Q E h => ?_) (fun cdv A outer s H vs Q E hr h => ?_)
  · obtain ⟨b, m, y, c, rfl, _⟩ := h
    rfl
  obtain ⟨b, m, y, c, rfl, ⟨x, hB, x0, y0, y1⟩, c0, c1, m0, m1, q⟩ := h
  refine ⟨_, pss_cons (ps_if (pt_cmpR op_gt (pe_ix ix_list (pv 0) pe_int (fun _ _ => rfl)) pe_int (nomark _))
      (pss_cons (ps_set (i := 2) scTakeL.nd rfl (Or.inl rfl) (pe_op op_modN (pe_ix ix_list (pv 0) pe_int (fun _ _ => rfl)) (pv 1)))
      (pss_cons (ps_asg (pe_op op_fdivW (pe_ix ix_list (pv 0) pe_int (fun _ _ => rfl)) (pv 1)) (pg_sub (pv 0) pe_int set_list))
      (pss_one (ps_ret (pv 2))))) pss_nil)
    (pss_cons (ps_if (pt_cmpR op_gt (pv 1) (pe_op op_pow pe_int pe_int) (nomark _))
      (pss_cons (ps_set (i := 5) scTakeL.nd rfl (Or.inl rfl) (pe_call G hr rfl mG kG bG .nil pass0 (pa_cons (pv 0) (pa_cons (pe_op op_pow pe_int pe_int) pa_nil))))
      (pss_one (ps_ret (pe_op op_modN (pe_op op_add (pv 5) (pe_op op_mul (pe_op op_pow pe_int pe_int) (pe_call G hr rfl mG kG bG .nil pass0 (pa_cons (pv 0) (pa_cons (pe_op op_add (pe_op op_fdivN (pe_op op_sub (pv 1) pe_int) (pe_op op_pow pe_int pe_int)) pe_int) pa_nil))))) (pv 1))))) pss_nil)
    (pss_cons (ps_asg (pe_op op_add (pe_ix ix_list (pv 0) pe_int (fun _ _ => rfl)) pe_int) (pg_sub (pv 0) pe_int set_list))
    (pss_cons (ps_set (i := 3) scTakeL.nd rfl (Or.inl rfl) (pe_op op_modN (pe_op op_mul (pe_op op_add (pe_ix ix_list (pv 0) pe_int (fun _ _ => rfl)) (pe_op op_mul pe_int (pe_ix ix_list (pv 0) pe_int (fun _ _ => rfl)))) (pe_op op_add pe_int (pe_ix ix_list (pv 0) pe_int (fun _ _ => rfl)))) pe_int))
    (pss_cons (ps_set (i := 4) scTakeL.nd rfl (Or.inl rfl) (pe_op op_modN (pe_op op_mul (pe_op op_add (pe_op op_add (pv 3) (pe_ix ix_list (pv 0) pe_int (fun _ _ => rfl))) (pe_op op_fdivN (pe_ix ix_list (pv 0) pe_int (fun _ _ => rfl)) pe_int)) (pe_op op_add (pe_op op_modN (pv 3) pe_int) pe_int)) pe_int))
    (pss_one (ps_ret (pe_op op_modN (pe_op op_fdivN (pe_op op_modN (pe_op op_add (pe_op op_mul (pv 4) pe_int) (pv 3)) pe_int) pe_int) (pv 1)))))))), ?_⟩
  have e14 : (10 : Int) ^ 14 = 100000000000000 := by decide
  have e7 : (10 : Int) ^ (7 : Int).toNat = 10000000 := by decide
  refine ⟨_, rfl, b, _, _, _, rfl, rfl, SqL.of hB, at_of (j := 0) rfl rfl, _, _, rfl, rfl, _, rfl, ?_⟩
  refine ite2 (fun t => ?_) (fun t => ?_)
  · have t' : x > 0 := of_decide_eq_true t
    refine ⟨_, rfl, b, _, _, _, rfl, rfl, SqL.of hB, at_of (j := 0) rfl rfl, _, rfl, _, _, rfl, rfl, (by omega), ?_⟩
    refine ⟨_, rfl, b, _, _, _, rfl, rfl, SqL.of hB, at_of (j := 0) rfl rfl, _, rfl, _, _, rfl, rfl, ?_, ?_⟩
    · exact fdW_ok (by omega) (by omega)
    refine ⟨_, rfl, b, _, _, 0, rfl, rfl, hB, rfl, _, rfl, ?_⟩
    exact q _ c _ (fm0 (by omega)) (fm1 (by omega)) (by omega) (by omega) (bx_up rfl (Int.ediv_nonneg x0 (by omega)) y0 y1) but_upd
  · refine ⟨_, rfl, _, _, rfl, rfl, ⟨by decide, by decide, by decide⟩, _, _, rfl, rfl, _, rfl, ?_⟩
    refine ite2 (fun t2 => ?_) (fun t2 => ?_)
    · refine ⟨_, rfl, _, _, rfl, rfl, ⟨by decide, by decide, by decide⟩, ?_⟩
      refine ⟨b, _, y, c, rfl, ⟨x, hB, x0, y0, y1⟩, c0, by omega, by decide, by decide, fun v c' H' v0 v1 d0 d1 hB' bt => ?_⟩
      refine ⟨_, rfl, _, _, rfl, rfl, ⟨by decide, by decide, by decide⟩, ?_⟩
      refine ⟨_, rfl, _, rfl, _, _, rfl, rfl, _, _, rfl, rfl, ⟨by decide, by decide, by decide⟩, _, _, rfl, rfl, ⟨by decide, by decide⟩, _, _, rfl, rfl, ?_⟩
      have hq0 : 0 ≤ (m - 1).fdiv (10 ^ (7 : Int).toNat) := fd0 (by omega) (by decide)
      have hq1 : (m - 1).fdiv (10 ^ (7 : Int).toNat) < 10000000 := by
        rw [e7, Int.fdiv_eq_ediv_of_nonneg _ (by decide)]; omega
      refine ⟨b, _, y, c', rfl, hB', by omega, by omega, by omega, by omega, fun v' c'' H'' v0' v1' d0' d1' hB'' bt' => ?_⟩
      refine ⟨_, _, rfl, rfl, .inl ⟨by decide, by decide⟩, _, _, rfl, rfl, _, rfl, _, _, rfl, rfl, (by omega), ?_⟩
      exact q _ c'' _ (fm0 (by omega)) (fm1 (by omega)) (by omega) (by omega) hB'' (bt.trans bt')
    · have t3 : ¬ m > 10 ^ (7 : Int).toNat := fun z => t2 (decide_eq_true z)
      rw [e7] at t3
      have hB1 : (upd H b (.lst [.int x, .int y, .int (c + 1)])) b = some (.lst [.int x, .int y, .int (c + 1)]) := upd_same
      refine ⟨_, rfl, b, _, _, _, rfl, rfl, SqL.of hB, at_of (j := 2) rfl rfl, _, _, rfl, rfl, _, rfl, b, _, _, 2, rfl, rfl, hB, rfl, ?_⟩
      refine ⟨_, rfl, b, _, _, _, rfl, rfl, SqL.of hB1, at_of (j := 1) rfl rfl, _, rfl, b, _, _, _, rfl, rfl, SqL.of hB1, at_of (j := 2) rfl rfl, _, _, rfl, rfl, .inl ⟨by decide, by decide⟩, _, _, rfl, rfl,
        _, rfl, b, _, _, _, rfl, rfl, SqL.of hB1, at_of (j := 2) rfl rfl, _, _, rfl, rfl, _, _, rfl, rfl, .inl ⟨by omega, by omega⟩, _, _, rfl, rfl, (nz _), ?_⟩
      refine ⟨_, rfl, _, rfl, b, _, _, _, rfl, rfl, SqL.of hB1, at_of (j := 2) rfl rfl, _, _, rfl, rfl, _, rfl, b, _, _, _, rfl, rfl, SqL.of hB1, at_of (j := 1) rfl rfl, _, _, rfl, rfl, ⟨by decide, by decide⟩, _, _, rfl, rfl,
        _, rfl, _, _, rfl, rfl, (nz _), _, _, rfl, rfl, _, _, rfl, rfl, .inl (tw_ok c0 (by omega) y0 y1), _, _, rfl, rfl, (nz _), ?_⟩
      refine ⟨_, rfl, _, _, rfl, rfl, .inl tw_ok2, _, rfl, _, _, rfl, rfl, _, _, rfl, rfl, (nz _), _, _, rfl, rfl, ⟨by decide, by decide⟩, _, rfl, _, _, rfl, rfl, (by omega), ?_⟩
      exact q _ (c + 1) _ (fm0 (by omega)) (fm1 (by omega)) (by omega) (by omega) (bx_up rfl x0 y0 y1) but_upd
def domT2 (ds : List Dt) : Prop := ∃ m : Int, ds = [.int m] ∧ 1 ≤ m ∧ m ≤ 100000000000000
theorem take_B2 {f : Addr} {fd : FuncData} {n : Nat} {ps : List Str} (C : FnOk P w K mg base CX0 n f fd ps spTake2) : FnOk P w K mg base CX0 n f fd ps (spB K 2 domT2 postT) := C.imp fun vs H Q E h => by
  obtain ⟨G, ds, b, us, y, c, F, rfl, sm, hb, c0, c1, gb, rd, ⟨m, rfl, m1, m2⟩, q⟩ := h
  obtain ⟨x, rfl, e⟩ := rd.one
  have c2 : c + ((F + 2 : Nat) : Int) ≤ 1000000000000 := c1
  refine ⟨b, m, y, c, by rw [show x = V.int m from e], hb, c0, by omega, m1, m2, fun v c' H' v0 v1 e0 e1 hb' bt => ?_⟩
  refine q (.int v) (.int v) G H' y c' ⟨Same.refl _, fun a o z => bt a o (fun w => by rw [w, gb] at z; cases z) (sm _ _ z), bt, fun a h1 h2 => h1⟩ hb' (by omega) ?_ rfl ⟨m, v, rfl, rfl, v0, v1⟩
  show c' + (F : Int) ≤ 1000000000000
  omega
theorem ae_take2 {ρ : List En} {Ψ : Dt → List En → Prop} {E : XK} {te : TE} {i : Nat} {b : Addr} {f0 : Nat} (e0 : ρ[i]? = some (.bx b f0))
    (h : AE K te ρ fun d ρ1 => ∃ m : Int, d = .int m ∧ 1 ≤ m ∧ m ≤ 100000000000000 ∧ ∃ F, ρ1[i]? = some (.bx b (F + 2)) ∧ ∀ v : Int, 0 ≤ v → v < m → Ψ (.int v) (ρ1.set i (.bx b F))) : AE K (tCall (spB K 2 domT2 postT) [] E (tCons (tVar i) (tCons te tNil))) ρ Ψ :=
  ae_draw e0 (aa_cons (ae_mono h fun d ρ1 ⟨m, e, m1, m2, F, e1, k⟩ => aa_nil ⟨⟨m, by rw [e], m1, m2⟩, F, e1, fun d' hp => by
    obtain ⟨m', v, z1, z2, z3, z4⟩ := hp
    rw [e] at z1
    cases z1
    rw [z2]; exact k v z3 z4⟩))
end
end Sh
set_option Elab.async false
set_option linter.all false
set_option maxRecDepth 100000
set_option maxHeartbeats 4000000
set_option Elab.async false
set_option linter.all false
set_option maxRecDepth 100000
set_option maxHeartbeats 4000000
namespace Sh
open PySem PySem.Spec PyProof.Rows L2
abbrev s_l_limit : Stmt := topS 20
abbrev N_l_limit : List Str := ["_law_box_here", "_law_some"]
abbrev p_l_limit : List Str := ["_law_box_here"]
theorem sc_l_limit : FnScope N_l_limit p_l_limit (defScope s_l_limit) := ⟨rfl, rfl, rfl, by decide +kernel, rfl, by decide +kernel, by decide +kernel⟩
abbrev s_l_rows : Stmt := topS 21
abbrev N_l_rows : List Str := ["_law_box_here", "_law_size", "_law_found", "_law_at", "_law_to"]
abbrev p_l_rows : List Str := ["_law_box_here", "_law_size"]
theorem sc_l_rows : FnScope N_l_rows p_l_rows (defScope s_l_rows) := ⟨rfl, rfl, rfl, by decide +kernel, rfl, by decide +kernel, by decide +kernel⟩
abbrev s_l_ends : Stmt := topS 22
abbrev N_l_ends : List Str := ["_law_box_here", "_law_size", "_law_found", "_law_turn", "_law_least", "_law_wide", "_law_base"]
abbrev p_l_ends : List Str := ["_law_box_here", "_law_size"]
theorem sc_l_ends : FnScope N_l_ends p_l_ends (defScope s_l_ends) := ⟨rfl, rfl, rfl, by decide +kernel, rfl, by decide +kernel, by decide +kernel⟩
abbrev s_l_some_stores : Stmt := topS 24
abbrev N_l_some_stores : List Str := ["_law_box_here", "_law_size", "_law_far", "_law_found", "_law_turn", "_law_at"]
abbrev p_l_some_stores : List Str := ["_law_box_here", "_law_size"]
theorem sc_l_some_stores : FnScope N_l_some_stores p_l_some_stores (defScope s_l_some_stores) := ⟨rfl, rfl, rfl, by decide +kernel, rfl, by decide +kernel, by decide +kernel⟩
abbrev s_l_shuffled : Stmt := topS 26
abbrev N_l_shuffled : List Str := ["_law_box_here", "_law_some", "_law_turn", "_law_left", "_law_found"]
abbrev p_l_shuffled : List Str := ["_law_box_here", "_law_some"]
theorem sc_l_shuffled : FnScope N_l_shuffled p_l_shuffled (defScope s_l_shuffled) := ⟨rfl, rfl, rfl, by decide +kernel, rfl, by decide +kernel, by decide +kernel⟩
def domL (ds : List Dt) : Prop := ds = []
def postL (_ : List Dt) (d : Dt) : Prop := ∃ o, d = oD o
def domN (ds : List Dt) : Prop := ∃ n : Nat, ds = [.int (n : Int)] ∧ 1 ≤ n ∧ n ≤ 4
def postRw (ds : List Dt) (d : Dt) : Prop := ∀ n : Nat, ds = [.int (n : Int)] → ∃ M, d = gD true true n M ∧ ∀ i, i < n → M i i = some 0
def postEn (ds : List Dt) (d : Dt) : Prop := ∀ n : Nat, ds = [.int (n : Int)] → ∃ lo hi, d = prsD n lo hi
def postSs (ds : List Dt) (d : Dt) : Prop := ∀ n : Nat, ds = [.int (n : Int)] → ∃ st, d = .lst (st.map isD) ∧ st ≠ [] ∧ st.length ≤ 4 ∧ ∀ s, s ∈ st → s.length = n
def domS (ds : List Dt) : Prop := ∃ l, ds = [.lst l] ∧ l.length ≤ 4
def postS (ds : List Dt) (d : Dt) : Prop := ∀ l, ds = [.lst l] → ∃ l', d = .lst l' ∧ l'.Perm l
theorem i_inj {m n : Nat} (h : [Dt.int (m : Int)] = [Dt.int (n : Int)]) : n = m := by
  injection h with h
  injection h with h
  omega
/-! rows that are drawn -/
def rwT (r : List (Option Int)) : Dt := .tup (r.map oD)
structure Rw (n i : Nat) (R : List (List (Option Int))) : Prop where
  r : R.length = i
  ok : ∀ (k : Nat) (l : List (Option Int)), R[k]? = some l → l.length = n ∧ l[k]? = some (some 0)
theorem Rw.nil {n : Nat} : Rw n 0 [] := ⟨rfl, fun k l h => (by cases h)⟩
theorem Rw.app {n i : Nat} {R : List (List (Option Int))} (h : Rw n i R) {l : List (Option Int)} (h1 : l.length = n) (h2 : l[i]? = some (some 0)) : Rw n (i + 1) (R ++ [l]) := by
  refine ⟨by rw [List.length_append, h.r]; rfl, fun k m hm => ?_⟩
  rcases Nat.lt_or_ge k R.length with hk | hk
  · rw [List.getElem?_append_left hk] at hm; exact h.ok k m hm
  · have hl := (List.getElem?_eq_some_iff.mp hm).1
    rw [List.length_append] at hl
    have e : k = R.length := by have : [l].length = 1 := rfl; omega
    subst e
    rw [List.getElem?_append_right (Nat.le_refl _), Nat.sub_self] at hm
    cases hm
    rw [h.r]; exact ⟨h1, h2⟩
def gO (R : List (List (Option Int))) (i j : Nat) : Option Int := ((R[i]?.getD [])[j]?).getD none
theorem gO_row {n : Nat} {R : List (List (Option Int))} (h : Rw n n R) : Dt.tup (R.map rwT) = gD true true n (gO R) := by
  show _ = Dt.tup _
  congr 1
  refine List.ext_getElem? fun i => ?_
  rw [List.getElem?_map, List.getElem?_map]
  by_cases hi : i < n
  · rw [List.getElem?_range hi]
    have hr : i < R.length := by rw [h.r]; exact hi
    have er := List.getElem?_eq_getElem hr
    rw [er]
    have hl := (h.ok i _ er).1
    show some (rwT _) = some (Dt.tup _)
    unfold rwT
    rw [rw_rg]
    congr 2
    refine List.ext_getElem? fun j => ?_
    rw [List.getElem?_map, List.getElem?_map]
    by_cases hj : j < n
    · rw [List.getElem?_range hj, List.getElem?_eq_getElem (by omega)]
      show some (oD _) = some (oD (gO R i j))
      unfold gO
      rw [er]
      show _ = some (oD ((R[i][j]?).getD none))
      rw [List.getElem?_eq_getElem (by omega)]; rfl
    · rw [List.getElem?_eq_none (by omega), List.getElem?_eq_none (by simp; omega)]; rfl
  · rw [List.getElem?_eq_none (by rw [h.r]; omega), List.getElem?_eq_none (by simp; omega)]; rfl
theorem gO_dg {n : Nat} {R : List (List (Option Int))} (h : Rw n n R) {i : Nat} (hi : i < n) : gO R i i = some 0 := by
  have hr : i < R.length := by rw [h.r]; exact hi
  have er := List.getElem?_eq_getElem hr
  unfold gO
  rw [er]
  show (R[i][i]?).getD none = some 0
  rw [(h.ok i _ er).2]; rfl
def pOD (p : Option Int × Option Int) : Dt := .tup [oD p.1, oD p.2]
theorem pO_std {n : Nat} {P : List (Option Int × Option Int)} (h : P.length = n) : Dt.lst (P.map pOD) = prsD n (fun i => (P.getD i (none, none)).1) (fun i => (P.getD i (none, none)).2) := by
  unfold prsD
  congr 1
  refine List.ext_getElem? fun i => ?_
  rw [List.getElem?_map, List.getElem?_map]
  by_cases hi : i < n
  · rw [List.getElem?_range hi, List.getElem?_eq_getElem (by omega)]
    show some (pOD P[i]) = some (Dt.tup [oD (P.getD i (none, none)).1, oD (P.getD i (none, none)).2])
    rw [List.getD_eq_getElem?_getD, List.getElem?_eq_getElem (by omega)]; rfl
  · rw [List.getElem?_eq_none (by omega), List.getElem?_eq_none (by simp; omega)]; rfl
theorem ae_ifN {K : PySem.W.Frag} {ρ : List En} {Ψ : Dt → List En → Prop} {i : Nat} {o : Option Int} {ta tb : TE} (e : ρ[i]? = some (.da (oD o))) (h1 : o = none → AE K ta ρ Ψ) (h2 : ∀ x, o = some x → AE K tb ρ Ψ) : AE K (tIf (tTest (tOp (fun x y H Q => y = .non ∧ Q (.bl (decide (x = .non))) H) (tVar i) (tC .non))) ta tb) ρ Ψ := by
  refine ae_if (at_test (ae_op (ae_var e (ae_non (ar_isN ?_)))))
  cases o with
  | none => exact ⟨true, rfl, fun _ => h1 rfl, fun h => absurd (show true = false from h) (by decide)⟩
  | some x => exact ⟨false, rfl, fun h => absurd (show false = true from h) (by decide), fun _ => h2 x rfl⟩
theorem perm_pop {l r l0 : List Dt} {k : Nat} {e : Dt} (h : (r ++ l).Perm l0) (hk : l[k]? = some e) : ((r ++ [e]) ++ l.eraseIdx k).Perm l0 := by
  obtain ⟨lk, rfl⟩ := List.getElem?_eq_some_iff.mp hk
  have e1 : l = l.take k ++ l[k] :: l.drop (k + 1) := by rw [← List.drop_eq_getElem_cons lk, List.take_append_drop]
  refine List.Perm.trans ?_ h
  rw [List.append_assoc, List.eraseIdx_eq_take_drop_succ]
  refine List.Perm.append_left r ?_
  conv => rhs; rw [e1]
  show (l[k] :: (l.take k ++ l.drop (k + 1))).Perm _
  exact List.perm_middle.symm
section
variable {P : Program} {w : World} {K : PySem.W.Frag} {mg : Str → Option Value} {base : Heap}
theorem ok_l_limit (bl : Blts mg) {g4_l_take : Addr} {d4_l_take : FuncData} (c4_l_take : Cal P w K mg base 3 "_law_take" p_l_take (spB K 2 domT2 postT) g4_l_take d4_l_take) {g_l_of : Addr} {d_l_of : FuncData} (c_l_of : Cal P w K mg base 3 "_law_of" p_l_of (spB K 1 domO postO) g_l_of d_l_of)  {f : Addr} {fd : FuncData} (F : Fun K "_law_limit" "_law_limit" s_l_limit f fd) : FnOk P w K mg base CX0 4 f fd p_l_limit (spB K 7 (domL) (postL)) := by
  refine okB F sc_l_limit (fun ds h => ?_) (fun cdv A outer s H E hr ds h => ?_)
  · obtain ⟨rfl⟩ := h
    rfl
  obtain ⟨rfl⟩ := h
  refine ⟨_, (pss_cons (ps_set (i := 1) sc_l_limit.nd rfl (by first | exact Or.inl rfl | exact Or.inr rfl) (pe_lst (pa_cons pe_non (pa_cons pe_non (pa_cons (pe_op op_sub (pe_call c4_l_take.ok (hr.mono (by decide)) rfl c4_l_take.mg c4_l_take.kp c4_l_take.bi .nil pass0 (pa_cons (pv 0) (pa_cons pe_int pa_nil))) pe_int) (pa_cons (pe_op op_sub (pe_call c4_l_take.ok (hr.mono (by decide)) rfl c4_l_take.mg c4_l_take.kp c4_l_take.bi .nil pass0 (pa_cons (pv 0) (pa_cons pe_int pa_nil))) pe_int) (pa_cons pe_int (pa_cons (pe_op op_sub (pe_call c4_l_take.ok (hr.mono (by decide)) rfl c4_l_take.mg c4_l_take.kp c4_l_take.bi .nil pass0 (pa_cons (pv 0) (pa_cons (pe_op op_pow pe_int pe_int) pa_nil))) (pe_op op_pow pe_int pe_int)) pa_nil))))))))
    (pss_one (ps_ret (pe_call c_l_of.ok (hr.mono (by decide)) rfl c_l_of.mg c_l_of.kp c_l_of.bi .nil pass0 (pa_cons (pv 0) (pa_cons (pv 1) pa_nil)))))), fun b F => ?_⟩
  change AS K _ [En.bx _ _, En.no] _ _
  try simp only [cxOf_K, cxOf_w]
  refine as_seq (as_set (ae_lst (aa_cons (ae_non (aa_cons (ae_non (aa_cons (ae_op (ae_take2 rfl (ae_int ⟨_, rfl, (by decide), (by decide), F + 5, rfl, fun v1 _ _ => ?_⟩))))))))))
  refine ae_int (ar_I0i (aa_cons (ae_op (ae_take2 rfl (ae_int ⟨_, rfl, (by decide), (by decide), F + 3, rfl, fun v2 _ _ => ?_⟩)))))
  refine ae_int (ar_I0i (aa_cons (ae_int (aa_cons (ae_op (ae_take2 rfl (ae_op (ae_int (ae_int (ar_Ii (C := CPow) ⟨(by decide), (by decide), (by decide)⟩ ⟨_, rfl, (by decide), (by decide), F + 1, rfl, fun v3 _ _ => ?_⟩))))))))))
  refine ae_op (ae_int (ae_int (ar_Ii (C := CPow) ⟨(by decide), (by decide), (by decide)⟩ (ar_I0i (aa_nil ⟨(by show 6 ≤ sizeLine; decide), ?_⟩)))))
  refine as_ret (ae_ofL rfl (ae_var rfl ⟨_, rfl, (by show 1 ≤ 6; decide), (by show 6 ≤ 1000; decide), F, rfl, fun d hd => ⟨?_, _, rfl, Nat.le_refl _⟩⟩))
  have hd : d ∈ [Dt.non, Dt.non, Dt.int _, Dt.int _, Dt.int 0, Dt.int _] := hd
  simp only [List.mem_cons, List.not_mem_nil, or_false] at hd
  rcases hd with rfl | rfl | rfl | rfl | rfl | rfl
  · exact ⟨none, rfl⟩
  · exact ⟨none, rfl⟩
  all_goals exact ⟨some _, rfl⟩
theorem ok_l_rows (bl : Blts mg) {g_l_limit : Addr} {d_l_limit : FuncData} (c_l_limit : Cal P w K mg base 4 "_law_limit" p_l_limit (spB K 7 domL postL) g_l_limit d_l_limit)  {f : Addr} {fd : FuncData} (F : Fun K "_law_rows" "_law_rows" s_l_rows f fd) : FnOk P w K mg base CX0 5 f fd p_l_rows (spB K 112 (domN) (postRw)) := by
  refine okB F sc_l_rows (fun ds h => ?_) (fun cdv A outer s H E hr ds h => ?_)
  · obtain ⟨n, rfl, n1, n4⟩ := h
    rfl
  obtain ⟨n, rfl, n1, n4⟩ := h
  refine ⟨_, (pss_cons (ps_set (i := 2) sc_l_rows.nd rfl (by first | exact Or.inl rfl | exact Or.inr rfl) (pe_lst pa_nil))
    (pss_cons (ps_for PassesOwn.never rfl (pi_range1 rfl bl.range (pa_cons (pv 1) pa_nil)) (pg_name (i := 3) sc_l_rows.nd rfl (by first | exact Or.inl rfl | exact Or.inr rfl)) (pss_one (ps_expr (pe_bm PySem.F.plainAttrs_list PySem.F.slot_list_append PySem.F.type_list_append mt_append (pv 2) (pa_cons (pe_callTy call_tuple_of rfl bl.tuple (by decide +kernel) (pa_cons (pe_lc (own := [("_law_to", 4)]) (g := (gName 4)) (te := (tIf (tTest (tOp rEq (tVar 3) (tVar 4))) (tC (.int 0)) (tCall (spB K 7 domL postL) [] E0 (tCons (tVar 0) tNil)))) (tt := tYes) rfl sc_l_rows.nd (pi_range1 rfl bl.range (pa_cons (pv 1) pa_nil)) (blkOk_by (N := N_l_rows) (sc := defScope s_l_rows) (by decide +kernel)) (fun _ _ _ _ _ => (pg_name (i := 4) sc_l_rows.nd rfl (by first | exact Or.inl rfl | exact Or.inr rfl))) (fun _ _ _ _ _ => pts_nil) (fun _ _ _ _ _ => (pe_ifExp (pt_cmpR op_eq (pv 3) (pv 4) (nomark _)) pe_int (pe_call c_l_limit.ok (hr.mono (by decide)) rfl c_l_limit.mg c_l_limit.kp c_l_limit.bi .nil pass0 (pa_cons (pv 0) pa_nil))))) pa_nil)) pa_nil)))))
    (pss_one (ps_ret (pe_callTy call_tuple_of rfl bl.tuple (by decide +kernel) (pa_cons (pv 2) pa_nil)))))), fun b F => ?_⟩
  change AS K _ [En.bx _ _, En.da _, En.no, En.no, En.no] _ _
  try simp only [cxOf_K, cxOf_w]
  have z9 : 9000 ≤ sizeLine := by decide
  have rg : ∀ k : Nat, (rgD 0 ((k : Nat) : Int).toNat) = (List.range k).map fun i => Dt.int ((i : Nat) : Int) := fun k => by
    unfold rgD
    rw [Int.toNat_natCast]
    exact List.map_congr_left fun i _ => by rw [Int.zero_add]
  have rl : ∀ k : Nat, ((List.range k).map fun i => Dt.int ((i : Nat) : Int)).length = k := fun k => by rw [List.length_map, List.length_range]
  have hnn : n * n ≤ 16 := Nat.mul_le_mul n4 n4
  refine as_seq (as_own (aa_nil ⟨Nat.zero_le _, ?_⟩))
  refine as_seq (as_for (ai_rng1 (aa_cons (ae_var rfl (aa_nil ⟨_, rfl, (by omega), (by omega), ?_⟩)))))
  rw [rg]
  refine ⟨fun i ρ => ∃ f R e3, ρ = [.bx b f, .da (.int (n : Int)), .own (R.map rwT), e3, .no] ∧ F + 28 * (n - i) ≤ f ∧ Rw n i R, ⟨F + 112, [], .no, rfl, by omega, Rw.nil⟩, ?_, ?_⟩
  · rintro i d ρ2 hd ⟨f, R, e3, rfl, hf, rw1⟩
    obtain ⟨hi, rfl⟩ := rg_at hd
    obtain ⟨f1, rfl⟩ : ∃ f1, f = f1 + 28 := ⟨f - 28, by omega⟩
    have hf1 : F + 28 * (n - (i + 1)) ≤ f1 := by omega
    clear hf hd
    refine ag_name (as_append ?_ ⟨_, rfl⟩)
    refine ae_cb (aa_cons (ae_lc (ai_rng1 (aa_cons (ae_var rfl (aa_nil ⟨_, rfl, (by omega), (by omega), ?_⟩))))))
    rw [rg]
    refine ⟨fun j acc ρ => ∃ f2 L, acc = List.map oD L ∧ L.length = j ∧ (i < j → L[i]? = some (some 0)) ∧ ρ = [.bx b f2, .da (.int (n : Int)), .own (R.map rwT), .da (.int ((i : Nat) : Int)), .no] ∧ f1 + 7 * (n - j) ≤ f2, ⟨f1 + 28, [], rfl, rfl, fun h => absurd h (Nat.not_lt_zero _), rfl, by omega⟩, ?_, ?_⟩
    · rintro j d acc ρ3 hd ⟨f2, L, rfl, hL, h0, rfl, hf2⟩
      obtain ⟨hj, rfl⟩ := rg_at hd
      obtain ⟨f3, rfl⟩ : ∃ f3, f2 = f3 + 7 := ⟨f2 - 7, by omega⟩
      have go : ∀ (o : Option Int) (f4 : Nat), f1 + 7 * (n - (j + 1)) ≤ f4 → (i = j → o = some 0) → ∃ f2 L', List.map oD L ++ [oD o] = List.map oD L' ∧ L'.length = j + 1 ∧ (i < j + 1 → L'[i]? = some (some 0)) ∧ ([En.bx b f4, .da (.int (n : Int)), .own (R.map rwT), .da (.int ((i : Nat) : Int)), .no] : List En) = [.bx b f2, .da (.int (n : Int)), .own (R.map rwT), .da (.int ((i : Nat) : Int)), .no] ∧ f1 + 7 * (n - (j + 1)) ≤ f2 := fun o f4 h1 h2 => by
        refine ⟨f4, L ++ [o], by rw [List.map_append]; rfl, by rw [List.length_append, hL]; rfl, fun h => ?_, rfl, h1⟩
        rcases Nat.lt_or_ge i j with c | c
        · rw [List.getElem?_append_left (by omega)]; exact h0 c
        · have e : i = j := by omega
          rw [h2 e, List.getElem?_append_right (by omega), show i - L.length = 0 by omega]; rfl
      refine agv_name (by decide) (at_yes ⟨fun _ => ?_, fun z => nomatch z⟩)
      refine ae_if (at_test (ae_op (ae_var rfl (ae_var rfl (ar_eq3 ⟨rfl, rfl, rfl⟩ ⟨_, rfl, fun h => ae_int ⟨?_, go (some 0) _ (by omega) fun _ => rfl⟩, fun h => ae_draw rfl (aa_nil ⟨rfl, f3, rfl, fun d hd => ?_⟩)⟩)))))
      · rw [List.length_map]; omega
      · obtain ⟨o, rfl⟩ := hd
        refine ⟨?_, go o _ (by omega) fun e => ?_⟩
        · rw [List.length_map]; omega
        · exact absurd (show (V.int ((i : Nat) : Int)) = V.int ((j : Nat) : Int) by rw [e]) (of_decide_eq_false h)
    · rintro acc ρ3 ⟨f2, L, rfl, hL, h0, rfl, hf2⟩
      rw [rl] at hL h0 hf2
      refine ⟨fun k hk _ => by rw [List.mem_singleton.mp hk]; rfl, ?_⟩
      refine aa_nil (ac_tupL ⟨_, rfl, (by rw [List.length_map, rw1.r]; omega), ⟨f2, R ++ [L], .da (.int ((i : Nat) : Int)), (by rw [List.map_append]; rfl), by omega, rw1.app hL (h0 hi)⟩⟩)
  · rintro ρ ⟨f, R, e3, rfl, hf, rw1⟩
    rw [rl] at hf rw1
    refine as_ret (ae_cb (aa_cons (ae_frz (i := 2) rfl (ae_var rfl (aa_nil (ac_tupL ⟨fun m hm => ?_, _, rfl, by omega⟩))))))
    cases i_inj hm
    exact ⟨gO R, gO_row rw1, fun i hi => gO_dg rw1 hi⟩
theorem ok_l_ends (bl : Blts mg) {g4_l_take : Addr} {d4_l_take : FuncData} (c4_l_take : Cal P w K mg base 3 "_law_take" p_l_take (spB K 2 domT2 postT) g4_l_take d4_l_take) {g_l_of : Addr} {d_l_of : FuncData} (c_l_of : Cal P w K mg base 3 "_law_of" p_l_of (spB K 1 domO postO) g_l_of d_l_of)  {f : Addr} {fd : FuncData} (F : Fun K "_law_ends" "_law_ends" s_l_ends f fd) : FnOk P w K mg base CX0 4 f fd p_l_ends (spB K 32 (domN) (postEn)) := by
  refine okB F sc_l_ends (fun ds h => ?_) (fun cdv A outer s H E hr ds h => ?_)
  · obtain ⟨n, rfl, n1, n4⟩ := h
    rfl
  obtain ⟨n, rfl, n1, n4⟩ := h
  refine ⟨_, (pss_cons (ps_set (i := 2) sc_l_ends.nd rfl (by first | exact Or.inl rfl | exact Or.inr rfl) (pe_lst pa_nil))
    (pss_cons (ps_for PassesOwn.never rfl (pi_range1 rfl bl.range (pa_cons (pv 1) pa_nil)) (pg_name (i := 3) sc_l_ends.nd rfl (by first | exact Or.inl rfl | exact Or.inr rfl)) (pss_cons (ps_set (i := 4) sc_l_ends.nd rfl (by first | exact Or.inl rfl | exact Or.inr rfl) (pe_call c_l_of.ok (hr.mono (by decide)) rfl c_l_of.mg c_l_of.kp c_l_of.bi .nil pass0 (pa_cons (pv 0) (pa_cons (pe_lst (pa_cons pe_non (pa_cons (pe_op op_sub (pe_call c4_l_take.ok (hr.mono (by decide)) rfl c4_l_take.mg c4_l_take.kp c4_l_take.bi .nil pass0 (pa_cons (pv 0) (pa_cons pe_int pa_nil))) pe_int) (pa_cons (pe_op op_sub (pe_call c4_l_take.ok (hr.mono (by decide)) rfl c4_l_take.mg c4_l_take.kp c4_l_take.bi .nil pass0 (pa_cons (pv 0) (pa_cons pe_int pa_nil))) pe_int) (pa_cons (pe_op op_pow pe_int pe_int) pa_nil))))) pa_nil))))
    (pss_cons (ps_set (i := 5) sc_l_ends.nd rfl (by first | exact Or.inl rfl | exact Or.inr rfl) (pe_call c_l_of.ok (hr.mono (by decide)) rfl c_l_of.mg c_l_of.kp c_l_of.bi .nil pass0 (pa_cons (pv 0) (pa_cons (pe_lst (pa_cons pe_non (pa_cons pe_int (pa_cons (pe_call c4_l_take.ok (hr.mono (by decide)) rfl c4_l_take.mg c4_l_take.kp c4_l_take.bi .nil pass0 (pa_cons (pv 0) (pa_cons pe_int pa_nil))) (pa_cons (pe_op op_pow pe_int pe_int) pa_nil))))) pa_nil))))
    (pss_cons (ps_set (i := 6) sc_l_ends.nd rfl (by first | exact Or.inl rfl | exact Or.inr rfl) (pe_ifExp (pt_cmpR op_isN (pv 4) pe_non (nomark _)) pe_int (pv 4)))
    (pss_one (ps_expr (pe_bm PySem.F.plainAttrs_list PySem.F.slot_list_append PySem.F.type_list_append mt_append (pv 2) (pa_cons (pe_tup (pa_cons (pv 4) (pa_cons (pe_ifExp (pt_cmpR op_isN (pv 5) pe_non (nomark _)) pe_non (pe_op op_add (pv 6) (pv 5))) pa_nil))) pa_nil))))))))
    (pss_one (ps_ret (pv 2))))), fun b F => ?_⟩
  change AS K _ [En.bx _ _, En.da _, En.no, En.no, En.no, En.no, En.no] _ _
  try simp only [cxOf_K, cxOf_w]
  have z9 : 9000 ≤ sizeLine := by decide
  have rg : ∀ k : Nat, (rgD 0 ((k : Nat) : Int).toNat) = (List.range k).map fun i => Dt.int ((i : Nat) : Int) := fun k => by
    unfold rgD
    rw [Int.toNat_natCast]
    exact List.map_congr_left fun i _ => by rw [Int.zero_add]
  have rl : ∀ k : Nat, ((List.range k).map fun i => Dt.int ((i : Nat) : Int)).length = k := fun k => by rw [List.length_map, List.length_range]
  refine as_seq (as_own (aa_nil ⟨Nat.zero_le _, ?_⟩))
  refine as_seq (as_for (ai_rng1 (aa_cons (ae_var rfl (aa_nil ⟨_, rfl, (by omega), (by omega), ?_⟩)))))
  rw [rg]
  refine ⟨fun i ρ => ∃ f Q e3 e4 e5 e6, ρ = [.bx b f, .da (.int (n : Int)), .own (Q.map pOD), e3, e4, e5, e6] ∧ F + 8 * (n - i) ≤ f ∧ Q.length = i, ⟨F + 32, [], .no, .no, .no, .no, rfl, by omega, rfl⟩, ?_, ?_⟩
  · rintro i d ρ2 hd ⟨f, Q, e3, e4, e5, e6, rfl, hf, hQ⟩
    obtain ⟨hi, rfl⟩ := rg_at hd
    obtain ⟨f1, rfl⟩ : ∃ f1, f = f1 + 8 := ⟨f - 8, by omega⟩
    have hf1 : F + 8 * (n - (i + 1)) ≤ f1 := by omega
    clear hf hd
    refine ag_name (as_seq (as_set (ae_ofL rfl (ae_lst (aa_cons (ae_non (aa_cons (ae_op (ae_take2 rfl (ae_int ⟨_, rfl, (by decide), (by decide), f1 + 6, rfl, fun v1 _ _ => ?_⟩))))))))))
    refine ae_int (ar_I0i (aa_cons (ae_op (ae_take2 rfl (ae_int ⟨_, rfl, (by decide), (by decide), f1 + 4, rfl, fun v2 _ _ => ?_⟩)))))
    refine ae_int (ar_I0i (aa_cons (ae_op (ae_int (ae_int (ar_Ii (C := CPow) ⟨(by decide), (by decide), (by decide)⟩ (aa_nil ⟨(by show 4 ≤ sizeLine; omega), _, rfl, (by show 1 ≤ 4; decide), (by show 4 ≤ 1000; decide), f1 + 3, rfl, fun d hd => ?_⟩)))))))
    obtain ⟨lo, rfl⟩ : ∃ lo, d = oD lo := by
      have hd : d ∈ [Dt.non, Dt.int _, Dt.int _, Dt.int _] := hd
      simp only [List.mem_cons, List.not_mem_nil, or_false] at hd
      rcases hd with rfl | rfl | rfl | rfl
      · exact ⟨none, rfl⟩
      all_goals exact ⟨some _, rfl⟩
    clear hd
    refine as_seq (as_set (ae_ofL rfl (ae_lst (aa_cons (ae_non (aa_cons (ae_int (aa_cons (ae_take2 rfl (ae_int ⟨_, rfl, (by decide), (by decide), f1 + 1, rfl, fun v3 _ _ => ?_⟩))))))))))
    refine aa_cons (ae_op (ae_int (ae_int (ar_Ii (C := CPow) ⟨(by decide), (by decide), (by decide)⟩ (aa_nil ⟨(by show 4 ≤ sizeLine; omega), _, rfl, (by show 1 ≤ 4; decide), (by show 4 ≤ 1000; decide), f1, rfl, fun d hd => ?_⟩)))))
    obtain ⟨wi, rfl⟩ : ∃ wi, d = oD wi := by
      have hd : d ∈ [Dt.non, Dt.int 0, Dt.int _, Dt.int _] := hd
      simp only [List.mem_cons, List.not_mem_nil, or_false] at hd
      rcases hd with rfl | rfl | rfl | rfl
      · exact ⟨none, rfl⟩
      all_goals exact ⟨some _, rfl⟩
    clear hd
    have fin : ∀ (bs : Int), AS K (tDrop (tBM K "list" rAppend (tVar 2) (tCons (tTup (tCons (tVar 4) (tCons (tIf (tTest (tOp (fun x y H Q => y = .non ∧ Q (.bl (decide (x = .non))) H) (tVar 5) (tC .non))) (tC .non) (tOp (rI0 fun i j => .int (i + j)) (tVar 6) (tVar 5))) tNil))) tNil))) [.bx b f1, .da (.int (n : Int)), .own (Q.map pOD), .da (.int ((i : Nat) : Int)), .da (oD lo), .da (oD wi), .da (.int bs)] (fun ρ => ∃ (f : Nat) (Q : List (Option Int × Option Int)) (e3 e4 e5 e6 : En), ρ = [.bx b f, .da (.int (n : Int)), .own (Q.map pOD), e3, e4, e5, e6] ∧ F + 8 * (n - (i + 1)) ≤ f ∧ Q.length = i + 1) (fun d ρ => postEn [.int (n : Int)] d ∧ ∃ f, ρ[0]? = some (.bx b f) ∧ F ≤ f) := fun bs => by
      have go : ∀ hi : Option Int, ∃ l, ([En.bx b f1, .da (.int (n : Int)), .own (Q.map pOD), .da (.int ((i : Nat) : Int)), .da (oD lo), .da (oD wi), .da (.int bs)] : List En)[2]? = some (.own l) ∧ l.length < sizeLine ∧ ∃ (f : Nat) (Q' : List (Option Int × Option Int)) (e3 e4 e5 e6 : En), ([En.bx b f1, .da (.int (n : Int)), .own (Q.map pOD), .da (.int ((i : Nat) : Int)), .da (oD lo), .da (oD wi), .da (.int bs)] : List En).set 2 (.own (l ++ [.tup [oD lo, oD hi]])) = [.bx b f, .da (.int (n : Int)), .own (Q'.map pOD), e3, e4, e5, e6] ∧ F + 8 * (n - (i + 1)) ≤ f ∧ Q'.length = i + 1 := fun hi => ⟨_, rfl, (by rw [List.length_map, hQ]; omega), f1, Q ++ [(lo, hi)], _, _, _, _, (by rw [List.map_append]; rfl), hf1, by rw [List.length_append, hQ]; rfl⟩
      refine as_append (ae_tup (aa_cons (ae_var rfl (aa_cons (ae_ifN (i := 5) (o := wi) rfl (fun _ => ae_non (aa_nil ⟨(by show 2 ≤ sizeLine; omega), go none⟩)) (fun x e => ?_)))))) ⟨_, rfl⟩
      subst e
      exact ae_op (ae_var rfl (ae_var rfl (ar_I0i (aa_nil ⟨(by show 2 ≤ sizeLine; omega), go (some (bs + x))⟩))))
    refine as_seq (as_set (ae_ifN (i := 4) (o := lo) rfl (fun e => ae_int ?_) (fun x e => ?_)))
    · exact fin 0
    · subst e
      exact ae_var rfl (fin x)
  · rintro ρ ⟨f, Q, e3, e4, e5, e6, rfl, hf, hQ⟩
    rw [rl] at hf hQ
    refine as_ret (ae_frz (i := 2) rfl (ae_var rfl ⟨fun m hm => ?_, _, rfl, by omega⟩))
    cases i_inj hm
    exact ⟨_, _, pO_std hQ⟩
theorem ok_l_some_stores (bl : Blts mg) {g4_l_take : Addr} {d4_l_take : FuncData} (c4_l_take : Cal P w K mg base 3 "_law_take" p_l_take (spB K 2 domT2 postT) g4_l_take d4_l_take) {g_l_of : Addr} {d_l_of : FuncData} (c_l_of : Cal P w K mg base 3 "_law_of" p_l_of (spB K 1 domO postO) g_l_of d_l_of)  {f : Addr} {fd : FuncData} (F : Fun K "_law_some_stores" "_law_some_stores" s_l_some_stores f fd) : FnOk P w K mg base CX0 4 f fd p_l_some_stores (spB K 35 (domN) (postSs)) := by
  refine okB F sc_l_some_stores (fun ds h => ?_) (fun cdv A outer s H E hr ds h => ?_)
  · obtain ⟨n, rfl, n1, n4⟩ := h
    rfl
  obtain ⟨n, rfl, n1, n4⟩ := h
  refine ⟨_, (pss_cons (ps_set (i := 2) sc_l_some_stores.nd rfl (by first | exact Or.inl rfl | exact Or.inr rfl) (pe_call c_l_of.ok (hr.mono (by decide)) rfl c_l_of.mg c_l_of.kp c_l_of.bi .nil pass0 (pa_cons (pv 0) (pa_cons (pe_lst (pa_cons pe_int (pa_cons pe_int (pa_cons (pe_op op_pow pe_int pe_int) pa_nil)))) pa_nil))))
    (pss_cons (ps_set (i := 3) sc_l_some_stores.nd rfl (by first | exact Or.inl rfl | exact Or.inr rfl) (pe_lst pa_nil))
    (pss_cons (ps_for PassesOwn.never rfl (pi_range1 rfl bl.range (pa_cons (pe_op op_add pe_int (pe_call c4_l_take.ok (hr.mono (by decide)) rfl c4_l_take.mg c4_l_take.kp c4_l_take.bi .nil pass0 (pa_cons (pv 0) (pa_cons pe_int pa_nil)))) pa_nil)) (pg_name (i := 4) sc_l_some_stores.nd rfl (by first | exact Or.inl rfl | exact Or.inr rfl)) (pss_one (ps_expr (pe_bm PySem.F.plainAttrs_list PySem.F.slot_list_append PySem.F.type_list_append mt_append (pv 3) (pa_cons (pe_callTy call_tuple_of rfl bl.tuple (by decide +kernel) (pa_cons (pe_lc (own := [("_law_at", 5)]) (g := (gName 5)) (te := (tOp (rI0 fun i j => .int (i - j)) (tCall (spB K 2 domT2 postT) [] E0 (tCons (tVar 0) (tCons (tOp (rI CMul fun i j => .int (i * j)) (tC (.int 2)) (tVar 2)) tNil))) (tVar 2))) (tt := tYes) rfl sc_l_some_stores.nd (pi_range1 rfl bl.range (pa_cons (pv 1) pa_nil)) (blkOk_by (N := N_l_some_stores) (sc := defScope s_l_some_stores) (by decide +kernel)) (fun _ _ _ _ _ => (pg_name (i := 5) sc_l_some_stores.nd rfl (by first | exact Or.inl rfl | exact Or.inr rfl))) (fun _ _ _ _ _ => pts_nil) (fun _ _ _ _ _ => (pe_op op_sub (pe_call c4_l_take.ok (hr.mono (by decide)) rfl c4_l_take.mg c4_l_take.kp c4_l_take.bi .nil pass0 (pa_cons (pv 0) (pa_cons (pe_op op_mul pe_int (pv 2)) pa_nil))) (pv 2)))) pa_nil)) pa_nil)))))
    (pss_one (ps_ret (pv 3)))))), fun b F => ?_⟩
  change AS K _ [En.bx _ _, En.da _, En.no, En.no, En.no, En.no] _ _
  try simp only [cxOf_K, cxOf_w]
  have z9 : 9000 ≤ sizeLine := by decide
  have rg : ∀ k : Nat, (rgD 0 ((k : Nat) : Int).toNat) = (List.range k).map fun i => Dt.int ((i : Nat) : Int) := fun k => by
    unfold rgD
    rw [Int.toNat_natCast]
    exact List.map_congr_left fun i _ => by rw [Int.zero_add]
  have rl : ∀ k : Nat, ((List.range k).map fun i => Dt.int ((i : Nat) : Int)).length = k := fun k => by rw [List.length_map, List.length_range]
  refine as_seq (as_set (ae_ofL rfl (ae_lst (aa_cons (ae_int (aa_cons (ae_int (aa_cons (ae_op (ae_int (ae_int (ar_Ii (C := CPow) ⟨(by decide), (by decide), (by decide)⟩ (aa_nil ⟨(by show 3 ≤ sizeLine; omega), _, rfl, (by show 1 ≤ 3; decide), (by show 3 ≤ 1000; decide), F + 34, rfl, fun d hd => ?_⟩)))))))))))))
  obtain ⟨a, rfl, a4, a12⟩ : ∃ a, d = .int a ∧ 4 ≤ a ∧ a ≤ 1000000000000 := by
    have hd : d ∈ [Dt.int 4, Dt.int 9, Dt.int (10 ^ (12 : Int).toNat)] := hd
    simp only [List.mem_cons, List.not_mem_nil, or_false] at hd
    rcases hd with rfl | rfl | rfl
    · exact ⟨4, rfl, by decide, by decide⟩
    · exact ⟨9, rfl, by decide, by decide⟩
    · exact ⟨_, rfl, by decide, by decide⟩
  clear hd
  refine as_seq (as_own (aa_nil ⟨Nat.zero_le _, ?_⟩))
  refine as_seq (as_for (ai_rng1 (aa_cons (ae_op (ae_int (ae_take2 rfl (ae_int ⟨_, rfl, (by decide), (by decide), F + 32, rfl, fun v v0 v1 => ar_I0i (aa_nil ⟨_, rfl, (by omega), (by omega), ?_⟩)⟩)))))))
  obtain ⟨k, hk⟩ : ∃ k : Nat, 1 + v = (k : Int) := ⟨(1 + v).toNat, by omega⟩
  rw [hk, rg]
  have k1 : 1 ≤ k := by omega
  have k4 : k ≤ 4 := by omega
  clear hk v0 v1 v
  refine ⟨fun i ρ => ∃ f Q e4, ρ = [.bx b f, .da (.int (n : Int)), .da (.int a), .own (Q.map isD), e4, .no] ∧ F + 8 * (k - i) ≤ f ∧ Q.length = i ∧ ∀ s, s ∈ Q → s.length = n, ⟨F + 32, [], .no, rfl, by omega, rfl, fun s h => (by cases h)⟩, ?_, ?_⟩
  · rintro i d ρ2 hd ⟨f, Q, e4, rfl, hf, hQ, hq⟩
    obtain ⟨hi, rfl⟩ := rg_at hd
    obtain ⟨f1, rfl⟩ : ∃ f1, f = f1 + 8 := ⟨f - 8, by omega⟩
    have hf1 : F + 8 * (k - (i + 1)) ≤ f1 := by omega
    clear hf hd
    refine ag_name (as_append ?_ ⟨_, rfl⟩)
    refine ae_cb (aa_cons (ae_lc (ai_rng1 (aa_cons (ae_var rfl (aa_nil ⟨_, rfl, (by omega), (by omega), ?_⟩))))))
    rw [rg]
    refine ⟨fun j acc ρ => ∃ f2 s, acc = List.map Dt.int s ∧ s.length = j ∧ ρ = [.bx b f2, .da (.int (n : Int)), .da (.int a), .own (Q.map isD), .da (.int ((i : Nat) : Int)), .no] ∧ f1 + 2 * (n - j) ≤ f2, ⟨f1 + 8, [], rfl, rfl, rfl, by omega⟩, ?_, ?_⟩
    · rintro j d acc ρ3 hd ⟨f2, s, rfl, hs, rfl, hf2⟩
      obtain ⟨hj, rfl⟩ := rg_at hd
      obtain ⟨f3, rfl⟩ : ∃ f3, f2 = f3 + 2 := ⟨f2 - 2, by omega⟩
      refine agv_name (by decide) (at_yes ⟨fun _ => ?_, fun z => nomatch z⟩)
      refine ae_op (ae_take2 rfl (ae_op (ae_int (ae_var rfl (ar_Ii (C := CMul) (.inl ⟨(by omega), (by omega)⟩) ⟨_, rfl, (by omega), (by omega), f3, rfl, fun v v0 v1 => ae_var rfl (ar_I0i ⟨?_, f3, s ++ [v - a], ?_, ?_, rfl, ?_⟩)⟩)))))
      · rw [List.length_map]; omega
      · rw [List.map_append]; rfl
      · rw [List.length_append, hs]; rfl
      · omega
    · rintro acc ρ3 ⟨f2, s, rfl, hs, rfl, hf2⟩
      rw [rl] at hs hf2
      refine ⟨fun k hk _ => by rw [List.mem_singleton.mp hk]; rfl, ?_⟩
      refine aa_nil (ac_tupL ⟨_, rfl, (by rw [List.length_map, hQ]; omega), ⟨f2, Q ++ [s], .da (.int ((i : Nat) : Int)), (by rw [List.map_append]; rfl), by omega, by rw [List.length_append, hQ]; rfl, fun t ht => ?_⟩⟩)
      rcases List.mem_append.mp ht with ht | ht
      · exact hq t ht
      · rw [List.mem_singleton.mp ht]; exact hs
  · rintro ρ ⟨f, Q, e4, rfl, hf, hQ, hq⟩
    rw [rl] at hf hQ
    refine as_ret (ae_frz (i := 3) rfl (ae_var rfl ⟨fun m hm => ?_, _, rfl, by omega⟩))
    cases i_inj hm
    exact ⟨Q, rfl, (by intro e; rw [e] at hQ; simp at hQ; omega), by omega, hq⟩
theorem ok_l_shuffled (bl : Blts mg) {g4_l_take : Addr} {d4_l_take : FuncData} (c4_l_take : Cal P w K mg base 3 "_law_take" p_l_take (spB K 2 domT2 postT) g4_l_take d4_l_take)  {f : Addr} {fd : FuncData} (F : Fun K "_law_shuffled" "_law_shuffled" s_l_shuffled f fd) : FnOk P w K mg base CX0 4 f fd p_l_shuffled (spB K 8 (domS) (postS)) := by
  refine okB F sc_l_shuffled (fun ds h => ?_) (fun cdv A outer s H E hr ds h => ?_)
  · obtain ⟨l0, rfl, l4⟩ := h
    rfl
  obtain ⟨l0, rfl, l4⟩ := h
  refine ⟨_, (pss_cons (ps_par (i := 3) (j := 4) (by rfl) sc_l_shuffled.nd rfl rfl (by decide) rfl rfl (pa_cons (pe_callTy call_list_of rfl bl.list (by decide +kernel) (pa_cons (pv 1) pa_nil)) (pa_cons (pe_lst pa_nil) pa_nil)) (by rfl))
    (pss_cons (ps_for PassesOwn.never rfl (pi_range1 rfl bl.range (pa_cons (pe_callB call_len_seq rfl bl.len (by decide +kernel) (pa_cons (pv 3) pa_nil)) pa_nil)) (pg_name (i := 2) sc_l_shuffled.nd rfl (by first | exact Or.inl rfl | exact Or.inr rfl)) (pss_one (ps_expr (pe_bm PySem.F.plainAttrs_list PySem.F.slot_list_append PySem.F.type_list_append mt_append (pv 4) (pa_cons (pe_bm PySem.F.plainAttrs_list PySem.F.slot_list_pop PySem.F.type_list_pop mt_popAt (pv 3) (pa_cons (pe_call c4_l_take.ok (hr.mono (by decide)) rfl c4_l_take.mg c4_l_take.kp c4_l_take.bi .nil pass0 (pa_cons (pv 0) (pa_cons (pe_callB call_len_seq rfl bl.len (by decide +kernel) (pa_cons (pv 3) pa_nil)) pa_nil))) pa_nil)) pa_nil)))))
    (pss_one (ps_ret (pv 4))))), fun b F => ?_⟩
  change AS K _ [En.bx _ _, En.da _, En.no, En.no, En.no] _ _
  try simp only [cxOf_K, cxOf_w]
  have z9 : 9000 ≤ sizeLine := by decide
  have rg : ∀ k : Nat, (rgD 0 ((k : Nat) : Int).toNat) = (List.range k).map fun i => Dt.int ((i : Nat) : Int) := fun k => by
    unfold rgD
    rw [Int.toNat_natCast]
    exact List.map_congr_left fun i _ => by rw [Int.zero_add]
  have rl : ∀ k : Nat, ((List.range k).map fun i => Dt.int ((i : Nat) : Int)).length = k := fun k => by rw [List.length_map, List.length_range]
  refine as_seq (as_parL (ae_var rfl ⟨false, _, rfl, ?_⟩))
  refine as_seq (as_for (ai_rng1 (aa_cons (ae_lenOwn (i := 3) rfl (aa_nil ⟨_, rfl, (by omega), (by omega), ?_⟩)))))
  rw [rg]
  refine ⟨fun i ρ => ∃ f l r e2, ρ = [.bx b f, .da (.lst l0), e2, .own l, .own r] ∧ F + 2 * (l0.length - i) ≤ f ∧ r.length = i ∧ (r ++ l).Perm l0, ⟨F + 8, l0, [], .no, rfl, by omega, rfl, List.Perm.refl _⟩, ?_, ?_⟩
  · rintro i d ρ2 hd ⟨f, l, r, e2, rfl, hf, hr0, hp⟩
    obtain ⟨hi, rfl⟩ := rg_at hd
    obtain ⟨f1, rfl⟩ : ∃ f1, f = f1 + 2 := ⟨f - 2, by omega⟩
    have hl : i + l.length = l0.length := by have := hp.length_eq; rw [List.length_append, hr0] at this; exact this
    refine ag_name (as_append (ae_popAt ⟨_, rfl⟩ (ae_take2 rfl (ae_lenOwn (i := 3) rfl ⟨_, rfl, by omega, by omega, f1, rfl, fun v v0 v1 => ?_⟩))) ⟨_, rfl⟩)
    have hv : v.toNat < l.length := by omega
    refine ⟨l, v.toNat, l[v.toNat], (by rw [show ((v.toNat : Nat) : Int) = v by omega]), by omega, rfl, List.getElem?_eq_getElem hv, r, rfl, by omega, ⟨f1, l.eraseIdx v.toNat, r ++ [l[v.toNat]], .da (.int ((i : Nat) : Int)), rfl, by omega, by rw [List.length_append, hr0]; rfl, perm_pop hp (List.getElem?_eq_getElem hv)⟩⟩
  · rintro ρ ⟨f, l, r, e2, rfl, hf, hr0, hp⟩
    rw [rl] at hf hr0
    have hl : l = [] := by have := hp.length_eq; rw [List.length_append, hr0] at this; exact List.eq_nil_of_length_eq_zero (by omega)
    rw [hl, List.append_nil] at hp
    refine as_ret (ae_frz (i := 4) rfl (ae_var rfl ⟨fun m hm => ?_, _, rfl, by omega⟩))
    cases hm
    exact ⟨r, rfl, hp⟩
end
end Sh
set_option Elab.async false
set_option linter.all false
set_option maxRecDepth 100000
set_option maxHeartbeats 4000000
namespace Sh
open PySem PySem.Spec PyProof.Rows L2
abbrev s_l_joined : Stmt := topS 25
abbrev N_l_joined : List Str := ["_law_pairs_so", "_law_others", "_law_mine", "_law_its"]
abbrev p_l_joined : List Str := ["_law_pairs_so", "_law_others"]
theorem sc_l_joined : FnScope N_l_joined p_l_joined (defScope s_l_joined) := ⟨rfl, rfl, rfl, by decide +kernel, rfl, by decide +kernel, by decide +kernel⟩
abbrev s_l_in_order : Stmt := topS 27
abbrev N_l_in_order : List Str := ["_law_order_so", "_law_rows_here", "_law_pairs_so", "_law_made", "_law_at", "_law_to"]
abbrev p_l_in_order : List Str := ["_law_order_so", "_law_rows_here", "_law_pairs_so"]
theorem sc_l_in_order : FnScope N_l_in_order p_l_in_order (defScope s_l_in_order) := ⟨rfl, rfl, rfl, by decide +kernel, rfl, by decide +kernel, by decide +kernel⟩
abbrev s_l_shifted : Stmt := topS 28
abbrev N_l_shifted : List Str := ["_law_pairs_so", "_law_at", "_law_by", "_law_found", "_law_limit_here"]
abbrev p_l_shifted : List Str := ["_law_pairs_so", "_law_at", "_law_by"]
theorem sc_l_shifted : FnScope N_l_shifted p_l_shifted (defScope s_l_shifted) := ⟨rfl, rfl, rfl, by decide +kernel, rfl, by decide +kernel, by decide +kernel⟩
def S_jp (ds : List Dt) (r : Dt) : Prop := ∃ n st tt, ds = [prsD n (huL st) (huH st), prsD n (huL tt) (huH tt)] ∧ n ≤ 90 ∧ r = prsD n (jL st tt) (jH st tt)
def S_io (ds : List Dt) (r : Dt) : Prop := ∃ n p M lo hi, ds = [ordD p, gD true true n M, prsD n lo hi] ∧ Pm n p ∧ n ≤ 90 ∧ r = inD p M lo hi
def S_sf (ds : List Dt) (r : Dt) : Prop := ∃ (n : Nat) (lo hi : Nat → Option Int) (a : Nat) (v : Int), ds = [prsD n lo hi, .int (a : Int), .int v] ∧ a < n ∧ n ≤ 90 ∧ r = prsD n (shO a v lo) (shO a v hi)
def jpF : Dt → Dt
  | .tup [.tup [p, q], .tup [p', q']] => .tup [oD (tmH (unO p) (unO p')), oD (jnH (unO q) (unO q'))]
  | _ => .non
def shF (v : Int) : Dt → Dt
  | .int x => .int (x + v)
  | _ => .non
theorem shF_is {v : Int} {o : Option Int} : shF v (oD o) = oD (o.map (· + v)) := by cases o <;> rfl
theorem prs_at {n i : Nat} {lo hi : Nat → Option Int} (h : i < n) : ((List.range n).map fun i => Dt.tup [oD (lo i), oD (hi i)])[i]? = some (.tup [oD (lo i), oD (hi i)]) := by
  rw [List.getElem?_map, List.getElem?_range h]; rfl
theorem sh_set {n a : Nat} {v : Int} {lo hi : Nat → Option Int} (ha : a < n) : ((List.range n).map fun i => Dt.tup [oD (lo i), oD (hi i)]).set a (.tup [oD ((lo a).map (· + v)), oD ((hi a).map (· + v))]) = (List.range n).map fun i => .tup [oD (shO a v lo i), oD (shO a v hi i)] := by
  refine List.ext_getElem? fun i => ?_
  rw [List.getElem?_set, List.length_map, List.length_range]
  by_cases c : a = i
  · rw [if_pos c, if_pos ha, List.getElem?_map, List.getElem?_range (by omega)]
    show some _ = some (Dt.tup [oD (shO a v lo i), oD (shO a v hi i)])
    unfold shO
    rw [if_pos c.symm, if_pos c.symm, c]
  · rw [if_neg c]
    by_cases hi' : i < n
    · rw [prs_at hi', List.getElem?_map, List.getElem?_range hi']
      show some _ = some (Dt.tup [oD (shO a v lo i), oD (shO a v hi i)])
      unfold shO
      rw [if_neg (fun z => c z.symm), if_neg (fun z => c z.symm)]
    · rw [List.getElem?_eq_none (by simp; omega), List.getElem?_eq_none (by simp; omega)]
theorem gd_at {n i : Nat} {M : Mx} (h : i < n) : ((List.range n).map fun i => sq true (rwD n M i))[i]? = some (.tup (rwD n M i)) := by
  rw [List.getElem?_map, List.getElem?_range h]; rfl
def orF (f : Nat → Dt) : Dt → Dt
  | .int i => f i.toNat
  | _ => .non
theorem or_k {f : Nat → Dt} {k : Nat} : orF f (.int (k : Int)) = f k := by show f (Int.toNat _) = _; rw [Int.toNat_natCast]
theorem or_map {f : Nat → Dt} {p : List Nat} : (p.map fun (i : Nat) => Dt.int (i : Int)).map (orF f) = p.map f := by
  rw [List.map_map]; exact List.map_congr_left fun i _ => or_k
section
variable {P : Program} {w : World} {K : PySem.W.Frag} {mg : Str → Option Value} {base : Heap}
theorem ok_l_joined (bl : Blts mg)   {f : Addr} {fd : FuncData} (F : Fun K "_law_joined" "_law_joined" s_l_joined f fd) : FnOk P w K mg base CX0 1 f fd p_l_joined (spP K (S_jp)) := by
  refine okP F sc_l_joined (fun ds r h => ?_) (fun cdv A outer s H E hr ds r h => ?_)
  · obtain ⟨n, st, tt, rfl, n90, rfl⟩ := h
    rfl
  obtain ⟨n, st, tt, rfl, n90, rfl⟩ := h
  refine ⟨_, (pss_one (ps_ret (pe_lc (own := [("_law_mine", 2), ("_law_its", 3)]) (g := (gTup K 2 (gCons (gName 2) (gCons (gName 3) gNil)))) (te := (tTup (tCons (tCB (fun xs H Q => ∃ i j, xs = [.int i, .int j] ∧ Q (.int (if j < i then j else i)) H) (tCons (tOp (rIx K) (tVar 2) (tC (.int 0))) (tCons (tOp (rIx K) (tVar 3) (tC (.int 0))) tNil))) (tCons (tCB (fun xs H Q => ∃ i j, xs = [.int i, .int j] ∧ Q (.int (if j > i then j else i)) H) (tCons (tOp (rIx K) (tVar 2) (tC (.int 1))) (tCons (tOp (rIx K) (tVar 3) (tC (.int 1))) tNil))) tNil)))) (tt := tYes) rfl sc_l_joined.nd (pi_zipK rfl bl.zip (pa_cons (pv 0) (pa_cons (pv 1) pa_nil))) (blkOk_by (N := N_l_joined) (sc := defScope s_l_joined) (by decide +kernel)) (fun _ _ _ _ _ => (pg_tup rfl (pgs_cons (pg_name (i := 2) sc_l_joined.nd rfl (by first | exact Or.inl rfl | exact Or.inr rfl)) (pgs_cons (pg_name (i := 3) sc_l_joined.nd rfl (by first | exact Or.inl rfl | exact Or.inr rfl)) pgs_nil)))) (fun _ _ _ _ _ => pts_nil) (fun _ _ _ _ _ => (pe_tup (pa_cons (pe_callB (call_min2 rfl) rfl bl.min (by decide +kernel) (pa_cons (pe_ix ix_seq (pv 2) pe_int (fun _ _ => rfl)) (pa_cons (pe_ix ix_seq (pv 3) pe_int (fun _ _ => rfl)) pa_nil))) (pa_cons (pe_callB (call_max2 rfl) rfl bl.max (by decide +kernel) (pa_cons (pe_ix ix_seq (pv 2) pe_int (fun _ _ => rfl)) (pa_cons (pe_ix ix_seq (pv 3) pe_int (fun _ _ => rfl)) pa_nil))) pa_nil))))))), ?_⟩
  change AS K _ [En.da _, En.da _, En.no, En.no] _ _
  try simp only [cxOf_K]
  have z9 : 9000 ≤ sizeLine := by decide
  have rg : ∀ k : Nat, (rgD 0 ((k : Nat) : Int).toNat) = (List.range k).map fun i => Dt.int ((i : Nat) : Int) := fun k => by
    unfold rgD
    rw [Int.toNat_natCast]
    exact List.map_congr_left fun i _ => by rw [Int.zero_add]
  have rl : ∀ k : Nat, ((List.range k).map fun i => Dt.int ((i : Nat) : Int)).length = k := fun k => by rw [List.length_map, List.length_range]
  refine as_ret (ae_lcMap jpF (ai_zipK (aa_cons (ae_var rfl (aa_cons (ae_var rfl (aa_nil ⟨false, false, _, _, rfl, ?_⟩)))))))
  rw [zp_rg]
  refine ⟨(by rw [List.length_map, List.length_range]; omega), fun d hd => ?_, ?_⟩
  · obtain ⟨i, hi, rfl⟩ := List.mem_map.mp hd
    refine agv_tup rfl (agvs_cons (agv_name (by decide) (agvs_cons (agv_name (by decide) (agvs_nil (ae_tup (aa_cons (ae_cb (aa_cons (ae_op (ae_var rfl (ae_int (ar_ixTs rfl (aa_cons (ae_op (ae_var rfl (ae_int (ar_ixTs rfl (aa_nil (ac_min2 (aa_cons (ae_cb (aa_cons (ae_op (ae_var rfl (ae_int (ar_ixTs rfl (aa_cons (ae_op (ae_var rfl (ae_int (ar_ixTs rfl (aa_nil (ac_max2 (aa_nil ⟨(by show 2 ≤ sizeLine; omega), ?_, rfl⟩)))))))))))))))))))))))))))))))))))
    rfl
  · rw [List.map_map]; rfl
theorem ok_l_in_order (bl : Blts mg)   {f : Addr} {fd : FuncData} (F : Fun K "_law_in_order" "_law_in_order" s_l_in_order f fd) : FnOk P w K mg base CX0 1 f fd p_l_in_order (spP K (S_io)) := by
  refine okP F sc_l_in_order (fun ds r h => ?_) (fun cdv A outer s H E hr ds r h => ?_)
  · obtain ⟨n, p, M, lo, hi, rfl, pm, n90, rfl⟩ := h
    rfl
  obtain ⟨n, p, M, lo, hi, rfl, pm, n90, rfl⟩ := h
  refine ⟨_, (pss_cons (ps_setLc (i := 3) (own := [("_law_at", 4)]) (g := (gName 4)) (te := (tCB (fun xs H Q => ∃ p ys, xs = [.ref p] ∧ ((SqL K H p ys ∧ ∀ l, H l = none → Q (.ref l) (upd H l (.tup ys))) ∨ (SqT K H p ys ∧ Q (.ref p) H))) (tCons (tLc (iList K (tVar 0)) (gName 5) tYes (tOp (rIxT K) (tOp (rIxT K) (tVar 1) (tVar 4)) (tVar 5)) (List.map (fun x => x.2) [(("_law_to" : Str), (5 : Nat))])) tNil))) (tt := tYes) rfl sc_l_in_order.nd rfl rfl (sw_true rfl rfl rfl (by decide +kernel)) (pi_list (pv 0)) (blkOk_by (N := N_l_in_order) (sc := defScope s_l_in_order) (by decide +kernel)) (fun _ _ _ _ _ => (pg_name (i := 4) sc_l_in_order.nd rfl (by first | exact Or.inl rfl | exact Or.inr rfl))) (fun _ _ _ _ _ => pts_nil) (fun _ _ _ _ _ => (pe_callTy call_tuple_of rfl bl.tuple (by decide +kernel) (pa_cons (by exact (pe_lc (own := [("_law_to", 5)]) (g := (gName 5)) (te := (tOp (rIxT K) (tOp (rIxT K) (tVar 1) (tVar 4)) (tVar 5))) (tt := tYes) rfl sc_l_in_order.nd (pi_list (pv 0)) (blkOk_by (by rfl)) (fun _ _ _ _ _ => (pg_name (i := 5) sc_l_in_order.nd rfl (by first | exact Or.inl rfl | exact Or.inr rfl))) (fun _ _ _ _ _ => pts_nil) (fun _ _ _ _ _ => (pe_ix ix_tup (pe_ix ix_tup (pv 1) (pv 4) (fun _ _ => rfl)) (pv 5) (fun _ _ => rfl))))) pa_nil))))
    (pss_one (ps_ret (pe_tup (pa_cons (pe_callTy call_tuple_of rfl bl.tuple (by decide +kernel) (pa_cons (pv 3) pa_nil)) (pa_cons (pe_lc (own := [("_law_at", 4)]) (g := (gName 4)) (te := (tOp (rIxL K) (tVar 2) (tVar 4))) (tt := tYes) rfl sc_l_in_order.nd (pi_list (pv 0)) (blkOk_by (N := N_l_in_order) (sc := defScope s_l_in_order) (by decide +kernel)) (fun _ _ _ _ _ => (pg_name (i := 4) sc_l_in_order.nd rfl (by first | exact Or.inl rfl | exact Or.inr rfl))) (fun _ _ _ _ _ => pts_nil) (fun _ _ _ _ _ => (pe_ix ix_list (pv 2) (pv 4) (fun _ _ => rfl)))) pa_nil)))))), ?_⟩
  change AS K _ [En.da _, En.da _, En.da _, En.no, En.no, En.no] _ _
  try simp only [cxOf_K]
  have z9 : 9000 ≤ sizeLine := by decide
  have rg : ∀ k : Nat, (rgD 0 ((k : Nat) : Int).toNat) = (List.range k).map fun i => Dt.int ((i : Nat) : Int) := fun k => by
    unfold rgD
    rw [Int.toNat_natCast]
    exact List.map_congr_left fun i _ => by rw [Int.zero_add]
  have rl : ∀ k : Nat, ((List.range k).map fun i => Dt.int ((i : Nat) : Int)).length = k := fun k => by rw [List.length_map, List.length_range]
  have lp := pm.len
  have inn : ∀ {a : Nat}, a ∈ p → a < n := fun h => pm.lt _ h
  refine as_seq (as_set (ae_lcMap (orF fun a => .tup (p.map fun b => oD (M a b))) (ai_list (ae_var rfl ⟨_, rfl, (by rw [List.length_map]; omega), fun d hd => ?_, ?_⟩))))
  · obtain ⟨a, ha, rfl⟩ := List.mem_map.mp hd
    refine agv_name (by decide) (ae_cb (aa_cons (ae_lcMap (orF fun b => oD (M a b)) (ai_list (ae_var rfl ⟨_, rfl, (by rw [List.length_map]; omega), fun d hd => ?_, ?_⟩)))))
    · obtain ⟨c, hc, rfl⟩ := List.mem_map.mp hd
      refine agv_name (by decide) (ae_op (ae_op (ae_var rfl (ae_var rfl (ar_ixT (atI_nat (gd_at (inn ha))) (ae_var rfl (ar_ixT (atI_nat (rwD_at (inn hc))) ⟨?_, rfl⟩)))))))
      rw [or_k]
    · rw [or_map]
      exact aa_nil (ac_tupL ⟨by rw [or_k], rfl⟩)
  rw [or_map]
  refine as_ret (ae_tup (aa_cons (ae_cb (aa_cons (ae_var rfl (aa_nil (ac_tupL (aa_cons (ae_lcMap (orF fun a => .tup [oD (lo a), oD (hi a)]) (ai_list (ae_var rfl ⟨_, rfl, (by rw [List.length_map]; omega), fun d hd => ?_, ?_⟩)))))))))))
  · obtain ⟨a, ha, rfl⟩ := List.mem_map.mp hd
    refine agv_name (by decide) (ae_op (ae_var rfl (ae_var rfl (ar_ixL (atI_nat (prs_at (inn ha))) ⟨?_, rfl⟩))))
    rw [or_k]
  rw [or_map]
  exact aa_nil ⟨(by show 2 ≤ sizeLine; omega), rfl⟩
theorem ok_l_shifted (bl : Blts mg)   {f : Addr} {fd : FuncData} (F : Fun K "_law_shifted" "_law_shifted" s_l_shifted f fd) : FnOk P w K mg base CX0 1 f fd p_l_shifted (spP K (S_sf)) := by
  refine okP F sc_l_shifted (fun ds r h => ?_) (fun cdv A outer s H E hr ds r h => ?_)
  · obtain ⟨n, lo, hi, a, v, rfl, ha, n90, rfl⟩ := h
    rfl
  obtain ⟨n, lo, hi, a, v, rfl, ha, n90, rfl⟩ := h
  refine ⟨_, (pss_cons (ps_set (i := 3) sc_l_shifted.nd rfl (by first | exact Or.inl rfl | exact Or.inr rfl) (pe_callTy call_list_of rfl bl.list (by decide +kernel) (pa_cons (pv 0) pa_nil)))
    (pss_cons (ps_asg (pe_callTy call_tuple_of rfl bl.tuple (by decide +kernel) (pa_cons (pe_lc (own := [("_law_limit_here", 4)]) (g := (gName 4)) (te := (tIf (tTest (tOp (fun x y H Q => y = .non ∧ Q (.bl (decide (x = .non))) H) (tVar 4) (tC .non))) (tC .non) (tOp (rI0 fun i j => .int (i + j)) (tVar 4) (tVar 2)))) (tt := tYes) rfl sc_l_shifted.nd (pi_tup (pe_ix ix_list (pv 0) (pv 1) (fun _ _ => rfl))) (blkOk_by (N := N_l_shifted) (sc := defScope s_l_shifted) (by decide +kernel)) (fun _ _ _ _ _ => (pg_name (i := 4) sc_l_shifted.nd rfl (by first | exact Or.inl rfl | exact Or.inr rfl))) (fun _ _ _ _ _ => pts_nil) (fun _ _ _ _ _ => (pe_ifExp (pt_cmpR op_isN (pv 4) pe_non (nomark _)) pe_non (pe_op op_add (pv 4) (pv 2))))) pa_nil)) (pg_sub (pv 3) (pv 1) set_list))
    (pss_one (ps_ret (pv 3))))), ?_⟩
  change AS K _ [En.da _, En.da _, En.da _, En.no, En.no] _ _
  try simp only [cxOf_K]
  have z9 : 9000 ≤ sizeLine := by decide
  have rg : ∀ k : Nat, (rgD 0 ((k : Nat) : Int).toNat) = (List.range k).map fun i => Dt.int ((i : Nat) : Int) := fun k => by
    unfold rgD
    rw [Int.toNat_natCast]
    exact List.map_congr_left fun i _ => by rw [Int.zero_add]
  have rl : ∀ k : Nat, ((List.range k).map fun i => Dt.int ((i : Nat) : Int)).length = k := fun k => by rw [List.length_map, List.length_range]
  refine as_seq (as_ownList (ae_var rfl ⟨false, _, rfl, ?_⟩))
  refine as_seq (as_setAtI (ae_cb (aa_cons (ae_lcMap (shF v) (ai_tup (ae_op (ae_var rfl (ae_var rfl (ar_ixL (atI_nat (prs_at ha)) ⟨_, rfl, (by show 2 < sizeLine; omega), fun d hd => ?_, ?_⟩)))))))))
  · obtain ⟨o, rfl⟩ : ∃ o, d = oD o := by
      simp only [List.mem_cons, List.not_mem_nil, or_false] at hd
      rcases hd with rfl | rfl
      · exact ⟨_, rfl⟩
      · exact ⟨_, rfl⟩
    refine agv_name (by decide) (ae_ifN (i := 4) (o := o) rfl (fun e => ae_non ⟨?_, rfl⟩) (fun x e => ?_))
    · subst e; rfl
    · subst e
      exact ae_op (ae_var rfl (ae_var rfl (ar_I0i ⟨rfl, rfl⟩)))
  rw [show [oD (lo a), oD (hi a)].map (shF v) = [oD ((lo a).map (· + v)), oD ((hi a).map (· + v))] by rw [List.map_cons, List.map_cons, shF_is, shF_is]; rfl]
  refine aa_nil (ac_tupL ⟨⟨_, rfl⟩, ae_var rfl ⟨_, _, a, rfl, rfl, ?_, ?_⟩⟩)
  · rw [List.length_map, List.length_range]
    unfold ixN
    rw [if_pos (by omega), if_pos (by omega), Int.toNat_natCast]
  refine as_frz (i := 3) rfl ?_
  rw [sh_set ha]
  exact as_ret (ae_var rfl rfl)
end
end Sh
set_option Elab.async false
set_option linter.all false
set_option maxRecDepth 100000
set_option maxHeartbeats 4000000
namespace Sh
open PySem PySem.Spec PyProof.Rows L2
abbrev s_l_drawn_right : Stmt := topS 29
abbrev N_l_drawn_right : List Str := ["_law_box_here", "_law_size", "_law_found", "_law_order_so", "_law_twisted", "_law_later", "_law_moved_so", "_law_limit_here", "_law_rows_here", "_law_pairs_so", "_law_at", "_law_to", "_law_by", "_law_more"]
abbrev p_l_drawn_right : List Str := ["_law_box_here", "_law_size"]
theorem sc_l_drawn_right : FnScope N_l_drawn_right p_l_drawn_right (defScope s_l_drawn_right) := ⟨rfl, rfl, rfl, by decide +kernel, rfl, by decide +kernel, by decide +kernel⟩
theorem deps_le {n : Nat} : ∀ {l : List Dt}, (∀ d ∈ l, d.dep ≤ n) → deps l ≤ n
  | [], _ => Nat.zero_le _
  | d :: l, h => by
    unfold deps
    have h1 := h d List.mem_cons_self
    have h2 := deps_le (l := l) fun e he => h e (List.mem_cons_of_mem _ he)
    omega
theorem fits_all : ∀ {l : List Dt}, (∀ d ∈ l, d.fit = true) → fits l = true
  | [], _ => rfl
  | d :: l, h => by
    unfold fits
    rw [h d List.mem_cons_self, fits_all (l := l) fun e he => h e (List.mem_cons_of_mem _ he)]; rfl
def DF (n : Nat) (d : Dt) : Prop := d.dep ≤ n ∧ d.fit = true
theorem df_tup {n : Nat} {l : List Dt} (h1 : l.length ≤ 9000) (h : ∀ d ∈ l, DF n d) : DF (n + 1) (.tup l) := ⟨Nat.succ_le_succ (deps_le fun d hd => (h d hd).1), by
  show (decide (l.length ≤ 9000) && fits l) = true
  rw [fits_all fun d hd => (h d hd).2, decide_eq_true h1]; rfl⟩
theorem df_lst {n : Nat} {l : List Dt} (h1 : l.length ≤ 9000) (h : ∀ d ∈ l, DF n d) : DF (n + 1) (.lst l) := ⟨Nat.succ_le_succ (deps_le fun d hd => (h d hd).1), by
  show (decide (l.length ≤ 9000) && fits l) = true
  rw [fits_all fun d hd => (h d hd).2, decide_eq_true h1]; rfl⟩
theorem df_sq {n : Nat} {k : Bool} {l : List Dt} (h1 : l.length ≤ 9000) (h : ∀ d ∈ l, DF n d) : DF (n + 1) (sq k l) := by
  cases k
  · exact df_lst h1 h
  · exact df_tup h1 h
theorem df_o {o : Option Int} : DF 1 (oD o) := by cases o <;> exact ⟨Nat.le_refl _, rfl⟩
theorem df_2 {n : Nat} {a b : Dt} (h1 : DF n a) (h2 : DF n b) : DF (n + 1) (.tup [a, b]) := df_tup (by show 2 ≤ 9000; decide) fun d hd => by
  simp only [List.mem_cons, List.not_mem_nil, or_false] at hd
  rcases hd with rfl | rfl
  · exact h1
  · exact h2
theorem df_rgl {n m : Nat} {f : Nat → Dt} (h1 : m ≤ 9000) (h : ∀ i, DF n (f i)) : DF (n + 1) (.lst ((List.range m).map f)) := df_lst (by simpa using h1) fun d hd => by
  obtain ⟨i, _, rfl⟩ := List.mem_map.mp hd
  exact h i
theorem df_gD {k k' : Bool} {n : Nat} {M : Mx} (h : n ≤ 9000) : DF 3 (gD k k' n M) := df_sq (by simpa using h) fun d hd => by
  obtain ⟨i, _, rfl⟩ := List.mem_map.mp hd
  refine df_sq (by rw [rw_rg]; simpa using h) fun e he => ?_
  rw [rw_rg] at he
  obtain ⟨j, _, rfl⟩ := List.mem_map.mp he
  exact df_o
theorem df_prs {n : Nat} {lo hi : Nat → Option Int} (h : n ≤ 9000) : DF 3 (prsD n lo hi) := df_rgl h fun i => df_2 df_o df_o
theorem df_cls {n : Nat} {F : Mx} (h : n ≤ 9000) : DF 4 (clsD n F) := df_2 (df_gD h) (df_prs h)
theorem df_in {n : Nat} {p : List Nat} (pm : Pm n p) {M : Mx} {lo hi : Nat → Option Int} (h : n ≤ 9000) : DF 4 (inD p M lo hi) := by
  rw [in_std pm]; exact df_2 (df_gD h) (df_prs h)
theorem ae_lstRg1 {K : PySem.W.Frag} {ρ : List En} {Ψ : Dt → List En → Prop} {ta : TE} (h : AE K ta ρ fun d ρ1 => ∃ j : Int, d = .int j ∧ RgOk 0 j ∧ Ψ (.lst (rgD 0 j.toNat)) ρ1) : AE K (tLstRg (tRg1 ta)) ρ Ψ := fun B σ G H m Q q =>
  h B σ G H m _ fun x d ρ1 G1 H1 m1 s1 t1 r1 ⟨j, e1, ok, p⟩ => by
    subst e1
    refine ⟨j, r1, ok, fun p' hp => ?_⟩
    have n := Nw.new (o := .lst (((List.range (j - 0).toNat).map fun (k : Nat) => V.int (0 + (k : Int))))) m1.sub hp
    have e : (j - 0).toNat = j.toNat := by rw [Int.sub_zero]
    have rr : RDs K (upd G1 p' (.lst ((List.range (j - 0).toNat).map fun (k : Nat) => V.int (0 + (k : Int))))) (rgD 0 j.toNat) ((List.range (j - 0).toNat).map fun (k : Nat) => V.int (0 + (k : Int))) := by
      rw [e]
      have : ∀ l : List Nat, RDs K (upd G1 p' (.lst ((List.range j.toNat).map fun (k : Nat) => V.int (0 + (k : Int))))) (l.map fun (k : Nat) => Dt.int (0 + (k : Int))) (l.map fun (k : Nat) => V.int (0 + (k : Int))) := fun l => by
        induction l with
        | nil => exact rfl
        | cons a l ih => exact ⟨_, _, rfl, rfl, ih⟩
      exact this _
    exact q _ (.lst (rgD 0 j.toNat)) ρ1 _ _ (m1.nw n) (s1.trans n.g) (t1.trans (Tr.same n.h)) ⟨p', _, rfl, upd_same, rr⟩ p
theorem ord_of {n : Nat} {l : List Dt} (h : l.Perm ((List.range n).map fun i => Dt.int ((i : Nat) : Int))) : ∃ p, Pm n p ∧ Dt.lst l = ordD p := by
  have hp := h.map (fun d => match d with | Dt.int i => i.toNat | _ => 0)
  rw [List.map_map] at hp
  have e : (List.range n).map ((fun d => match d with | Dt.int i => i.toNat | _ => 0) ∘ fun i => Dt.int ((i : Nat) : Int)) = List.range n := by
    refine Eq.trans (List.map_congr_left fun i _ => ?_) (List.map_id _)
    exact Int.toNat_natCast i
  rw [e] at hp
  refine ⟨_, pm_of hp, ?_⟩
  unfold ordD
  rw [List.map_map]
  congr 1
  refine (Eq.trans (List.map_congr_left fun d hd => ?_) (List.map_id _)).symm
  obtain ⟨i, _, rfl⟩ := List.mem_map.mp (h.mem_iff.mp hd)
  show Dt.int ((((i : Nat) : Int).toNat : Nat) : Int) = _
  rw [Int.toNat_natCast]; rfl
def postB (_ : List Dt) (d : Dt) : Prop := d = .bl true
section
variable {P : Program} {w : World} {K : PySem.W.Frag} {mg : Str → Option Value} {base : Heap}
theorem ok_l_drawn_right (bl : Blts mg) {g4_l_take : Addr} {d4_l_take : FuncData} (c4_l_take : Cal P w K mg base 3 "_law_take" p_l_take (spB K 2 domT2 postT) g4_l_take d4_l_take) {g_l_rows : Addr} {d_l_rows : FuncData} (c_l_rows : Cal P w K mg base 5 "_law_rows" p_l_rows (spB K 112 domN postRw) g_l_rows d_l_rows) {g_l_ends : Addr} {d_l_ends : FuncData} (c_l_ends : Cal P w K mg base 4 "_law_ends" p_l_ends (spB K 32 domN postEn) g_l_ends d_l_ends) {g_l_shuffled : Addr} {d_l_shuffled : FuncData} (c_l_shuffled : Cal P w K mg base 4 "_law_shuffled" p_l_shuffled (spB K 8 domS postS) g_l_shuffled d_l_shuffled) {g_l_in_order : Addr} {d_l_in_order : FuncData} (c_l_in_order : Cal P w K mg base 1 "_law_in_order" p_l_in_order (spP K S_io) g_l_in_order d_l_in_order) {g_l_shifted : Addr} {d_l_shifted : FuncData} (c_l_shifted : Cal P w K mg base 1 "_law_shifted" p_l_shifted (spP K S_sf) g_l_shifted d_l_shifted) {g_gaps_closed : Addr} {d_gaps_closed : FuncData} (c_gaps_closed : Cal P w K mg base 3 "gaps_closed" p_gaps_closed (spP K S_gc) g_gaps_closed d_gaps_closed) {g_gaps_within : Addr} {d_gaps_within : FuncData} (c_gaps_within : Cal P w K mg base 2 "gaps_within" p_gaps_within (spP K S_gw) g_gaps_within d_gaps_within) {g_gaps_moved : Addr} {d_gaps_moved : FuncData} (c_gaps_moved : Cal P w K mg base 2 "gaps_moved" p_gaps_moved (spP K S_mv) g_gaps_moved d_gaps_moved) {g_gaps_bound : Addr} {d_gaps_bound : FuncData} (c_gaps_bound : Cal P w K mg base 2 "gaps_bound" p_gaps_bound (spP K S_bd) g_gaps_bound d_gaps_bound) {g_l_same : Addr} {d_l_same : FuncData} (c_l_same : Cal P w K mg base 4 "_law_same" p_l_same (spP K (S_same 4)) g_l_same d_l_same)  {f : Addr} {fd : FuncData} (F : Fun K "_law_drawn_right" "_law_drawn_right" s_l_drawn_right f fd) : FnOk P w K mg base CX0 6 f fd p_l_drawn_right (spB K 160 (domN) (postB)) := by
  refine okB F sc_l_drawn_right (fun ds h => ?_) (fun cdv A outer s H E hr ds h => ?_)
  · obtain ⟨n, rfl, n1, n4⟩ := h
    rfl
  obtain ⟨n, rfl, n1, n4⟩ := h
  refine ⟨_, (pss_cons (ps_par (i := 8) (j := 9) (by rfl) sc_l_drawn_right.nd rfl rfl (by decide) rfl rfl (pa_cons (pe_call c_l_rows.ok (hr.mono (by decide)) rfl c_l_rows.mg c_l_rows.kp c_l_rows.bi .nil pass0 (pa_cons (pv 0) (pa_cons (pv 1) pa_nil))) (pa_cons (pe_call c_l_ends.ok (hr.mono (by decide)) rfl c_l_ends.mg c_l_ends.kp c_l_ends.bi .nil pass0 (pa_cons (pv 0) (pa_cons (pv 1) pa_nil))) pa_nil)) (by rfl))
    (pss_cons (ps_set (i := 2) sc_l_drawn_right.nd rfl (by first | exact Or.inl rfl | exact Or.inr rfl) (pe_call c_gaps_closed.ok (hr.mono (by decide)) rfl c_gaps_closed.mg c_gaps_closed.kp c_gaps_closed.bi .nil pass0 (pa_cons (pv 8) (pa_cons (pv 9) pa_nil))))
    (pss_cons (ps_set (i := 3) sc_l_drawn_right.nd rfl (by first | exact Or.inl rfl | exact Or.inr rfl) (pe_call c_l_shuffled.ok (hr.mono (by decide)) rfl c_l_shuffled.mg c_l_shuffled.kp c_l_shuffled.bi .nil pass0 (pa_cons (pv 0) (pa_cons (pe_listRg rfl rfl bl.list (prg_1 rfl bl.range (pv 1))) pa_nil))))
    (pss_cons (ps_set (i := 4) sc_l_drawn_right.nd rfl (by first | exact Or.inl rfl | exact Or.inr rfl) (pe_call c_l_in_order.ok (hr.mono (by decide)) rfl c_l_in_order.mg c_l_in_order.kp c_l_in_order.bi .nil pass0 (pa_cons (pv 3) (pa_cons (pv 8) (pa_cons (pv 9) pa_nil)))))
    (pss_cons (ps_set (i := 5) sc_l_drawn_right.nd rfl (by first | exact Or.inl rfl | exact Or.inr rfl) (pe_call c_gaps_closed.ok (hr.mono (by decide)) rfl c_gaps_closed.mg c_gaps_closed.kp c_gaps_closed.bi .nil pass0 (pa_cons (pe_ix ix_tup (pv 4) pe_int (fun _ _ => rfl)) (pa_cons (pe_ix ix_tup (pv 4) pe_int (fun _ _ => rfl)) pa_nil))))
    (pss_cons (ps_if (pt_cmpR op_isN (pv 2) pe_non (nomark _)) (pss_one (ps_ret (pe_cmpR op_isN (pv 5) pe_non (nomark _)))) pss_nil)
    (pss_cons (ps_if (pt_not (pt_val (pe_call c_l_same.ok (hr.mono (by decide)) rfl c_l_same.mg c_l_same.kp c_l_same.bi .nil pass0 (pa_cons (pv 5) (pa_cons (pe_call c_l_in_order.ok (hr.mono (by decide)) rfl c_l_in_order.mg c_l_in_order.kp c_l_in_order.bi .nil pass0 (pa_cons (pv 3) (pa_cons (pe_ix ix_tup (pv 2) pe_int (fun _ _ => rfl)) (pa_cons (pe_ix ix_tup (pv 2) pe_int (fun _ _ => rfl)) pa_nil)))) pa_nil))))) (pss_one (ps_ret pe_bl)) pss_nil)
    (pss_cons (ps_par3 (i := 10) (j := 11) (l := 12) (by rfl) sc_l_drawn_right.nd rfl rfl rfl (by decide) (by decide) (by decide) rfl rfl rfl (pa_cons (pe_call c4_l_take.ok (hr.mono (by decide)) rfl c4_l_take.mg c4_l_take.kp c4_l_take.bi .nil pass0 (pa_cons (pv 0) (pa_cons (pv 1) pa_nil))) (pa_cons (pe_call c4_l_take.ok (hr.mono (by decide)) rfl c4_l_take.mg c4_l_take.kp c4_l_take.bi .nil pass0 (pa_cons (pv 0) (pa_cons (pv 1) pa_nil))) (pa_cons (pe_op op_sub (pe_call c4_l_take.ok (hr.mono (by decide)) rfl c4_l_take.mg c4_l_take.kp c4_l_take.bi .nil pass0 (pa_cons (pv 0) (pa_cons pe_int pa_nil))) pe_int) pa_nil))) (by rfl))
    (pss_cons (ps_if (PW.pt (pw_or (pt_not (pt_val (pe_call c_l_same.ok (hr.mono (by decide)) rfl c_l_same.mg c_l_same.kp c_l_same.bi .nil pass0 (pa_cons (pe_call c_gaps_closed.ok (hr.mono (by decide)) rfl c_gaps_closed.mg c_gaps_closed.kp c_gaps_closed.bi .nil pass0 (pa_cons (pe_ix ix_tup (pv 2) pe_int (fun _ _ => rfl)) (pa_cons (pe_ix ix_tup (pv 2) pe_int (fun _ _ => rfl)) pa_nil))) (pa_cons (pv 2) pa_nil))))) (pw_or1 (pt_cmpR op_notBl (pe_call c_gaps_within.ok (hr.mono (by decide)) rfl c_gaps_within.mg c_gaps_within.kp c_gaps_within.bi .nil pass0 (pa_cons (pe_ix ix_tup (pv 2) pe_int (fun _ _ => rfl)) (pa_cons (pv 8) pa_nil))) pe_bl (nomark _))))) (pss_one (ps_ret pe_bl)) pss_nil)
    (pss_cons (ps_set (i := 6) sc_l_drawn_right.nd rfl (by first | exact Or.inl rfl | exact Or.inr rfl) (pe_call c_gaps_closed.ok (hr.mono (by decide)) rfl c_gaps_closed.mg c_gaps_closed.kp c_gaps_closed.bi .nil pass0 (pa_cons (pe_call c_gaps_moved.ok (hr.mono (by decide)) rfl c_gaps_moved.mg c_gaps_moved.kp c_gaps_moved.bi .nil pass0 (pa_cons (pv 8) (pa_cons (pv 10) (pa_cons (pv 12) pa_nil)))) (pa_cons (pe_call c_l_shifted.ok (hr.mono (by decide)) rfl c_l_shifted.mg c_l_shifted.kp c_l_shifted.bi .nil pass0 (pa_cons (pv 9) (pa_cons (pv 10) (pa_cons (pv 12) pa_nil)))) pa_nil))))
    (pss_cons (ps_if (pt_not (pt_val (pe_call c_l_same.ok (hr.mono (by decide)) rfl c_l_same.mg c_l_same.kp c_l_same.bi .nil pass0 (pa_cons (pv 6) (pa_cons (pe_tup (pa_cons (pe_call c_gaps_moved.ok (hr.mono (by decide)) rfl c_gaps_moved.mg c_gaps_moved.kp c_gaps_moved.bi .nil pass0 (pa_cons (pe_ix ix_tup (pv 2) pe_int (fun _ _ => rfl)) (pa_cons (pv 10) (pa_cons (pv 12) pa_nil)))) (pa_cons (pe_call c_l_shifted.ok (hr.mono (by decide)) rfl c_l_shifted.mg c_l_shifted.kp c_l_shifted.bi .nil pass0 (pa_cons (pe_ix ix_tup (pv 2) pe_int (fun _ _ => rfl)) (pa_cons (pv 10) (pa_cons (pv 12) pa_nil)))) pa_nil))) pa_nil))))) (pss_one (ps_ret pe_bl)) pss_nil)
    (pss_cons (ps_set (i := 7) sc_l_drawn_right.nd rfl (by first | exact Or.inl rfl | exact Or.inr rfl) (pe_ix ix_seq (pe_ix ix_tup (pv 2) pe_int (fun _ _ => rfl)) (pv 10) (fun _ _ => rfl)))
    (pss_cons (ps_set (i := 7) sc_l_drawn_right.nd rfl (by first | exact Or.inl rfl | exact Or.inr rfl) (pe_ix ix_seq (pv 7) (pv 11) (fun _ _ => rfl)))
    (pss_cons (ps_if (PW.pt (pw_and (pt_cmpR op_ne (pv 10) (pv 11) (nomark _)) (pw_and1 (pt_cmpR op_notN (pv 7) pe_non (nomark _))))) (pss_cons (ps_set (i := 13) sc_l_drawn_right.nd rfl (by first | exact Or.inl rfl | exact Or.inr rfl) (pe_call c_gaps_bound.ok (hr.mono (by decide)) rfl c_gaps_bound.mg c_gaps_bound.kp c_gaps_bound.bi .nil pass0 (pa_cons (pv 8) (pa_cons (pv 10) (pa_cons (pv 11) (pa_cons (pe_op op_add (pv 7) (pe_call c4_l_take.ok (hr.mono (by decide)) rfl c4_l_take.mg c4_l_take.kp c4_l_take.bi .nil pass0 (pa_cons (pv 0) (pa_cons pe_int pa_nil)))) pa_nil))))))
    (pss_one (ps_ret (pe_call c_l_same.ok (hr.mono (by decide)) rfl c_l_same.mg c_l_same.kp c_l_same.bi .nil pass0 (pa_cons (pe_call c_gaps_closed.ok (hr.mono (by decide)) rfl c_gaps_closed.mg c_gaps_closed.kp c_gaps_closed.bi .nil pass0 (pa_cons (pv 13) (pa_cons (pv 9) pa_nil))) (pa_cons (pv 2) pa_nil)))))) pss_nil)
    (pss_one (ps_ret pe_bl)))))))))))))))), fun b F => ?_⟩
  change AS K _ [En.bx _ _, En.da _, En.no, En.no, En.no, En.no, En.no, En.no, En.no, En.no, En.no, En.no, En.no, En.no] _ _
  try simp only [cxOf_K, cxOf_w]
  have z9 : 9000 ≤ sizeLine := by decide
  have rg : ∀ k : Nat, (rgD 0 ((k : Nat) : Int).toNat) = (List.range k).map fun i => Dt.int ((i : Nat) : Int) := fun k => by
    unfold rgD
    rw [Int.toNat_natCast]
    exact List.map_congr_left fun i _ => by rw [Int.zero_add]
  have rl : ∀ k : Nat, ((List.range k).map fun i => Dt.int ((i : Nat) : Int)).length = k := fun k => by rw [List.length_map, List.length_range]
  refine as_seq (as_par (aa_cons (ae_draw rfl (aa_cons (ae_var rfl (aa_nil ⟨⟨n, rfl, n1, n4⟩, F + 48, rfl, fun d hd => ?_⟩))))))
  obtain ⟨M, rfl, hM⟩ := hd n rfl
  clear hd
  refine aa_cons (ae_draw rfl (aa_cons (ae_var rfl (aa_nil ⟨⟨n, rfl, n1, n4⟩, F + 16, rfl, fun d hd => ?_⟩))))
  obtain ⟨lo, hi, rfl⟩ := hd n rfl
  clear hd
  refine aa_nil ⟨_, _, rfl, ?_⟩
  have hMx : ∀ i, i < n → ∃ x, M i i = some x := fun i h => ⟨0, hM i h⟩
  show AS K _ [.bx b (F + 16), .da (.int (n : Int)), .no, .no, .no, .no, .no, .no, .da (gD true true n M), .da (prsD n lo hi), .no, .no, .no, .no] _ _
  refine as_seq (as_set (ae_call (aa_cons (ae_var rfl (aa_cons (ae_var rfl (aa_nil ⟨_, ⟨_, _, n, M, lo, hi, rfl, wz_std (k' := true), (by omega), hMx, rfl⟩, ?_⟩)))))))
  show AS K _ [.bx b (F + 16), .da (.int (n : Int)), .da (gcD n (Fw.fwM (n + 1) (wzM n M lo hi))), .no, .no, .no, .no, .no, .da (gD true true n M), .da (prsD n lo hi), .no, .no, .no, .no] _ _
  refine as_seq (as_set (ae_draw rfl (aa_cons (ae_lstRg1 (ae_var rfl ⟨_, rfl, ?_, ?_⟩)))))
  · exact ⟨by omega, by omega, by omega, by omega, by omega⟩
  rw [rg]
  refine aa_nil ⟨⟨_, rfl, by rw [rl]; exact n4⟩, F + 8, rfl, fun d hd => ?_⟩
  obtain ⟨l, rfl, hl⟩ := hd _ rfl
  obtain ⟨p, pm, el⟩ := ord_of hl
  rw [el]
  clear hd hl el
  show AS K _ [.bx b (F + 8), .da (.int (n : Int)), .da (gcD n (Fw.fwM (n + 1) (wzM n M lo hi))), .da (ordD p), .no, .no, .no, .no, .da (gD true true n M), .da (prsD n lo hi), .no, .no, .no, .no] _ _
  refine as_seq (as_set (ae_call (aa_cons (ae_var rfl (aa_cons (ae_var rfl (aa_cons (ae_var rfl (aa_nil ⟨_, ⟨n, p, M, lo, hi, rfl, pm, (by omega), rfl⟩, ?_⟩)))))))))
  rw [in_std pm (M := M)]
  refine as_seq (as_set (ae_call (aa_cons (ae_op (ae_var rfl (ae_int (ar_ixT rfl (aa_cons (ae_op (ae_var rfl (ae_int (ar_ixT rfl (aa_nil ⟨_, ⟨_, _, n, _, _, _, rfl, wz_std (k' := true), (by omega), fun i h => ⟨0, hM _ (pi_lt pm h)⟩, rfl⟩, ?_⟩)))))))))))))
  show AS K _ [.bx b (F + 8), .da (.int (n : Int)), .da (gcD n (Fw.fwM (n + 1) (wzM n M lo hi))), .da (ordD p), .da (.tup [gD true true n (fun i j => M (piN n p i) (piN n p j)), prsD n (fun i => lo (piN n p i)) (fun i => hi (piN n p i))]), .da (gcD n (Fw.fwM (n + 1) (wzM n (fun i j => M (piN n p i) (piN n p j)) (fun i => lo (piN n p i)) (fun i => hi (piN n p i))))), .no, .no, .da (gD true true n M), .da (prsD n lo hi), .no, .no, .no, .no] _ _
  generalize hTW : Dt.tup [gD true true n (fun i j => M (piN n p i) (piN n p j)), prsD n (fun i => lo (piN n p i)) (fun i => hi (piN n p i))] = TW
  rcases dg_or (n := n + 1) (F := Fw.fwM (n + 1) (wzM n M lo hi)) with dd | ee
  rotate_left
  · rw [perm_non pm hM (not_dg ee), gc_non ee]
    refine as_seq (as_if (at_test (ae_op (ae_var rfl (ae_non (ar_isN ⟨true, rfl, fun _ => as_ret (ae_op (ae_var rfl (ae_non (ar_isN ⟨rfl, _, rfl, by omega⟩)))), fun h => absurd (show true = false from h) (by decide)⟩))))))
  have g := Fw.good wz_fin (wz_dg0 hM) dd
  have q1 := gc_cls g.z
  have q2 := perm_cls pm hM dd
  have q3 := again_cls g
  have q4 := fun {a : Nat} {v : Int} (ha : a < n) => mv_cls (v := v) ha hM dd
  have q5 := fun {a c : Nat} {x e : Int} (ha : a < n) (hc : c < n) (hac : a ≠ c) (he : 0 ≤ e) hx => bd_cls (x := x) (e := e) ha hc hac he hM dd hx
  have q6 := wi_closed (n := n) (m := n + 1) (g := M) (lo := lo) (hi := hi)
  have gz := g.z
  rw [q1, q2]
  clear g dd q1 q2
  generalize Fw.fwM (n + 1) (wzM n M lo hi) = FF at q3 q4 q5 q6 gz ⊢
  have df1 : DF 4 (clsD n FF) := df_cls (by omega)
  show AS K _ [.bx b (F + 8), .da (.int (n : Int)), .da (clsD n FF), .da (ordD p), .da (TW), .da (inD p FF (fun i => ngO (FF n i)) (fun i => FF i n)), .no, .no, .da (gD true true n M), .da (prsD n lo hi), .no, .no, .no, .no] _ _
  refine as_seq (as_if (at_test (ae_op (ae_var rfl (ae_non (ar_isN ⟨false, rfl, fun h => absurd (show false = true from h) (by decide), fun _ => as_next ?_⟩))))))
  have df2 : DF 4 (inD p FF (fun i => ngO (FF n i)) (fun i => FF i n)) := df_in pm (by omega)
  refine as_seq (as_if (at_not (at_b (ae_call (aa_cons (ae_var rfl (aa_cons (ae_call (aa_cons (ae_var rfl (aa_cons (ae_op (ae_var rfl (ae_int (ar_ixT rfl (aa_cons (ae_op (ae_var rfl (ae_int (ar_ixT rfl (aa_nil ⟨_, ⟨n, p, FF, fun i => ngO (FF n i), fun i => FF i n, rfl, pm, (by omega), rfl⟩, aa_nil ⟨_, ⟨_, rfl, df2.1, df2.2, rfl⟩, _, rfl, fun h => absurd (show false = true from h) (by decide), fun _ => as_next ?_⟩⟩)))))))))))))))))))))
  show AS K _ [.bx b (F + 8), .da (.int (n : Int)), .da (clsD n FF), .da (ordD p), .da (TW), .da (inD p FF (fun i => ngO (FF n i)) (fun i => FF i n)), .no, .no, .da (gD true true n M), .da (prsD n lo hi), .no, .no, .no, .no] _ _
  clear df2
  generalize inD p FF (fun i => ngO (FF n i)) (fun i => FF i n) = d5
  generalize ordD p = d3
  refine as_seq (as_par3 (aa_cons (ae_take2 rfl (ae_var rfl ⟨_, rfl, (by omega), (by omega), F + 6, rfl, fun v1 a0 a1 => ?_⟩))))
  refine aa_cons (ae_take2 rfl (ae_var rfl ⟨_, rfl, (by omega), (by omega), F + 4, rfl, fun v2 b0 b1 => ?_⟩))
  refine aa_cons (ae_op (ae_take2 rfl (ae_int ⟨_, rfl, (by decide), (by decide), F + 2, rfl, fun v3 _ _ => ae_int (ar_I0i (aa_nil ⟨_, _, _, rfl, ?_⟩))⟩)))
  obtain ⟨a, rfl⟩ : ∃ a : Nat, v1 = (a : Int) := ⟨v1.toNat, by omega⟩
  obtain ⟨c, rfl⟩ : ∃ c : Nat, v2 = (c : Int) := ⟨v2.toNat, by omega⟩
  have ha : a < n := by omega
  have hc : c < n := by omega
  generalize v3 - 49 = v
  show AS K _ [.bx b (F + 2), .da (.int (n : Int)), .da (clsD n FF), .da (d3), .da (TW), .da (d5), .no, .no, .da (gD true true n M), .da (prsD n lo hi), .da (.int (a : Int)), .da (.int (c : Int)), .da (.int v), .no] _ _
  refine as_seq (as_if (at_or (at_not (at_b (ae_call (aa_cons (ae_call (aa_cons (ae_op (ae_var rfl (ae_int (ar_ixT rfl (aa_cons (ae_op (ae_var rfl (ae_int (ar_ixT rfl (aa_nil ⟨_, ⟨_, _, n, FF, fun i => ngO (FF n i), fun i => FF i n, rfl, wz_std (k' := true), (by omega), fun i h => ⟨0, gz i (by omega)⟩, rfl⟩, ?_⟩))))))))))))))))))
  rw [q3]
  refine aa_cons (ae_var rfl (aa_nil ⟨_, ⟨_, rfl, df1.1, df1.2, rfl⟩, _, rfl, fun h => absurd (show false = true from h) (by decide), fun _ => ?_⟩))
  refine at_test (ae_op (ae_call (aa_cons (ae_op (ae_var rfl (ae_int (ar_ixT rfl (aa_cons (ae_var rfl (aa_nil ⟨_, ⟨true, true, true, true, n, FF, M, rfl, (by omega), rfl⟩, ?_⟩))))))))))
  rw [q6]
  refine ae_bl (ar_notBl ⟨_, rfl, fun h => absurd (show false = true from h) (by decide), fun _ => as_next ?_⟩)
  show AS K _ [.bx b (F + 2), .da (.int (n : Int)), .da (clsD n FF), .da (d3), .da (TW), .da (d5), .no, .no, .da (gD true true n M), .da (prsD n lo hi), .da (.int (a : Int)), .da (.int (c : Int)), .da (.int v), .no] _ _
  refine as_seq (as_set (ae_call (aa_cons (ae_call (aa_cons (ae_var rfl (aa_cons (ae_var rfl (aa_cons (ae_var rfl (aa_nil ⟨_, ⟨n, M, a, v, rfl, (by omega), rfl⟩, aa_cons (ae_call (aa_cons (ae_var rfl (aa_cons (ae_var rfl (aa_cons (ae_var rfl (aa_nil ⟨_, ⟨n, lo, hi, a, v, rfl, ha, (by omega), rfl⟩, aa_nil ⟨_, ⟨_, _, n, mvM M a v, shO a v lo, shO a v hi, rfl, wz_std (k' := true), (by omega), fun i h => ⟨0, mv_dg hM i h⟩, rfl⟩, ?_⟩⟩))))))))⟩)))))))))))
  rw [q4 ha]
  have df3 : DF 4 (mvDue n a v FF) := df_2 (df_gD (by omega)) (df_prs (by omega))
  show AS K _ [.bx b (F + 2), .da (.int (n : Int)), .da (clsD n FF), .da (d3), .da (TW), .da (d5), .da (mvDue n a v FF), .no, .da (gD true true n M), .da (prsD n lo hi), .da (.int (a : Int)), .da (.int (c : Int)), .da (.int v), .no] _ _
  refine as_seq (as_if (at_not (at_b (ae_call (aa_cons (ae_var rfl (aa_cons (ae_tup (aa_cons (ae_call (aa_cons (ae_op (ae_var rfl (ae_int (ar_ixT rfl (aa_cons (ae_var rfl (aa_cons (ae_var rfl (aa_nil ⟨_, ⟨n, FF, a, v, rfl, (by omega), rfl⟩, aa_cons (ae_call (aa_cons (ae_op (ae_var rfl (ae_int (ar_ixT rfl (aa_cons (ae_var rfl (aa_cons (ae_var rfl (aa_nil ⟨_, ⟨n, fun i => ngO (FF n i), fun i => FF i n, a, v, rfl, ha, (by omega), rfl⟩, aa_nil ⟨(by show 2 ≤ sizeLine; omega), aa_nil ⟨_, ⟨mvDue n a v FF, rfl, df3.1, df3.2, rfl⟩, _, rfl, fun h => absurd (show false = true from h) (by decide), fun _ => as_next ?_⟩⟩⟩)))))))))))⟩))))))))))))))))))))
  show AS K _ [.bx b (F + 2), .da (.int (n : Int)), .da (clsD n FF), .da (d3), .da (TW), .da (d5), .da (mvDue n a v FF), .no, .da (gD true true n M), .da (prsD n lo hi), .da (.int (a : Int)), .da (.int (c : Int)), .da (.int v), .no] _ _
  clear df3
  generalize mvDue n a v FF = d6
  refine as_seq (as_set (ae_op (ae_op (ae_var rfl (ae_int (ar_ixT rfl (ae_var rfl (ar_ixTs (d := .tup (rwD n FF a)) (atI_nat (gd_at ha)) ?_))))))))
  refine as_seq (as_set (ae_op (ae_var rfl (ae_var rfl (ar_ixTs (atI_nat (rwD_at hc)) ?_)))))
  show AS K _ [.bx b (F + 2), .da (.int (n : Int)), .da (clsD n FF), .da (d3), .da (TW), .da (d5), .da (d6), .da (oD (FF a c)), .da (gD true true n M), .da (prsD n lo hi), .da (.int (a : Int)), .da (.int (c : Int)), .da (.int v), .no] _ _
  refine as_seq (as_if (at_and (at_test (ae_op (ae_var rfl (ae_var rfl (ar_ne3 ⟨rfl, rfl, rfl⟩ ⟨_, rfl, fun h => ?_, fun h => ⟨fun h => absurd (show false = true from h) (by decide), fun _ => as_next (as_ret (ae_bl ⟨rfl, _, rfl, by omega⟩))⟩⟩)))))))
  have hac : a ≠ c := fun z => by rw [z] at h; simp at h
  refine at_test (ae_op (ae_var rfl (ae_non (ar_notN ?_))))
  cases hx : FF a c with
  | none => exact ⟨_, rfl, fun h => absurd (show false = true from h) (by decide), fun _ => as_next (as_ret (ae_bl ⟨rfl, _, rfl, by omega⟩))⟩
  | some x =>
    refine ⟨_, rfl, fun _ => ?_, fun h => absurd (show true = false from h) (by decide)⟩
    refine as_seq (as_set (ae_call (aa_cons (ae_var rfl (aa_cons (ae_var rfl (aa_cons (ae_var rfl (aa_cons (ae_op (ae_var rfl (ae_take2 rfl (ae_int ⟨_, rfl, (by decide), (by decide), F, rfl, fun e e0 e1 => ar_I0i (aa_nil ⟨_, ⟨n, M, a, c, x + e, rfl, (by omega), rfl⟩, ?_⟩)⟩)))))))))))))
    refine as_ret (ae_call (aa_cons (ae_call (aa_cons (ae_var rfl (aa_cons (ae_var rfl (aa_nil ⟨_, ⟨_, _, n, bdM M a c (x + e), lo, hi, rfl, wz_std (k' := true), (by omega), fun i h => ⟨0, bd_dg hac hM i h⟩, rfl⟩, ?_⟩))))))))
    rw [q5 ha hc hac e0 hx]
    refine aa_cons (ae_var rfl (aa_nil ⟨_, ⟨_, rfl, df1.1, df1.2, rfl⟩, rfl, _, rfl, by omega⟩))
end
end Sh
set_option Elab.async false
set_option linter.all false
set_option maxRecDepth 100000
set_option maxHeartbeats 4000000
namespace Sh
open PySem PySem.Spec PyProof.Rows L2
abbrev s_l_right : Stmt := topS 30
abbrev N_l_right : List Str := ["_law_box_here", "_law_turn", "_law_size", "_law_due", "_law_rows_here", "_law_pairs_so", "_law_others", "_law_pairs"]
abbrev p_l_right : List Str := ["_law_box_here"]
theorem sc_l_right : FnScope N_l_right p_l_right (defScope s_l_right) := ⟨rfl, rfl, rfl, by decide +kernel, rfl, by decide +kernel, by decide +kernel⟩
def domR (ds : List Dt) : Prop := ds = []
def postR (ds : List Dt) (d : Dt) : Prop := d = .bl true
section
variable {P : Program} {w : World} {K : PySem.W.Frag} {mg : Str → Option Value} {base : Heap}
theorem ok_l_right (bl : Blts mg) {g4_l_take : Addr} {d4_l_take : FuncData} (c4_l_take : Cal P w K mg base 3 "_law_take" p_l_take (spB K 2 domT2 postT) g4_l_take d4_l_take) {g_l_some_stores : Addr} {d_l_some_stores : FuncData} (c_l_some_stores : Cal P w K mg base 4 "_law_some_stores" p_l_some_stores (spB K 35 domN postSs) g_l_some_stores d_l_some_stores) {g_l_hull : Addr} {d_l_hull : FuncData} (c_l_hull : Cal P w K mg base 1 "_law_hull" p_l_hull (spP K S_hu) g_l_hull d_l_hull) {g_l_joined : Addr} {d_l_joined : FuncData} (c_l_joined : Cal P w K mg base 1 "_law_joined" p_l_joined (spP K S_jp) g_l_joined d_l_joined) {g_l_drawn_right : Addr} {d_l_drawn_right : FuncData} (c_l_drawn_right : Cal P w K mg base 6 "_law_drawn_right" p_l_drawn_right (spB K 160 domN postB) g_l_drawn_right d_l_drawn_right) {g_gaps_closed : Addr} {d_gaps_closed : FuncData} (c_gaps_closed : Cal P w K mg base 3 "gaps_closed" p_gaps_closed (spP K S_gc) g_gaps_closed d_gaps_closed) {g_gaps_within : Addr} {d_gaps_within : FuncData} (c_gaps_within : Cal P w K mg base 2 "gaps_within" p_gaps_within (spP K S_gw) g_gaps_within d_gaps_within) {g_gaps_join : Addr} {d_gaps_join : FuncData} (c_gaps_join : Cal P w K mg base 2 "gaps_join" p_gaps_join (spP K (S_gm jnH)) g_gaps_join d_gaps_join) {g_l_same : Addr} {d_l_same : FuncData} (c_l_same : Cal P w K mg base 4 "_law_same" p_l_same (spP K (S_same 4)) g_l_same d_l_same)  {f : Addr} {fd : FuncData} (F : Fun K "_law_right" "_law_right" s_l_right f fd) : FnOk P w K mg base CX0 7 f fd p_l_right (spB K 696 (domR) (postR)) := by
  refine okB F sc_l_right (fun ds h => ?_) (fun cdv A outer s H E hr ds h => ?_)
  · obtain ⟨rfl⟩ := h
    rfl
  obtain ⟨rfl⟩ := h
  refine ⟨_, (pss_cons (ps_for PassesOwn.never rfl (pi_range1 rfl bl.range (pa_cons pe_int pa_nil)) (pg_name (i := 1) sc_l_right.nd rfl (by first | exact Or.inl rfl | exact Or.inr rfl)) (pss_cons (ps_set (i := 2) sc_l_right.nd rfl (by first | exact Or.inl rfl | exact Or.inr rfl) (pe_op op_add pe_int (pe_call c4_l_take.ok (hr.mono (by decide)) rfl c4_l_take.mg c4_l_take.kp c4_l_take.bi .nil pass0 (pa_cons (pv 0) (pa_cons pe_int pa_nil)))))
    (pss_cons (ps_asg (pe_call c_l_hull.ok (hr.mono (by decide)) rfl c_l_hull.mg c_l_hull.kp c_l_hull.bi .nil pass0 (pa_cons (pe_call c_l_some_stores.ok (hr.mono (by decide)) rfl c_l_some_stores.mg c_l_some_stores.kp c_l_some_stores.bi .nil pass0 (pa_cons (pv 0) (pa_cons (pv 2) pa_nil))) pa_nil)) (pg_tup rfl (pgs_cons (pg_name (i := 4) sc_l_right.nd rfl (by first | exact Or.inl rfl | exact Or.inr rfl)) (pgs_cons (pg_name (i := 5) sc_l_right.nd rfl (by first | exact Or.inl rfl | exact Or.inr rfl)) pgs_nil))))
    (pss_cons (ps_asg (pe_call c_l_hull.ok (hr.mono (by decide)) rfl c_l_hull.mg c_l_hull.kp c_l_hull.bi .nil pass0 (pa_cons (pe_call c_l_some_stores.ok (hr.mono (by decide)) rfl c_l_some_stores.mg c_l_some_stores.kp c_l_some_stores.bi .nil pass0 (pa_cons (pv 0) (pa_cons (pv 2) pa_nil))) pa_nil)) (pg_tup rfl (pgs_cons (pg_name (i := 6) sc_l_right.nd rfl (by first | exact Or.inl rfl | exact Or.inr rfl)) (pgs_cons (pg_name (i := 7) sc_l_right.nd rfl (by first | exact Or.inl rfl | exact Or.inr rfl)) pgs_nil))))
    (pss_cons (ps_if (pt_not (pt_val (pe_call c_l_same.ok (hr.mono (by decide)) rfl c_l_same.mg c_l_same.kp c_l_same.bi .nil pass0 (pa_cons (pe_call c_gaps_closed.ok (hr.mono (by decide)) rfl c_gaps_closed.mg c_gaps_closed.kp c_gaps_closed.bi .nil pass0 (pa_cons (pv 4) (pa_cons (pv 5) pa_nil))) (pa_cons (pe_tup (pa_cons (pv 4) (pa_cons (pv 5) pa_nil))) pa_nil))))) (pss_one (ps_ret pe_bl)) pss_nil)
    (pss_cons (ps_set (i := 3) sc_l_right.nd rfl (by first | exact Or.inl rfl | exact Or.inr rfl) (pe_tup (pa_cons (pe_call c_gaps_join.ok (hr.mono (by decide)) rfl c_gaps_join.mg c_gaps_join.kp c_gaps_join.bi .nil pass0 (pa_cons (pv 4) (pa_cons (pv 6) pa_nil))) (pa_cons (pe_call c_l_joined.ok (hr.mono (by decide)) rfl c_l_joined.mg c_l_joined.kp c_l_joined.bi .nil pass0 (pa_cons (pv 5) (pa_cons (pv 7) pa_nil))) pa_nil))))
    (pss_cons (ps_if (PW.pt (pw_or (pt_not (pt_val (pe_call c_l_same.ok (hr.mono (by decide)) rfl c_l_same.mg c_l_same.kp c_l_same.bi .nil pass0 (pa_cons (pe_call c_gaps_closed.ok (hr.mono (by decide)) rfl c_gaps_closed.mg c_gaps_closed.kp c_gaps_closed.bi .nil pass0 (pa_cons (pe_ix ix_tup (pv 3) pe_int (fun _ _ => rfl)) (pa_cons (pe_ix ix_tup (pv 3) pe_int (fun _ _ => rfl)) pa_nil))) (pa_cons (pv 3) pa_nil))))) (pw_or1 (pt_cmpR op_notBl (pe_call c_gaps_within.ok (hr.mono (by decide)) rfl c_gaps_within.mg c_gaps_within.kp c_gaps_within.bi .nil pass0 (pa_cons (pv 4) (pa_cons (pe_ix ix_tup (pv 3) pe_int (fun _ _ => rfl)) pa_nil))) pe_bl (nomark _))))) (pss_one (ps_ret pe_bl)) pss_nil)
    (pss_one (ps_if (pt_not (pt_val (pe_call c_l_drawn_right.ok (hr.mono (by decide)) rfl c_l_drawn_right.mg c_l_drawn_right.kp c_l_drawn_right.bi .nil pass0 (pa_cons (pv 0) (pa_cons (pv 2) pa_nil))))) (pss_one (ps_ret pe_bl)) pss_nil)))))))))
    (pss_one (ps_ret pe_bl))), fun b F => ?_⟩
  change AS K _ [En.bx _ _, En.no, En.no, En.no, En.no, En.no, En.no, En.no] _ _
  try simp only [cxOf_K, cxOf_w]
  have z9 : 9000 ≤ sizeLine := by decide
  have rg : ∀ k : Nat, (rgD 0 ((k : Nat) : Int).toNat) = (List.range k).map fun i => Dt.int ((i : Nat) : Int) := fun k => by
    unfold rgD
    rw [Int.toNat_natCast]
    exact List.map_congr_left fun i _ => by rw [Int.zero_add]
  have rl : ∀ k : Nat, ((List.range k).map fun i => Dt.int ((i : Nat) : Int)).length = k := fun k => by rw [List.length_map, List.length_range]
  refine as_seq (as_for (ai_rng1 (aa_cons (ae_int (aa_nil ⟨_, rfl, (by decide), (by decide), ?_⟩)))))
  rw [show (3 : Int) = ((3 : Nat) : Int) from rfl, rg]
  refine ⟨fun t ρ => ∃ f e1 e2 e3 e4 e5 e6 e7, ρ = [.bx b f, e1, e2, e3, e4, e5, e6, e7] ∧ F + 232 * (3 - t) ≤ f, ⟨_, .no, .no, .no, .no, .no, .no, .no, rfl, Nat.le_refl _⟩, ?_, ?_⟩
  · rintro t d ρ2 hd ⟨f, e1, e2, e3, e4, e5, e6, e7, rfl, hf⟩
    obtain ⟨ht, rfl⟩ := rg_at hd
    obtain ⟨f1, rfl⟩ : ∃ f1, f = f1 + 232 := ⟨f - 232, by omega⟩
    have hf1 : F + 232 * (3 - (t + 1)) ≤ f1 := by omega
    clear hf hd
    refine ag_name (as_seq (as_set (ae_op (ae_int (ae_take2 rfl (ae_int ⟨_, rfl, (by decide), (by decide), f1 + 230, rfl, fun v v0 v1 => ar_I0i ?_⟩))))))
    obtain ⟨n, hn⟩ : ∃ n : Nat, 1 + v = (n : Int) := ⟨(1 + v).toNat, by omega⟩
    rw [hn]
    have n1 : 1 ≤ n := by omega
    have n4 : n ≤ 4 := by omega
    clear hn v0 v1 v
    refine as_seq (as_asg (ae_call (aa_cons (ae_draw rfl (aa_cons (ae_var rfl (aa_nil ⟨⟨n, rfl, n1, n4⟩, f1 + 195, rfl, fun d hd => ?_⟩)))))))
    obtain ⟨S, rfl, nS, l4S, hS⟩ := hd n rfl
    clear hd
    obtain ⟨s0, ss, eS⟩ : ∃ a l, S = a :: l := by
      cases S with
      | nil => exact absurd rfl nS
      | cons a l => exact ⟨a, l, rfl⟩
    refine aa_nil ⟨huD n S, ⟨n, s0, ss, (by rw [eS]), by omega, (by rw [← eS]; omega), (by rw [← eS]; exact hS), (by rw [eS])⟩, ?_⟩
    rw [hu_std]
    refine ag_tup rfl (ags_cons (ag_name (ags_cons (ag_name (ags_nil ?_)))))
    clear eS
    refine as_seq (as_asg (ae_call (aa_cons (ae_draw rfl (aa_cons (ae_var rfl (aa_nil ⟨⟨n, rfl, n1, n4⟩, f1 + 160, rfl, fun d hd => ?_⟩)))))))
    obtain ⟨Q, rfl, nQ, l4Q, hQ⟩ := hd n rfl
    clear hd
    obtain ⟨q0, qq, eQ⟩ : ∃ a l, Q = a :: l := by
      cases Q with
      | nil => exact absurd rfl nQ
      | cons a l => exact ⟨a, l, rfl⟩
    refine aa_nil ⟨huD n Q, ⟨n, q0, qq, (by rw [eQ]), by omega, (by rw [← eQ]; omega), (by rw [← eQ]; exact hQ), (by rw [eQ])⟩, ?_⟩
    rw [hu_std]
    refine ag_tup rfl (ags_cons (ag_name (ags_cons (ag_name (ags_nil ?_)))))
    clear eQ
    show AS K _ [.bx b (f1 + 160), .da (.int ((t : Nat) : Int)), .da (.int (n : Int)), e3, .da (gD true true n (huM S)), .da (prsD n (huL S) (huH S)), .da (gD true true n (huM Q)), .da (prsD n (huL Q) (huH Q))] _ _
    have df1 : DF 4 (.tup [gD true true n (huM S), prsD n (huL S) (huH S)]) := df_2 (df_gD (by omega)) (df_prs (by omega))
    refine as_seq (as_if (at_not (at_b (ae_call (aa_cons (ae_call (aa_cons (ae_var rfl (aa_cons (ae_var rfl (aa_nil ⟨_, ⟨_, _, n, huM S, huL S, huH S, rfl, wz_std (k' := true), (by omega), fun i h => ⟨0, hu_dg nS i h⟩, rfl⟩, ?_⟩)))))))))))
    rw [hull_same hS nS, hu_std]
    refine aa_cons (ae_tup (aa_cons (ae_var rfl (aa_cons (ae_var rfl (aa_nil ⟨(by show 2 ≤ sizeLine; omega), aa_nil ⟨_, ⟨_, rfl, df1.1, df1.2, rfl⟩, _, rfl, fun h => absurd (show false = true from h) (by decide), fun _ => as_next ?_⟩⟩))))))
    refine as_seq (as_set (ae_tup (aa_cons (ae_call (aa_cons (ae_var rfl (aa_cons (ae_var rfl (aa_nil ⟨_, ⟨true, true, true, true, n, huM S, huM Q, rfl, (by omega), rfl⟩, aa_cons (ae_call (aa_cons (ae_var rfl (aa_cons (ae_var rfl (aa_nil ⟨_, ⟨n, S, Q, rfl, (by omega), rfl⟩, aa_nil ⟨(by show 2 ≤ sizeLine; omega), ?_⟩⟩))))))⟩)))))))))
    show AS K _ [.bx b (f1 + 160), .da (.int ((t : Nat) : Int)), .da (.int (n : Int)), .da (jD n S Q), .da (gD true true n (huM S)), .da (prsD n (huL S) (huH S)), .da (gD true true n (huM Q)), .da (prsD n (huL Q) (huH Q))] _ _
    have df2 : DF 4 (jD n S Q) := df_2 (df_gD (by omega)) (df_prs (by omega))
    refine as_seq (as_if (at_or (at_not (at_b (ae_call (aa_cons (ae_call (aa_cons (ae_op (ae_var rfl (ae_int (ar_ixT rfl (aa_cons (ae_op (ae_var rfl (ae_int (ar_ixT rfl (aa_nil ⟨_, ⟨_, _, n, jnM (huM S) (huM Q), jL S Q, jH S Q, rfl, wz_std (k' := true), (by omega), fun i h => ⟨0, by unfold jnM; rw [hu_dg nS i h, hu_dg nQ i h]; rfl⟩, rfl⟩, ?_⟩))))))))))))))))))
    rw [join_same hS nS hQ nQ]
    refine aa_cons (ae_var rfl (aa_nil ⟨_, ⟨_, rfl, df2.1, df2.2, rfl⟩, _, rfl, fun h => absurd (show false = true from h) (by decide), fun _ => ?_⟩))
    refine at_test (ae_op (ae_call (aa_cons (ae_var rfl (aa_cons (ae_op (ae_var rfl (ae_int (ar_ixT rfl (aa_nil ⟨_, ⟨true, true, true, true, n, huM S, jnM (huM S) (huM Q), rfl, (by omega), rfl⟩, ?_⟩))))))))))
    rw [jn_wi]
    refine ae_bl (ar_notBl ⟨_, rfl, fun h => absurd (show false = true from h) (by decide), fun _ => as_next ?_⟩)
    refine as_if (at_not (at_b (ae_draw rfl (aa_cons (ae_var rfl (aa_nil ⟨⟨n, rfl, n1, n4⟩, f1, rfl, fun d hd => ⟨true, hd, fun h => absurd (show false = true from h) (by decide), fun _ => as_next ?_⟩⟩))))))
    exact ⟨f1, _, _, _, _, _, _, _, rfl, hf1⟩
  · rintro ρ ⟨f, e1, e2, e3, e4, e5, e6, e7, rfl, hf⟩
    exact as_ret (ae_bl ⟨rfl, _, rfl, by omega⟩)
end
end Sh
set_option Elab.async false
set_option linter.all false
set_option maxRecDepth 100000
set_option maxHeartbeats 4000000
namespace Sh
open PySem PySem.Spec PyProof.Rows L2
abbrev sLaw : Stmt := topS 31
abbrev NL : List Str := ["_law_script", "_law_cells_here", "_law_k"]
theorem scLaw : FnScope NL ["_law_script"] (defScope sLaw) := ⟨rfl, rfl, rfl, by decide +kernel, rfl, by decide +kernel, by decide +kernel⟩
section
variable {P : Program} {w : World} {K : PySem.W.Frag} {mg : Str → Option Value} {base : Heap}
def spLaw (K : PySem.W.Frag) : Sp := fun vs H Q _ => ∃ (a : Addr) (ns : List Int), vs = [.ref a] ∧ SqL K H a (ns.map V.int) ∧ ns.length ≤ 63 ∧ ∀ H', Q (.bl true) H'
theorem ok_law {f gC gB gR : Addr} {fd dC dB dR : FuncData} (F : Fun K "law" "law" sLaw f fd)
    (GC : FnOk P w K mg base CX0 1 gC dC ["_law_script", "_law_most"] (spCells K)) (bC : Binds K dC ["_law_script", "_law_most"] []) (kC : PySem.W.keepIn K (.ref gC) = true) (mC : mg "_law_cells" = some (.ref gC))
    (GB : FnOk P w K mg base CX0 1 gB dB ["_law_script", "_law_k"] (spBox K)) (bB : Binds K dB ["_law_script", "_law_k"] []) (kB : PySem.W.keepIn K (.ref gB) = true) (mB : mg "_law_box" = some (.ref gB))
    (GR : FnOk P w K mg base CX0 7 gR dR ["_law_box_here"] (spB K 696 domR postR)) (bR : Binds K dR ["_law_box_here"] []) (kR : PySem.W.keepIn K (.ref gR) = true) (mR : mg "_law_right" = some (.ref gR))
    (mr : mg "range" = none) (ml : mg "len" = none) (mall : mg "all" = none) : FnOk P w K mg base CX0 8 f fd ["_law_script"] (spLaw K) := by
  refine F.ok scLaw (fun vs H Q E h => ?_) (fun cdv A outer s H vs Q Ex hr h => ?_)
  · obtain ⟨a, ns, rfl, _⟩ := h
    rfl
  obtain ⟨a, ns, rfl, hS, hlen, q⟩ := h
  refine ⟨_, pss_cons (ps_set (i := 1) scLaw.nd rfl (by first | exact Or.inl rfl | exact Or.inr rfl) (pe_call GC (hr.mono (by decide)) rfl mC kC bC .nil pass0 (pa_cons (pv 0) (pa_cons pe_int pa_nil))))
    (pss_one (ps_ret (pe_callB (cr_all rfl) rfl mall (by decide +kernel) (pa_cons (pe_lc (own := [("_law_k", 2)]) (g := gName 2) (te := (tCall (spB K 696 domR postR) [] E0 (tCons (tCall (spBox K) [] E0 (tCons (tVar 1) (tCons (tVar 2) tNil))) tNil))) (tt := tYes) rfl scLaw.nd (pi_range1 rfl mr (pa_cons (pe_callB call_len_seq rfl ml PySem.boot_len (pa_cons (pv 1) pa_nil)) pa_nil)) (blkOk_by (N := NL) (sc := defScope sLaw) (by decide +kernel))
        (fun _ _ _ _ _ => pg_name (i := 2) scLaw.nd rfl (by first | exact Or.inl rfl | exact Or.inr rfl)) (fun _ _ _ _ _ => pts_nil) (fun _ _ _ _ _ => pe_call GR hr rfl mR kR bR .nil pass0 (pa_cons (pe_call GB (hr.mono (by decide)) rfl mB kB bB .nil pass0 (pa_cons (pv 1) (pa_cons (pv 2) pa_nil))) pa_nil))) pa_nil)))), ?_⟩
  refine ⟨_, rfl, a, ns, 3, rfl, hS, hlen, by decide, by decide, fun p ms H1 np s1 ep l1 l2 => ?_⟩
  have hml : (ms.map V.int).length = ms.length := List.length_map _
  refine ⟨_, rfl, p, _, rfl, .inl (SqL.of ep), _, rfl, by omega, by omega, fun D hD => lc_range (lo := 0) (n := (ms.map V.int).length) (fun t H4 => Same H1 H4 ∧ H4 D = some (.lst ((List.replicate t true).map V.bl))) ?_ ?_ ?_⟩
  · exact ⟨same_up hD, upd_same⟩
  · rintro t H4 ht ⟨s4, e4⟩
    rw [hml] at ht
    refine ⟨rfl, ?_⟩
    refine ⟨_, rfl, _, rfl, p, ms, _, rfl, SqL.of (s4 _ _ ep), by omega, by omega, by omega, fun bx x y nbx x0 y0 y1 => ?_⟩
    have s3 := same_up (o := .lst [.int x, .int y, .int 0]) nbx
    have hb0 : Bx (upd H4 bx (.lst [.int x, .int y, .int 0])) bx y 0 := ⟨x, upd_same, x0, y0, y1⟩
    have neD : D ≠ bx := fun e => by
      rw [← e, e4] at nbx
      cases nbx
    refine ⟨fun _ => none, [], bx, [], y, 0, 0, rfl, (fun a o e => nomatch e), hb0, by omega, by unfold BxM; decide, rfl, rfl, rfl, fun v d G' H5 y' c' nb hB' c0' c1' rd hp => ?_⟩
    have e5 := nb.h _ _ neD (s3 _ _ e4)
    refine ⟨_, e5, ?_, fun b o e => ?_, ?_⟩
    · rw [List.length_map, List.length_replicate]; exact sz60' (by omega)
    · have nD : b ≠ D := fun z => by rw [z, hD] at e; cases e
      rw [upd_ne nD]
      exact nb.h _ _ (ne_of_none (s4 _ _ e) nbx) (s3 _ _ (s4 _ _ e))
    · subst hp
      cases (show v = .bl true from rd)
      rw [upd_same, List.replicate_succ', List.map_append]; rfl
  · rintro H4 ⟨s4, e4⟩
    refine ⟨D, _, rfl, SqL.of e4, ?_⟩
    rw [all_true]
    exact q _
end
theorem all_mk {l : PySem.W.OpenLaw} {w : World} {K : PySem.W.Frag} {h : Heap} {mg : Str → Option Value} {fa fD0 fD1 fD2 fD3 fD4 fD5 fD6 fD7 fD8 fD9 fD10 fD11 fD12 fD13 fD14 fD15 fD16 fD17 fD18 fD19 fD20 fD21 fD22 fD23 fD24 fD25 fD26 fD27 fD28 : Addr} (X : K.In h) (G : h.Ns mainGlobals mg) (hfa : mg "law" = some (.ref fa))
    {odD0 anD0 odD1 anD1 odD2 anD2 odD3 anD3 odD4 anD4 odD5 anD5 odD6 anD6 odD7 anD7 odD8 anD8 odD9 anD9 odD10 anD10 odD11 anD11 odD12 anD12 odD13 anD13 odD14 anD14 odD15 anD15 odD16 anD16 odD17 anD17 odD18 anD18 odD19 anD19 odD20 anD20 odD21 anD21 odD22 anD22 odD23 anD23 odD24 anD24 odD25 anD25 odD26 anD26 odD27 anD27 odD28 anD28 : Option Addr} {slD0 slD1 slD2 slD3 slD4 slD5 slD6 slD7 slD8 slD9 slD10 slD11 slD12 slD13 slD14 slD15 slD16 slD17 slD18 slD19 slD20 slD21 slD22 slD23 slD24 slD25 slD26 slD27 slD28 : Array (Option Value)} {ocD0 kVD0 dcD0 pmD0 cdD0 ctD0 ocD1 kVD1 dcD1 pmD1 cdD1 ctD1 ocD2 kVD2 dcD2 pmD2 cdD2 ctD2 ocD3 kVD3 dcD3 pmD3 cdD3 ctD3 ocD4 kVD4 dcD4 pmD4 cdD4 ctD4 ocD5 kVD5 dcD5 pmD5 cdD5 ctD5 ocD6 kVD6 dcD6 pmD6 cdD6 ctD6 ocD7 kVD7 dcD7 pmD7 cdD7 ctD7 ocD8 kVD8 dcD8 pmD8 cdD8 ctD8 ocD9 kVD9 dcD9 pmD9 cdD9 ctD9 ocD10 kVD10 dcD10 pmD10 cdD10 ctD10 ocD11 kVD11 dcD11 pmD11 cdD11 ctD11 ocD12 kVD12 dcD12 pmD12 cdD12 ctD12 ocD13 kVD13 dcD13 pmD13 cdD13 ctD13 ocD14 kVD14 dcD14 pmD14 cdD14 ctD14 ocD15 kVD15 dcD15 pmD15 cdD15 ctD15 ocD16 kVD16 dcD16 pmD16 cdD16 ctD16 ocD17 kVD17 dcD17 pmD17 cdD17 ctD17 ocD18 kVD18 dcD18 pmD18 cdD18 ctD18 ocD19 kVD19 dcD19 pmD19 cdD19 ctD19 ocD20 kVD20 dcD20 pmD20 cdD20 ctD20 ocD21 kVD21 dcD21 pmD21 cdD21 ctD21 ocD22 kVD22 dcD22 pmD22 cdD22 ctD22 ocD23 kVD23 dcD23 pmD23 cdD23 ctD23 ocD24 kVD24 dcD24 pmD24 cdD24 ctD24 ocD25 kVD25 dcD25 pmD25 cdD25 ctD25 ocD26 kVD26 dcD26 pmD26 cdD26 ctD26 ocD27 kVD27 dcD27 pmD27 cdD27 ctD27 ocD28 kVD28 dcD28 pmD28 cdD28 ctD28 : Value} 
    (aD0 : PySem.W.nsIn K mainGlobals "loosest_high" = some (some (.ref fD0)))
    (lD0 : K.lookup fD0 = some ⟨ocD0, odD0, .func (PySem.W.fnOf "loosest_high" "loosest_high" (defArgs s_loosest_high) (defBody s_loosest_high) (defScope s_loosest_high) .none kVD0 dcD0 pmD0 anD0 cdD0 ctD0), slD0⟩)
    (cD0 : PySem.W.codeIn K cdD0 "loosest_high" = true)
    (kD0 : PySem.W.keepIn K (.ref fD0) = true)
    (aD1 : PySem.W.nsIn K mainGlobals "tightest_high" = some (some (.ref fD1)))
    (lD1 : K.lookup fD1 = some ⟨ocD1, odD1, .func (PySem.W.fnOf "tightest_high" "tightest_high" (defArgs s_tightest_high) (defBody s_tightest_high) (defScope s_tightest_high) .none kVD1 dcD1 pmD1 anD1 cdD1 ctD1), slD1⟩)
    (cD1 : PySem.W.codeIn K cdD1 "tightest_high" = true)
    (kD1 : PySem.W.keepIn K (.ref fD1) = true)
    (aD2 : PySem.W.nsIn K mainGlobals "high_within" = some (some (.ref fD2)))
    (lD2 : K.lookup fD2 = some ⟨ocD2, odD2, .func (PySem.W.fnOf "high_within" "high_within" (defArgs s_high_within) (defBody s_high_within) (defScope s_high_within) .none kVD2 dcD2 pmD2 anD2 cdD2 ctD2), slD2⟩)
    (cD2 : PySem.W.codeIn K cdD2 "high_within" = true)
    (kD2 : PySem.W.keepIn K (.ref fD2) = true)
    (aD3 : PySem.W.nsIn K mainGlobals "total" = some (some (.ref fD3)))
    (lD3 : K.lookup fD3 = some ⟨ocD3, odD3, .func (PySem.W.fnOf "total" "total" (defArgs s_total) (defBody s_total) (defScope s_total) .none kVD3 dcD3 pmD3 anD3 cdD3 ctD3), slD3⟩)
    (cD3 : PySem.W.codeIn K cdD3 "total" = true)
    (kD3 : PySem.W.keepIn K (.ref fD3) = true)
    (aD4 : PySem.W.nsIn K mainGlobals "opposite" = some (some (.ref fD4)))
    (lD4 : K.lookup fD4 = some ⟨ocD4, odD4, .func (PySem.W.fnOf "opposite" "opposite" (defArgs s_opposite) (defBody s_opposite) (defScope s_opposite) .none kVD4 dcD4 pmD4 anD4 cdD4 ctD4), slD4⟩)
    (cD4 : PySem.W.codeIn K cdD4 "opposite" = true)
    (kD4 : PySem.W.keepIn K (.ref fD4) = true)
    (aD5 : PySem.W.nsIn K mainGlobals "gaps_closed" = some (some (.ref fD5)))
    (lD5 : K.lookup fD5 = some ⟨ocD5, odD5, .func (PySem.W.fnOf "gaps_closed" "gaps_closed" (defArgs s_gaps_closed) (defBody s_gaps_closed) (defScope s_gaps_closed) .none kVD5 dcD5 pmD5 anD5 cdD5 ctD5), slD5⟩)
    (cD5 : PySem.W.codeIn K cdD5 "gaps_closed" = true)
    (kD5 : PySem.W.keepIn K (.ref fD5) = true)
    (aD6 : PySem.W.nsIn K mainGlobals "gaps_within" = some (some (.ref fD6)))
    (lD6 : K.lookup fD6 = some ⟨ocD6, odD6, .func (PySem.W.fnOf "gaps_within" "gaps_within" (defArgs s_gaps_within) (defBody s_gaps_within) (defScope s_gaps_within) .none kVD6 dcD6 pmD6 anD6 cdD6 ctD6), slD6⟩)
    (cD6 : PySem.W.codeIn K cdD6 "gaps_within" = true)
    (kD6 : PySem.W.keepIn K (.ref fD6) = true)
    (aD7 : PySem.W.nsIn K mainGlobals "gaps_join" = some (some (.ref fD7)))
    (lD7 : K.lookup fD7 = some ⟨ocD7, odD7, .func (PySem.W.fnOf "gaps_join" "gaps_join" (defArgs s_gaps_join) (defBody s_gaps_join) (defScope s_gaps_join) .none kVD7 dcD7 pmD7 anD7 cdD7 ctD7), slD7⟩)
    (cD7 : PySem.W.codeIn K cdD7 "gaps_join" = true)
    (kD7 : PySem.W.keepIn K (.ref fD7) = true)
    (aD8 : PySem.W.nsIn K mainGlobals "gaps_moved" = some (some (.ref fD8)))
    (lD8 : K.lookup fD8 = some ⟨ocD8, odD8, .func (PySem.W.fnOf "gaps_moved" "gaps_moved" (defArgs s_gaps_moved) (defBody s_gaps_moved) (defScope s_gaps_moved) .none kVD8 dcD8 pmD8 anD8 cdD8 ctD8), slD8⟩)
    (cD8 : PySem.W.codeIn K cdD8 "gaps_moved" = true)
    (kD8 : PySem.W.keepIn K (.ref fD8) = true)
    (aD9 : PySem.W.nsIn K mainGlobals "gaps_bound" = some (some (.ref fD9)))
    (lD9 : K.lookup fD9 = some ⟨ocD9, odD9, .func (PySem.W.fnOf "gaps_bound" "gaps_bound" (defArgs s_gaps_bound) (defBody s_gaps_bound) (defScope s_gaps_bound) .none kVD9 dcD9 pmD9 anD9 cdD9 ctD9), slD9⟩)
    (cD9 : PySem.W.codeIn K cdD9 "gaps_bound" = true)
    (kD9 : PySem.W.keepIn K (.ref fD9) = true)
    (aD10 : PySem.W.nsIn K mainGlobals "with_zero" = some (some (.ref fD10)))
    (lD10 : K.lookup fD10 = some ⟨ocD10, odD10, .func (PySem.W.fnOf "with_zero" "with_zero" (defArgs s_with_zero) (defBody s_with_zero) (defScope s_with_zero) .none kVD10 dcD10 pmD10 anD10 cdD10 ctD10), slD10⟩)
    (cD10 : PySem.W.codeIn K cdD10 "with_zero" = true)
    (kD10 : PySem.W.keepIn K (.ref fD10) = true)
    (aD11 : PySem.W.nsIn K mainGlobals "shorten" = some (some (.ref fD11)))
    (lD11 : K.lookup fD11 = some ⟨ocD11, odD11, .func (PySem.W.fnOf "shorten" "shorten" (defArgs s_shorten) (defBody s_shorten) (defScope s_shorten) .none kVD11 dcD11 pmD11 anD11 cdD11 ctD11), slD11⟩)
    (cD11 : PySem.W.codeIn K cdD11 "shorten" = true)
    (kD11 : PySem.W.keepIn K (.ref fD11) = true)
    (aD12 : PySem.W.nsIn K mainGlobals "_law_box" = some (some (.ref fD12)))
    (lD12 : K.lookup fD12 = some ⟨ocD12, odD12, .func (PySem.W.fnOf "_law_box" "_law_box" (defArgs sBox) (defBody sBox) (defScope sBox) .none kVD12 dcD12 pmD12 anD12 cdD12 ctD12), slD12⟩)
    (cD12 : PySem.W.codeIn K cdD12 "_law_box" = true)
    (kD12 : PySem.W.keepIn K (.ref fD12) = true)
    (aD13 : PySem.W.nsIn K mainGlobals "_law_take" = some (some (.ref fD13)))
    (lD13 : K.lookup fD13 = some ⟨ocD13, odD13, .func (PySem.W.fnOf "_law_take" "_law_take" (defArgs sTake) (defBody sTake) (defScope sTake) .none kVD13 dcD13 pmD13 anD13 cdD13 ctD13), slD13⟩)
    (cD13 : PySem.W.codeIn K cdD13 "_law_take" = true)
    (kD13 : PySem.W.keepIn K (.ref fD13) = true)
    (aD14 : PySem.W.nsIn K mainGlobals "_law_cells" = some (some (.ref fD14)))
    (lD14 : K.lookup fD14 = some ⟨ocD14, odD14, .func (PySem.W.fnOf "_law_cells" "_law_cells" (defArgs sCells) (defBody sCells) (defScope sCells) .none kVD14 dcD14 pmD14 anD14 cdD14 ctD14), slD14⟩)
    (cD14 : PySem.W.codeIn K cdD14 "_law_cells" = true)
    (kD14 : PySem.W.keepIn K (.ref fD14) = true)
    (aD15 : PySem.W.nsIn K mainGlobals "_law_of" = some (some (.ref fD15)))
    (lD15 : K.lookup fD15 = some ⟨ocD15, odD15, .func (PySem.W.fnOf "_law_of" "_law_of" (defArgs sOf) (defBody sOf) (defScope sOf) .none kVD15 dcD15 pmD15 anD15 cdD15 ctD15), slD15⟩)
    (cD15 : PySem.W.codeIn K cdD15 "_law_of" = true)
    (kD15 : PySem.W.keepIn K (.ref fD15) = true)
    (aD16 : PySem.W.nsIn K mainGlobals "_law_same" = some (some (.ref fD16)))
    (lD16 : K.lookup fD16 = some ⟨ocD16, odD16, .func (PySem.W.fnOf "_law_same" "_law_same" (defArgs s_l_same) (defBody s_l_same) (defScope s_l_same) .none kVD16 dcD16 pmD16 anD16 cdD16 ctD16), slD16⟩)
    (cD16 : PySem.W.codeIn K cdD16 "_law_same" = true)
    (kD16 : PySem.W.keepIn K (.ref fD16) = true)
    (aD17 : PySem.W.nsIn K mainGlobals "_law_limit" = some (some (.ref fD17)))
    (lD17 : K.lookup fD17 = some ⟨ocD17, odD17, .func (PySem.W.fnOf "_law_limit" "_law_limit" (defArgs s_l_limit) (defBody s_l_limit) (defScope s_l_limit) .none kVD17 dcD17 pmD17 anD17 cdD17 ctD17), slD17⟩)
    (cD17 : PySem.W.codeIn K cdD17 "_law_limit" = true)
    (kD17 : PySem.W.keepIn K (.ref fD17) = true)
    (aD18 : PySem.W.nsIn K mainGlobals "_law_rows" = some (some (.ref fD18)))
    (lD18 : K.lookup fD18 = some ⟨ocD18, odD18, .func (PySem.W.fnOf "_law_rows" "_law_rows" (defArgs s_l_rows) (defBody s_l_rows) (defScope s_l_rows) .none kVD18 dcD18 pmD18 anD18 cdD18 ctD18), slD18⟩)
    (cD18 : PySem.W.codeIn K cdD18 "_law_rows" = true)
    (kD18 : PySem.W.keepIn K (.ref fD18) = true)
    (aD19 : PySem.W.nsIn K mainGlobals "_law_ends" = some (some (.ref fD19)))
    (lD19 : K.lookup fD19 = some ⟨ocD19, odD19, .func (PySem.W.fnOf "_law_ends" "_law_ends" (defArgs s_l_ends) (defBody s_l_ends) (defScope s_l_ends) .none kVD19 dcD19 pmD19 anD19 cdD19 ctD19), slD19⟩)
    (cD19 : PySem.W.codeIn K cdD19 "_law_ends" = true)
    (kD19 : PySem.W.keepIn K (.ref fD19) = true)
    (aD20 : PySem.W.nsIn K mainGlobals "_law_hull" = some (some (.ref fD20)))
    (lD20 : K.lookup fD20 = some ⟨ocD20, odD20, .func (PySem.W.fnOf "_law_hull" "_law_hull" (defArgs s_l_hull) (defBody s_l_hull) (defScope s_l_hull) .none kVD20 dcD20 pmD20 anD20 cdD20 ctD20), slD20⟩)
    (cD20 : PySem.W.codeIn K cdD20 "_law_hull" = true)
    (kD20 : PySem.W.keepIn K (.ref fD20) = true)
    (aD21 : PySem.W.nsIn K mainGlobals "_law_some_stores" = some (some (.ref fD21)))
    (lD21 : K.lookup fD21 = some ⟨ocD21, odD21, .func (PySem.W.fnOf "_law_some_stores" "_law_some_stores" (defArgs s_l_some_stores) (defBody s_l_some_stores) (defScope s_l_some_stores) .none kVD21 dcD21 pmD21 anD21 cdD21 ctD21), slD21⟩)
    (cD21 : PySem.W.codeIn K cdD21 "_law_some_stores" = true)
    (kD21 : PySem.W.keepIn K (.ref fD21) = true)
    (aD22 : PySem.W.nsIn K mainGlobals "_law_joined" = some (some (.ref fD22)))
    (lD22 : K.lookup fD22 = some ⟨ocD22, odD22, .func (PySem.W.fnOf "_law_joined" "_law_joined" (defArgs s_l_joined) (defBody s_l_joined) (defScope s_l_joined) .none kVD22 dcD22 pmD22 anD22 cdD22 ctD22), slD22⟩)
    (cD22 : PySem.W.codeIn K cdD22 "_law_joined" = true)
    (kD22 : PySem.W.keepIn K (.ref fD22) = true)
    (aD23 : PySem.W.nsIn K mainGlobals "_law_shuffled" = some (some (.ref fD23)))
    (lD23 : K.lookup fD23 = some ⟨ocD23, odD23, .func (PySem.W.fnOf "_law_shuffled" "_law_shuffled" (defArgs s_l_shuffled) (defBody s_l_shuffled) (defScope s_l_shuffled) .none kVD23 dcD23 pmD23 anD23 cdD23 ctD23), slD23⟩)
    (cD23 : PySem.W.codeIn K cdD23 "_law_shuffled" = true)
    (kD23 : PySem.W.keepIn K (.ref fD23) = true)
    (aD24 : PySem.W.nsIn K mainGlobals "_law_in_order" = some (some (.ref fD24)))
    (lD24 : K.lookup fD24 = some ⟨ocD24, odD24, .func (PySem.W.fnOf "_law_in_order" "_law_in_order" (defArgs s_l_in_order) (defBody s_l_in_order) (defScope s_l_in_order) .none kVD24 dcD24 pmD24 anD24 cdD24 ctD24), slD24⟩)
    (cD24 : PySem.W.codeIn K cdD24 "_law_in_order" = true)
    (kD24 : PySem.W.keepIn K (.ref fD24) = true)
    (aD25 : PySem.W.nsIn K mainGlobals "_law_shifted" = some (some (.ref fD25)))
    (lD25 : K.lookup fD25 = some ⟨ocD25, odD25, .func (PySem.W.fnOf "_law_shifted" "_law_shifted" (defArgs s_l_shifted) (defBody s_l_shifted) (defScope s_l_shifted) .none kVD25 dcD25 pmD25 anD25 cdD25 ctD25), slD25⟩)
    (cD25 : PySem.W.codeIn K cdD25 "_law_shifted" = true)
    (kD25 : PySem.W.keepIn K (.ref fD25) = true)
    (aD26 : PySem.W.nsIn K mainGlobals "_law_drawn_right" = some (some (.ref fD26)))
    (lD26 : K.lookup fD26 = some ⟨ocD26, odD26, .func (PySem.W.fnOf "_law_drawn_right" "_law_drawn_right" (defArgs s_l_drawn_right) (defBody s_l_drawn_right) (defScope s_l_drawn_right) .none kVD26 dcD26 pmD26 anD26 cdD26 ctD26), slD26⟩)
    (cD26 : PySem.W.codeIn K cdD26 "_law_drawn_right" = true)
    (kD26 : PySem.W.keepIn K (.ref fD26) = true)
    (aD27 : PySem.W.nsIn K mainGlobals "_law_right" = some (some (.ref fD27)))
    (lD27 : K.lookup fD27 = some ⟨ocD27, odD27, .func (PySem.W.fnOf "_law_right" "_law_right" (defArgs s_l_right) (defBody s_l_right) (defScope s_l_right) .none kVD27 dcD27 pmD27 anD27 cdD27 ctD27), slD27⟩)
    (cD27 : PySem.W.codeIn K cdD27 "_law_right" = true)
    (kD27 : PySem.W.keepIn K (.ref fD27) = true)
    (aD28 : PySem.W.nsIn K mainGlobals "law" = some (some (.ref fD28)))
    (lD28 : K.lookup fD28 = some ⟨ocD28, odD28, .func (PySem.W.fnOf "law" "law" (defArgs sLaw) (defBody sLaw) (defScope sLaw) .none kVD28 dcD28 pmD28 anD28 cdD28 ctD28), slD28⟩)
    (cD28 : PySem.W.codeIn K cdD28 "law" = true)
    (kD28 : PySem.W.keepIn K (.ref fD28) = true)
    (b_len : PySem.W.nsIn K mainGlobals "len" = some none)
    (b_abs : PySem.W.nsIn K mainGlobals "abs" = some none)
    (b_int : PySem.W.nsIn K mainGlobals "int" = some none)
    (b_list : PySem.W.nsIn K mainGlobals "list" = some none)
    (b_tuple : PySem.W.nsIn K mainGlobals "tuple" = some none)
    (b_bool : PySem.W.nsIn K mainGlobals "bool" = some none)
    (b_str : PySem.W.nsIn K mainGlobals "str" = some none)
    (b_enumerate : PySem.W.nsIn K mainGlobals "enumerate" = some none)
    (b_isinstance : PySem.W.nsIn K mainGlobals "isinstance" = some none)
    (b_all : PySem.W.nsIn K mainGlobals "all" = some none)
    (b_any : PySem.W.nsIn K mainGlobals "any" = some none)
    (b_zip : PySem.W.nsIn K mainGlobals "zip" = some none)
    (b_range : PySem.W.nsIn K mainGlobals "range" = some none)
    (b_min : PySem.W.nsIn K mainGlobals "min" = some none)
    (b_max : PySem.W.nsIn K mainGlobals "max" = some none)
    (b_set : PySem.W.nsIn K mainGlobals "set" = some none)
    (b_sorted : PySem.W.nsIn K mainGlobals "sorted" = some none)
    (b_repr : PySem.W.nsIn K mainGlobals "repr" = some none)
    (b_sum : PySem.W.nsIn K mainGlobals "sum" = some none) :
    ∃ fd : FuncData, (∀ (s : Shared) (v : Value), BindsTo s fd ⟨[v], []⟩ [("_law_script", v)]) ∧ ∀ base : Heap, K.In base → base.Ns mainGlobals mg → FnOk l.prog w K mg base CX0 8 fa fd ["_law_script"] (spLaw K) := by
  have e := hfa.symm.trans (PySem.W.mg_of X G aD28)
  cases e
  have F_loosest_high := fun_mk (st := s_loosest_high) lD0 cD0 kD0
  have b_loosest_high := F_loosest_high.binds (ps := ["one", "other"]) fun _ _ _ _ _ _ us hl => match us, hl with | [_, _], _ => rfl
  have F_tightest_high := fun_mk (st := s_tightest_high) lD1 cD1 kD1
  have b_tightest_high := F_tightest_high.binds (ps := ["one", "other"]) fun _ _ _ _ _ _ us hl => match us, hl with | [_, _], _ => rfl
  have F_high_within := fun_mk (st := s_high_within) lD2 cD2 kD2
  have b_high_within := F_high_within.binds (ps := ["one", "other"]) fun _ _ _ _ _ _ us hl => match us, hl with | [_, _], _ => rfl
  have F_total := fun_mk (st := s_total) lD3 cD3 kD3
  have b_total := F_total.binds (ps := ["one", "other"]) fun _ _ _ _ _ _ us hl => match us, hl with | [_, _], _ => rfl
  have F_opposite := fun_mk (st := s_opposite) lD4 cD4 kD4
  have b_opposite := F_opposite.binds (ps := ["bound"]) fun _ _ _ _ _ _ us hl => match us, hl with | [_], _ => rfl
  have F_gaps_closed := fun_mk (st := s_gaps_closed) lD5 cD5 kD5
  have b_gaps_closed := F_gaps_closed.binds (ps := ["gaps", "spans"]) fun _ _ _ _ _ _ us hl => match us, hl with | [_, _], _ => rfl
  have F_gaps_within := fun_mk (st := s_gaps_within) lD6 cD6 kD6
  have b_gaps_within := F_gaps_within.binds (ps := ["one", "other"]) fun _ _ _ _ _ _ us hl => match us, hl with | [_, _], _ => rfl
  have F_gaps_join := fun_mk (st := s_gaps_join) lD7 cD7 kD7
  have b_gaps_join := F_gaps_join.binds (ps := ["one", "other"]) fun _ _ _ _ _ _ us hl => match us, hl with | [_, _], _ => rfl
  have F_gaps_moved := fun_mk (st := s_gaps_moved) lD8 cD8 kD8
  have b_gaps_moved := F_gaps_moved.binds (ps := ["gaps", "i", "n"]) fun _ _ _ _ _ _ us hl => match us, hl with | [_, _, _], _ => rfl
  have F_gaps_bound := fun_mk (st := s_gaps_bound) lD9 cD9 kD9
  have b_gaps_bound := F_gaps_bound.binds (ps := ["gaps", "i", "j", "n"]) fun _ _ _ _ _ _ us hl => match us, hl with | [_, _, _, _], _ => rfl
  have F_with_zero := fun_mk (st := s_with_zero) lD10 cD10 kD10
  have b_with_zero := F_with_zero.binds (ps := ["gaps", "spans"]) fun _ _ _ _ _ _ us hl => match us, hl with | [_, _], _ => rfl
  have F_shorten := fun_mk (st := s_shorten) lD11 cD11 kD11
  have b_shorten := F_shorten.binds (ps := ["ways"]) fun _ _ _ _ _ _ us hl => match us, hl with | [_], _ => rfl
  have F_l_box := fun_mk (st := sBox) lD12 cD12 kD12
  have b_l_box := F_l_box.binds (ps := ["_law_script", "_law_k"]) fun _ _ _ _ _ _ us hl => match us, hl with | [_, _], _ => rfl
  have F_l_take := fun_mk (st := sTake) lD13 cD13 kD13
  have b_l_take := F_l_take.binds (ps := ["_law_box_here", "_law_below"]) fun _ _ _ _ _ _ us hl => match us, hl with | [_, _], _ => rfl
  have F_l_cells := fun_mk (st := sCells) lD14 cD14 kD14
  have b_l_cells := F_l_cells.binds (ps := ["_law_script", "_law_most"]) fun _ _ _ _ _ _ us hl => match us, hl with | [_, _], _ => rfl
  have F_l_of := fun_mk (st := sOf) lD15 cD15 kD15
  have b_l_of := F_l_of.binds (ps := ["_law_box_here", "_law_some"]) fun _ _ _ _ _ _ us hl => match us, hl with | [_, _], _ => rfl
  have F_l_same := fun_mk (st := s_l_same) lD16 cD16 kD16
  have b_l_same := F_l_same.binds (ps := ["_law_found", "_law_due"]) fun _ _ _ _ _ _ us hl => match us, hl with | [_, _], _ => rfl
  have F_l_limit := fun_mk (st := s_l_limit) lD17 cD17 kD17
  have b_l_limit := F_l_limit.binds (ps := ["_law_box_here"]) fun _ _ _ _ _ _ us hl => match us, hl with | [_], _ => rfl
  have F_l_rows := fun_mk (st := s_l_rows) lD18 cD18 kD18
  have b_l_rows := F_l_rows.binds (ps := ["_law_box_here", "_law_size"]) fun _ _ _ _ _ _ us hl => match us, hl with | [_, _], _ => rfl
  have F_l_ends := fun_mk (st := s_l_ends) lD19 cD19 kD19
  have b_l_ends := F_l_ends.binds (ps := ["_law_box_here", "_law_size"]) fun _ _ _ _ _ _ us hl => match us, hl with | [_, _], _ => rfl
  have F_l_hull := fun_mk (st := s_l_hull) lD20 cD20 kD20
  have b_l_hull := F_l_hull.binds (ps := ["_law_stores"]) fun _ _ _ _ _ _ us hl => match us, hl with | [_], _ => rfl
  have F_l_some_stores := fun_mk (st := s_l_some_stores) lD21 cD21 kD21
  have b_l_some_stores := F_l_some_stores.binds (ps := ["_law_box_here", "_law_size"]) fun _ _ _ _ _ _ us hl => match us, hl with | [_, _], _ => rfl
  have F_l_joined := fun_mk (st := s_l_joined) lD22 cD22 kD22
  have b_l_joined := F_l_joined.binds (ps := ["_law_pairs_so", "_law_others"]) fun _ _ _ _ _ _ us hl => match us, hl with | [_, _], _ => rfl
  have F_l_shuffled := fun_mk (st := s_l_shuffled) lD23 cD23 kD23
  have b_l_shuffled := F_l_shuffled.binds (ps := ["_law_box_here", "_law_some"]) fun _ _ _ _ _ _ us hl => match us, hl with | [_, _], _ => rfl
  have F_l_in_order := fun_mk (st := s_l_in_order) lD24 cD24 kD24
  have b_l_in_order := F_l_in_order.binds (ps := ["_law_order_so", "_law_rows_here", "_law_pairs_so"]) fun _ _ _ _ _ _ us hl => match us, hl with | [_, _, _], _ => rfl
  have F_l_shifted := fun_mk (st := s_l_shifted) lD25 cD25 kD25
  have b_l_shifted := F_l_shifted.binds (ps := ["_law_pairs_so", "_law_at", "_law_by"]) fun _ _ _ _ _ _ us hl => match us, hl with | [_, _, _], _ => rfl
  have F_l_drawn_right := fun_mk (st := s_l_drawn_right) lD26 cD26 kD26
  have b_l_drawn_right := F_l_drawn_right.binds (ps := ["_law_box_here", "_law_size"]) fun _ _ _ _ _ _ us hl => match us, hl with | [_, _], _ => rfl
  have F_l_right := fun_mk (st := s_l_right) lD27 cD27 kD27
  have b_l_right := F_l_right.binds (ps := ["_law_box_here"]) fun _ _ _ _ _ _ us hl => match us, hl with | [_], _ => rfl
  have F_law := fun_mk (st := sLaw) lD28 cD28 kD28
  have b_law := F_law.binds (ps := ["_law_script"]) fun _ _ _ _ _ _ us hl => match us, hl with | [_], _ => rfl
  have bl : Blts mg := ⟨PySem.W.mg_none_of X G b_len, PySem.W.mg_none_of X G b_abs, PySem.W.mg_none_of X G b_int, PySem.W.mg_none_of X G b_list, PySem.W.mg_none_of X G b_tuple, PySem.W.mg_none_of X G b_bool, PySem.W.mg_none_of X G b_str, PySem.W.mg_none_of X G b_enumerate, PySem.W.mg_none_of X G b_isinstance, PySem.W.mg_none_of X G b_all, PySem.W.mg_none_of X G b_any, PySem.W.mg_none_of X G b_zip, PySem.W.mg_none_of X G b_range, PySem.W.mg_none_of X G b_min, PySem.W.mg_none_of X G b_max, PySem.W.mg_none_of X G b_set, PySem.W.mg_none_of X G b_sorted, PySem.W.mg_none_of X G b_repr, PySem.W.mg_none_of X G b_sum⟩
  have n_loosest_high := PySem.W.mg_of X G aD0
  have n_tightest_high := PySem.W.mg_of X G aD1
  have n_high_within := PySem.W.mg_of X G aD2
  have n_total := PySem.W.mg_of X G aD3
  have n_opposite := PySem.W.mg_of X G aD4
  have n_gaps_closed := PySem.W.mg_of X G aD5
  have n_gaps_within := PySem.W.mg_of X G aD6
  have n_gaps_join := PySem.W.mg_of X G aD7
  have n_gaps_moved := PySem.W.mg_of X G aD8
  have n_gaps_bound := PySem.W.mg_of X G aD9
  have n_with_zero := PySem.W.mg_of X G aD10
  have n_shorten := PySem.W.mg_of X G aD11
  have n_l_box := PySem.W.mg_of X G aD12
  have n_l_take := PySem.W.mg_of X G aD13
  have n_l_cells := PySem.W.mg_of X G aD14
  have n_l_of := PySem.W.mg_of X G aD15
  have n_l_same := PySem.W.mg_of X G aD16
  have n_l_limit := PySem.W.mg_of X G aD17
  have n_l_rows := PySem.W.mg_of X G aD18
  have n_l_ends := PySem.W.mg_of X G aD19
  have n_l_hull := PySem.W.mg_of X G aD20
  have n_l_some_stores := PySem.W.mg_of X G aD21
  have n_l_joined := PySem.W.mg_of X G aD22
  have n_l_shuffled := PySem.W.mg_of X G aD23
  have n_l_in_order := PySem.W.mg_of X G aD24
  have n_l_shifted := PySem.W.mg_of X G aD25
  have n_l_drawn_right := PySem.W.mg_of X G aD26
  have n_l_right := PySem.W.mg_of X G aD27
  refine ⟨PySem.W.fnOf "law" "law" (defArgs sLaw) (defBody sLaw) (defScope sLaw) .none kVD28 dcD28 pmD28 anD28 cdD28 ctD28, fun s v => .of_eq rfl, fun base _ _ => ?_⟩
  have OV := ok_oppV (P := l.prog) (w := w) (mg := mg) (base := base) F_opposite
  have cv_opposite : Cal l.prog w K mg base 1 "opposite" ["bound"] (spOpp K) _ _ := ⟨OV, b_opposite, F_opposite.kp, n_opposite⟩
  have c_opposite : Cal l.prog w K mg base 1 "opposite" ["bound"] (spP K S_ng) _ _ := ⟨negP OV, b_opposite, F_opposite.kp, n_opposite⟩
  have c_with_zero : Cal l.prog w K mg base 2 "with_zero" ["gaps", "spans"] (spWz K) _ _ := ⟨ok_wz bl cv_opposite F_with_zero, b_with_zero, F_with_zero.kp, n_with_zero⟩
  have c_shorten : Cal l.prog w K mg base 1 "shorten" ["ways"] (spShorten K) _ _ := ⟨ok_shorten bl F_shorten, b_shorten, F_shorten.kp, n_shorten⟩
  have c_gaps_closed : Cal l.prog w K mg base 3 "gaps_closed" ["gaps", "spans"] (spP K S_gc) _ _ := ⟨ok_gaps_closed bl c_with_zero c_shorten c_opposite F_gaps_closed, b_gaps_closed, F_gaps_closed.kp, n_gaps_closed⟩
  have c_tightest_high : Cal l.prog w K mg base 1 "tightest_high" ["one", "other"] (spP K S_th) _ _ := ⟨ok_tightest_high bl F_tightest_high, b_tightest_high, F_tightest_high.kp, n_tightest_high⟩
  have c_loosest_high : Cal l.prog w K mg base 1 "loosest_high" ["one", "other"] (spP K S_lh) _ _ := ⟨ok_loosest_high bl F_loosest_high, b_loosest_high, F_loosest_high.kp, n_loosest_high⟩
  have c_total : Cal l.prog w K mg base 1 "total" ["one", "other"] (spP K S_to) _ _ := ⟨ok_total bl F_total, b_total, F_total.kp, n_total⟩
  have c_high_within : Cal l.prog w K mg base 1 "high_within" ["one", "other"] (spP K S_hw) _ _ := ⟨ok_high_within bl F_high_within, b_high_within, F_high_within.kp, n_high_within⟩
  have c_gaps_within : Cal l.prog w K mg base 2 "gaps_within" ["one", "other"] (spP K S_gw) _ _ := ⟨ok_gaps_within bl c_high_within F_gaps_within, b_gaps_within, F_gaps_within.kp, n_gaps_within⟩
  have c_gaps_join : Cal l.prog w K mg base 2 "gaps_join" ["one", "other"] (spP K (S_gm jnH)) _ _ := ⟨ok_gaps_join bl c_loosest_high F_gaps_join, b_gaps_join, F_gaps_join.kp, n_gaps_join⟩
  have c_gaps_moved : Cal l.prog w K mg base 2 "gaps_moved" ["gaps", "i", "n"] (spP K S_mv) _ _ := ⟨ok_gaps_moved bl c_total F_gaps_moved, b_gaps_moved, F_gaps_moved.kp, n_gaps_moved⟩
  have c_gaps_bound : Cal l.prog w K mg base 2 "gaps_bound" ["gaps", "i", "j", "n"] (spP K S_bd) _ _ := ⟨ok_gaps_bound bl c_tightest_high F_gaps_bound, b_gaps_bound, F_gaps_bound.kp, n_gaps_bound⟩
  have T1 := ok_take (n := 1) (P := l.prog) (w := w) (mg := mg) (base := base) F_l_take
  have T2 := ok_take2 F_l_take T1 b_l_take F_l_take.kp n_l_take
  have c4_l_take : Cal l.prog w K mg base 3 "_law_take" ["_law_box_here", "_law_below"] (spB K 2 domT2 postT) _ _ := ⟨take_B2 T2, b_l_take, F_l_take.kp, n_l_take⟩
  have c_l_take : Cal l.prog w K mg base 2 "_law_take" ["_law_box_here", "_law_below"] (spB K 1 domT postT) _ _ := ⟨take_B T1, b_l_take, F_l_take.kp, n_l_take⟩
  have c_l_of : Cal l.prog w K mg base 3 "_law_of" ["_law_box_here", "_law_some"] (spB K 1 domO postO) _ _ := ⟨ok_l_of bl c_l_take F_l_of, b_l_of, F_l_of.kp, n_l_of⟩
  have c_l_same : Cal l.prog w K mg base 4 "_law_same" ["_law_found", "_law_due"] (spP K (S_same 4)) _ _ := ⟨all_same bl F_l_same b_l_same n_l_same 4, b_l_same, F_l_same.kp, n_l_same⟩
  have c_l_limit : Cal l.prog w K mg base 4 "_law_limit" ["_law_box_here"] (spB K 7 domL postL) _ _ := ⟨ok_l_limit bl c4_l_take c_l_of F_l_limit, b_l_limit, F_l_limit.kp, n_l_limit⟩
  have c_l_rows : Cal l.prog w K mg base 5 "_law_rows" ["_law_box_here", "_law_size"] (spB K 112 domN postRw) _ _ := ⟨ok_l_rows bl c_l_limit F_l_rows, b_l_rows, F_l_rows.kp, n_l_rows⟩
  have c_l_ends : Cal l.prog w K mg base 4 "_law_ends" ["_law_box_here", "_law_size"] (spB K 32 domN postEn) _ _ := ⟨ok_l_ends bl c4_l_take c_l_of F_l_ends, b_l_ends, F_l_ends.kp, n_l_ends⟩
  have c_l_some_stores : Cal l.prog w K mg base 4 "_law_some_stores" ["_law_box_here", "_law_size"] (spB K 35 domN postSs) _ _ := ⟨ok_l_some_stores bl c4_l_take c_l_of F_l_some_stores, b_l_some_stores, F_l_some_stores.kp, n_l_some_stores⟩
  have c_l_shuffled : Cal l.prog w K mg base 4 "_law_shuffled" ["_law_box_here", "_law_some"] (spB K 8 domS postS) _ _ := ⟨ok_l_shuffled bl c4_l_take F_l_shuffled, b_l_shuffled, F_l_shuffled.kp, n_l_shuffled⟩
  have c_l_hull : Cal l.prog w K mg base 1 "_law_hull" ["_law_stores"] (spP K S_hu) _ _ := ⟨ok_l_hull bl F_l_hull, b_l_hull, F_l_hull.kp, n_l_hull⟩
  have c_l_joined : Cal l.prog w K mg base 1 "_law_joined" ["_law_pairs_so", "_law_others"] (spP K S_jp) _ _ := ⟨ok_l_joined bl F_l_joined, b_l_joined, F_l_joined.kp, n_l_joined⟩
  have c_l_in_order : Cal l.prog w K mg base 1 "_law_in_order" ["_law_order_so", "_law_rows_here", "_law_pairs_so"] (spP K S_io) _ _ := ⟨ok_l_in_order bl F_l_in_order, b_l_in_order, F_l_in_order.kp, n_l_in_order⟩
  have c_l_shifted : Cal l.prog w K mg base 1 "_law_shifted" ["_law_pairs_so", "_law_at", "_law_by"] (spP K S_sf) _ _ := ⟨ok_l_shifted bl F_l_shifted, b_l_shifted, F_l_shifted.kp, n_l_shifted⟩
  have c_l_drawn_right : Cal l.prog w K mg base 6 "_law_drawn_right" ["_law_box_here", "_law_size"] (spB K 160 domN postB) _ _ := ⟨ok_l_drawn_right bl c4_l_take c_l_rows c_l_ends c_l_shuffled c_l_in_order c_l_shifted c_gaps_closed c_gaps_within c_gaps_moved c_gaps_bound c_l_same F_l_drawn_right, b_l_drawn_right, F_l_drawn_right.kp, n_l_drawn_right⟩
  have GR := ok_l_right bl c4_l_take c_l_some_stores c_l_hull c_l_joined c_l_drawn_right c_gaps_closed c_gaps_within c_gaps_join c_l_same F_l_right
  have GC := ok_cells (P := l.prog) (w := w) (mg := mg) (base := base) (n := 0) F_l_cells bl.list bl.enumerate
  have GB := ok_box (P := l.prog) (w := w) (mg := mg) (base := base) (n := 0) F_l_box bl.len bl.abs bl.int
  exact ok_law F_law GC b_l_cells F_l_cells.kp n_l_cells GB b_l_box F_l_box.kp n_l_box GR b_l_right F_l_right.kp n_l_right bl.range bl.len bl.all
end Sh
set_option Elab.async false
open PySem PySem.W PyProof.Rows
set_option maxRecDepth 100000 in
set_option maxHeartbeats 0 in
theorem PySem.Challenge.cw_shadowruns_k44_closed_gaps_stay_closed_holds : PySem.Challenge.rw_shadowruns_k44_closed_gaps_stay_closed.Holds := by
  w_on; o_law; k_head; (case hw => w_witness2)
  k_fill
  refine L2.walk_of (l := PySem.Challenge.rw_shadowruns_k44_closed_gaps_stay_closed) (n := 63) (k := 8) (x := "_law_script") (CX := fun _ => L2.CX0) (sp := fun w => Sh.spLaw _) rfl (by decide) rfl ⟨rfl, by decide, by decide⟩ (fun w h Y => PySem.W.kIn_of Y) ?F (fun _ _ a ns hl _ hS => ⟨a, ns, rfl, hS, hl, fun _ => rfl⟩) (fun _ _ _ _ _ h => h)
  case F =>
    intro w mg fa h KX G hmg
    refine' Sh.all_mk KX G hmg ?aD0 ?lD0 ?cD0 ?kD0 ?aD1 ?lD1 ?cD1 ?kD1 ?aD2 ?lD2 ?cD2 ?kD2 ?aD3 ?lD3 ?cD3 ?kD3 ?aD4 ?lD4 ?cD4 ?kD4 ?aD5 ?lD5 ?cD5 ?kD5 ?aD6 ?lD6 ?cD6 ?kD6 ?aD7 ?lD7 ?cD7 ?kD7 ?aD8 ?lD8 ?cD8 ?kD8 ?aD9 ?lD9 ?cD9 ?kD9 ?aD10 ?lD10 ?cD10 ?kD10 ?aD11 ?lD11 ?cD11 ?kD11 ?aD12 ?lD12 ?cD12 ?kD12 ?aD13 ?lD13 ?cD13 ?kD13 ?aD14 ?lD14 ?cD14 ?kD14 ?aD15 ?lD15 ?cD15 ?kD15 ?aD16 ?lD16 ?cD16 ?kD16 ?aD17 ?lD17 ?cD17 ?kD17 ?aD18 ?lD18 ?cD18 ?kD18 ?aD19 ?lD19 ?cD19 ?kD19 ?aD20 ?lD20 ?cD20 ?kD20 ?aD21 ?lD21 ?cD21 ?kD21 ?aD22 ?lD22 ?cD22 ?kD22 ?aD23 ?lD23 ?cD23 ?kD23 ?aD24 ?lD24 ?cD24 ?kD24 ?aD25 ?lD25 ?cD25 ?kD25 ?aD26 ?lD26 ?cD26 ?kD26 ?aD27 ?lD27 ?cD27 ?kD27 ?aD28 ?lD28 ?cD28 ?kD28 ?b_len ?b_abs ?b_int ?b_list ?b_tuple ?b_bool ?b_str ?b_enumerate ?b_isinstance ?b_all ?b_any ?b_zip ?b_range ?b_min ?b_max ?b_set ?b_sorted ?b_repr ?b_sum
    (case aD0 => k_is)
    (case lD0 => k_is)
    (case cD0 => k_is)
    (case kD0 => k_is)
    (case aD1 => k_is)
    (case lD1 => k_is)
    (case cD1 => k_is)
    (case kD1 => k_is)
    (case aD2 => k_is)
    (case lD2 => k_is)
    (case cD2 => k_is)
    (case kD2 => k_is)
    (case aD3 => k_is)
    (case lD3 => k_is)
    (case cD3 => k_is)
    (case kD3 => k_is)
    (case aD4 => k_is)
    (case lD4 => k_is)
    (case cD4 => k_is)
    (case kD4 => k_is)
    (case aD5 => k_is)
    (case lD5 => k_is)
    (case cD5 => k_is)
    (case kD5 => k_is)
    (case aD6 => k_is)
    (case lD6 => k_is)
    (case cD6 => k_is)
    (case kD6 => k_is)
    (case aD7 => k_is)
    (case lD7 => k_is)
    (case cD7 => k_is)
    (case kD7 => k_is)
    (case aD8 => k_is)
    (case lD8 => k_is)
    (case cD8 => k_is)
    (case kD8 => k_is)
    (case aD9 => k_is)
    (case lD9 => k_is)
    (case cD9 => k_is)
    (case kD9 => k_is)
    (case aD10 => k_is)
    (case lD10 => k_is)
    (case cD10 => k_is)
    (case kD10 => k_is)
    (case aD11 => k_is)
    (case lD11 => k_is)
    (case cD11 => k_is)
    (case kD11 => k_is)
    (case aD12 => k_is)
    (case lD12 => k_is)
    (case cD12 => k_is)
    (case kD12 => k_is)
    (case aD13 => k_is)
    (case lD13 => k_is)
    (case cD13 => k_is)
    (case kD13 => k_is)
    (case aD14 => k_is)
    (case lD14 => k_is)
    (case cD14 => k_is)
    (case kD14 => k_is)
    (case aD15 => k_is)
    (case lD15 => k_is)
    (case cD15 => k_is)
    (case kD15 => k_is)
    (case aD16 => k_is)
    (case lD16 => k_is)
    (case cD16 => k_is)
    (case kD16 => k_is)
    (case aD17 => k_is)
    (case lD17 => k_is)
    (case cD17 => k_is)
    (case kD17 => k_is)
    (case aD18 => k_is)
    (case lD18 => k_is)
    (case cD18 => k_is)
    (case kD18 => k_is)
    (case aD19 => k_is)
    (case lD19 => k_is)
    (case cD19 => k_is)
    (case kD19 => k_is)
    (case aD20 => k_is)
    (case lD20 => k_is)
    (case cD20 => k_is)
    (case kD20 => k_is)
    (case aD21 => k_is)
    (case lD21 => k_is)
    (case cD21 => k_is)
    (case kD21 => k_is)
    (case aD22 => k_is)
    (case lD22 => k_is)
    (case cD22 => k_is)
    (case kD22 => k_is)
    (case aD23 => k_is)
    (case lD23 => k_is)
    (case cD23 => k_is)
    (case kD23 => k_is)
    (case aD24 => k_is)
    (case lD24 => k_is)
    (case cD24 => k_is)
    (case kD24 => k_is)
    (case aD25 => k_is)
    (case lD25 => k_is)
    (case cD25 => k_is)
    (case kD25 => k_is)
    (case aD26 => k_is)
    (case lD26 => k_is)
    (case cD26 => k_is)
    (case kD26 => k_is)
    (case aD27 => k_is)
    (case lD27 => k_is)
    (case cD27 => k_is)
    (case kD27 => k_is)
    (case aD28 => k_is)
    (case lD28 => k_is)
    (case cD28 => k_is)
    (case kD28 => k_is)
    (case b_len => k_is)
    (case b_abs => k_is)
    (case b_int => k_is)
    (case b_list => k_is)
    (case b_tuple => k_is)
    (case b_bool => k_is)
    (case b_str => k_is)
    (case b_enumerate => k_is)
    (case b_isinstance => k_is)
    (case b_all => k_is)
    (case b_any => k_is)
    (case b_zip => k_is)
    (case b_range => k_is)
    (case b_min => k_is)
    (case b_max => k_is)
    (case b_set => k_is)
    (case b_sorted => k_is)
    (case b_repr => k_is)
    (case b_sum => k_is)
