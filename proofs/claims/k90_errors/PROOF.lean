import PyProof.Rows.All
import Wide.All
import OpenK.AllK
import Wide.FinOn
import HandS.ForMost
import HandS.MapObj
import HandS.FromBytesMap
import HandS.MapJoin
import KE.GoesMore
import PyProof.TupleOfGen
import HandS.Flow
import HandS.IsInst
import HandS.FStr
import HandS.Zip
import HandS.Walk
import KE.KExcInit
import KE.KExcIs
import HandS.ExcInit
import HandS.ExcField
import KE.RegKIsAll
import KE.KExcLine
import PySem.Challenge.RW_shadowruns_k90_errors
set_option Elab.async false
set_option linter.all false
set_option maxRecDepth 100000
set_option maxHeartbeats 4000000
/-! tuple(map(f, xs)), f a def of one's own that may lay out -/
namespace MpT
open PySem PySem.Spec PyProof.Rows L2 FbM
section
variable {prog : Program} {w : World} {A : Around} {E : Value → Shared → Prop} {s : Shared}
theorem next_anyT {m T it l : Addr} {f : Value} {items : Array Value} {i : Nat} {u : Value} {Q : Value → Shared → Prop} (hm : MpR.IsMap s.heap m T f) (hT : MpR.IsOne s.heap T (.ref it)) (hit : s.heap.IsTupleIter it l i) (hl : s.heap.IsTuple l items)
    (hu : items[i]? = some u) (hmi : m ≠ it)
    (hc : ∀ h', h'.IsTupleIter it l (i + 1) → Heap.SameBut it s.heap h' → wpAny (model prog w) A (call f [u]) Q E { s with heap := h' }) :
    wpAny (model prog w) A (Builtin.«map.__next__» ⟨[.ref m], []⟩) (fun fin s' => ∃ v, fin = .done (.ret v) ∧ Q v s') E s := by
  show wpAny _ _ (field (.ref m) 0 >>= _) _ _ _
  refine wpAny_bind (wpAny_field hm rfl (x := .ref T) rfl ?_)
  refine wpAny_bind (wpAny_seqItems hT rfl ?_)
  try dsimp only
  refine wpAny_bind ?_
  simp only [List.forIn_toArray, List.forIn_cons, List.forIn_nil]
  refine wpAny_bind (wpAny_bind (wpAny_holding (wpAny_nextOf_tuple_item hit hl hu fun h' hit' hs' => ?_)))
  first
  | refine wpAny_pure (wpAny_pure ?_)
  | refine wpAny_bind (wpAny_pure (wpAny_pure (wpAny_pure ?_)))
  have hm' : MpR.IsMap h' m T f := hs'.extBut _ _ hmi hm
  show wpAny _ _ (field (.ref m) 1 >>= _) _ _ _
  refine wpAny_bind (wpAny_field hm' rfl (x := f) rfl ?_)
  show wpAny _ _ (holding _ (call f [u]) >>= _) _ _ _
  refine wpAny_bind (wpAny_holding (wpAny_mono (hc h' hit' hs') (fun v s' hv => ?_) fun _ _ z => z))
  refine wpAny_bind (wpAny_letGo ?_)
  exact wpAny_pure ⟨v, rfl, hv⟩
theorem pyNext_anyT {m T it l : Addr} {f : Value} {items : Array Value} {i : Nat} {u : Value} {Q : Option Value → Shared → Prop} (hm : MpR.IsMap s.heap m T f) (hT : MpR.IsOne s.heap T (.ref it)) (hit : s.heap.IsTupleIter it l i) (hl : s.heap.IsTuple l items)
    (hu : items[i]? = some u) (hmi : m ≠ it)
    (hc : ∀ h', h'.IsTupleIter it l (i + 1) → Heap.SameBut it s.heap h' → wpAny (model prog w) A.in1 (call f [u]) (fun v s' => Q (some v) s') (fun e s' => NotStop e s' ∧ E e s') { s with heap := h' }) :
    wpAny (model prog w) A (pyNext (.ref m)) Q E s := by
  have hT0 : s.TypeIs (.ref m) "map" := ⟨_, hm, rfl⟩
  unfold pyNext
  refine wpAny_bind (wpAny_attempt (wpAny_callSpecial?_slot (name := Str.ofString "__next__") hT0 MpR.slot_mp_next
    (wpAny_call_entry MpR.slot_mp_next hT0 MpR.entry_mp_next (next_anyT hm hT hit hl hu hmi fun h' hit' hs' => ?_) (MpR.args_mp_next _))))
  refine wpAny_mono (hc h' hit' hs') (fun v s' hv => wpAny_pure hv) fun e s' he => ?_
  obtain ⟨⟨Te, hTe, hsub⟩, hE⟩ := he
  refine wpAny_bind (wpAny_isInstance hTe hsub ?_)
  exact bm_if_false rfl (wpAny_throw hE)
end
/-- the source of a map: a list or a tuple -/
structure Src (X : Cx) (pins : List (Addr × Obj)) (σ : L2.St) (g m T it : Addr) (xs : List V) (Gs : Hp → Prop) (itS : Nat → Heap → Prop) : Prop where
  keep : ∀ i h h', itS i h → (∀ o, h.get? it = some o → h'.get? it = some o) → itS i h'
  live : ∀ i h, itS i h → ∃ o, h.get? it = some o
  item : ∀ (A : Around) (E : Value → Shared → Prop) (s : Shared) (H : Hp) (i : Nat) (x : V) (Q : Option Value → Shared → Prop), Inv X pins σ H s → Gs H → MpR.IsMap s.heap m T (.ref g) → MpR.IsOne s.heap T (.ref it) → itS i s.heap → xs[i]? = some x → m ≠ it →
    (∀ u h', RelV x u → itS (i + 1) h' → Heap.SameBut it s.heap h' → wpAny (model X.prog X.w) A.in1 (call (.ref g) [u]) (fun v s' => Q (some v) s') (fun e s' => NotStop e s' ∧ E e s') { s with heap := h' }) →
    wpAny (model X.prog X.w) A (pyNext (.ref m)) Q E s
  done : ∀ (A : Around) (E : Value → Shared → Prop) (s : Shared) (H : Hp) (Q : Option Value → Shared → Prop), A.handled = none → Inv X pins σ H s → Gs H → MpR.IsMap s.heap m T (.ref g) → MpR.IsOne s.heap T (.ref it) → itS xs.length s.heap →
    (∀ h', Heap.ExtBut it s.heap h' → Q none { s with heap := h' }) → wpAny (model X.prog X.w) A (pyNext (.ref m)) Q E s
theorem src_list {X : Cx} {pins : List (Addr × Obj)} {σ : L2.St} {g m T it l : Addr} {xs : List V} (li : l ≠ it) : Src X pins σ g m T it xs (fun H => SqL X.K H l xs) (fun i h => h.IsListIter it l i) where
  keep := fun i h h' q k => by obtain ⟨o, ho, r⟩ := q; exact ⟨o, k _ ho, r⟩
  live := fun i h q => by obtain ⟨o, ho, r⟩ := q; exact ⟨o, ho⟩
  item := fun A E s H i x Q I hl hm hT hit hx mi hc => by
    obtain ⟨its, rv, pl, _⟩ := I.list hl
    obtain ⟨u, hu, rx⟩ := rv.get hx
    exact pyNext_any hm hT hit pl.isList (u := u) (by simpa using hu) mi fun h' hit' hs' => hc u h' rx hit' hs'
  done := fun A E s H Q hh I hl hm hT hit hq => by
    obtain ⟨its, rv, pl, _⟩ := I.list hl
    have hsz : its.toArray.size = xs.length := by rw [List.size_toArray]; exact rv.length.symm
    exact MpR.mp_pyNext_end (A := A) (n := its.toArray.size) (Draws.list (show A.in1.handled = none from hh) it l li its.toArray) hm hT ⟨(by rw [hsz]; exact hit), pl.isList⟩ hq
theorem src_tup {X : Cx} {pins : List (Addr × Obj)} {σ : L2.St} {g m T it l : Addr} {xs : List V} (li : l ≠ it) : Src X pins σ g m T it xs (fun H => SqT X.K H l xs) (fun i h => h.IsTupleIter it l i) where
  keep := fun i h h' q k => by obtain ⟨o, ho, r⟩ := q; exact ⟨o, k _ ho, r⟩
  live := fun i h q => by obtain ⟨o, ho, r⟩ := q; exact ⟨o, ho⟩
  item := fun A E s H i x Q I hl hm hT hit hx mi hc => by
    obtain ⟨its, rv, pl, _⟩ := I.tuple hl
    obtain ⟨u, hu, rx⟩ := rv.get hx
    exact pyNext_anyT hm hT hit pl (u := u) (by simpa using hu) mi fun h' hit' hs' => hc u h' rx hit' hs'
  done := fun A E s H Q hh I hl hm hT hit hq => by
    obtain ⟨its, rv, pl, _⟩ := I.tuple hl
    have hsz : its.toArray.size = xs.length := by rw [List.size_toArray]; exact rv.length.symm
    exact MpR.mp_pyNext_end (A := A) (n := its.toArray.size) (Draws.tuple (show A.in1.handled = none from hh) it l li its.toArray) hm hT ⟨(by rw [hsz]; exact hit), pl⟩ hq
/-- the items one after another; G: the source stands -/
def mapR (sp : Sp) (G : Hp → Prop) : List V → List V → Hp → (List V → Hp → Prop) → Prop
  | [], ys, H, Q => Q ys H
  | x :: r, ys, H, Q => sp [x] H (fun y H' => G H' ∧ mapR sp G r (ys ++ [y]) H' Q) E0
theorem Vals.snoc {xs : List V} {us : List Value} {x : V} {u : Value} (r : Vals xs us) (q : RelV x u) : Vals (xs ++ [x]) (us ++ [u]) := r.append (.cons q .nil)
section
variable {X : Cx} {pins : List (Addr × Obj)} {σ : L2.St} {kk : Nat} {g m T it S : Addr} {sp : Sp} {xs : List V} {Gs : Hp → Prop} {itS : Nat → Heap → Prop} {A : Around} {R : Result → Shared → Prop} {fin : List V → Hp → Prop} {res : Value}
theorem mp_loop (hh : A.handled = none) (hr : Room kk A.in1.in1) (hA : A.frames = some X.stack) (Fn : FnR X.prog X.w X.K X.mg X.base CX0 kk g sp) (sr : Src X pins σ g m T it xs Gs itS) (hz : xs.length ≤ sizeLine)
    (rm : Rec X pins m) (rT : Rec X pins T) (rS : Rec X pins S) (ri : Rec X pins it)
    (mi : m ≠ it) (Ti : T ≠ it) (Si : S ≠ it) (mS : m ≠ S) (TS : T ≠ S)
    (hR : ∀ ys acc c H' s', fin ys H' → Vals ys acc → ys.length = xs.length → Inv X pins σ H' s' → s'.heap.get? S = some { cls := .type "list", dict := none, data := .seq acc.toArray c, slots := #[] } → R (.ok (.ret res)) s') :
    ∀ (r : List V) (i : Nat) (ys : List V) (acc : Array Value) (c : Nat) (s : Shared) (H : Hp), xs.drop i = r → i ≤ xs.length → ys.length = i → Vals ys acc.toList → Inv X pins σ H s → Gs H → H m = none → H T = none → H S = none → H it = none →
      MpR.IsMap s.heap m T (.ref g) → MpR.IsOne s.heap T (.ref it) → itS i s.heap → s.heap.get? S = some { cls := .type "list", dict := none, data := .seq acc c, slots := #[] } →
      mapR sp Gs r ys H fin → codeAny (model X.prog X.w) A (.builtin "list.extend.loop" ⟨[.ref S, .ref m, res], []⟩) R s
  | [], i, ys, acc, c, s, H, hd, hi, ha, hv, I, hG, um, uT, uS, ui, hm, hT, hit, hS, D => by
    have hin : i = xs.length := by
      have e := congrArg List.length hd
      rw [List.length_drop] at e
      have e2 : xs.length - i = 0 := e
      omega
    subst hin
    refine codeAny_builtin F.entry_extend_loop ?_
    rw [Around.under_plainId F.plain_extend_loop _]
    show wpAny _ A.in1 (pyNext (.ref m) >>= _) _ _ s
    refine wpAny_bind (sr.done A.in1 _ s H _ hh I hG hm hT hit fun h' he => ?_)
    have I2 : Inv X pins σ H { s with heap := h' } := ri.turn (t' := s.toks) I ui fun c o hc e => he c o hc e
    have hS' := he S _ Si hS
    exact wpAny_pure (hR ys acc.toList c H _ D hv ha I2 (by simpa using hS'))
  | x :: r, i, ys, acc, c, s, H, hd, hi, ha, hv, I, hG, um, uT, uS, ui, hm, hT, hit, hS, D => by
    have hlt : i < xs.length := by
      rcases Nat.lt_or_ge i xs.length with z | z
      · exact z
      · rw [List.drop_eq_nil_of_le z] at hd
        exact (nomatch hd)
    have hxi : xs[i]? = some x := by
      have e : (xs.drop i)[0]? = (x :: r)[0]? := by rw [hd]
      rw [List.getElem?_drop] at e
      exact e
    have hdr : xs.drop (i + 1) = r := by
      have e := congrArg (List.drop 1) hd
      rw [List.drop_drop] at e
      first
        | exact e
        | (rw [Nat.add_comm] at e; exact e)
    have hac : acc.size = i := by
      have e : ys.length = acc.toList.length := Vals.length hv
      have e2 : acc.toList.length = acc.size := Array.length_toList
      omega
    refine codeAny_builtin F.entry_extend_loop ?_
    rw [Around.under_plainId F.plain_extend_loop _]
    show wpAny _ A.in1 (pyNext (.ref m) >>= _) _ _ s
    refine wpAny_bind (sr.item A.in1 _ s H i x _ I hG hm hT hit hxi mi fun u h1 rx hit1 hs1 => ?_)
    have I1 : Inv X pins σ H { s with heap := h1 } := ri.turn (t' := s.toks) I ui fun c o hc e => hs1.extBut c o hc e
    have e0 := I1.env0
    have e1 : Env0 X.prog X.w X.K X.mg X.base A.in1.in1 X.stack { s with heap := h1 } H := ⟨hA, e0.mod, e0.bs, e0.bsz, e0.funs, e0.frf, e0.hok, e0.bare⟩
    refine wpAny_call (codeAny_mono (Fn A.in1.in1 X.stack _ H [u] [x] _ E0 hr e1 (.cons rx .nil) D) fun rr s2 hrr => ?_)
    cases rr with
    | error e => exact False.elim hrr
    | ok fl =>
      cases fl with
      | next => exact False.elim hrr
      | brk => exact False.elim hrr
      | cont => exact False.elim hrr
      | ret v =>
        obtain ⟨y, H', os, bare, un, hok, ry, hG', D'⟩ := (show CE X.stack X.prog X.w H _ _ v s2 from hrr)
        have I2 : Inv X pins σ H' s2 := I1.call' os un hok bare (fun b y => absurd y List.not_mem_nil)
        have keep : ∀ {b : Addr} {o : Obj}, Rec X pins b → H b = none → h1.get? b = some o → s2.heap.get? b = some o := fun rb ub eb => un.keep _ _ eb ub rb.fr List.not_mem_nil
        have hm1 := hs1.extBut _ _ mi hm
        have hT1 := hs1.extBut _ _ Ti hT
        have hS1 := hs1.extBut _ _ Si hS
        obtain ⟨oi, hoi⟩ := sr.live _ _ hit1
        have hm2 : MpR.IsMap s2.heap m T (.ref g) := keep rm um hm1
        have hT2 : MpR.IsOne s2.heap T (.ref it) := keep rT uT hT1
        have hS2 := keep rS uS hS1
        have hit2 : itS (i + 1) s2.heap := sr.keep _ _ _ hit1 fun o e => keep ri ui e
        have um2 : H' m = none := un.free _ _ hm1 um List.not_mem_nil
        have uT2 : H' T = none := un.free _ _ hT1 uT List.not_mem_nil
        have uS2 : H' S = none := un.free _ _ hS1 uS List.not_mem_nil
        have ui2 : H' it = none := un.free _ _ hoi ui List.not_mem_nil
        show wpAny _ A.in1 (updateSeq S (·.push v) >>= _) _ _ _
        refine wpAny_bind ?_
        have upS := Heap.get?_update_self (Obj.mapSeq (·.push v)) hS2 rfl
        have sb : Heap.SameBut S s2.heap (s2.heap.update S (Obj.mapSeq (·.push v))) := Heap.SameBut.update ..
        have I3 : Inv X pins σ H' { s2 with heap := s2.heap.update S (Obj.mapSeq (·.push v)) } := rS.turn (t' := s2.toks) I2 uS2 fun c o hc e => sb.extBut c o hc e
        refine wpAny_updateSeq hS2 rfl (wpAny_pure ⟨plainId_quiet F.plain_extend_loop _, mp_loop hh hr hA Fn sr hz rm rT rS ri mi Ti Si mS TS hR r (i + 1) (ys ++ [y]) (acc.push v) _ _ H' hdr hlt ?_ ?_ I3 hG' um2 uT2 uS2 ui2 ?_ ?_ ?_ upS D'⟩)
          (by rw [hac]; omega) (by show (acc.push v).size ≤ sizeLine + 1; rw [Array.size_push, hac]; omega)
        · rw [List.length_append, ha]; rfl
        · rw [Array.toList_push]; exact Vals.snoc hv ry
        · exact sb.extBut _ _ mS hm2
        · exact sb.extBut _ _ TS hT2
        · exact sr.keep _ _ _ hit2 fun o e => sb.extBut _ _ (Ne.symm Si) e
/-- the list of all that a map gives -/
theorem mp_collect {s : Shared} {H : Hp} {E : Value → Shared → Prop} {Q : List Value → Shared → Prop} (hh : A.handled = none) (hr : Room kk A.in1.in1) (hA : A.frames = some X.stack) (Fn : FnR X.prog X.w X.K X.mg X.base CX0 kk g sp) (sr : Src X pins σ g m T it xs Gs itS) (hz : xs.length ≤ sizeLine)
    (rm : Rec X pins m) (rT : Rec X pins T) (ri : Rec X pins it) (um : H m = none) (uT : H T = none) (ui : H it = none) (mi : m ≠ it) (Ti : T ≠ it)
    (I : Inv X pins σ H s) (hG : Gs H) (hm : MpR.IsMap s.heap m T (.ref g)) (hT : MpR.IsOne s.heap T (.ref it)) (hit : itS 0 s.heap) (D : mapR sp Gs xs [] H fin)
    (hQ : ∀ ys acc H' s', fin ys H' → Vals ys acc → ys.length = xs.length → Inv X pins σ H' s' → Q acc s') : wpAny (model X.prog X.w) A (collect (.ref m)) Q E s := by
  have hTy : ∀ {s' : Shared}, MpR.IsMap s'.heap m T (.ref g) → s'.TypeIs (.ref m) "map" := fun h => ⟨_, h, rfl⟩
  have nm : m ≠ s.heap.objs.size := Nat.ne_of_lt (Heap.lt_size hm)
  have nT : T ≠ s.heap.objs.size := Nat.ne_of_lt (Heap.lt_size hT)
  have ni : it ≠ s.heap.objs.size := by obtain ⟨o, ho⟩ := sr.live _ _ hit; exact Nat.ne_of_lt (Heap.lt_size ho)
  unfold collect
  refine wpAny_bind (wpAny_runValue (codeAny_builtin F.entry_proto_collect ?_))
  rw [Around.under_plainId F.plain_proto_collect _]
  show wpAny _ A.in1 (newList [] >>= fun l => again (.builtin "list.__iadd__" ⟨[l, .ref m], []⟩)) _ _ s
  refine wpAny_bind (wpAny_newObj_type ?_)
  refine wpAny_pure ⟨plainId_quiet F.plain_list_iadd _, codeAny_builtin F.entry_list_iadd ?_⟩
  rw [Around.under_plainId F.plain_list_iadd _]
  have kp : ∀ b o, s.heap.get? b = some o → (s.heap.push { cls := .type "list", data := .seq ([] : List Value).toArray }).get? b = some o := fun b o e => Heap.get?_push_of_some _ e
  have hm₁ : MpR.IsMap (s.heap.push { cls := .type "list", data := .seq ([] : List Value).toArray }) m T (.ref g) := kp _ _ hm
  show wpAny _ A.in1 (Builtin.List.listExtendWith (.ref s.heap.objs.size) (.ref m) (.ref s.heap.objs.size)) _ _ _
  unfold Builtin.List.listExtendWith
  refine wpAny_bind (wpAny_typeOf (hTy hm₁) ?_)
  have h1 : Builtin.List.listSameRef (.ref s.heap.objs.size) (.ref m) = false := by simp [Builtin.List.listSameRef, Ne.symm nm]
  have h2 : (Value.type "map" == Value.type "list") = false := by decide
  have h3 : (Value.type "map" == Value.type "tuple") = false := by decide
  simp only [h1, h2, h3, Bool.or_false, Bool.false_eq_true, if_false]
  refine wpAny_bind (MpR.mp_pyIter hm₁ ?_)
  refine wpAny_bind (wpAny_holding ?_)
  unfold Builtin.List.listLengthHint
  refine wpAny_bind (wpAny_specialOf (hTy hm₁) MpR.nolen_mp ?_)
  show wpAny _ A.in1 (specialOf (Value.ref m) (Str.ofString "__length_hint__") >>= _) _ _ _
  refine wpAny_bind (wpAny_specialOf (hTy hm₁) MpR.nohint_mp ?_)
  refine wpAny_pure ?_
  show wpAny _ A.in1 (rule "list.extend.makes-room" >>= fun _ => Builtin.List.listTouch (.ref s.heap.objs.size) >>= fun _ =>
    again (.builtin "list.extend.loop" ⟨[.ref s.heap.objs.size, .ref m, .ref s.heap.objs.size], []⟩)) _ _ _
  refine wpAny_bind (wpAny_rule ?_)
  have hS₁ : (s.heap.push { cls := .type "list", data := .seq ([] : List Value).toArray }).get? s.heap.objs.size = some { cls := .type "list", data := .seq ([] : List Value).toArray } := Heap.get?_push_size _ rfl
  refine wpAny_bind ?_
  show wpAny _ A.in1 (updateSeq s.heap.objs.size (·.push .none) >>= fun _ => updateSeq s.heap.objs.size (·.pop)) _ _ _
  refine wpAny_bind (wpAny_updateSeq hS₁ rfl ?_)
  have hS₂ := Heap.get?_update_self (Obj.mapSeq (·.push Value.none)) hS₁ rfl
  refine wpAny_updateSeq hS₂ rfl ?_
  have hS₃ := Heap.get?_update_self (Obj.mapSeq (·.pop)) hS₂ rfl
  have oth : ∀ b o, b ≠ s.heap.objs.size → s.heap.get? b = some o →
      (((s.heap.push { cls := .type "list", data := .seq ([] : List Value).toArray }).update s.heap.objs.size (Obj.mapSeq (·.push Value.none))).update s.heap.objs.size (Obj.mapSeq (·.pop))).get? b = some o :=
    fun b o hb e => (Heap.get?_update_other _ _ (Ne.symm hb)).trans ((Heap.get?_update_other _ _ (Ne.symm hb)).trans (kp b o e))
  have I4 := I.kept (t' := s.toks) (h' := ((s.heap.push { cls := .type "list", data := .seq ([] : List Value).toArray }).update s.heap.objs.size (Obj.mapSeq (·.push Value.none))).update s.heap.objs.size (Obj.mapSeq (·.pop)))
    fun b o e => oth b o (Nat.ne_of_lt (Heap.lt_size e)) e
  have rS : Rec X pins s.heap.objs.size := rec_new I (Nat.le_refl _)
  have uS : H s.heap.objs.size = none := I.hok.fresh (Nat.le_refl _)
  refine wpAny_pure ⟨plainId_quiet F.plain_extend_loop _, mp_loop (S := s.heap.objs.size) (res := .ref s.heap.objs.size) (A := A) (fin := fin) hh hr hA Fn sr hz rm rT rS ri mi Ti (Ne.symm ni) nm nT ?_ xs 0 [] _ _ _ H rfl (Nat.zero_le _) rfl .nil I4 hG um uT uS ui
    (oth _ _ nm hm) (oth _ _ nT hT) (sr.keep _ _ _ hit fun o e => oth _ _ ni e) hS₃ D⟩
  intro ys acc c H' s' hf hv hn I' hS'
  show wpAny _ A (load s.heap.objs.size >>= _) _ _ s'
  refine wpAny_bind (wpAny_load hS' ?_)
  exact wpAny_pure (hQ ys acc H' s' hf hv hn I')
theorem mp_new {s : Shared} {H : Hp} {E : Value → Shared → Prop} {Q₁ : Value → Shared → Prop} (hh : A.handled = none) (hr : Room kk A.in1.in1.in1) (hA : A.frames = some X.stack) (Fn : FnR X.prog X.w X.K X.mg X.base CX0 kk g sp) (sr : Src X pins σ g m T it xs Gs itS) (hz : xs.length ≤ sizeLine)
    (rm : Rec X pins m) (rT : Rec X pins T) (ri : Rec X pins it) (um : H m = none) (uT : H T = none) (ui : H it = none) (mi : m ≠ it) (Ti : T ≠ it)
    (I : Inv X pins σ H s) (hG : Gs H) (hm : MpR.IsMap s.heap m T (.ref g)) (hT : MpR.IsOne s.heap T (.ref it)) (hit : itS 0 s.heap) (D : mapR sp Gs xs [] H fin)
    (hQ : ∀ ys acc H' s', fin ys H' → Vals ys acc → ys.length = xs.length → Inv X pins σ H' s' → Q₁ (.ref s'.heap.objs.size) { s' with heap := s'.heap.push { cls := .type "tuple", data := .seq acc.toArray } }) :
    codeAny (model X.prog X.w) A (.call (.builtin "tuple.__new__") ⟨[.type "tuple", .ref m], []⟩) (wants Q₁ E) s := by
  refine codeAny_of_tree ?_
  show wpAny _ A.in1 (do checkBuiltinCall "tuple.__new__" ⟨[.type "tuple", .ref m], []⟩; again (.builtin "tuple.__new__" ⟨[.type "tuple", .ref m], []⟩)) _ _ s
  refine wpAny_bind (wpAny_of_eq (F.newCall_tuple_1 _) (wpAny_pure ⟨plainId_quiet F.plain_tuple_new _, codeAny_builtin F.entry_tuple_new ?_⟩))
  rw [Around.under_plainId F.plain_tuple_new _]
  have hsub := sub_tuple_self
  have hinit := init_tuple_lookup
  have hmh := madeHere_tuple
  have hTI : s.TypeIs (.ref m) "map" := ⟨_, hm, rfl⟩
  have hC : ∀ (E' : Value → Shared → Prop) (Q' : List Value → Shared → Prop), (∀ l s', (∃ ys H', fin ys H' ∧ Vals ys l ∧ ys.length = xs.length ∧ Inv X pins σ H' s') → Q' l s') → wpAny (model X.prog X.w) A.in1 (collect (.ref m)) Q' E' s := fun E' Q' k => mp_collect (A := A.in1) (fin := fin) hh hr hA Fn sr hz rm rT ri um uT ui mi Ti I hG hm hT hit D
    fun ys acc H' s' hf hv hn I' => k _ _ ⟨ys, H', hf, hv, hn, I'⟩
  wp_walk using wpAny_typeOf hTI, hC _ _
  intro l s' hl
  obtain ⟨ys, H', hf, hv, hn, I'⟩ := hl
  show wpAny _ _ (Builtin.Tuple.tupleExact l.toArray >>= fun v => ret v) _ _ _
  unfold Builtin.Tuple.tupleExact
  refine wpAny_bind (wpAny_newObj_type ?_ (by show l.toArray.size ≤ sizeLine; rw [List.size_toArray, ← hv.length, hn]; exact hz))
  refine wpAny_pure ?_
  exact hQ ys l H' s' hf hv hn I'
theorem mp_tuple {s : Shared} {H : Hp} {E : Value → Shared → Prop} {Q : Value → Shared → Prop} (hh : A.handled = none) (hr : Room kk A.in1.in1.in1.in1) (hA : A.frames = some X.stack) (Fn : FnR X.prog X.w X.K X.mg X.base CX0 kk g sp) (sr : Src X pins σ g m T it xs Gs itS) (hz : xs.length ≤ sizeLine)
    (rm : Rec X pins m) (rT : Rec X pins T) (ri : Rec X pins it) (um : H m = none) (uT : H T = none) (ui : H it = none) (mi : m ≠ it) (Ti : T ≠ it)
    (I : Inv X pins σ H s) (hG : Gs H) (hm : MpR.IsMap s.heap m T (.ref g)) (hT : MpR.IsOne s.heap T (.ref it)) (hit : itS 0 s.heap) (D : mapR sp Gs xs [] H fin)
    (hQ : ∀ ys acc H' s', fin ys H' → Vals ys acc → ys.length = xs.length → Inv X pins σ H' s' → Q (.ref s'.heap.objs.size) { s' with heap := s'.heap.push { cls := .type "tuple", data := .seq acc.toArray } }) :
    wpAny (model X.prog X.w) A (call (.type "tuple") [.ref m]) Q E s := by
  refine callType_codes (Q₁ := fun obj s₁ => s₁.TypeIs obj "tuple" ∧ Q obj s₁) F.called_tuple (F.typeCall_tuple_1 _) F.entry_object_init
    (mp_new (A := A.in1) hh hr hA Fn sr hz rm rT ri um uT ui mi Ti I hG hm hT hit D fun ys acc H' s' hf hv hn I' => ⟨⟨_, Heap.get?_push_size _ rfl, rfl⟩, hQ ys acc H' s' hf hv hn I'⟩) fun obj s₁ h₁ => ?_
  exact ⟨h₁.1, F.args_object_init_2 obj _, object_init_meets F.called_tuple.init.lookup F.called_tuple.made (by decide) X.prog X.w A.in1 _ s₁ ⟨h₁.1, rfl, h₁.2⟩⟩
end
theorem raw0 {P : Program} {w : World} {K : PySem.W.Frag} {mg : Str → Option Value} {base : Heap} {CX : CXT} {k : Nat} {f : Addr} {fd : FuncData} {ps : List Str} {sp : Sp} (F : FnOk P w K mg base CX k f fd ps sp) (hb : Binds K fd ps []) : FnR P w K mg base CX k f sp :=
  (F.raw hb .nil).imp fun vs H Q E h => by
    show sp (vs ++ []) H Q E
    rw [List.append_nil]
    exact h
/-- tuple(map(f, e)), e a list or a tuple -/
def tTupMap (K : PySem.W.Frag) (sp : Sp) (te : TE) : TE := fun σ H Q => te σ H fun x H2 => ∃ q xs, x = V.ref q ∧
  ((SqL K H2 q xs ∧ mapR sp (fun H3 => SqL K H3 q xs) xs [] H2 fun ys H3 => ∀ l, H3 l = none → Q (.ref l) (upd H3 l (.tup ys))) ∨
   (SqT K H2 q xs ∧ mapR sp (fun H3 => SqT K H3 q xs) xs [] H2 fun ys H3 => ∀ l, H3 l = none → Q (.ref l) (upd H3 l (.tup ys))))
section
variable {X : Cx} {kk : Nat} {g : Addr} {sp : Sp}
theorem pe_tupMap {fe e : Expr} {te : TE} {p0 pos p pos2 : Pos} (hc : X.calm = true) (hgs : Gl X "tuple") (hms : X.mg "tuple" = none) (hg : Gl X "map") (hm : X.mg "map" = none) (hf : PF X fe (.ref g)) (ha : PE X e te)
    (Fn : FnR X.prog X.w X.K X.mg X.base CX0 kk g sp) (hr : Room (kk + 4) X.A)
    (hs1 : starEach [.Call (.Name "map" p) [fe, e] [] pos2] X.env = (false, eval (.Call (.Name "map" p) [fe, e] [] pos2) X.env) :: starEach [] X.env := by rfl)
    (hp1 : (backTo pos (starEach [] X.env)).any (·.1) = false := by rfl) (hs : starEach [fe, e] X.env = (false, eval fe X.env) :: starEach [e] X.env := by rfl)
    (hs2 : starEach [e] X.env = (false, eval e X.env) :: starEach [] X.env := by rfl) (hpl : (backTo pos2 (starEach [e] X.env)).any (·.1) = false := by rfl) :
    PE X (.Call (.Name "tuple" p0) [.Call (.Name "map" p) [fe, e] [] pos2] [] pos) (tTupMap X.K sp te) := by
  refine ⟨fun pins s σ H Q I h => ?_⟩
  have hh : X.A.handled = none := I.ok.hd hc
  have hA : X.A.frames = some X.stack := I.ok.frames
  refine wpAny_Call_Name_kw (ld_blt I hgs hms (u := .type "tuple") (by decide +kernel) ?_)
  refine PyProof.Rows.callWith_type1 ?_ hs1 hp1
  rw [hs1]
  show wpAny _ _ (spliced ((false, eval (.Call (.Name "map" p) [fe, e] [] pos2) X.env) :: backTo pos (starEach [] X.env))) _ _ s
  refine Calls.spliced_cons ?_
  refine wpAny_Call_Name_kw (ld_blt I hg hm boot_map ?_)
  refine PyProof.Rows.callWith_type1 ?_ hs hpl
  rw [hs, hs2]
  show wpAny _ _ (spliced ((false, eval fe X.env) :: (false, eval e X.env) :: backTo pos2 (starEach [] X.env))) _ _ s
  refine Calls.spliced_cons (hf.run pins s σ H _ I fun s2 I2 => ?_)
  refine Calls.spliced_cons (thn (ha.run pins s2 σ H _ I2 h) fun u s3 ⟨x, H2, I3, r3, q3⟩ => ?_)
  refine Calls.spliced_nil ?_
  obtain ⟨q, xs, rfl, q3⟩ := q3
  cases r3
  rcases q3 with ⟨hq, D⟩ | ⟨hq, D⟩
  · obtain ⟨its, rv, pl, hz⟩ := I3.list hq
    have ql : q < s3.heap.objs.size := by obtain ⟨o, ho, _⟩ := pl.isList; exact Heap.lt_size ho
    refine MpR.call_map (wpAny_pyIter_list pl.isList fun h5 hO hM hsz5 hk => ?_)
    have hs5 : (s3.heap.push { cls := .type "list_iterator", data := .fields #[.ref q, .int 0 0] }).objs.size = s3.heap.objs.size + 1 := Heap.size_push ..
    have kp : ∀ b o, s3.heap.get? b = some o → h5.get? b = some o := fun b o e => hk b o (Heap.get?_push_of_some _ e)
    have I5 : Inv X pins σ H2 { s3 with heap := h5 } := I3.kept (t' := s3.toks) kp
    have fresh : ∀ b, s3.heap.objs.size ≤ b → H2 b = none := fun b hb => I3.hok.fresh hb
    have lt0 : s3.heap.objs.size ≤ (s3.heap.push { cls := .type "list_iterator", data := .fields #[.ref q, .int 0 0] }).objs.size := by rw [hs5]; exact Nat.le_succ _
    have hsx := hs5
    generalize (s3.heap.push { cls := .type "list_iterator", data := .fields #[.ref q, .int 0 0] }).objs.size = TT at *
    refine Calls.spliced_nil (mp_tuple (it := s3.heap.objs.size) (T := TT) (m := TT + 1) hh hr.in1.in1.in1.in1 hA Fn (src_list (Nat.ne_of_lt ql)) hz (rec_new I3 (Nat.le_trans lt0 (Nat.le_succ _))) (rec_new I3 lt0) (rec_new I3 (Nat.le_refl _)) (fresh _ (Nat.le_trans lt0 (Nat.le_succ _))) (fresh _ lt0) (fresh _ (Nat.le_refl _))
      (by rw [hsx]; exact Nat.ne_of_gt (Nat.lt_succ_of_lt (Nat.lt_succ_self _))) (by rw [hsx]; exact Nat.succ_ne_self _) I5 hq hM hO ⟨_, hk _ _ (Heap.get?_push_size _ rfl), rfl, rfl⟩ D fun ys acc H' s' hf hv hn I' => ?_)
    have I6 : Inv X pins σ (upd H' s'.heap.objs.size (.tup ys)) { s' with heap := s'.heap.push { cls := .type "tuple", data := .seq acc.toArray } } :=
      I'.laid (t' := s'.toks) (fun b o e => Heap.get?_push_of_some _ e) (Nat.le_refl _) (show ObjOk X.prog X.w _ _ _ (.tup ys) from ⟨by rw [hn]; exact hz, acc, hv, IsTup.new _ _⟩)
    exact ⟨.ref s'.heap.objs.size, _, I6, rfl, hf _ (I'.hok.fresh (Nat.le_refl _))⟩
  · obtain ⟨its, rv, pl, hz⟩ := I3.tuple hq
    have ql : q < s3.heap.objs.size := by obtain ⟨o, ho, _⟩ := id pl; exact Heap.lt_size ho
    refine MpR.call_map (wpAny_pyIter_tuple pl fun h5 hO hM hsz5 hk => ?_)
    have hs5 : (s3.heap.push { cls := .type "tuple_iterator", data := .fields #[.ref q, .int 0 0] }).objs.size = s3.heap.objs.size + 1 := Heap.size_push ..
    have kp : ∀ b o, s3.heap.get? b = some o → h5.get? b = some o := fun b o e => hk b o (Heap.get?_push_of_some _ e)
    have I5 : Inv X pins σ H2 { s3 with heap := h5 } := I3.kept (t' := s3.toks) kp
    have fresh : ∀ b, s3.heap.objs.size ≤ b → H2 b = none := fun b hb => I3.hok.fresh hb
    have lt0 : s3.heap.objs.size ≤ (s3.heap.push { cls := .type "tuple_iterator", data := .fields #[.ref q, .int 0 0] }).objs.size := by rw [hs5]; exact Nat.le_succ _
    have hsx := hs5
    generalize (s3.heap.push { cls := .type "tuple_iterator", data := .fields #[.ref q, .int 0 0] }).objs.size = TT at *
    refine Calls.spliced_nil (mp_tuple (it := s3.heap.objs.size) (T := TT) (m := TT + 1) hh hr.in1.in1.in1.in1 hA Fn (src_tup (Nat.ne_of_lt ql)) hz (rec_new I3 (Nat.le_trans lt0 (Nat.le_succ _))) (rec_new I3 lt0) (rec_new I3 (Nat.le_refl _)) (fresh _ (Nat.le_trans lt0 (Nat.le_succ _))) (fresh _ lt0) (fresh _ (Nat.le_refl _))
      (by rw [hsx]; exact Nat.ne_of_gt (Nat.lt_succ_of_lt (Nat.lt_succ_self _))) (by rw [hsx]; exact Nat.succ_ne_self _) I5 hq hM hO ⟨_, hk _ _ (Heap.get?_push_size _ rfl), rfl, rfl⟩ D fun ys acc H' s' hf hv hn I' => ?_)
    have I6 : Inv X pins σ (upd H' s'.heap.objs.size (.tup ys)) { s' with heap := s'.heap.push { cls := .type "tuple", data := .seq acc.toArray } } :=
      I'.laid (t' := s'.toks) (fun b o e => Heap.get?_push_of_some _ e) (Nat.le_refl _) (show ObjOk X.prog X.w _ _ _ (.tup ys) from ⟨by rw [hn]; exact hz, acc, hv, IsTup.new _ _⟩)
    exact ⟨.ref s'.heap.objs.size, _, I6, rfl, hf _ (I'.hok.fresh (Nat.le_refl _))⟩
end
end MpT

set_option Elab.async false
set_option linter.all false
set_option maxRecDepth 100000
namespace Sh
open PySem PySem.Spec PyProof.Rows L2
def topS (i : Nat) : Stmt := PySem.Challenge.pw_shadowruns_k90_errors.main.body.getD i (.Pass ⟨0, 0, 0, 0⟩)
abbrev sBox : Stmt := topS 13
abbrev sTake : Stmt := topS 14
abbrev sCells : Stmt := topS 15
abbrev sOf : Stmt := topS 16
theorem scBox : FnScope ["_law_script", "_law_k", "_law_cell"] ["_law_script", "_law_k"] (defScope sBox) := ⟨rfl, rfl, rfl, by decide +kernel, rfl, by decide +kernel, by decide +kernel⟩
theorem scTake : FnScope ["_law_box_here", "_law_below", "_law_found", "_law_once", "_law_twice"] ["_law_box_here", "_law_below"] (defScope sTake) := ⟨rfl, rfl, rfl, by decide +kernel, rfl, by decide +kernel, by decide +kernel⟩
theorem scCells : FnScope ["_law_script", "_law_most", "_law_cells_here", "_law_k", "_law_cell"] ["_law_script", "_law_most"] (defScope sCells) := ⟨rfl, rfl, rfl, by decide +kernel, rfl, by decide +kernel, by decide +kernel⟩
theorem scOf : FnScope ["_law_box_here", "_law_some"] ["_law_box_here", "_law_some"] (defScope sOf) := ⟨rfl, rfl, rfl, by decide +kernel, rfl, by decide +kernel, by decide +kernel⟩
/-! numbers -/
theorem same_up {H : Hp} {p : Addr} {o : HO} (h : H p = none) : Same H (upd H p o) := fun b x e => by
  rw [upd_ne (ne_of_none e h)]; exact e
theorem fm0 {a b : Int} (h : 0 < b) : 0 ≤ a.fmod b := Int.fmod_nonneg_of_pos a h
theorem fm1 {a b : Int} (h : 0 < b) : a.fmod b < b := Int.fmod_lt_of_pos a h
theorem fd0 {a b : Int} (h : 0 ≤ a) (hb : 0 ≤ b) : 0 ≤ a.fdiv b := Int.fdiv_nonneg h hb
theorem fdle {a b : Int} (h : 0 ≤ a) (hb : 0 < b) : a.fdiv b ≤ a := by
  rw [Int.fdiv_eq_ediv_of_nonneg _ (by omega)]
  exact Int.ediv_le_self b h
theorem b01 (c : Bool) : (if c = true then (1 : Int) else 0) = 0 ∨ (if c = true then (1 : Int) else 0) = 1 := by cases c <;> simp
theorem b01s (c : Bool) : -(2 ^ 64) < (if c = true then (1 : Int) else 0) ∧ (if c = true then (1 : Int) else 0) < 2 ^ 64 := by cases c <;> decide
theorem nz (k : Int) (h : decide (k = 0) = false := by decide) : k ≠ 0 := of_decide_eq_false h
/-- the box of draws at b -/
def Bx (H : Hp) (b : Addr) (y c : Int) : Prop := ∃ x : Int, H b = some (.lst [.int x, .int y, .int c]) ∧ 0 ≤ x ∧ 0 ≤ y ∧ y < 4611686018427387904
/-- all but the box stands -/
def But (b : Addr) (H H' : Hp) : Prop := ∀ a o, a ≠ b → H a = some o → H' a = some o
theorem But.of {b : Addr} {H H' : Hp} (h : Same H H') : But b H H' := fun a o _ e => h a o e
theorem But.refl {b : Addr} {H : Hp} : But b H H := fun _ _ _ e => e
theorem But.trans {b : Addr} {H H1 H2 : Hp} (x : But b H H1) (y : But b H1 H2) : But b H H2 := fun a o n e => y a o n (x a o n e)
theorem but_upd {H : Hp} {b : Addr} {o : HO} : But b H (upd H b o) := fun a u n e => by rw [upd_ne n]; exact e
section
variable {P : Program} {w : World} {K : PySem.W.Frag} {mg : Str → Option Value} {base : Heap}
/-! ### _law_box -/
def spBox (K : PySem.W.Frag) : Sp := fun vs H Q _ => ∃ (a : Addr) (ns : List Int) (k : Int), vs = [.ref a, .int k] ∧ SqL K H a (ns.map V.int) ∧ ns.length ≤ 1000 ∧ 0 ≤ k ∧ k ≤ 1000 ∧
  ∀ p x y, H p = none → 0 ≤ x → 0 ≤ y → y < 4611686018427387904 → Q (.ref p) (upd H p (.lst [.int x, .int y, .int 0]))
/-- what is left behind the cell z -/
theorem box_tail {H : Hp} {Q : VK} {k z : Int} (hq : ∀ p x y, H p = none → 0 ≤ x → 0 ≤ y → y < 4611686018427387904 → Q (.ref p) (upd H p (.lst [.int x, .int y, .int 0]))) (k0 : 0 ≤ k) (k1 : k ≤ 1000)
    {p : Addr} (hp : H p = none) (j : Int) (hj : j = 0 ∨ j = 1) : Q (.ref p) (upd H p (.lst [.int ((if z < 0 then -z else z) * j), .int (z.fmod 2305843009213693951 + 39373 * k + 71), .int 0])) := by
  have e0 : (0 : Int) ≤ z.fmod 2305843009213693951 := fm0 (by decide)
  have e1 : z.fmod 2305843009213693951 < 2305843009213693951 := fm1 (by decide)
  refine hq p _ _ hp ?_ (by omega) (by omega)
  have a0 : 0 ≤ (if z < 0 then -z else z) := by split <;> omega
  rcases hj with rfl | rfl
  · rw [Int.mul_zero] <;> decide
  · rw [Int.mul_one]; exact a0
theorem ok_box {f : Addr} {fd : FuncData} {n : Nat} (F : Fun K "_law_box" "_law_box" sBox f fd) (ml : mg "len" = none) (ma : mg "abs" = none) (mi : mg "int" = none) : FnOk P w K mg base CX0 (n + 1) f fd ["_law_script", "_law_k"] (spBox K) := by
  refine F.ok scBox (fun vs H Q E h => ?_) (fun cdv A outer s H vs Q E hr h => ?_)
  · obtain ⟨a, ns, k, rfl, _⟩ := h
    rfl
  obtain ⟨a, ns, k, rfl, hS, hlen, k0, k1, q⟩ := h
  refine ⟨_, pss_cons (ps_set (i := 2) scBox.nd rfl (Or.inl rfl) (pe_ifExp (pt_cmpR op_lt (pv 1) (pe_callB call_len_seq rfl ml PySem.boot_len (pa_cons (pv 0) pa_nil)) (nomark _)) (pe_ix ix_list (pv 0) (pv 1) (fun _ _ => rfl)) pe_int))
    (pss_one (ps_ret (pe_lst (pa_cons (pe_op op_mul (pe_callB call_abs rfl ma (by decide +kernel) (pa_cons (pv 2) pa_nil)) (pe_callTy call_int1 rfl mi (by decide +kernel) (pa_cons (pe_cmpR op_ge (pe_callB call_abs rfl ma (by decide +kernel) (pa_cons (pv 2) pa_nil)) (pe_op op_pow pe_int pe_int) (nomark _)) pa_nil)))
      (pa_cons (pe_op op_add (pe_op op_add (pe_op op_modN (pv 2) pe_int) (pe_op op_mul pe_int (pv 1))) pe_int) (pa_cons pe_int pa_nil)))))), ?_⟩
  have hl : (ns.map V.int).length = ns.length := List.length_map _
  refine ⟨_, rfl, _, rfl, a, _, rfl, .inl hS, _, _, rfl, rfl, _, rfl, ?_⟩
  have hr64 : (0 : Int) < 2305843009213693951 := by decide
  refine ite2 (fun c => ?_) (fun c => ?_)
  have c' : k < (((ns.map V.int).length : Nat) : Int) := of_decide_eq_true c
  rw [hl] at c'
  have hk : k.toNat < ns.length := by omega
  have ek : k = ((k.toNat : Nat) : Int) := by omega
  have g : atI (ns.map V.int) k = some (.int ns[k.toNat]) := at_of ek (by rw [List.getElem?_map, List.getElem?_eq_getElem hk] <;> rfl)
  refine ⟨_, rfl, _, rfl, a, _, _, _, rfl, rfl, hS, g, ?_⟩
  generalize ns[k.toNat] = z
  all_goals
    refine ⟨_, rfl, _, rfl, _, rfl, _, rfl, _, _, rfl, rfl, ⟨by decide, by decide, by decide⟩, _, _, rfl, rfl, .inr ⟨_, rfl, _, _, rfl, rfl, .inr (b01s _), ?_⟩⟩
    refine ⟨_, rfl, _, _, rfl, rfl, (nz _), _, rfl, _, _, rfl, rfl, .inl ⟨by decide, by decide⟩, _, _, rfl, rfl, _, _, rfl, rfl, (by show 3 ≤ sizeLine; decide), fun p hp => ?_⟩
    exact box_tail q k0 k1 hp _ (b01 _)
/-! ### _law_take -/
def spTake : Sp := fun vs H Q _ => ∃ (b : Addr) (m y c : Int), vs = [.ref b, .int m] ∧ Bx H b y c ∧ 0 ≤ c ∧ c < 1000000 ∧ 1 ≤ m ∧ m ≤ 10000000 ∧
  ∀ v c' H', 0 ≤ v → v < m → c ≤ c' → c' ≤ c + 1 → Bx H' b y c' → But b H H' → Q (.int v) H'
theorem bx_up {H : Hp} {b : Addr} {x y c : Int} {xs : List V} (e : xs = [.int x, .int y, .int c]) (h : 0 ≤ x) (h1 : 0 ≤ y) (h2 : y < 4611686018427387904) : Bx (upd H b (.lst xs)) b y c := ⟨x, by rw [e, upd_same], h, h1, h2⟩
theorem tw_ok {o c y : Int} (c0 : 0 ≤ c) (c1 : c < 1000000) (y0 : 0 ≤ y) (y1 : y < 4611686018427387904) : -(2 ^ 64) < o.fmod 2147483647 + (c + 1) + y.fdiv 1000003 ∧ o.fmod 2147483647 + (c + 1) + y.fdiv 1000003 < 2 ^ 64 := by
  have h0 : (0 : Int) ≤ o.fmod 2147483647 := fm0 (by decide)
  have h1 : o.fmod 2147483647 < 2147483647 := fm1 (by decide)
  have h2 : 0 ≤ y.fdiv 1000003 := fd0 y0 (by decide)
  have h3 : y.fdiv 1000003 ≤ y := fdle y0 (by decide)
  refine ⟨?_, ?_⟩ <;> omega
theorem tw_ok2 {o : Int} : -(2 ^ 64) < o.fmod 2147483629 ∧ o.fmod 2147483629 < 2 ^ 64 := by
  have h0 : (0 : Int) ≤ o.fmod 2147483629 := fm0 (by decide)
  have h1 : o.fmod 2147483629 < 2147483629 := fm1 (by decide)
  refine ⟨?_, ?_⟩ <;> omega
theorem ok_take {f : Addr} {fd : FuncData} {n : Nat} (F : Fun K "_law_take" "_law_take" sTake f fd) : FnOk P w K mg base CX0 (n + 1) f fd ["_law_box_here", "_law_below"] spTake := by
  refine F.ok scTake (fun vs H Q E h => ?_) (fun cdv A outer s H vs Q E hr h => ?_)
  · obtain ⟨b, m, y, c, rfl, _⟩ := h
    rfl
  obtain ⟨b, m, y, c, rfl, ⟨x, hB, x0, y0, y1⟩, c0, c1, m0, m1, q⟩ := h
  refine ⟨_, pss_cons (ps_if (pt_cmpR op_gt (pe_ix ix_list (pv 0) pe_int (fun _ _ => rfl)) pe_int (nomark _))
      (pss_cons (ps_set (i := 2) scTake.nd rfl (Or.inl rfl) (pe_op op_modN (pe_ix ix_list (pv 0) pe_int (fun _ _ => rfl)) (pv 1)))
      (pss_cons (ps_asg (pe_op op_fdivN (pe_ix ix_list (pv 0) pe_int (fun _ _ => rfl)) (pv 1)) (pg_sub (pv 0) pe_int set_list))
      (pss_one (ps_ret (pv 2))))) pss_nil)
    (pss_cons (ps_if (pt_cmpR op_gt (pv 1) (pe_op op_pow pe_int pe_int) (nomark _)) pss_never pss_nil)
    (pss_cons (ps_asg (pe_op op_add (pe_ix ix_list (pv 0) pe_int (fun _ _ => rfl)) pe_int) (pg_sub (pv 0) pe_int set_list))
    (pss_cons (ps_set (i := 3) scTake.nd rfl (Or.inl rfl) (pe_op op_modN (pe_op op_mul (pe_op op_add (pe_ix ix_list (pv 0) pe_int (fun _ _ => rfl)) (pe_op op_mul pe_int (pe_ix ix_list (pv 0) pe_int (fun _ _ => rfl)))) (pe_op op_add pe_int (pe_ix ix_list (pv 0) pe_int (fun _ _ => rfl)))) pe_int))
    (pss_cons (ps_set (i := 4) scTake.nd rfl (Or.inl rfl) (pe_op op_modN (pe_op op_mul (pe_op op_add (pe_op op_add (pv 3) (pe_ix ix_list (pv 0) pe_int (fun _ _ => rfl))) (pe_op op_fdivN (pe_ix ix_list (pv 0) pe_int (fun _ _ => rfl)) pe_int)) (pe_op op_add (pe_op op_modN (pv 3) pe_int) pe_int)) pe_int))
    (pss_one (ps_ret (pe_op op_modN (pe_op op_fdivN (pe_op op_modN (pe_op op_add (pe_op op_mul (pv 4) pe_int) (pv 3)) pe_int) pe_int) (pv 1)))))))), ?_⟩
  refine ⟨_, rfl, b, _, _, _, rfl, rfl, SqL.of hB, at_of (j := 0) rfl rfl, _, _, rfl, rfl, _, rfl, ?_⟩
  refine ite2 (fun t => ?_) (fun t => ?_)
  · have t' : x > 0 := of_decide_eq_true t
    refine ⟨_, rfl, b, _, _, _, rfl, rfl, SqL.of hB, at_of (j := 0) rfl rfl, _, rfl, _, _, rfl, rfl, (by omega), ?_⟩
    refine ⟨_, rfl, b, _, _, _, rfl, rfl, SqL.of hB, at_of (j := 0) rfl rfl, _, rfl, _, _, rfl, rfl, ⟨by omega, by omega⟩, ?_⟩
    refine ⟨_, rfl, b, _, _, 0, rfl, rfl, hB, rfl, _, rfl, ?_⟩
    exact q _ c _ (fm0 (by omega)) (fm1 (by omega)) (by omega) (by omega) (bx_up rfl (fd0 x0 (by omega)) y0 y1) but_upd
  · refine ⟨_, rfl, _, _, rfl, rfl, ⟨by decide, by decide, by decide⟩, _, _, rfl, rfl, _, rfl, ?_⟩
    refine ite2 (fun t2 => ?_) (fun t2 => ?_)
    · exfalso
      have t3 : m > 10 ^ 7 := of_decide_eq_true t2
      have t4 : (10 : Int) ^ 7 = 10000000 := by decide
      omega
    · have hB1 : (upd H b (.lst [.int x, .int y, .int (c + 1)])) b = some (.lst [.int x, .int y, .int (c + 1)]) := upd_same
      refine ⟨_, rfl, b, _, _, _, rfl, rfl, SqL.of hB, at_of (j := 2) rfl rfl, _, _, rfl, rfl, _, rfl, b, _, _, 2, rfl, rfl, hB, rfl, ?_⟩
      refine ⟨_, rfl, b, _, _, _, rfl, rfl, SqL.of hB1, at_of (j := 1) rfl rfl, _, rfl, b, _, _, _, rfl, rfl, SqL.of hB1, at_of (j := 2) rfl rfl, _, _, rfl, rfl, .inl ⟨by decide, by decide⟩, _, _, rfl, rfl,
        _, rfl, b, _, _, _, rfl, rfl, SqL.of hB1, at_of (j := 2) rfl rfl, _, _, rfl, rfl, _, _, rfl, rfl, .inl ⟨by omega, by omega⟩, _, _, rfl, rfl, (nz _), ?_⟩
      refine ⟨_, rfl, _, rfl, b, _, _, _, rfl, rfl, SqL.of hB1, at_of (j := 2) rfl rfl, _, _, rfl, rfl, _, rfl, b, _, _, _, rfl, rfl, SqL.of hB1, at_of (j := 1) rfl rfl, _, _, rfl, rfl, ⟨by decide, by decide⟩, _, _, rfl, rfl,
        _, rfl, _, _, rfl, rfl, (nz _), _, _, rfl, rfl, _, _, rfl, rfl, .inl (tw_ok c0 c1 y0 y1), _, _, rfl, rfl, (nz _), ?_⟩
      refine ⟨_, rfl, _, _, rfl, rfl, .inl tw_ok2, _, rfl, _, _, rfl, rfl, _, _, rfl, rfl, (nz _), _, _, rfl, rfl, ⟨by decide, by decide⟩, _, rfl, _, _, rfl, rfl, (by omega), ?_⟩
      exact q _ (c + 1) _ (fm0 (by omega)) (fm1 (by omega)) (by omega) (by omega) (bx_up rfl x0 y0 y1) but_upd
/-! ### _law_of -/
def spOf (K : PySem.W.Frag) : Sp := fun vs H Q _ => ∃ (b a : Addr) (xs : List V) (y c : Int), vs = [.ref b, .ref a] ∧ Bx H b y c ∧ 0 ≤ c ∧ c < 1000000 ∧ SqL K H a xs ∧ a ≠ b ∧ 1 ≤ xs.length ∧ xs.length ≤ 1000 ∧
  ∀ (i : Nat) v c' H', xs[i]? = some v → c ≤ c' → c' ≤ c + 1 → Bx H' b y c' → But b H H' → Q v H'
theorem But.seq {b a : Addr} {H H' : Hp} {xs : List V} (e : But b H H') (n : a ≠ b) (h : SqL K H a xs) : SqL K H' a xs := by
  rcases h with (h | ⟨o, h⟩) | h
  · exact .inl (.inl (e _ _ n h))
  · exact .inl (.inr ⟨o, e _ _ n h⟩)
  · exact .inr h
theorem ok_of {f g : Addr} {fd gd : FuncData} {n : Nat} (F : Fun K "_law_of" "_law_of" sOf f fd) (G : FnOk P w K mg base CX0 n g gd ["_law_box_here", "_law_below"] spTake) (bG : Binds K gd ["_law_box_here", "_law_below"] []) (kG : PySem.W.keepIn K (.ref g) = true)
    (mG : mg "_law_take" = some (.ref g)) (ml : mg "len" = none) : FnOk P w K mg base CX0 (n + 1) f fd ["_law_box_here", "_law_some"] (spOf K) := by
  refine F.ok scOf (fun vs H Q E h => ?_) (fun cdv A outer s H vs Q E hr h => ?_)
  · obtain ⟨b, a, xs, y, c, rfl, _⟩ := h
    rfl
  obtain ⟨b, a, xs, y, c, rfl, hB, c0, c1, hS, hab, l0, l1, q⟩ := h
  refine ⟨_, pss_one (ps_ret (pe_ix ix_list (pv 1) (pe_call G hr rfl mG kG bG .nil pass0 (pa_cons (pv 0) (pa_cons (pe_callB call_len_seq rfl ml PySem.boot_len (pa_cons (pv 1) pa_nil)) pa_nil))) (fun _ _ => rfl))), ?_⟩
  refine ⟨_, rfl, _, rfl, _, rfl, a, _, rfl, .inl hS, b, _, y, c, rfl, hB, c0, c1, by omega, by omega, fun v c' H' v0 v1 e0 e1 hB' bt => ?_⟩
  have hv : v.toNat < xs.length := by omega
  have ev : v = ((v.toNat : Nat) : Int) := by omega
  have g : xs[v.toNat]? = some xs[v.toNat] := List.getElem?_eq_getElem hv
  refine ⟨a, _, _, _, rfl, rfl, bt.seq hab hS, at_of ev g, ?_⟩
  exact q v.toNat _ c' H' g e0 e1 hB' bt
/-! ### _law_cells -/
theorem fm_nat (i m : Nat) : (i : Int).fmod (m : Int) = ((i % m : Nat) : Int) := by
  rw [Int.fmod_eq_emod_of_nonneg _ (Int.natCast_nonneg m)]; exact (Int.natCast_emod i m).symm
theorem cut_to (ns : List Int) (m : Nat) : cutV (ns.map V.int) none (some (m : Int)) = (ns.take m).map V.int := by
  unfold cutV
  rw [HT.sIx_none, HT.sIx_nat, List.length_map, List.drop_zero, Nat.sub_zero, List.map_take]
  by_cases h : m ≤ ns.length
  · rw [Nat.min_eq_left h]
  · rw [Nat.min_eq_right (by omega), List.take_of_length_le (by rw [List.length_map]; exact Nat.le_refl _), List.take_of_length_le (by rw [List.length_map]; omega)]
theorem cut_from (ns : List Int) (m : Nat) (h : ns.length ≤ 63) : cutV (ns.map V.int) (some (m : Int)) (some 63) = (ns.drop m).map V.int := by
  unfold cutV
  have e63 : HT.sIx (ns.map V.int).length (ns.map V.int).length (some 63) = min 63 (ns.map V.int).length := HT.sIx_nat _ _ 63
  rw [HT.sIx_nat, e63, List.length_map, Nat.min_eq_right h, List.map_drop]
  by_cases hm : m ≤ ns.length
  · rw [Nat.min_eq_left hm, List.take_of_length_le (by rw [List.length_drop, List.length_map]; exact Nat.le_refl _)]
  · rw [Nat.min_eq_right (by omega), List.drop_eq_nil_of_le (by rw [List.length_map]; exact Nat.le_refl _), List.drop_eq_nil_of_le (by rw [List.length_map]; omega), List.take_nil]
def cells0 (ns : List Int) (m : Nat) : List Int := if ns.take m = [] then [0] else ns.take m
theorem cells0_pos {ns : List Int} {m : Nat} : 1 ≤ (cells0 ns m).length := by
  unfold cells0
  split
  · exact Nat.le_refl _
  · rename_i h
    exact List.length_pos_iff.mpr h
theorem cells0_le {ns : List Int} {m : Nat} (hm : 1 ≤ m) : (cells0 ns m).length ≤ m := by
  unfold cells0
  split
  · exact hm
  · rw [List.length_take]; omega
theorem cells0_full {ns : List Int} {m : Nat} (hm : 1 ≤ m) (h : m ≤ ns.length) : (cells0 ns m).length = m := by
  unfold cells0
  have e : (ns.take m).length = m := by rw [List.length_take]; omega
  rw [if_neg (fun z => by rw [z] at e; simp at e; omega), e]
def spCells (K : PySem.W.Frag) : Sp := fun vs H Q _ => ∃ (a : Addr) (ns : List Int) (m : Nat), vs = [.ref a, .int (m : Int)] ∧ SqL K H a (ns.map V.int) ∧ ns.length ≤ 63 ∧ 1 ≤ m ∧ m ≤ 63 ∧
  ∀ p (ms : List Int) H', H p = none → Same H H' → H' p = some (.lst (ms.map V.int)) → 1 ≤ ms.length → ms.length ≤ m → Q (.ref p) H'
theorem ok_cells {f : Addr} {fd : FuncData} {n : Nat} (F : Fun K "_law_cells" "_law_cells" sCells f fd) (ml : mg "list" = none) (me : mg "enumerate" = none) : FnOk P w K mg base CX0 (n + 1) f fd ["_law_script", "_law_most"] (spCells K) := by
  refine F.ok scCells (fun vs H Q E h => ?_) (fun cdv A outer s H vs Q E hr h => ?_)
  · obtain ⟨a, ns, m, rfl, _⟩ := h
    rfl
  obtain ⟨a, ns, m, rfl, hS, hn, m1, m2, q⟩ := h
  refine ⟨_, pss_cons (ps_set (i := 2) scCells.nd rfl (Or.inl rfl) (pe_orT (pe_callTy call_list_of rfl ml (by decide +kernel) (pa_cons (pe_slice sl_list (pv 0) po_none (po_some (pv 1))) pa_nil)) (pe_one (pe_lst (pa_cons pe_int pa_nil)))))
    (pss_cons (ps_for PassesOwn.never rfl (pi_enum rfl me (pa_cons (pe_slice sl_list (pv 0) (po_some (pv 1)) (po_some pe_int)) pa_nil)) (pg_tup rfl (pgs_cons (pg_name (i := 3) scCells.nd rfl (Or.inl rfl)) (pgs_cons (pg_name (i := 4) scCells.nd rfl (Or.inl rfl)) pgs_nil)))
      (pss_one (ps_asg (pe_op op_add (pe_ix ix_list (pv 2) (pe_op op_modN (pv 3) (pv 1)) (fun _ _ => rfl)) (pe_op op_mul (pv 4) (pe_op op_add (pv 3) pe_int))) (pg_sub (pv 2) (pe_op op_modN (pv 3) (pv 1)) set_list))))
    (pss_one (ps_ret (pv 2)))), ?_⟩
  refine ⟨_, rfl, _, rfl, _, rfl, a, _, rfl, hS, fun c nc => ?_⟩
  rw [cut_to]
  refine ⟨c, _, rfl, .inl (SqL.of upd_same), fun l nl => ?_⟩
  have sc1 : Same H (upd H c (.lst ((ns.take m).map V.int))) := same_up nc
  have sl1 := sc1.trans (same_up (o := .lst ((ns.take m).map V.int)) nl)
  have nl0 : H l = none := sc1.free nl
  refine ⟨_, .inl ⟨_, SqL.of upd_same, rfl⟩, ?_⟩
  refine ite2 (fun t => ?_) (fun t => ?_)
  rotate_left
  have et : ns.take m = [] := by
    cases e : ns.take m with
    | nil => rfl
    | cons z r => rw [e] at t; exact absurd rfl t
  refine ⟨by show 1 ≤ sizeLine; decide, fun p np => ?_⟩
  have nl0 : H p = none := sl1.free np
  have sl1 := sl1.trans (same_up (o := .lst [.int 0]) np)
  have hp : (upd (upd (upd H c (.lst ((ns.take m).map V.int))) l (.lst ((ns.take m).map V.int))) p (.lst [.int 0])) p = some (.lst ((cells0 ns m).map V.int)) := by rw [upd_same, cells0, if_pos et]; rfl
  generalize upd (upd (upd H c (.lst ((ns.take m).map V.int))) l (.lst ((ns.take m).map V.int))) p (.lst [.int 0]) = H1 at hp sl1 ⊢
  rotate_left
  have et : ns.take m ≠ [] := fun e => by
    rw [e] at t
    exact absurd t (by decide)
  have hp : (upd (upd H c (.lst ((ns.take m).map V.int))) l (.lst ((ns.take m).map V.int))) l = some (.lst ((cells0 ns m).map V.int)) := by rw [upd_same, cells0, if_neg et]
  generalize upd (upd H c (.lst ((ns.take m).map V.int))) l (.lst ((ns.take m).map V.int)) = H1 at hp sl1 ⊢
  obtain ⟨p, ep⟩ : ∃ p, p = l := ⟨_, rfl⟩
  subst ep
  all_goals
    refine ⟨_, rfl, _, rfl, _, rfl, 63, rfl, a, _, rfl, sl1.seq hS, fun d nd => ?_⟩
    rw [cut_from ns m hn]
    have sd := sl1.trans (same_up (o := .lst ((ns.drop m).map V.int)) nd)
    have hd : (upd H1 d (.lst ((ns.drop m).map V.int))) d = some (.lst ((ns.drop m).map V.int)) := upd_same
    have hpd : (upd H1 d (.lst ((ns.drop m).map V.int))) p = some (.lst ((cells0 ns m).map V.int)) := by rw [upd_ne (ne_of_none hp nd)]; exact hp
    have ndp : d ≠ p := (ne_of_none hp nd).symm
    generalize upd H1 d (.lst ((ns.drop m).map V.int)) = H2 at sd hd hpd ⊢
    refine ⟨d, _, rfl, SqL.of hd, for_it walk_enum (fun i σ H3 => ∃ y3 y4, ∃ ms : List Int, σ = [some (.ref a), some (.int (m : Int)), some (.ref p), y3, y4] ∧ Same H H3 ∧ H3 d = some (.lst ((ns.drop m).map V.int)) ∧ H3 p = some (.lst (ms.map V.int)) ∧ ms.length = (cells0 ns m).length)
      ⟨none, none, _, rfl, sd, hd, hpd, rfl⟩ (fun i σ H3 _ ⟨_, _, _, _, _, e, _⟩ => SqL.of e) ?_ ?_⟩
    · rintro i x σ H3 H4 hi ⟨y3, y4, ms, rfl, s3, e3, ep, el⟩ ⟨T, v1, v2, rfl, nT, rfl, f1, f2⟩
      cases f1
      have hi' : i < (ns.drop m).length := by rw [List.length_map] at hi; exact hi
      have f2' : some (V.int (ns.drop m)[i]) = some v2 := by rw [← f2]; show _ = (List.map V.int (List.drop m ns))[i]?; rw [List.getElem?_map, List.getElem?_eq_getElem hi'] <;> rfl
      cases f2'
      rw [List.length_drop] at hi'
      have lm : ms.length = m := by rw [el]; exact cells0_full m1 (by omega)
      have hk : i % m < ms.length := by rw [lm]; exact Nat.mod_lt _ (by omega)
      have hA : atI (ms.map V.int) ((i : Int).fmod (m : Int)) = some (.int ms[i % m]) := at_of (fm_nat i m) (by rw [List.getElem?_map, List.getElem?_eq_getElem hk] <;> rfl)
      have hX : ixN (ms.map V.int).length ((i : Int).fmod (m : Int)) = some (i % m) := by
        rw [fm_nat]
        unfold ixN
        rw [if_pos (Int.natCast_nonneg _), if_pos (by rw [List.length_map]; exact Int.ofNat_lt.mpr hk), Int.toNat_natCast]
      have mz : (m : Int) ≠ 0 := by omega
      have sT : Same H3 (upd H3 T (.tup [.int (i : Int), .int (ns.drop m)[i]])) := same_up nT
      have eT := sT _ _ ep
      refine ⟨T, _, rfl, .inl (.inl upd_same), rfl, _, _, rfl, _, _, rfl, rfl, ?_⟩
      refine ⟨_, rfl, _, rfl, _, rfl, _, _, rfl, rfl, mz, p, _, _, _, rfl, rfl, SqL.of eT, hA, _, rfl, _, rfl, _, _, rfl, rfl, _, _, rfl, rfl, .inr ⟨by omega, by omega⟩, _, _, rfl, rfl, _, rfl, _, rfl, _, rfl, _, _, rfl, rfl, mz, p, _, _, _, rfl, rfl, eT, hX, ?_⟩
      refine ⟨_, _, ms.set (i % m) (ms[i % m] + (ns.drop m)[i] * ((i : Int) + 2)), rfl, fun b z e => ?_, ?_, ?_, ?_⟩
      rotate_left 2
      · rw [upd_same, List.map_set]
      · rw [List.length_set]; exact el
      · rw [upd_ne (ne_of_none e nl0)]; exact sT _ _ (s3 _ _ e)
      · rw [upd_ne ndp]; exact sT _ _ e3
    · rintro σ H3 ⟨y3, y4, ms, rfl, s3, e3, ep, el⟩
      exact ⟨_, rfl, q p ms H3 nl0 s3 ep (by rw [el]; exact cells0_pos) (by rw [el]; exact cells0_le m1)⟩
end
end Sh

set_option Elab.async false
set_option linter.all false
set_option maxRecDepth 100000
set_option maxHeartbeats 4000000
namespace Sh
open PySem PySem.Spec PyProof.Rows L2
/-- an own exception class directly over B, with an __init__ of its own -/
structure ExK (K : PySem.W.Frag) (C : Addr) (B newId initId : String) (bm : List Value) : Prop where
  q : PySem.W.excInitIn K C bm newId = true
  ov : PySem.W.excOver K C bm = true
  sa : PySem.W.findIn K (.ref C) "__setattr__" = some (some (.builtin "object.__setattr__"))
  hd : PySem.W.hasDictIn K C = true
  kp : PySem.W.keepIn K (.ref C) = true
  F : ExcBaseFacts B newId initId bm
  SF : StoreFacts B bm "object.__setattr__" "object"
  x : XfC K C
  ca : PySem.W.findIn K (.ref C) "__class__" = some (some (.builtin "object.__class__"))
  cg : PySem.W.specialIn K (.builtin "object.__class__") "__get__" = some (some (.builtin "getset_descriptor.__get__"))
  ct : PySem.W.takesIn K (.builtin "object.__class__") = some true
  cm : PySem.W.mroIn K C (.type "object") = some true
section
open Builtin Builtin.ObjectAttr PySem.W PySem.Calls
variable {prog : Program} {w : World} {A : Around} {R : Result → Shared → Prop} {hp : Heap} {g : Array GenState} {d : Drawn} {t : Nat} {os : OsState}
theorem store_fresh {K : Frag} {name : Str} {tk : Tok} {v : Value} {x C : Addr} {fv : Array Value} {B newId initId : String} {bm : List Value} (T : ExK K C B newId initId bm) (X : K.In hp)
    (hx : hp.get? x = some { cls := .ref C, data := .fields fv }) (ht : takerIn K C name = some none)
    (hq : ∀ h' tk' dx, (∀ b o, b ≠ x → hp.get? b = some o → h'.get? b = some o) → hp.objs.size ≤ dx → dx ≠ x →
      h'.get? x = some { cls := .ref C, dict := some dx, data := .fields fv } → h'.Ns1 dx (fun y => if y = name then some v else none) → R (.ok (.ret .none)) ⟨h', g, d, tk', os⟩) :
    codeAny (model prog w) A (.call (.builtin "object.__setattr__") ⟨[.ref x, .str name tk, v], []⟩) R ⟨hp, g, d, t, os⟩ := by
  refine osa_openX (od := none) T.SF X ⟨hx, rfl, rfl, trivial⟩ T.ov ht fun b => ?_
  obtain ⟨cd, hc, hh⟩ := any_some T.hd
  have Lc : Looks (model prog w) hp (classData C) cd := looks_clsIn X hc
  have hxs : x ≠ hp.objs.size := Nat.ne_of_lt (Heap.lt_size hx)
  obtain ⟨nm, bs, mro, ns, qn, hd, sn, sb, ab, col, del⟩ := cd
  dsimp only at hh
  subst hh
  dsimp only
  unfold storeInOwnDict ownDictForStores
  repeat
    first
      | with_reducible refine HandSPX.store_in_new ?_ ?_
      | with_reducible refine wpAny_loadPart_at hx ?_
      | with_reducible refine Lc.at ?_
      | wp_step
  · exact ⟨_, #[], _,
      (Heap.get?_update_ne _ _ _ _ hxs.symm).trans (Heap.get?_push_at rfl rfl), rfl,
      fun e he => absurd he (by simp), fun _ => rfl⟩
  · intro h' tk' hn' hs
    have hx1 := Heap.get?_push_of_some { cls := .type "dict", data := .dict #[] } hx
    refine hq h' tk' _ (fun b o hb ho => ?_) (Nat.le_refl _) hxs.symm ?_ hn'
    · have hbs : b ≠ hp.objs.size := Nat.ne_of_lt (Heap.lt_size ho)
      exact (hs.2 b hbs).trans ((Heap.get?_update_ne _ _ _ _ hb).trans (Heap.get?_push_of_some _ ho))
    · exact (hs.2 x hxs).trans
        (Heap.get?_update_self _ hx1 rfl)
end
/-! the rules over the layer -/
section
variable {X : Cx} {pins : List (Addr × Obj)} {σ : L2.St} {H : Hp} {s : Shared} {a C dx : Addr} {f : Str} {y : V} {u : Value} {E : Value → Shared → Prop} {A : Around} {B newId initId : String} {bm : List Value}
theorem upd_id {H : Hp} {a : Addr} {o : HO} (h : H a = some o) : upd H a o = H := by
  funext b; unfold upd; by_cases e : b = a
  · rw [if_pos e, e, h]
  · rw [if_neg e]
theorem sto_new {Q : Unit → Shared → Prop} (T : ExK X.K C B newId initId bm) (I : Inv X pins σ H s) (e : H a = some (exo a C none)) (ht : PySem.W.takerIn X.K C f = some none) (ry : RelV y u)
    (h : ∀ dx s', H dx = none → dx ≠ a → Inv X pins σ (upd (upd H dx (exd dx [(f, y)])) a (exo a C (some dx))) s' → Q () s') :
    wpAny (model X.prog X.w) A (setAttr (.ref a) f u) Q E s := by
  obtain ⟨t1, ho⟩ := exo_at I.hok e
  obtain ⟨hp, g, d, t, os⟩ := s
  refine PySem.W.set_plain I.kIn (od := none) ⟨ho, rfl, rfl, trivial⟩ T.sa ?_
  refine store_fresh T I.kIn ho ht fun h' tk' dx k dn dne hx hn => ?_
  have hnd : H dx = none := I.hok.fresh dn
  have old : ∀ {b : Addr} {o : Obj}, hp.get? b = some o → b ≠ dx := fun {b o} q => by
    have l := Heap.lt_size q
    exact Nat.ne_of_lt (Nat.lt_of_lt_of_le l dn)
  have na : ∀ {b : Addr}, H b = none → b ≠ a := fun {b} n z => by
    subst z
    rw [e] at n
    cases n
  have nt : ∀ {b : Addr} {o : HO}, H b = some o → exo a C none ≠ o → b ≠ a := fun {b o} q ne => at_ne e q ne
  have nd : ∀ {b : Addr} {o : HO}, H b = some o → b ≠ dx := fun {b o} q => ne_of_none q hnd
  have U : Un X.fs [] H (upd (upd H dx (exd dx [(f, y)])) a (exo a C (some dx))) hp h' := {
    keep := fun b o q n _ _ =>
      k b o (na n) q
    slot := fun b o q n _ _ =>
      ⟨o.slots, k b o (na n) q⟩
    free := fun b o q n _ => by
      rw [upd_ne (na n), upd_ne (old q), n]
    there := fun b o q _ => by
      by_cases hb : b = a
      · subst hb; exact ⟨_, hx⟩
      · exact ⟨o, k b o hb q⟩
    tups := fun b xs q => by
      rw [upd_ne (nt q exo_tup), upd_ne (nd q), q]
    frzs := fun b o v q => by
      rw [upd_ne (nt q exo_frz), upd_ne (nd q), q]
    tbls := fun b ps q =>
      ⟨#[], by rw [upd_ne (nt q exo_tbl), upd_ne (nd q), q]; simp⟩ }
  refine h dx _ hnd dne (I.un (t' := tk') U fun b o q => ?_)
  by_cases hb : b = a
  · subst hb
    rw [upd_same] at q; cases q
    exact exo_ok hx
  rw [upd_ne hb] at q
  by_cases hd : b = dx
  · subst hd
    rw [upd_same] at q; cases q
    exact exd_ok hn (relO_put (fs := []) ry fun _ => True.intro)
  rw [upd_ne hd] at q
  refine (I.hok b o q).stay (fun c v hc z => k c v ?_ z) (fun c hc => ?_) fun c xs hc => ?_
  · rcases hc with hc | hc
    · rw [hc]; exact hb
    · exact nt hc exo_own
  · rw [upd_ne (nt hc exo_own), upd_ne (nd hc), hc]
  · rw [upd_ne (nt hc exo_tup), upd_ne (nd hc), hc]
/-- self.f = e, the first store into a new exception -/
def tStoE (K : PySem.W.Frag) (f : Str) (to te : TE) : TS := fun D σ H => te σ H fun y H1 => to σ H1 fun x H2 => ∃ (a C : Addr) (B newId initId : String) (bm : List Value), x = .ref a ∧ ExK K C B newId initId bm ∧ PySem.W.takerIn K C f = some none ∧
  H2 a = some (exo a C none) ∧ ∀ dx, H2 dx = none → dx ≠ a → D.nx σ (upd (upd H2 dx (exd dx [(f, y)])) a (exo a C (some dx)))
theorem ps_stoE {o e : Expr} {to te : TE} {p' pos : Pos} (ho : PE X o to) (he : PE X e te) (hs : swapsWith e (some (.Attribute o f p')) pos.line X.env = pure false := by rfl) : PS X (.Assign [.Attribute o f p'] e pos) (tStoE X.K f to te) := by
  refine ⟨fun pins s σ H D I h => ?_⟩
  refine plainObj_wpAny_Assign_Attribute (thn (he.run pins s σ H _ I h) fun v s1 hv => ?_) hs
  obtain ⟨y, H1, I1, r1, q1⟩ := hv
  refine thn (ho.run pins s1 σ H1 _ I1 q1) fun u s2 hu => ?_
  obtain ⟨x, H2, I2, r2, a, C, B, n1, n2, bm, ex, T, ht, ea, q⟩ := hu
  subst ex
  obtain rfl : u = Value.ref a := r2
  exact sto_new T I2 ea ht r1 fun dx s' n ne J => ⟨σ, _, J, q dx n ne⟩
/-- B.__init__(self, ..) of a new exception: nothing of it is told -/
theorem ini_ok {us : List Value} {Q : Value → Shared → Prop} (T : ExK X.K C B newId initId bm) (I : Inv X pins σ H s) (e : H a = some (exo a C none)) (hl : us.length ≤ sizeLine) (h : ∀ s', Inv X pins σ H s' → Q .none s') :
    wpAny (model X.prog X.w) A (call (.builtin initId) (.ref a :: us)) Q E s := by
  obtain ⟨nm, N, q, bs, bm', hdct, sn, sub, ab, col, dd, k0, k1, k2, k3, k5, hC, hT⟩ := PySem.W.excInit_of I.kIn T.q
  obtain ⟨t1, ho⟩ := exo_at I.hok e
  obtain ⟨hp, g, d, t, os⟩ := s
  refine wpAny_call (PySem.HandSPX.init_base T.F hT hC ho hl fun h' t2 k hx => ?_)
  have mu : Mut (H a) := by rw [e]; exact True.intro
  have J := I.write (t' := t) (x := a) (e := a) (o := exo a C none) mu (.inl rfl) k ⟨_, hx⟩ (exo_ok hx)
  rw [upd_id e] at J
  exact h _ J
def tIniE (K : PySem.W.Frag) (initId : String) (ta : TA) : TE := fun σ H Q => ta σ H fun vs H1 => ∃ (a C : Addr) (ws : List V) (B newId : String) (bm : List Value), vs = .ref a :: ws ∧ ws.length ≤ 1000 ∧ ExK K C B newId initId bm ∧ H1 a = some (exo a C none) ∧ Q .non H1
theorem pe_iniE {x : Str} {B initId : String} {pl : Sem Bool} {e : Expr} {es : List Expr} {ta : TA} {p1 p2 pos : Pos} (hg : Gl X x) (hm : X.mg x = none) (hv : bootBuiltins x = some (.type B)) (hty : typeOf (.type B) = pure (.type "type"))
    (hst : Manifest.isStub B = false) (hin : PySem.W.handedIn (.builtin initId) = true) (vV : PySem.W.findCls X.K (.type B) (.type "type") "__init__" = some (.val (.builtin initId))) (ha : PA X (e :: es) ta)
    (hc : eval (.Call (.Attribute (.Name x p1) "__init__" p2) (e :: es) [] pos) X.env = (do
      let ov ← eval (.Name x p1) X.env
      standAt p2.atName
      let (f, first) ← holding [ov] (getMethod ov "__init__" pl)
      callWith pos f first (backTo pos (starEach (e :: es) X.env)) (backToKw pos (keywordEach [] X.env))) := by rfl) (hn : x ≠ "__name__" := by decide) (hdb : (x == ("__debug__" : Str)) = false := by decide)
    (he : starEach (e :: es) X.env = (false, eval e X.env) :: starEach es X.env := by rfl) (hpl : (backTo pos (starEach es X.env)).any (·.1) = false := by rfl) :
    PE X (.Call (.Attribute (.Name x p1) "__init__" p2) (e :: es) [] pos) (tIniE X.K initId ta) := by
  refine ⟨fun pins s σ H Q I h => ?_⟩
  refine PySem.W.methodCall_KW (ld_blt I hg hm hv ?_ hn hdb) hc
  obtain ⟨m, fr⟩ := I.fr
  refine PySem.W.method_type fr I.ok.mod.kin hty hst vV hin ?_
  show wpAny _ _ (callWith pos (Value.builtin initId) [] (backTo pos (starEach (e :: es) X.env)) []) _ _ _
  refine PyProof.Rows.callWith_method1 (thn (ha.run pos pins _ σ H _ (I.tok _) h) fun us s1 hu => ?_) he hpl
  obtain ⟨vs, H1, I1, r1, a, C, ws, B', n1, bm', ev, hl, T, ea, q⟩ := hu
  subst ev
  cases r1 with
  | @cons _ u0 _ ur ra rw' =>
    obtain rfl : u0 = Value.ref a := ra
    refine ini_ok T I1 ea ?_ fun s' J => ⟨.non, H1, J, rfl, q⟩
    rw [← Paired.length rw', sizeLine_eq]; omega
/-! C(e, ..) as a value -/
variable {k : Nat} {fI : Addr} {fd : FuncData} {ps : List Str} {sp : Sp}
theorem mk_run {Q : VK} {us : List Value} {vs : List V} (T : ExK X.K C B newId initId bm) (iC : PySem.W.findIn X.K (.ref C) "__init__" = some (some (.ref fI))) (tI : PySem.W.typeIn X.K (.ref fI) = some (.type "function"))
    (F1 : FnOk X.prog X.w X.K X.mg X.base CX0 k fI fd ps sp) (hr : Room (k + 1) X.A) (hb : Binds X.K fd ps []) (I : Inv X pins σ H s) (r : Vals vs us) (hz : vs.length ≤ 1000)
    (h : ∀ a, H a = none → sp (.ref a :: vs) (upd H a (exo a C none)) (fun v H2 => v = .non ∧ Q (.ref a) H2) E0) : wpAny (model X.prog X.w) X.A (call (.ref C) us) (EP X pins σ Q) X.xe s := by
  obtain ⟨nm, N, q, bs, bm', hdct, sn, sub, ab, col, dd, k0, k1, k2, k3, k5, hC, hT⟩ := PySem.W.excInit_of I.kIn T.q
  obtain ⟨hp, g, dr, tk, os⟩ := s
  have hsz : hp.objs.size ≤ hp.objs.size + 1 := Nat.le_succ _
  have hq := h (hp.objs.size + 1) (I.hok.fresh hsz)
  have kk : ∀ b o, hp.get? b = some o → ((hp.push (PySem.W.kdv_tup us)).push (PySem.HandSPX.excO C hp.objs.size)).get? b = some o := fun b o e => by
    exact Heap.get?_push_of_some _ (Heap.get?_push_of_some _ e)
  have hget : ((hp.push (PySem.W.kdv_tup us)).push (PySem.HandSPX.excO C hp.objs.size)).get? (hp.objs.size + 1) = some (PySem.HandSPX.excO C hp.objs.size) := by
    heap_get
  have I2 := I.laid (t' := tk) (a := hp.objs.size + 1) (o := exo (hp.objs.size + 1) C none) kk hsz (exo_ok hget)
  have r2 : Vals (V.ref (hp.objs.size + 1) :: vs) (Value.ref (hp.objs.size + 1) :: us) := .cons rfl r
  have hl : (Value.ref (hp.objs.size + 1) :: us).length = ps.length := by
    have e := r2.length
    rw [F1.len _ _ _ _ hq] at e
    exact e.symm
  have hus : us.length ≤ sizeLine := by
    rw [← Paired.length r, sizeLine_eq]; omega
  have e0 : Value.ref (hp.objs.size + 1) :: us ++ [] = Value.ref (hp.objs.size + 1) :: us := List.append_nil _
  have bb := hb _ (Value.ref (hp.objs.size + 1) :: us) I2.kIn (by rw [e0]; exact hl)
  rw [e0] at bb
  refine wpAny_call (PySem.HandSPX.call_own T.F hT hC (PySem.W.looks_findIn I.kIn iC) (fun self => PySem.W.bind_fn I.kIn self tI) hus (codeAny_mono (F1.run _ X.stack _ _ ⟨Value.ref (hp.objs.size + 1) :: us, []⟩ (Value.ref (hp.objs.size + 1) :: us) _ _ E0 (hr.make C us []) (I2.env0.make C us []) bb r2 hq) fun r s' hq' => ?_))
  cases r with
  | error er => exact hq'.elim
  | ok fl =>
    cases fl with
    | ret u =>
      obtain ⟨v, H2, I3, rv, ev, q2⟩ := I2.after hq'
      subst ev
      exact ⟨rv, ⟨V.ref (hp.objs.size + 1), H2, I3, rfl, q2⟩⟩
    | next => exact False.elim hq'
    | brk => exact False.elim hq'
    | cont => exact False.elim hq'
def tNewE (C : Addr) (sp : Sp) (ta : TA) : TE := fun σ H Q => ta σ H fun vs H1 => vs.length ≤ 1000 ∧ ∀ a, H1 a = none → sp (.ref a :: vs) (upd H1 a (exo a C none)) (fun v H2 => v = .non ∧ Q (.ref a) H2) E0
theorem pe_newE {x : Str} {e : Expr} {es : List Expr} {ta : TA} {p pos : Pos} (T : ExK X.K C B newId initId bm) (iC : PySem.W.findIn X.K (.ref C) "__init__" = some (some (.ref fI))) (tI : PySem.W.typeIn X.K (.ref fI) = some (.type "function"))
    (F1 : FnOk X.prog X.w X.K X.mg X.base CX0 k fI fd ps sp) (hr : Room (k + 1) X.A) (hb : Binds X.K fd ps []) (hg : Gl X x) (hm : X.mg x = some (.ref C)) (ha : PA X (e :: es) ta)
    (hdb : (x == ("__debug__" : Str)) = false := by decide) (he : starEach (e :: es) X.env = (false, eval e X.env) :: starEach es X.env := by rfl) (hpl : (backTo pos (starEach es X.env)).any (·.1) = false := by rfl) :
    PE X (.Call (.Name x p) (e :: es) [] pos) (tNewE C sp ta) := by
  refine ⟨fun pins s σ H Q I h => ?_⟩
  refine wpAny_Call_Name_kw (ld_glob I hg hm ?_ hdb)
  refine PySem.W.callWith_K (h₀ := X.base) I.ok.mod.kin T.kp (thn (ha.run pos pins s σ H _ I h) fun us s1 hu => ?_) he hpl
  obtain ⟨vs, H1, I1, r1, hz, q1⟩ := hu
  exact ⟨I1.kIn, mk_run T iC tI F1 hr hb I1 r1 hz q1⟩
theorem pe_newE0 {x : Str} {p pos : Pos} (T : ExK X.K C B newId initId bm) (iC : PySem.W.findIn X.K (.ref C) "__init__" = some (some (.ref fI))) (tI : PySem.W.typeIn X.K (.ref fI) = some (.type "function"))
    (F1 : FnOk X.prog X.w X.K X.mg X.base CX0 k fI fd ps sp) (hr : Room (k + 1) X.A) (hb : Binds X.K fd ps []) (hg : Gl X x) (hm : X.mg x = some (.ref C)) (hdb : (x == ("__debug__" : Str)) = false := by decide) :
    PE X (.Call (.Name x p) [] [] pos) (tNewE C sp tNil) := by
  refine ⟨fun pins s σ H Q I h => ?_⟩
  refine wpAny_Call_Name_kw (ld_glob I hg hm ?_ hdb)
  exact PySem.W.callWith_K0 I.kIn T.kp (mk_run (us := []) T iC tI F1 hr hb I .nil h.1 h.2)
/-! o.f of such a value -/
def tFldE (K : PySem.W.Frag) (n : Str) (te : TE) : TE := fun σ H Q => te σ H fun x H1 => ∃ (a C dd : Addr) (B newId initId : String) (bm : List Value) (fs : List (Str × V)) (v : V), x = .ref a ∧ ExK K C B newId initId bm ∧ PySem.W.findIn K (.ref C) n = some none ∧
  H1 a = some (exo a C (some dd)) ∧ H1 dd = some (exd dd fs) ∧ fs.lookup n = some v ∧ Q v H1
theorem exo_inst (I : Inv X pins σ H s) {dd : Addr} {fs : List (Str × V)} (ea : H a = some (exo a C (some dd))) (ed : H dd = some (exd dd fs)) : ∃ (ox od : Obj) (mA : Str → Option Value), PySem.W.InstAt s.heap a ox C (some od) ∧ s.heap.get? dd = some od ∧ s.heap.Ns1 dd mA ∧ (∀ f, RelO (fs.lookup f) (mA f)) ∧ (∀ n, PySem.W.lookIn n od = some (mA n)) := by
  obtain ⟨t1, ho⟩ := exo_at I.hok ea
  obtain ⟨mA, hns, hr⟩ := exd_at I.hok ed
  obtain ⟨od, hd, hl⟩ := lookIn_ns hns
  exact ⟨_, od, mA, ⟨ho, rfl, rfl, hd⟩, hd, hns, hr, hl⟩
theorem pe_fldE {e : Expr} {te : TE} {pos : Pos} {n : Str} (he : PE X e te) (hb : attributeBase e n X.env (eval e X.env) = eval e X.env := by rfl) : PE X (.Attribute e n pos) (tFldE X.K n te) := by
  refine ⟨fun pins s σ H Q I h => ?_⟩
  refine attr_of hb (thn (he.run pins s σ H _ I h) fun u s1 hh => ?_)
  obtain ⟨x, H1, I1, rx, a, C, dd, B, n1, n2, bm, fs, v, ex, T, hno, ea, ed, l, q⟩ := hh
  subst ex
  obtain rfl : u = Value.ref a := rx
  obtain ⟨ox, od, mA, J, _, _, hr, hl⟩ := exo_inst I1 ea ed
  obtain ⟨u, hu, ru⟩ := RelO.some_of (v := v) (o := mA n) (by rw [← l]; exact hr n)
  exact HandSPX.exc_get I1.kIn J T.x.ga T.x.gg T.x.exC (PySem.W.findObj_own T.x.hdC hno rfl (by rw [hl, hu])) (handed_of ru) ⟨v, H1, I1.tok _, ru, q⟩
/-! isinstance of such a value -/
def Exn (H : Hp) (a C : Addr) : Prop := H a = some (exo a C none) ∨ ∃ dd fs, H a = some (exo a C (some dd)) ∧ H dd = some (exd dd fs)
theorem exn_inst (I : Inv X pins σ H s) (e : Exn H a C) : ∃ (ox : Obj) (od : Option Obj), PySem.W.InstAt s.heap a ox C od := by
  rcases e with e | ⟨dd, fs, e, ed⟩
  · obtain ⟨t1, ho⟩ := exo_at I.hok e
    exact ⟨_, none, ho, rfl, rfl, trivial⟩
  · obtain ⟨ox, od, mA, J, _⟩ := exo_inst I e ed
    exact ⟨ox, some od, J⟩
theorem exk_cls {K : PySem.W.Frag} (T : ExK K C B newId initId bm) : (PySem.W.clsIn K C).isSome = true := by
  obtain ⟨cd, hc, _⟩ := PySem.W.any_some T.hd
  rw [hc] <;> rfl
/-- isinstance(x, c), x an own exception -/
def rIsiE (K : PySem.W.Frag) : List V → Hp → VK → Prop := fun xs H Q => ∃ (a C : Addr) (B newId initId : String) (bm : List Value) (c : V) (u : Value) (b : Bool), xs = [.ref a, c] ∧ ExK K C B newId initId bm ∧ Exn H a C ∧ ClsV c u ∧ PySem.W.kitOne K (.ref C) u = some b ∧ Q (.bl b) H
/-- isinstance(x, (c1, ..)) -/
def rIsiET (K : PySem.W.Frag) : List V → Hp → VK → Prop := fun xs H Q => ∃ (a C tp : Addr) (B newId initId : String) (bm : List Value) (cs : List V) (us : List Value) (b : Bool), xs = [.ref a, .ref tp] ∧ ExK K C B newId initId bm ∧ Exn H a C ∧ H tp = some (.tup cs) ∧ Paired ClsV cs us ∧
  PySem.W.kitAny K (.ref C) us = some b ∧ Q (.bl b) H
theorem call_isiE : CallR X (.builtin "isinstance") (rIsiE X.K) := by
  intro pins s σ H xs us Q I r h
  obtain ⟨a, C, B, n1, n2, bm, c, u, b, rfl, T, ex, k, e, q⟩ := h
  obtain ⟨u1, u2, rfl, r1, r2⟩ := vals2 r
  have e2 := k.eq r2
  subst e2
  cases (show u1 = Value.ref a from r1)
  obtain ⟨ox, od, J⟩ := exn_inst I ex
  have Z := PySem.W.kitx_exc (x := a) (ox := ox) (od := od) (exk_cls T) T.x.ga T.x.gg T.x.exC T.ca T.cg T.ct T.cm
  exact PySem.W.kia_one Z I.kIn J e (fun z => nomatch z) fun tk => ⟨.bl b, H, I.tok tk, rfl, q⟩
theorem call_isiET : CallR X (.builtin "isinstance") (rIsiET X.K) := by
  intro pins s σ H xs us Q I r h
  obtain ⟨a, C, tp, B, n1, n2, bm, cs, ws, b, rfl, T, ex, hT, k, e, q⟩ := h
  obtain ⟨u1, u2, rfl, r1, r2⟩ := vals2 r
  cases (show u1 = Value.ref a from r1)
  cases (show u2 = Value.ref tp from r2)
  obtain ⟨ox, od, J⟩ := exn_inst I ex
  have Z := PySem.W.kitx_exc (x := a) (ox := ox) (od := od) (exk_cls T) T.x.ga T.x.gg T.x.exC T.ca T.cg T.ct T.cm
  obtain ⟨_, its, rv, o, h1, h2, n, h3⟩ := (show ObjOk X.prog X.w H s.heap tp (.tup cs) from I.hok tp _ hT)
  have e3 := ClsV.all k rv
  subst e3
  obtain ⟨oc, od', dt, sl⟩ := o
  simp only at h2 h3
  subst h2 h3
  exact PySem.W.kia_tup Z I.kIn J h1 e (fun z => nomatch z) fun tk => ⟨.bl b, H, I.tok tk, rfl, q⟩
end
end Sh

set_option Elab.async false
set_option linter.all false
set_option maxRecDepth 100000
set_option maxHeartbeats 4000000
namespace Sh
open PySem PySem.Spec PyProof.Rows L2
abbrev sAs : Stmt := topS 1
abbrev sSame : Stmt := topS 17
theorem scAs : FnScope ["thing"] ["thing"] (defScope sAs) := ⟨rfl, rfl, rfl, by decide +kernel, rfl, by decide +kernel, by decide +kernel⟩
theorem scSame : FnScope ["_law_found", "_law_due", "_law_mine", "_law_its"] ["_law_found", "_law_due"] (defScope sSame) := ⟨rfl, rfl, rfl, by decide +kernel, rfl, by decide +kernel, by decide +kernel⟩
/-- x and y are the same data (None, ints, texts, tuples), at most n deep -/
def TD (K : PySem.W.Frag) (H : Hp) : Nat → V → V → Prop
  | 0, _, _ => False
  | n + 1, x, y => (x = .non ∧ y = .non) ∨ (∃ i, x = .int i ∧ y = .int i) ∨ (∃ z, x = .str z ∧ y = .str z) ∨
      ∃ a b xs ys, x = .ref a ∧ y = .ref b ∧ SqT K H a xs ∧ SqT K H b ys ∧ xs.length = ys.length ∧ xs.length ≤ 1000 ∧ ∀ (i : Nat) (u v : V), xs[i]? = some u → ys[i]? = some v → TD K H n u v
theorem seqT_but {K : PySem.W.Frag} {H H' : Hp} {b a : Addr} {l xs : List V} (hb : H b = some (.lst l)) (e : But b H H') (h : SqT K H a xs) : SqT K H' a xs := by
  have ne : ∀ {o : HO}, H a = some o → o ≠ .lst l → a ≠ b := fun {o} q n z => by
    subst z
    rw [hb] at q
    exact n (Option.some.inj q).symm
  rcases h with (h | ⟨o, h⟩) | h
  · exact .inl (.inl (e _ _ (ne h (fun z => nomatch z)) h))
  · exact .inl (.inr ⟨o, e _ _ (ne h (fun z => nomatch z)) h⟩)
  · exact .inr h
theorem seqT_same {K : PySem.W.Frag} {H H' : Hp} {a : Addr} {xs : List V} (e : Same H H') (h : SqT K H a xs) : SqT K H' a xs := by
  rcases h with (h | ⟨o, h⟩) | h
  · exact .inl (.inl (e _ _ h))
  · exact .inl (.inr ⟨o, e _ _ h⟩)
  · exact .inr h
theorem TD.map {K : PySem.W.Frag} {H H' : Hp} (k : ∀ a xs, SqT K H a xs → SqT K H' a xs) : ∀ {n : Nat} {x y : V}, TD K H n x y → TD K H' n x y
  | 0, _, _, h => h.elim
  | n + 1, x, y, h => by
    rcases h with h | h | h | ⟨a, b, xs, ys, e1, e2, h1, h2, h3, h4, h5⟩
    · exact .inl h
    · exact .inr (.inl h)
    · exact .inr (.inr (.inl h))
    · exact .inr (.inr (.inr ⟨a, b, xs, ys, e1, e2, k _ _ h1, k _ _ h2, h3, h4, fun i u v p q => TD.map k (h5 i u v p q)⟩))
theorem TD.same {K : PySem.W.Frag} {H H' : Hp} {n : Nat} {x y : V} (e : Same H H') (h : TD K H n x y) : TD K H' n x y := h.map fun _ _ => seqT_same e
theorem TD.but {K : PySem.W.Frag} {H H' : Hp} {n : Nat} {x y : V} {b : Addr} {l : List V} (hb : H b = some (.lst l)) (e : But b H H') (h : TD K H n x y) : TD K H' n x y := h.map fun _ _ => seqT_but hb e
theorem tyx_tup {K : PySem.W.Frag} {H : Hp} {a : Addr} {xs : List V} (h : SqT K H a xs) : TyX K H (.ref a) (.type "tuple") := by
  rcases h with (h | ⟨o, h⟩) | ⟨o, its, n, h1, h2, _⟩
  · exact .base (.tup h)
  · exact .fTuple h
  · exact .kTuple h1 h2
theorem kit_lt {K : PySem.W.Frag} {a : String} {r : Bool} (h1 : kitB a "list" = some false) (h2 : kitB a "tuple" = some r) : PySem.W.kitAny K (.type a) [.type "list", .type "tuple"] = some r :=
  kitAny_cons (kit_ty h1) (fun _ => kitAny_cons (kit_ty h2) (fun e => by rw [e]; exact kitAny_nil) (fun e => e)) (fun e => nomatch e)
section
variable {P : Program} {w : World} {K : PySem.W.Frag} {mg : Str → Option Value} {base : Heap}
/-! ### as_tuples -/
def spAs (K : PySem.W.Frag) (n : Nat) : Sp := fun vs H Q _ => ∃ x z, vs = [x] ∧ TD K H n x z ∧ ∀ y H', Same H H' → TD K H' n y z → Q y H'
theorem as_seq (n : Nat) {H0 : Hp} {a' : Addr} {ys : List V} {Q : VK} {Gs : Hp → Prop} (hG : ∀ {H H'}, Same H H' → Gs H → Gs H') (h2 : SqT K H0 a' ys) (hz : ys.length ≤ 1000) :
    ∀ (r : List V) (xs acc : List V) (H : Hp), xs = acc ++ r → xs.length = ys.length → (∀ (i : Nat) (u v : V), r[i]? = some u → ys[acc.length + i]? = some v → TD K H n u v) → Same H0 H → Gs H →
      ∀ zs : List V, zs.length = acc.length → (∀ (i : Nat) (u v : V), zs[i]? = some u → ys[i]? = some v → TD K H n u v) → (∀ y H', Same H0 H' → TD K H' (n + 1) y (.ref a') → Q y H') →
      MpT.mapR (spAs K n) Gs r zs H fun out H3 => ∀ l, H3 l = none → Q (.ref l) (upd H3 l (.tup out))
  | [], xs, acc, H, e, el, hr, s, g, zs, hl, hzs, q => by
    intro l nl
    have sl : Same H (upd H l (.tup zs)) := same_up nl
    have ea : acc.length = ys.length := by rw [← el, e, List.append_nil]
    refine q _ _ (s.trans sl) (.inr (.inr (.inr ⟨l, a', zs, ys, rfl, rfl, SqT.of upd_same, seqT_same (s.trans sl) h2, by omega, by omega, fun i u v e1 e2 => (hzs i u v e1 e2).same sl⟩)))
  | x :: r, xs, acc, H, e, el, hr, s, g, zs, hl, hzs, q => by
    have hlt : acc.length < ys.length := by rw [← el, e, List.length_append, List.length_cons]; omega
    have hv : ys[acc.length]? = some ys[acc.length] := List.getElem?_eq_getElem hlt
    refine ⟨x, ys[acc.length], rfl, hr 0 x _ rfl (by rw [Nat.add_zero]; exact hv), fun y H' s' t' => ⟨hG s' g, ?_⟩⟩
    refine as_seq n hG h2 hz r xs (acc ++ [x]) H' (by rw [e, List.append_assoc]; rfl) el (fun i u v e1 e2 => ?_) (s.trans s') (hG s' g) (zs ++ [y]) (by rw [List.length_append, List.length_append, hl]; rfl) (fun i u v e1 e2 => ?_) q
    · refine (hr (i + 1) u v e1 ?_).same s'
      rw [List.length_append] at e2
      have : [x].length = 1 := rfl
      rw [← e2]
      congr 1
      omega
    · by_cases hj : i < zs.length
      · rw [List.getElem?_append_left hj] at e1
        exact (hzs i u v e1 e2).same s'
      · have hj2 : i < (zs ++ [y]).length := (List.getElem?_eq_some_iff.mp e1).1
        rw [List.length_append] at hj2
        have ej : i = zs.length := by
          have : [y].length = 1 := rfl
          omega
        subst ej
        rw [List.getElem?_concat_length] at e1
        cases e1
        rw [hl, hv] at e2
        cases e2
        exact t'
theorem ok_as {f : Addr} {fd : FuncData} {n k : Nat} (F : Fun K "as_tuples" "as_tuples" sAs f fd) (G : FnOk P w K mg base CX0 k f fd ["thing"] (spAs K n)) (bG : Binds K fd ["thing"] []) (mG : mg "as_tuples" = some (.ref f))
    (mi : mg "isinstance" = none) (ml : mg "list" = none) (mt : mg "tuple" = none) (mm : mg "map" = none) : FnOk P w K mg base CX0 (k + 5) f fd ["thing"] (spAs K (n + 1)) := by
  refine F.ok scAs (fun vs H Q E h => ?_) (fun cdv A outer s H vs Q E hr h => ?_)
  · obtain ⟨x, x', rfl, _⟩ := h
    rfl
  obtain ⟨x, x', rfl, hT, q⟩ := h
  refine ⟨_, pss_cons (ps_if (pt_val (pe_callB call_isiT rfl mi (by decide +kernel) (pa_cons (pv 0) (pa_cons (pe_tup (pa_cons (pe_bltn (v := .ty "list") rfl ml (by decide +kernel) rfl) (pa_cons (pe_bltn (v := .ty "tuple") rfl mt (by decide +kernel) rfl) pa_nil))) pa_nil))))
      (pss_one (ps_ret (MpT.pe_tupMap rfl rfl mt rfl mm (pf_glob rfl mG) (pv 0) (MpT.raw0 G bG) hr))) pss_nil)
    (pss_one (ps_ret (pv 0))), ?_⟩
  refine ⟨_, rfl, (by show 2 ≤ sizeLine; decide), fun p hp => ?_⟩
  have sp : Same H (upd H p (.tup [.ty "list", .ty "tuple"])) := same_up hp
  have pr : Paired ClsV [V.ty "list", V.ty "tuple"] [Value.type "list", Value.type "tuple"] := .cons (.ty _) (.cons (.ty _) .nil)
  rcases id hT with ⟨rfl, rfl⟩ | ⟨i, rfl, rfl⟩ | ⟨z, rfl, rfl⟩ | ⟨a, a', xs, ys, rfl, rfl, h1, h2, h3, h4, h5⟩
  · exact ⟨_, p, _, _, _, false, rfl, upd_same, pr, .base .non, kit_lt (by decide +kernel) (by decide +kernel), false, rfl, iteF ⟨_, rfl, q _ _ sp (hT.same sp)⟩⟩
  · exact ⟨_, p, _, _, _, false, rfl, upd_same, pr, .base (.int _), kit_lt (by decide +kernel) (by decide +kernel), false, rfl, iteF ⟨_, rfl, q _ _ sp (hT.same sp)⟩⟩
  · exact ⟨_, p, _, _, _, false, rfl, upd_same, pr, .base (.str _), kit_lt (by decide +kernel) (by decide +kernel), false, rfl, iteF ⟨_, rfl, q _ _ sp (hT.same sp)⟩⟩
  have h1' := seqT_same sp h1
  have h2' := seqT_same sp h2
  refine ⟨_, p, _, _, _, true, rfl, upd_same, pr, tyx_tup h1', kit_lt (by decide +kernel) (by decide +kernel), true, rfl, iteT ?_⟩
  refine ⟨_, rfl, a, xs, rfl, .inr ⟨h1', ?_⟩⟩
  exact as_seq n (H0 := upd H p (.tup [.ty "list", .ty "tuple"])) (fun e z => seqT_same e z) h2' (by omega) xs xs [] _ rfl h3 (fun i u v e1 e2 => (h5 i u v e1 (by rw [List.length_nil, Nat.zero_add] at e2; exact e2)).same sp) (Same.refl _) h1' [] rfl (fun i u v e1 e2 => by simp at e1) (fun y H' s' t' => q y H' (sp.trans s') t')
theorem none0 {ps : List Str} {f : Addr} {fd : FuncData} {sp : Sp} (no : ∀ vs H Q E, ¬ sp vs H Q E) : FnOk P w K mg base CX0 0 f fd ps sp :=
  ⟨fun vs H Q E h => absurd h (no vs H Q E), fun A outer s H args us vs Q E _ _ _ _ h => absurd h (no vs H Q E)⟩
theorem all_as {f : Addr} {fd : FuncData} (F : Fun K "as_tuples" "as_tuples" sAs f fd) (bG : Binds K fd ["thing"] []) (mG : mg "as_tuples" = some (.ref f)) (mi : mg "isinstance" = none) (ml : mg "list" = none) (mt : mg "tuple" = none) (mm : mg "map" = none) :
    ∀ n : Nat, FnOk P w K mg base CX0 (5 * n) f fd ["thing"] (spAs K n)
  | 0 => none0 fun vs H Q E h => by
    obtain ⟨x, z, _, hT, _⟩ := h
    exact hT
  | n + 1 => ok_as F (all_as F bG mG mi ml mt mm n) bG mG mi ml mt mm
/-! ### _law_same -/
def spSame (K : PySem.W.Frag) (n : Nat) : Sp := fun vs H Q _ => ∃ x y, vs = [x, y] ∧ TD K H n x y ∧ ∀ H', Same H H' → Q (.bl true) H'
theorem walk_zipT {a b : Addr} {xs ys : List V} (hl : xs.length = ys.length) : Walk (RZ.ItzT K a b) xs.length (fun H => SqT K H a xs ∧ SqT K H b ys) (YPair (fun i => xs[i]?) (fun i => ys[i]?)) :=
  ⟨fun i _ hi q => ⟨xs, ys, xs[i], ys[i]'(by omega), q.1, q.2, List.getElem?_eq_getElem hi, List.getElem?_eq_getElem (by omega)⟩, fun _ q => ⟨xs, ys, q.1, q.2, .inl (Nat.le_refl _)⟩,
    fun _ _ _ _ _ q ⟨T, x, y, e1, e2, e3, f, g⟩ => ⟨T, x, y, e1, e2, e3, f xs q.1, g ys q.2⟩⟩
theorem all_true (n : Nat) : (List.replicate n true).all id = true := by simp
theorem isi_at {H : Hp} {x : V} {a T : String} {b : Bool} {Q : VK} (ty : TyX K H x (.type a)) (e : kitB a T = some b) (q : Q (.bl b) H) : rIsi K [x, .ty T] H Q := ⟨x, .ty T, _, _, b, rfl, .ty T, ty, kit_ty e, q⟩
theorem kit_2 {a S T : String} {r : Bool} (h1 : kitB a S = some false) (h2 : kitB a T = some r) : PySem.W.kitAny K (.type a) [.type S, .type T] = some r :=
  kitAny_cons (kit_ty h1) (fun _ => kitAny_cons (kit_ty h2) (fun e => by rw [e]; exact kitAny_nil) (fun e => e)) (fun e => nomatch e)
theorem eq_t {x : V} : V.bl (decide (x = x)) = V.bl true := congrArg V.bl (decide_eq_true rfl)
theorem ok_same {f : Addr} {fd : FuncData} {n : Nat} (F : Fun K "_law_same" "_law_same" sSame f fd) (G : FnOk P w K mg base CX0 n f fd ["_law_found", "_law_due"] (spSame K n)) (bG : Binds K fd ["_law_found", "_law_due"] []) (mG : mg "_law_same" = some (.ref f))
    (mi : mg "isinstance" = none) (ml : mg "list" = none) (mt : mg "tuple" = none) (mb : mg "bool" = none) (ms : mg "str" = none) (mn : mg "int" = none) (me : mg "len" = none) (mall : mg "all" = none) (mz : mg "zip" = none) : FnOk P w K mg base CX0 (n + 1) f fd ["_law_found", "_law_due"] (spSame K (n + 1)) := by
  refine F.ok scSame (fun vs H Q E h => ?_) (fun cdv A outer s H vs Q E hr h => ?_)
  · obtain ⟨x, y, rfl, _⟩ := h
    rfl
  obtain ⟨x, y, rfl, hT, q⟩ := h
  have bt : ∀ T : String, bootBuiltins (Str.ofString T) = bootBuiltins (Str.ofString T) := fun _ => rfl
  refine ⟨_, pss_cons (ps_if (pt_val (pe_callB call_isiT rfl mi (by decide +kernel) (pa_cons (pv 1) (pa_cons (pe_tup (pa_cons (pe_bltn (v := .ty "list") rfl ml (by decide +kernel) rfl) (pa_cons (pe_bltn (v := .ty "tuple") rfl mt (by decide +kernel) rfl) pa_nil))) pa_nil))))
      (pss_cons (ps_if (PW.pt (pw_or (pt_cmpR op_ne (pe_callB call_isi rfl mi (by decide +kernel) (pa_cons (pv 0) (pa_cons (pe_bltn (v := .ty "list") rfl ml (by decide +kernel) rfl) pa_nil))) (pe_callB call_isi rfl mi (by decide +kernel) (pa_cons (pv 1) (pa_cons (pe_bltn (v := .ty "list") rfl ml (by decide +kernel) rfl) pa_nil))) (nomark _))
          (pw_or1 (pt_cmpR op_ne (pe_callB call_isi rfl mi (by decide +kernel) (pa_cons (pv 0) (pa_cons (pe_bltn (v := .ty "tuple") rfl mt (by decide +kernel) rfl) pa_nil))) (pe_callB call_isi rfl mi (by decide +kernel) (pa_cons (pv 1) (pa_cons (pe_bltn (v := .ty "tuple") rfl mt (by decide +kernel) rfl) pa_nil))) (nomark _)))))
        (pss_one (ps_ret pe_bl)) pss_nil)
      (pss_one (ps_ret (pe_and (pe_cmpR op_eq (pe_callB call_len_seq rfl me PySem.boot_len (pa_cons (pv 0) pa_nil)) (pe_callB call_len_seq rfl me PySem.boot_len (pa_cons (pv 1) pa_nil)) (nomark _))
        (pe_one (pe_callB (cr_all rfl) rfl mall (by decide +kernel) (pa_cons (pe_lc (own := [("_law_mine", 2), ("_law_its", 3)]) (g := gTup K 2 (gCons (gName 2) (gCons (gName 3) gNil))) (tt := tYes) rfl scSame.nd (RZ.pi_zipA rfl mz (pa_cons (pv 0) (pa_cons (pv 1) pa_nil))) (blkOk_by (N := ["_law_found", "_law_due", "_law_mine", "_law_its"]) (sc := defScope sSame) (by decide +kernel))
          (fun _ _ _ _ _ => pg_tup rfl (pgs_cons (pg_name (i := 2) scSame.nd rfl (Or.inl rfl)) (pgs_cons (pg_name (i := 3) scSame.nd rfl (Or.inl rfl)) pgs_nil))) (fun _ _ _ _ _ => pts_nil) (fun _ _ _ _ _ => pe_call G hr rfl mG F.kp bG .nil pass0 (pa_cons (pv 2) (pa_cons (pv 3) pa_nil)))) pa_nil))))))) pss_nil)
    (pss_cons (ps_if (PW.pt (pw_or (pt_cmpR op_isN (pv 1) pe_non (nomark _)) (pw_or1 (pt_val (pe_callB call_isiT rfl mi (by decide +kernel) (pa_cons (pv 1) (pa_cons (pe_tup (pa_cons (pe_bltn (v := .ty "bool") rfl mb (by decide +kernel) rfl) (pa_cons (pe_bltn (v := .ty "str") rfl ms (by decide +kernel) rfl) pa_nil))) pa_nil)))))))
      (pss_one (ps_ret (pe_and (pe_cmpR op_eq (pv 0) (pv 1) (nomark _)) (pe_and (pe_cmpR op_eq (pe_callB call_isi rfl mi (by decide +kernel) (pa_cons (pv 0) (pa_cons (pe_bltn (v := .ty "bool") rfl mb (by decide +kernel) rfl) pa_nil))) (pe_callB call_isi rfl mi (by decide +kernel) (pa_cons (pv 1) (pa_cons (pe_bltn (v := .ty "bool") rfl mb (by decide +kernel) rfl) pa_nil))) (nomark _))
        (pe_one (pe_cmpR op_eq (pe_cmpR op_isN (pv 0) pe_non (nomark _)) (pe_cmpR op_isN (pv 1) pe_non (nomark _)) (nomark _))))))) pss_nil)
    (pss_one (ps_ret (pe_and (pe_callB call_isi rfl mi (by decide +kernel) (pa_cons (pv 0) (pa_cons (pe_bltn (v := .ty "int") rfl mn (by decide +kernel) rfl) pa_nil))) (pe_and (pe_not (pe_callB call_isi rfl mi (by decide +kernel) (pa_cons (pv 0) (pa_cons (pe_bltn (v := .ty "bool") rfl mb (by decide +kernel) rfl) pa_nil)))) (pe_one (pe_cmpR op_eq (pv 0) (pv 1) (nomark _)))))))), ?_⟩
  refine ⟨_, rfl, (by show 2 ≤ sizeLine; decide), fun p hp => ?_⟩
  have sp : Same H (upd H p (.tup [.ty "list", .ty "tuple"])) := same_up hp
  have pr : ∀ S T : String, Paired ClsV [V.ty S, V.ty T] [Value.type S, Value.type T] := fun S T => .cons (.ty _) (.cons (.ty _) .nil)
  rcases id hT with ⟨rfl, rfl⟩ | ⟨i, rfl, rfl⟩ | ⟨z, rfl, rfl⟩ | ⟨a, a', xs, ys, rfl, rfl, h1, h2, h3, h4, h5⟩
  · refine ⟨_, p, _, _, _, false, rfl, upd_same, pr _ _, .base .non, kit_2 (by decide +kernel) (by decide +kernel), false, rfl, iteF ?_⟩
    refine ⟨_, rfl, rfl, true, rfl, iteT ?_⟩
    refine ⟨_, rfl, _, rfl, rfl, true, eq_t, iteT ?_⟩
    refine ⟨_, rfl, _, _, _, _, false, rfl, .ty _, (.base .non), kit_ty (by decide +kernel), _, rfl, _, _, _, _, false, rfl, .ty _, (.base .non), kit_ty (by decide +kernel), rfl, true, rfl, iteT ?_⟩
    exact ⟨_, rfl, rfl, _, rfl, rfl, rfl, q _ sp⟩
  · refine ⟨_, p, _, _, _, false, rfl, upd_same, pr _ _, .base (.int _), kit_2 (by decide +kernel) (by decide +kernel), false, rfl, iteF ?_⟩
    refine ⟨_, rfl, rfl, false, rfl, iteF ?_⟩
    refine ⟨_, rfl, (by show 2 ≤ sizeLine; decide), fun p2 hp2 => ?_⟩
    have sp2 := sp.trans (same_up (o := .tup [.ty "bool", .ty "str"]) hp2)
    refine ⟨_, p2, _, _, _, false, rfl, upd_same, pr _ _, .base (.int _), kit_2 (by decide +kernel) (by decide +kernel), false, rfl, iteF ?_⟩
    refine ⟨_, rfl, _, _, _, _, true, rfl, .ty _, (.base (.int _)), kit_ty (by decide +kernel), true, rfl, iteT ?_⟩
    refine ⟨_, rfl, _, _, _, _, false, rfl, .ty _, (.base (.int _)), kit_ty (by decide +kernel), false, rfl, true, rfl, iteT ?_⟩
    refine ⟨_, rfl, _, rfl, rfl, ?_⟩
    rw [decide_eq_true rfl]
    exact q _ sp2
  · refine ⟨_, p, _, _, _, false, rfl, upd_same, pr _ _, .base (.str _), kit_2 (by decide +kernel) (by decide +kernel), false, rfl, iteF ?_⟩
    refine ⟨_, rfl, rfl, false, rfl, iteF ?_⟩
    refine ⟨_, rfl, (by show 2 ≤ sizeLine; decide), fun p2 hp2 => ?_⟩
    have sp2 := sp.trans (same_up (o := .tup [.ty "bool", .ty "str"]) hp2)
    refine ⟨_, p2, _, _, _, true, rfl, upd_same, pr _ _, .base (.str _), kit_2 (by decide +kernel) (by decide +kernel), true, rfl, iteT ?_⟩
    refine ⟨_, rfl, _, rfl, rfl, true, eq_t, iteT ?_⟩
    refine ⟨_, rfl, _, _, _, _, false, rfl, .ty _, (.base (.str _)), kit_ty (by decide +kernel), _, rfl, _, _, _, _, false, rfl, .ty _, (.base (.str _)), kit_ty (by decide +kernel), rfl, true, rfl, iteT ?_⟩
    exact ⟨_, rfl, rfl, _, rfl, rfl, rfl, q _ sp2⟩
  · have t1 := seqT_same sp h1
    have t2 := seqT_same sp h2
    refine ⟨_, p, _, _, _, true, rfl, upd_same, pr _ _, tyx_tup t2, kit_2 (by decide +kernel) (by decide +kernel), true, rfl, iteT ?_⟩
    refine ⟨_, rfl, _, _, _, _, false, rfl, .ty _, (tyx_tup t1), kit_ty (by decide +kernel), _, rfl, _, _, _, _, false, rfl, .ty _, (tyx_tup t2), kit_ty (by decide +kernel), rfl, false, rfl, iteF ?_⟩
    refine ⟨_, rfl, _, _, _, _, true, rfl, .ty _, (tyx_tup t1), kit_ty (by decide +kernel), _, rfl, _, _, _, _, true, rfl, .ty _, (tyx_tup t2), kit_ty (by decide +kernel), rfl, false, rfl, iteF ?_⟩
    refine ⟨_, rfl, a, xs, rfl, .inr t1, _, rfl, a', ys, rfl, .inr t2, rfl, true, ?_, iteT ?_⟩
    · rw [h3]; exact eq_t
    refine ⟨_, rfl, _, rfl, a, a', xs, ys, rfl, .inr ⟨t1, t2, fun D hD => ?_⟩⟩
    have sD := sp.trans (same_up (o := .lst []) hD)
    have nD : H D = none := sp.free hD
    refine lc_it (walk_zipT h3) (fun i H3 => Same H H3 ∧ H3 D = some (.lst ((List.replicate i true).map V.bl))) ⟨sD, upd_same⟩ (fun i H3 _ ⟨s3, _⟩ => ⟨seqT_same s3 h1, seqT_same s3 h2⟩) ?_ ?_
    · rintro i x H3 H4 hi ⟨s3, e3⟩ ⟨T, u, v, rfl, nT, rfl, f1, f2⟩
      have sT : Same H3 (upd H3 T (.tup [u, v])) := same_up nT
      refine ⟨T, _, rfl, .inl (.inl upd_same), rfl, _, _, rfl, _, _, rfl, rfl, rfl, ?_⟩
      show tCall (spSame K n) [] E0 (tCons (tVar 2) (tCons (tVar 3) tNil)) _ _ _
      refine ⟨_, rfl, _, rfl, u, v, rfl, (h5 i u v f1 f2).same (s3.trans sT), fun H5 s5 => ?_⟩
      have e5 := s5 _ _ (sT _ _ e3)
      refine ⟨_, e5, ?_, fun b o e => ?_, ?_⟩
      · rw [List.length_map, List.length_replicate]; exact small1000 (by omega)
      · rw [upd_ne (ne_of_none e nD)]; exact s5 _ _ (sT _ _ (s3 _ _ e))
      · rw [upd_same, List.replicate_succ', List.map_append]; rfl
    · rintro H3 ⟨s3, e3⟩
      refine ⟨D, _, rfl, SqL.of e3, ?_⟩
      rw [all_true]
      exact q H3 s3
theorem all_same {f : Addr} {fd : FuncData} (F : Fun K "_law_same" "_law_same" sSame f fd) (bG : Binds K fd ["_law_found", "_law_due"] []) (mG : mg "_law_same" = some (.ref f))
    (mi : mg "isinstance" = none) (ml : mg "list" = none) (mt : mg "tuple" = none) (mb : mg "bool" = none) (ms : mg "str" = none) (mn : mg "int" = none) (me : mg "len" = none) (mall : mg "all" = none) (mz : mg "zip" = none) :
    ∀ n : Nat, FnOk P w K mg base CX0 n f fd ["_law_found", "_law_due"] (spSame K n)
  | 0 => none0 fun vs H Q E h => by
    obtain ⟨x, z, _, hT, _⟩ := h
    exact hT
  | n + 1 => ok_same F (all_same F bG mG mi ml mt mb ms mn me mall mz n) bG mG mi ml mt mb ms mn me mall mz
end
end Sh

set_option Elab.async false
set_option linter.all false
set_option maxRecDepth 100000
set_option maxHeartbeats 4000000
namespace Sh
open PySem PySem.Spec PyProof.Rows L2
theorem ty_VE : typeOf (.type "ValueError") = pure (.type "type") := by kernel_rfl
theorem ty_LE : typeOf (.type "LookupError") = pure (.type "type") := by kernel_rfl
theorem ty_OE : typeOf (.type "OverflowError") = pure (.type "type") := by kernel_rfl
/-- an int or a text that a message may hold -/
def Sml (x : V) : Prop := (∃ i : Int, x = .int i ∧ 0 ≤ i ∧ i < 200) ∨ ∃ z : Str, x = .str z ∧ z.length ≤ 100
/-- all but a stands, and a has become the exception with this field -/
def Done (K : PySem.W.Frag) (a C : Addr) (f : Str) (n : Nat) (z : V) (H H' : Hp) : Prop := But a H H' ∧ ∃ dd y, H' a = some (exo a C (some dd)) ∧ H' dd = some (exd dd [(f, y)]) ∧ TD K H' n y z
/-- __init__ with a text of its argument -/
def spI (K : PySem.W.Frag) (C : Addr) (f : Str) (n : Nat) : Sp := fun vs H Q _ => ∃ a x, vs = [.ref a, x] ∧ H a = some (exo a C none) ∧ Sml x ∧ TD K H n x x ∧ ∀ H', Done K a C f n x H H' → Q .non H'
/-- __init__ with data -/
def spJ (K : PySem.W.Frag) (C : Addr) (f : Str) (n : Nat) : Sp := fun vs H Q _ => ∃ a x, vs = [.ref a, x] ∧ H a = some (exo a C none) ∧ TD K H n x x ∧ ∀ H', Done K a C f n x H H' → Q .non H'
def spN (C : Addr) : Sp := fun vs H Q _ => ∃ a, vs = [.ref a] ∧ H a = some (exo a C none) ∧ Q .non H
theorem TD.held {K : PySem.W.Frag} {H H' : Hp} {n : Nat} {x y : V} {a C : Addr} {d : Option Addr} (ha : H a = some (exo a C d)) (e : But a H H') (h : TD K H n x y) : TD K H' n x y := h.map fun b xs q => by
  have ne : ∀ {o : HO}, H b = some o → o ≠ exo a C d → b ≠ a := fun {o} q n z => by
    subst z
    rw [ha] at q
    exact n (Option.some.inj q).symm
  rcases q with (h | ⟨o, h⟩) | h
  · exact .inl (.inl (e _ _ (ne h (fun (z : HO.tup xs = exo a C d) => exo_tup z.symm)) h))
  · exact .inl (.inr ⟨o, e _ _ (ne h (fun (z : HO.frz o (.tup xs) = exo a C d) => exo_frz z.symm)) h⟩)
  · exact .inr h
theorem done_of {K : PySem.W.Frag} {H H1 : Hp} {a C dx : Addr} {f : Str} {n : Nat} {y z : V} (ha : H a = some (exo a C none)) (s : Same H H1) (nx : H1 dx = none) (ne : dx ≠ a) (t : TD K H1 n y z) :
    Done K a C f n z H (upd (upd H1 dx (exd dx [(f, y)])) a (exo a C (some dx))) := by
  have b1 : But a H1 (upd (upd H1 dx (exd dx [(f, y)])) a (exo a C (some dx))) := fun b o nb e => by
    rw [upd_ne nb, upd_ne (ne_of_none e nx)]; exact e
  exact ⟨(But.of s).trans b1, dx, y, upd_same, by rw [upd_ne ne, upd_same], t.held (s _ _ ha) b1⟩
theorem len200 : ∀ k : _root_.Fin 200, (Str.ofString (toString ((k.val : Nat) : Int))).length ≤ 5 := by decide +kernel
theorem lenI {i : Int} (h0 : 0 ≤ i) (h : i < 200) : (Str.ofString (toString i)).length ≤ 5 := by
  have e : i = ((i.toNat : Nat) : Int) := by omega
  have q := len200 ⟨i.toNat, by omega⟩
  rw [e]; exact q
theorem logI {i : Int} (h0 : 0 ≤ i) (h : i < 200) : i.natAbs.log2 < 1920 := by
  by_cases z : i.natAbs = 0
  · rw [z]; decide
  · refine (Nat.log2_lt z).mpr (Nat.lt_of_lt_of_le (show i.natAbs < 2 ^ 8 by omega) (Nat.pow_le_pow_right (by decide) (by decide)))
theorem lenA {p y : Str} {n m : Nat} (hp : p.length ≤ n) (hy : y.length ≤ m) : (p ++ y).length ≤ n + m := by
  rw [Str.length_append]; omega
section
variable {P : Program} {w : World} {K : PySem.W.Frag} {mg : Str → Option Value} {base : Heap}
abbrev sIBadText : Stmt := inClass (topS 3) 0
theorem scIBadText : FnScope ["self", "line"] ["self", "line"] (defScope sIBadText) := ⟨rfl, rfl, rfl, by decide +kernel, rfl, by decide +kernel, by decide +kernel⟩
theorem ok_IBadText {f C : Addr} {fd : FuncData} {n : Nat} (F : Fun K "__init__" "BadText.__init__" sIBadText f fd) (T : ExK K C "ValueError" "ValueError.__new__" "ValueError.__init__" [.type "ValueError", .type "Exception", .type "BaseException", .type "object"]) (mV : mg "ValueError" = none)
    (vV : PySem.W.findCls K (.type "ValueError") (.type "type") "__init__" = some (.val (.builtin "ValueError.__init__"))) (ht : PySem.W.takerIn K C "line" = some none) : FnOk P w K mg base CX0 (n + 1) f fd ["self", "line"] (spI K C "line" n) := by
  refine F.ok scIBadText (fun vs H Q E h => ?_) (fun cdv A outer s H vs Q E hr h => ?_)
  · obtain ⟨a, x, rfl, _⟩ := h
    rfl
  obtain ⟨a, x, rfl, ha, hx, ht', q⟩ := h
  refine ⟨_, pss_cons (ps_expr (pe_iniE rfl mV (by decide +kernel) ty_VE (by decide +kernel) (by decide +kernel) vV (pa_cons (pv 0) (pa_cons (pe_joined (.cons pe_str (.cons (pe_fmt (pv 1)) (.cons pe_str .nil)))) pa_nil)))) (pss_one (ps_stoE (pv 0) (pv 1))), ?_⟩
  rcases hx with ⟨i, rfl, i0, i1⟩ | ⟨z, rfl, hz⟩
  · refine ⟨_, rfl, _, rfl, (by decide +kernel), _, rfl, .inr ⟨i, rfl, logI i0 i1, _, rfl, Nat.le_trans (lenA (n := 100) (by decide +kernel) (lenI i0 i1)) (by decide), ?_⟩⟩
    refine ⟨_, rfl, Nat.le_trans (lenA (n := 300) (lenA (n := 100) (by decide +kernel) (Nat.le_trans (lenI i0 i1) (by decide : 5 ≤ 200))) (m := 100) (by decide +kernel)) (by decide), ?_⟩
    exact ⟨a, C, _, _, _, _, rfl, (by show 1 ≤ 1000; decide), T, ha, _, rfl, _, rfl, a, C, _, _, _, _, rfl, T, ht, ha, fun dx nx ne => q _ (done_of ha (Same.refl H) nx ne ht')⟩
  · refine ⟨_, rfl, _, rfl, (by decide +kernel), _, rfl, .inl ⟨z, rfl, Nat.le_trans hz (by decide), _, rfl, Nat.le_trans (lenA (n := 100) (by decide +kernel) hz) (by decide), ?_⟩⟩
    refine ⟨_, rfl, Nat.le_trans (lenA (n := 300) (lenA (n := 100) (by decide +kernel) (Nat.le_trans hz (by decide : 100 ≤ 200))) (m := 100) (by decide +kernel)) (by decide), ?_⟩
    exact ⟨a, C, _, _, _, _, rfl, (by show 1 ≤ 1000; decide), T, ha, _, rfl, _, rfl, a, C, _, _, _, _, rfl, T, ht, ha, fun dx nx ne => q _ (done_of ha (Same.refl H) nx ne ht')⟩
abbrev sIBadLine : Stmt := inClass (topS 4) 0
theorem scIBadLine : FnScope ["self", "line"] ["self", "line"] (defScope sIBadLine) := ⟨rfl, rfl, rfl, by decide +kernel, rfl, by decide +kernel, by decide +kernel⟩
theorem ok_IBadLine {f C : Addr} {fd : FuncData} {n : Nat} (F : Fun K "__init__" "BadLine.__init__" sIBadLine f fd) (T : ExK K C "ValueError" "ValueError.__new__" "ValueError.__init__" [.type "ValueError", .type "Exception", .type "BaseException", .type "object"]) (mV : mg "ValueError" = none)
    (vV : PySem.W.findCls K (.type "ValueError") (.type "type") "__init__" = some (.val (.builtin "ValueError.__init__"))) (ht : PySem.W.takerIn K C "line" = some none) : FnOk P w K mg base CX0 (n + 1) f fd ["self", "line"] (spI K C "line" n) := by
  refine F.ok scIBadLine (fun vs H Q E h => ?_) (fun cdv A outer s H vs Q E hr h => ?_)
  · obtain ⟨a, x, rfl, _⟩ := h
    rfl
  obtain ⟨a, x, rfl, ha, hx, ht', q⟩ := h
  refine ⟨_, pss_cons (ps_expr (pe_iniE rfl mV (by decide +kernel) ty_VE (by decide +kernel) (by decide +kernel) vV (pa_cons (pv 0) (pa_cons (pe_joined (.cons pe_str (.cons (pe_fmt (pv 1)) (.cons pe_str .nil)))) pa_nil)))) (pss_one (ps_stoE (pv 0) (pv 1))), ?_⟩
  rcases hx with ⟨i, rfl, i0, i1⟩ | ⟨z, rfl, hz⟩
  · refine ⟨_, rfl, _, rfl, (by decide +kernel), _, rfl, .inr ⟨i, rfl, logI i0 i1, _, rfl, Nat.le_trans (lenA (n := 100) (by decide +kernel) (lenI i0 i1)) (by decide), ?_⟩⟩
    refine ⟨_, rfl, Nat.le_trans (lenA (n := 300) (lenA (n := 100) (by decide +kernel) (Nat.le_trans (lenI i0 i1) (by decide : 5 ≤ 200))) (m := 100) (by decide +kernel)) (by decide), ?_⟩
    exact ⟨a, C, _, _, _, _, rfl, (by show 1 ≤ 1000; decide), T, ha, _, rfl, _, rfl, a, C, _, _, _, _, rfl, T, ht, ha, fun dx nx ne => q _ (done_of ha (Same.refl H) nx ne ht')⟩
  · refine ⟨_, rfl, _, rfl, (by decide +kernel), _, rfl, .inl ⟨z, rfl, Nat.le_trans hz (by decide), _, rfl, Nat.le_trans (lenA (n := 100) (by decide +kernel) hz) (by decide), ?_⟩⟩
    refine ⟨_, rfl, Nat.le_trans (lenA (n := 300) (lenA (n := 100) (by decide +kernel) (Nat.le_trans hz (by decide : 100 ≤ 200))) (m := 100) (by decide +kernel)) (by decide), ?_⟩
    exact ⟨a, C, _, _, _, _, rfl, (by show 1 ≤ 1000; decide), T, ha, _, rfl, _, rfl, a, C, _, _, _, _, rfl, T, ht, ha, fun dx nx ne => q _ (done_of ha (Same.refl H) nx ne ht')⟩
abbrev sINoProgram : Stmt := inClass (topS 5) 0
theorem scINoProgram : FnScope ["self"] ["self"] (defScope sINoProgram) := ⟨rfl, rfl, rfl, by decide +kernel, rfl, by decide +kernel, by decide +kernel⟩
theorem ok_INoProgram {f C : Addr} {fd : FuncData} {n : Nat} (F : Fun K "__init__" "NoProgram.__init__" sINoProgram f fd) (T : ExK K C "ValueError" "ValueError.__new__" "ValueError.__init__" [.type "ValueError", .type "Exception", .type "BaseException", .type "object"]) (mV : mg "ValueError" = none)
    (vV : PySem.W.findCls K (.type "ValueError") (.type "type") "__init__" = some (.val (.builtin "ValueError.__init__"))) : FnOk P w K mg base CX0 (n + 1) f fd ["self"] (spN C) := by
  refine F.ok scINoProgram (fun vs H Q E h => ?_) (fun cdv A outer s H vs Q E hr h => ?_)
  · obtain ⟨a, rfl, _⟩ := h
    rfl
  obtain ⟨a, rfl, ha, q⟩ := h
  refine ⟨_, pss_one (ps_expr (pe_iniE rfl mV (by decide +kernel) ty_VE (by decide +kernel) (by decide +kernel) vV (pa_cons (pv 0) pa_nil))), ?_⟩
  exact ⟨_, rfl, a, C, [], _, _, _, rfl, Nat.zero_le _, T, ha, q⟩
abbrev sIUnsafe : Stmt := inClass (topS 6) 0
theorem scIUnsafe : FnScope ["self", "condition"] ["self", "condition"] (defScope sIUnsafe) := ⟨rfl, rfl, rfl, by decide +kernel, rfl, by decide +kernel, by decide +kernel⟩
theorem ok_IUnsafe {f C : Addr} {fd : FuncData} {n m : Nat} (F : Fun K "__init__" "Unsafe.__init__" sIUnsafe f fd) (T : ExK K C "ValueError" "ValueError.__new__" "ValueError.__init__" [.type "ValueError", .type "Exception", .type "BaseException", .type "object"]) (mV : mg "ValueError" = none)
    (vV : PySem.W.findCls K (.type "ValueError") (.type "type") "__init__" = some (.val (.builtin "ValueError.__init__"))) (ht : PySem.W.takerIn K C "condition" = some none) {g : Addr} {gd : FuncData} (G : FnOk P w K mg base CX0 m g gd ["thing"] (spAs K n)) (bG : Binds K gd ["thing"] []) (kG : PySem.W.keepIn K (.ref g) = true) (mG : mg "as_tuples" = some (.ref g)) :
    FnOk P w K mg base CX0 (m + 1) f fd ["self", "condition"] (spJ K C "condition" n) := by
  refine F.ok scIUnsafe (fun vs H Q E h => ?_) (fun cdv A outer s H vs Q E hr h => ?_)
  · obtain ⟨a, x, rfl, _⟩ := h
    rfl
  obtain ⟨a, x, rfl, ha, ht', q⟩ := h
  refine ⟨_, pss_cons (ps_expr (pe_iniE rfl mV (by decide +kernel) ty_VE (by decide +kernel) (by decide +kernel) vV (pa_cons (pv 0) (pa_cons pe_str pa_nil)))) (pss_one (ps_stoE (pv 0) (pe_call G hr rfl mG kG bG .nil pass0 (pa_cons (pv 1) pa_nil)))), ?_⟩
  refine ⟨_, rfl, a, C, _, _, _, _, rfl, (by decide), T, ha, ?_⟩
  refine ⟨_, rfl, x, x, rfl, ht', fun y H1 s1 t1 => ⟨_, rfl, a, C, _, _, _, _, rfl, T, ht, s1 _ _ ha, fun dx nx ne => q _ (done_of ha s1 nx ne t1)⟩⟩
abbrev sITaken : Stmt := inClass (topS 7) 0
theorem scITaken : FnScope ["self", "name"] ["self", "name"] (defScope sITaken) := ⟨rfl, rfl, rfl, by decide +kernel, rfl, by decide +kernel, by decide +kernel⟩
theorem ok_ITaken {f C : Addr} {fd : FuncData} {n : Nat} (F : Fun K "__init__" "Taken.__init__" sITaken f fd) (T : ExK K C "ValueError" "ValueError.__new__" "ValueError.__init__" [.type "ValueError", .type "Exception", .type "BaseException", .type "object"]) (mV : mg "ValueError" = none)
    (vV : PySem.W.findCls K (.type "ValueError") (.type "type") "__init__" = some (.val (.builtin "ValueError.__init__"))) (ht : PySem.W.takerIn K C "name" = some none) : FnOk P w K mg base CX0 (n + 1) f fd ["self", "name"] (spI K C "name" n) := by
  refine F.ok scITaken (fun vs H Q E h => ?_) (fun cdv A outer s H vs Q E hr h => ?_)
  · obtain ⟨a, x, rfl, _⟩ := h
    rfl
  obtain ⟨a, x, rfl, ha, hx, ht', q⟩ := h
  refine ⟨_, pss_cons (ps_expr (pe_iniE rfl mV (by decide +kernel) ty_VE (by decide +kernel) (by decide +kernel) vV (pa_cons (pv 0) (pa_cons (pe_joined (.cons pe_str (.cons (pe_fmt (pv 1)) (.cons pe_str .nil)))) pa_nil)))) (pss_one (ps_stoE (pv 0) (pv 1))), ?_⟩
  rcases hx with ⟨i, rfl, i0, i1⟩ | ⟨z, rfl, hz⟩
  · refine ⟨_, rfl, _, rfl, (by decide +kernel), _, rfl, .inr ⟨i, rfl, logI i0 i1, _, rfl, Nat.le_trans (lenA (n := 100) (by decide +kernel) (lenI i0 i1)) (by decide), ?_⟩⟩
    refine ⟨_, rfl, Nat.le_trans (lenA (n := 300) (lenA (n := 100) (by decide +kernel) (Nat.le_trans (lenI i0 i1) (by decide : 5 ≤ 200))) (m := 100) (by decide +kernel)) (by decide), ?_⟩
    exact ⟨a, C, _, _, _, _, rfl, (by show 1 ≤ 1000; decide), T, ha, _, rfl, _, rfl, a, C, _, _, _, _, rfl, T, ht, ha, fun dx nx ne => q _ (done_of ha (Same.refl H) nx ne ht')⟩
  · refine ⟨_, rfl, _, rfl, (by decide +kernel), _, rfl, .inl ⟨z, rfl, Nat.le_trans hz (by decide), _, rfl, Nat.le_trans (lenA (n := 100) (by decide +kernel) hz) (by decide), ?_⟩⟩
    refine ⟨_, rfl, Nat.le_trans (lenA (n := 300) (lenA (n := 100) (by decide +kernel) (Nat.le_trans hz (by decide : 100 ≤ 200))) (m := 100) (by decide +kernel)) (by decide), ?_⟩
    exact ⟨a, C, _, _, _, _, rfl, (by show 1 ≤ 1000; decide), T, ha, _, rfl, _, rfl, a, C, _, _, _, _, rfl, T, ht, ha, fun dx nx ne => q _ (done_of ha (Same.refl H) nx ne ht')⟩
abbrev sINoFunction : Stmt := inClass (topS 8) 0
theorem scINoFunction : FnScope ["self", "name"] ["self", "name"] (defScope sINoFunction) := ⟨rfl, rfl, rfl, by decide +kernel, rfl, by decide +kernel, by decide +kernel⟩
theorem ok_INoFunction {f C : Addr} {fd : FuncData} {n : Nat} (F : Fun K "__init__" "NoFunction.__init__" sINoFunction f fd) (T : ExK K C "LookupError" "LookupError.__new__" "LookupError.__init__" [.type "LookupError", .type "Exception", .type "BaseException", .type "object"]) (mV : mg "LookupError" = none)
    (vV : PySem.W.findCls K (.type "LookupError") (.type "type") "__init__" = some (.val (.builtin "LookupError.__init__"))) (ht : PySem.W.takerIn K C "name" = some none) : FnOk P w K mg base CX0 (n + 1) f fd ["self", "name"] (spI K C "name" n) := by
  refine F.ok scINoFunction (fun vs H Q E h => ?_) (fun cdv A outer s H vs Q E hr h => ?_)
  · obtain ⟨a, x, rfl, _⟩ := h
    rfl
  obtain ⟨a, x, rfl, ha, hx, ht', q⟩ := h
  refine ⟨_, pss_cons (ps_expr (pe_iniE rfl mV (by decide +kernel) ty_LE (by decide +kernel) (by decide +kernel) vV (pa_cons (pv 0) (pa_cons (pe_joined (.cons pe_str (.cons (pe_fmt (pv 1)) .nil))) pa_nil)))) (pss_one (ps_stoE (pv 0) (pv 1))), ?_⟩
  rcases hx with ⟨i, rfl, i0, i1⟩ | ⟨z, rfl, hz⟩
  · refine ⟨_, rfl, _, rfl, (by decide +kernel), _, rfl, .inr ⟨i, rfl, logI i0 i1, _, rfl, Nat.le_trans (lenA (n := 100) (by decide +kernel) (lenI i0 i1)) (by decide), ?_⟩⟩
    exact ⟨a, C, _, _, _, _, rfl, (by show 1 ≤ 1000; decide), T, ha, _, rfl, _, rfl, a, C, _, _, _, _, rfl, T, ht, ha, fun dx nx ne => q _ (done_of ha (Same.refl H) nx ne ht')⟩
  · refine ⟨_, rfl, _, rfl, (by decide +kernel), _, rfl, .inl ⟨z, rfl, Nat.le_trans hz (by decide), _, rfl, Nat.le_trans (lenA (n := 100) (by decide +kernel) hz) (by decide), ?_⟩⟩
    exact ⟨a, C, _, _, _, _, rfl, (by show 1 ≤ 1000; decide), T, ha, _, rfl, _, rfl, a, C, _, _, _, _, rfl, T, ht, ha, fun dx nx ne => q _ (done_of ha (Same.refl H) nx ne ht')⟩
abbrev sINoRisk : Stmt := inClass (topS 9) 0
theorem scINoRisk : FnScope ["self", "point"] ["self", "point"] (defScope sINoRisk) := ⟨rfl, rfl, rfl, by decide +kernel, rfl, by decide +kernel, by decide +kernel⟩
theorem ok_INoRisk {f C : Addr} {fd : FuncData} {n m : Nat} (F : Fun K "__init__" "NoRisk.__init__" sINoRisk f fd) (T : ExK K C "LookupError" "LookupError.__new__" "LookupError.__init__" [.type "LookupError", .type "Exception", .type "BaseException", .type "object"]) (mV : mg "LookupError" = none)
    (vV : PySem.W.findCls K (.type "LookupError") (.type "type") "__init__" = some (.val (.builtin "LookupError.__init__"))) (ht : PySem.W.takerIn K C "point" = some none) {g : Addr} {gd : FuncData} (G : FnOk P w K mg base CX0 m g gd ["thing"] (spAs K n)) (bG : Binds K gd ["thing"] []) (kG : PySem.W.keepIn K (.ref g) = true) (mG : mg "as_tuples" = some (.ref g)) :
    FnOk P w K mg base CX0 (m + 1) f fd ["self", "point"] (spJ K C "point" n) := by
  refine F.ok scINoRisk (fun vs H Q E h => ?_) (fun cdv A outer s H vs Q E hr h => ?_)
  · obtain ⟨a, x, rfl, _⟩ := h
    rfl
  obtain ⟨a, x, rfl, ha, ht', q⟩ := h
  refine ⟨_, pss_cons (ps_expr (pe_iniE rfl mV (by decide +kernel) ty_LE (by decide +kernel) (by decide +kernel) vV (pa_cons (pv 0) (pa_cons pe_str pa_nil)))) (pss_one (ps_stoE (pv 0) (pe_call G hr rfl mG kG bG .nil pass0 (pa_cons (pv 1) pa_nil)))), ?_⟩
  refine ⟨_, rfl, a, C, _, _, _, _, rfl, (by decide), T, ha, ?_⟩
  refine ⟨_, rfl, x, x, rfl, ht', fun y H1 s1 t1 => ⟨_, rfl, a, C, _, _, _, _, rfl, T, ht, s1 _ _ ha, fun dx nx ne => q _ (done_of ha s1 nx ne t1)⟩⟩
abbrev sITooMany : Stmt := inClass (topS 10) 0
theorem scITooMany : FnScope ["self", "many"] ["self", "many"] (defScope sITooMany) := ⟨rfl, rfl, rfl, by decide +kernel, rfl, by decide +kernel, by decide +kernel⟩
theorem ok_ITooMany {f C : Addr} {fd : FuncData} {n : Nat} (F : Fun K "__init__" "TooMany.__init__" sITooMany f fd) (T : ExK K C "OverflowError" "OverflowError.__new__" "OverflowError.__init__" [.type "OverflowError", .type "ArithmeticError", .type "Exception", .type "BaseException", .type "object"]) (mV : mg "OverflowError" = none)
    (vV : PySem.W.findCls K (.type "OverflowError") (.type "type") "__init__" = some (.val (.builtin "OverflowError.__init__"))) (ht : PySem.W.takerIn K C "many" = some none) : FnOk P w K mg base CX0 (n + 1) f fd ["self", "many"] (spI K C "many" n) := by
  refine F.ok scITooMany (fun vs H Q E h => ?_) (fun cdv A outer s H vs Q E hr h => ?_)
  · obtain ⟨a, x, rfl, _⟩ := h
    rfl
  obtain ⟨a, x, rfl, ha, hx, ht', q⟩ := h
  refine ⟨_, pss_cons (ps_expr (pe_iniE rfl mV (by decide +kernel) ty_OE (by decide +kernel) (by decide +kernel) vV (pa_cons (pv 0) (pa_cons (pe_joined (.cons pe_str (.cons (pe_fmt (pv 1)) (.cons pe_str .nil)))) pa_nil)))) (pss_one (ps_stoE (pv 0) (pv 1))), ?_⟩
  rcases hx with ⟨i, rfl, i0, i1⟩ | ⟨z, rfl, hz⟩
  · refine ⟨_, rfl, _, rfl, (by decide +kernel), _, rfl, .inr ⟨i, rfl, logI i0 i1, _, rfl, Nat.le_trans (lenA (n := 100) (by decide +kernel) (lenI i0 i1)) (by decide), ?_⟩⟩
    refine ⟨_, rfl, Nat.le_trans (lenA (n := 300) (lenA (n := 100) (by decide +kernel) (Nat.le_trans (lenI i0 i1) (by decide : 5 ≤ 200))) (m := 100) (by decide +kernel)) (by decide), ?_⟩
    exact ⟨a, C, _, _, _, _, rfl, (by show 1 ≤ 1000; decide), T, ha, _, rfl, _, rfl, a, C, _, _, _, _, rfl, T, ht, ha, fun dx nx ne => q _ (done_of ha (Same.refl H) nx ne ht')⟩
  · refine ⟨_, rfl, _, rfl, (by decide +kernel), _, rfl, .inl ⟨z, rfl, Nat.le_trans hz (by decide), _, rfl, Nat.le_trans (lenA (n := 100) (by decide +kernel) hz) (by decide), ?_⟩⟩
    refine ⟨_, rfl, Nat.le_trans (lenA (n := 300) (lenA (n := 100) (by decide +kernel) (Nat.le_trans hz (by decide : 100 ≤ 200))) (m := 100) (by decide +kernel)) (by decide), ?_⟩
    exact ⟨a, C, _, _, _, _, rfl, (by show 1 ≤ 1000; decide), T, ha, _, rfl, _, rfl, a, C, _, _, _, _, rfl, T, ht, ha, fun dx nx ne => q _ (done_of ha (Same.refl H) nx ne ht')⟩
end
end Sh

set_option Elab.async false
set_option linter.all false
set_option maxRecDepth 100000
set_option maxHeartbeats 4000000
namespace Sh
open PySem PySem.Spec PyProof.Rows L2
abbrev sMade : Stmt := topS 18
abbrev sKinds : Stmt := topS 19
theorem scMade : FnScope ["_law_way", "_law_thing_so", "_law_made"] ["_law_way", "_law_thing_so"] (defScope sMade) := ⟨rfl, rfl, rfl, by decide +kernel, rfl, by decide +kernel, by decide +kernel⟩
theorem scKinds : FnScope ["_law_made", "_law_own", "_law_known"] ["_law_made"] (defScope sKinds) := ⟨rfl, rfl, rfl, by decide +kernel, rfl, by decide +kernel, by decide +kernel⟩
def c8 (C0 C1 C2 C3 C4 C5 C6 C7 : Addr) : Nat → Addr
  | 0 => C0
  | 1 => C1
  | 2 => C2
  | 3 => C3
  | 4 => C4
  | 5 => C5
  | 6 => C6
  | _ => C7
/-- the classes as the top has made them -/
structure E8 (K : PySem.W.Frag) (mg : Str → Option Value) (C0 C1 C2 C3 C4 C5 C6 C7 : Addr) : Prop where
  t0 : ExK K C0 "ValueError" "ValueError.__new__" "ValueError.__init__" [.type "ValueError", .type "Exception", .type "BaseException", .type "object"]
  g0 : mg "BadText" = some (.ref C0)
  n0 : PySem.W.findIn K (.ref C0) "line" = some none
  t1 : ExK K C1 "ValueError" "ValueError.__new__" "ValueError.__init__" [.type "ValueError", .type "Exception", .type "BaseException", .type "object"]
  g1 : mg "BadLine" = some (.ref C1)
  n1 : PySem.W.findIn K (.ref C1) "line" = some none
  t2 : ExK K C2 "ValueError" "ValueError.__new__" "ValueError.__init__" [.type "ValueError", .type "Exception", .type "BaseException", .type "object"]
  g2 : mg "NoProgram" = some (.ref C2)
  t3 : ExK K C3 "ValueError" "ValueError.__new__" "ValueError.__init__" [.type "ValueError", .type "Exception", .type "BaseException", .type "object"]
  g3 : mg "Unsafe" = some (.ref C3)
  n3 : PySem.W.findIn K (.ref C3) "condition" = some none
  t4 : ExK K C4 "ValueError" "ValueError.__new__" "ValueError.__init__" [.type "ValueError", .type "Exception", .type "BaseException", .type "object"]
  g4 : mg "Taken" = some (.ref C4)
  n4 : PySem.W.findIn K (.ref C4) "name" = some none
  t5 : ExK K C5 "LookupError" "LookupError.__new__" "LookupError.__init__" [.type "LookupError", .type "Exception", .type "BaseException", .type "object"]
  g5 : mg "NoFunction" = some (.ref C5)
  n5 : PySem.W.findIn K (.ref C5) "name" = some none
  t6 : ExK K C6 "LookupError" "LookupError.__new__" "LookupError.__init__" [.type "LookupError", .type "Exception", .type "BaseException", .type "object"]
  g6 : mg "NoRisk" = some (.ref C6)
  n6 : PySem.W.findIn K (.ref C6) "point" = some none
  t7 : ExK K C7 "OverflowError" "OverflowError.__new__" "OverflowError.__init__" [.type "OverflowError", .type "ArithmeticError", .type "Exception", .type "BaseException", .type "object"]
  g7 : mg "TooMany" = some (.ref C7)
  n7 : PySem.W.findIn K (.ref C7) "many" = some none
/-- their inits -/
structure I8 (P : Program) (w : World) (K : PySem.W.Frag) (mg : Str → Option Value) (base : Heap) (C0 C1 C2 C3 C4 C5 C6 C7 f0 f1 f2 f3 f4 f5 f6 f7 : Addr) (d0 d1 d2 d3 d4 d5 d6 d7 : FuncData) : Prop where
  i0 : PySem.W.findIn K (.ref C0) "__init__" = some (some (.ref f0))
  y0 : PySem.W.typeIn K (.ref f0) = some (.type "function")
  o0 : FnOk P w K mg base CX0 31 f0 d0 ["self", "line"] (spI K C0 "line" 6)
  b0 : Binds K d0 ["self", "line"] []
  i1 : PySem.W.findIn K (.ref C1) "__init__" = some (some (.ref f1))
  y1 : PySem.W.typeIn K (.ref f1) = some (.type "function")
  o1 : FnOk P w K mg base CX0 31 f1 d1 ["self", "line"] (spI K C1 "line" 6)
  b1 : Binds K d1 ["self", "line"] []
  i2 : PySem.W.findIn K (.ref C2) "__init__" = some (some (.ref f2))
  y2 : PySem.W.typeIn K (.ref f2) = some (.type "function")
  o2 : FnOk P w K mg base CX0 31 f2 d2 ["self"] (spN C2)
  b2 : Binds K d2 ["self"] []
  i3 : PySem.W.findIn K (.ref C3) "__init__" = some (some (.ref f3))
  y3 : PySem.W.typeIn K (.ref f3) = some (.type "function")
  o3 : FnOk P w K mg base CX0 31 f3 d3 ["self", "condition"] (spJ K C3 "condition" 6)
  b3 : Binds K d3 ["self", "condition"] []
  i4 : PySem.W.findIn K (.ref C4) "__init__" = some (some (.ref f4))
  y4 : PySem.W.typeIn K (.ref f4) = some (.type "function")
  o4 : FnOk P w K mg base CX0 31 f4 d4 ["self", "name"] (spI K C4 "name" 6)
  b4 : Binds K d4 ["self", "name"] []
  i5 : PySem.W.findIn K (.ref C5) "__init__" = some (some (.ref f5))
  y5 : PySem.W.typeIn K (.ref f5) = some (.type "function")
  o5 : FnOk P w K mg base CX0 31 f5 d5 ["self", "name"] (spI K C5 "name" 6)
  b5 : Binds K d5 ["self", "name"] []
  i6 : PySem.W.findIn K (.ref C6) "__init__" = some (some (.ref f6))
  y6 : PySem.W.typeIn K (.ref f6) = some (.type "function")
  o6 : FnOk P w K mg base CX0 31 f6 d6 ["self", "point"] (spJ K C6 "point" 6)
  b6 : Binds K d6 ["self", "point"] []
  i7 : PySem.W.findIn K (.ref C7) "__init__" = some (some (.ref f7))
  y7 : PySem.W.typeIn K (.ref f7) = some (.type "function")
  o7 : FnOk P w K mg base CX0 31 f7 d7 ["self", "many"] (spI K C7 "many" 6)
  b7 : Binds K d7 ["self", "many"] []
section
variable {P : Program} {w : World} {K : PySem.W.Frag} {mg : Str → Option Value} {base : Heap} {C0 C1 C2 C3 C4 C5 C6 C7 : Addr} {f0 f1 f2 f3 f4 f5 f6 f7 : Addr} {d0 d1 d2 d3 d4 d5 d6 d7 : FuncData}
def spMade (K : PySem.W.Frag) (C : Nat → Addr) : Sp := fun vs H Q _ => ∃ (i : Nat) (x : V), vs = [.int (i : Int), x] ∧ i < 8 ∧ TD K H 6 x x ∧ (i ≠ 2 → i ≠ 3 → i ≠ 6 → Sml x) ∧
  ∀ p a y H', Same H H' → H' p = some (.tup [.ref a, y]) → Exn H' a (C i) → TD K H' 6 y x → Q (.ref p) H'
theorem made_end {C : Nat → Addr} {H H1 : Hp} {a Ci : Addr} {f : Str} {x : V} {Q : VK} {i : Nat} (na : H a = none) (e : C i = Ci) (d : Done K a Ci f 6 x (upd H a (exo a Ci none)) H1)
    (q : ∀ p a y H', Same H H' → H' p = some (.tup [.ref a, y]) → Exn H' a (C i) → TD K H' 6 y x → Q (.ref p) H') :
    ∃ dd y, H1 a = some (exo a Ci (some dd)) ∧ H1 dd = some (exd dd [(f, y)]) ∧ ([(f, y)] : List (Str × V)).lookup f = some y ∧ ∀ p, H1 p = none → Q (.ref p) (upd H1 p (.tup [.ref a, y])) := by
  obtain ⟨b, dd, y, ea, ed, t⟩ := d
  refine ⟨dd, y, ea, ed, by rw [lookup_put, if_pos rfl], fun p np => ?_⟩
  have s1 : Same H H1 := fun c o z => b c o (ne_of_none z na) (by rw [upd_ne (ne_of_none z na)]; exact z)
  have s2 : Same H1 (upd H1 p (.tup [.ref a, y])) := same_up np
  exact q p a y _ (s1.trans s2) upd_same (by rw [e]; exact .inr ⟨dd, _, s2 _ _ ea, s2 _ _ ed⟩) (t.same s2)
theorem ok_made {f : Addr} {fd : FuncData} (F : Fun K "_law_made_error" "_law_made_error" sMade f fd) (E : E8 K mg C0 C1 C2 C3 C4 C5 C6 C7) (I : I8 P w K mg base C0 C1 C2 C3 C4 C5 C6 C7 f0 f1 f2 f3 f4 f5 f6 f7 d0 d1 d2 d3 d4 d5 d6 d7) : FnOk P w K mg base CX0 33 f fd ["_law_way", "_law_thing_so"] (spMade K (c8 C0 C1 C2 C3 C4 C5 C6 C7)) := by
  refine F.ok scMade (fun vs H Q E h => ?_) (fun cdv A outer s H vs Q Ex hr h => ?_)
  · obtain ⟨i, x, rfl, _⟩ := h
    rfl
  obtain ⟨i, x, rfl, hi, hT, hs, q⟩ := h
  refine ⟨_, (pss_cons (ps_if (pt_cmpR op_eq (pv 0) pe_int (nomark _)) (pss_cons (ps_set (i := 2) scMade.nd rfl (Or.inl rfl) (pe_newE E.t0 I.i0 I.y0 I.o0 hr I.b0 rfl E.g0 (pa_cons (pv 1) pa_nil))) (pss_one (ps_ret (pe_tup (pa_cons (pv 2) (pa_cons (pe_fldE (pv 2)) pa_nil)))))) pss_nil)
      (pss_cons (ps_if (pt_cmpR op_eq (pv 0) pe_int (nomark _)) (pss_cons (ps_set (i := 2) scMade.nd rfl (Or.inl rfl) (pe_newE E.t1 I.i1 I.y1 I.o1 hr I.b1 rfl E.g1 (pa_cons (pv 1) pa_nil))) (pss_one (ps_ret (pe_tup (pa_cons (pv 2) (pa_cons (pe_fldE (pv 2)) pa_nil)))))) pss_nil)
      (pss_cons (ps_if (pt_cmpR op_eq (pv 0) pe_int (nomark _)) (pss_one (ps_ret (pe_tup (pa_cons (pe_newE0 E.t2 I.i2 I.y2 I.o2 hr I.b2 rfl E.g2) (pa_cons (pv 1) pa_nil))))) pss_nil)
      (pss_cons (ps_if (pt_cmpR op_eq (pv 0) pe_int (nomark _)) (pss_cons (ps_set (i := 2) scMade.nd rfl (Or.inl rfl) (pe_newE E.t3 I.i3 I.y3 I.o3 hr I.b3 rfl E.g3 (pa_cons (pv 1) pa_nil))) (pss_one (ps_ret (pe_tup (pa_cons (pv 2) (pa_cons (pe_fldE (pv 2)) pa_nil)))))) pss_nil)
      (pss_cons (ps_if (pt_cmpR op_eq (pv 0) pe_int (nomark _)) (pss_cons (ps_set (i := 2) scMade.nd rfl (Or.inl rfl) (pe_newE E.t4 I.i4 I.y4 I.o4 hr I.b4 rfl E.g4 (pa_cons (pv 1) pa_nil))) (pss_one (ps_ret (pe_tup (pa_cons (pv 2) (pa_cons (pe_fldE (pv 2)) pa_nil)))))) pss_nil)
      (pss_cons (ps_if (pt_cmpR op_eq (pv 0) pe_int (nomark _)) (pss_cons (ps_set (i := 2) scMade.nd rfl (Or.inl rfl) (pe_newE E.t5 I.i5 I.y5 I.o5 hr I.b5 rfl E.g5 (pa_cons (pv 1) pa_nil))) (pss_one (ps_ret (pe_tup (pa_cons (pv 2) (pa_cons (pe_fldE (pv 2)) pa_nil)))))) pss_nil)
      (pss_cons (ps_if (pt_cmpR op_eq (pv 0) pe_int (nomark _)) (pss_cons (ps_set (i := 2) scMade.nd rfl (Or.inl rfl) (pe_newE E.t6 I.i6 I.y6 I.o6 hr I.b6 rfl E.g6 (pa_cons (pv 1) pa_nil))) (pss_one (ps_ret (pe_tup (pa_cons (pv 2) (pa_cons (pe_fldE (pv 2)) pa_nil)))))) pss_nil)
      (pss_cons (ps_set (i := 2) scMade.nd rfl (Or.inl rfl) (pe_newE E.t7 I.i7 I.y7 I.o7 hr I.b7 rfl E.g7 (pa_cons (pv 1) pa_nil))) (pss_one (ps_ret (pe_tup (pa_cons (pv 2) (pa_cons (pe_fldE (pv 2)) pa_nil))))))))))))), ?_⟩
  match i, hi with
  | 0, _ =>
    refine ⟨_, rfl, rfl, true, rfl, iteT ?_⟩
    refine ⟨_, rfl, (by show 1 ≤ 1000; decide), fun a na => ⟨a, x, rfl, upd_same, hs (by decide) (by decide) (by decide), (hT.same (same_up na)), fun H1 dn => ⟨rfl, ?_⟩⟩⟩
    obtain ⟨dd, y, ea, ed, el, qq⟩ := made_end (C := c8 C0 C1 C2 C3 C4 C5 C6 C7) (i := 0) na rfl dn q
    exact ⟨_, rfl, _, rfl, a, C0, dd, _, _, _, _, _, y, rfl, E.t0, E.n0, ea, ed, el, (by show 2 ≤ sizeLine; decide), qq⟩
  | 1, _ =>
    refine ⟨_, rfl, rfl, false, rfl, iteF ?_⟩
    refine ⟨_, rfl, rfl, true, rfl, iteT ?_⟩
    refine ⟨_, rfl, (by show 1 ≤ 1000; decide), fun a na => ⟨a, x, rfl, upd_same, hs (by decide) (by decide) (by decide), (hT.same (same_up na)), fun H1 dn => ⟨rfl, ?_⟩⟩⟩
    obtain ⟨dd, y, ea, ed, el, qq⟩ := made_end (C := c8 C0 C1 C2 C3 C4 C5 C6 C7) (i := 1) na rfl dn q
    exact ⟨_, rfl, _, rfl, a, C1, dd, _, _, _, _, _, y, rfl, E.t1, E.n1, ea, ed, el, (by show 2 ≤ sizeLine; decide), qq⟩
  | 2, _ =>
    refine ⟨_, rfl, rfl, false, rfl, iteF ?_⟩
    refine ⟨_, rfl, rfl, false, rfl, iteF ?_⟩
    refine ⟨_, rfl, rfl, true, rfl, iteT ?_⟩
    refine ⟨by show 0 ≤ 1000; decide, fun a na => ⟨a, rfl, upd_same, rfl, _, rfl, (by show 2 ≤ sizeLine; decide), fun p np => ?_⟩⟩
    have s1 : Same H (upd H a (exo a C2 none)) := same_up na
    have s2 : Same (upd H a (exo a C2 none)) (upd (upd H a (exo a C2 none)) p (.tup [.ref a, x])) := same_up np
    exact q p a x _ (s1.trans s2) upd_same (.inl (s2 _ _ upd_same)) (hT.same (s1.trans s2))
  | 3, _ =>
    refine ⟨_, rfl, rfl, false, rfl, iteF ?_⟩
    refine ⟨_, rfl, rfl, false, rfl, iteF ?_⟩
    refine ⟨_, rfl, rfl, false, rfl, iteF ?_⟩
    refine ⟨_, rfl, rfl, true, rfl, iteT ?_⟩
    refine ⟨_, rfl, (by show 1 ≤ 1000; decide), fun a na => ⟨a, x, rfl, upd_same, (hT.same (same_up na)), fun H1 dn => ⟨rfl, ?_⟩⟩⟩
    obtain ⟨dd, y, ea, ed, el, qq⟩ := made_end (C := c8 C0 C1 C2 C3 C4 C5 C6 C7) (i := 3) na rfl dn q
    exact ⟨_, rfl, _, rfl, a, C3, dd, _, _, _, _, _, y, rfl, E.t3, E.n3, ea, ed, el, (by show 2 ≤ sizeLine; decide), qq⟩
  | 4, _ =>
    refine ⟨_, rfl, rfl, false, rfl, iteF ?_⟩
    refine ⟨_, rfl, rfl, false, rfl, iteF ?_⟩
    refine ⟨_, rfl, rfl, false, rfl, iteF ?_⟩
    refine ⟨_, rfl, rfl, false, rfl, iteF ?_⟩
    refine ⟨_, rfl, rfl, true, rfl, iteT ?_⟩
    refine ⟨_, rfl, (by show 1 ≤ 1000; decide), fun a na => ⟨a, x, rfl, upd_same, hs (by decide) (by decide) (by decide), (hT.same (same_up na)), fun H1 dn => ⟨rfl, ?_⟩⟩⟩
    obtain ⟨dd, y, ea, ed, el, qq⟩ := made_end (C := c8 C0 C1 C2 C3 C4 C5 C6 C7) (i := 4) na rfl dn q
    exact ⟨_, rfl, _, rfl, a, C4, dd, _, _, _, _, _, y, rfl, E.t4, E.n4, ea, ed, el, (by show 2 ≤ sizeLine; decide), qq⟩
  | 5, _ =>
    refine ⟨_, rfl, rfl, false, rfl, iteF ?_⟩
    refine ⟨_, rfl, rfl, false, rfl, iteF ?_⟩
    refine ⟨_, rfl, rfl, false, rfl, iteF ?_⟩
    refine ⟨_, rfl, rfl, false, rfl, iteF ?_⟩
    refine ⟨_, rfl, rfl, false, rfl, iteF ?_⟩
    refine ⟨_, rfl, rfl, true, rfl, iteT ?_⟩
    refine ⟨_, rfl, (by show 1 ≤ 1000; decide), fun a na => ⟨a, x, rfl, upd_same, hs (by decide) (by decide) (by decide), (hT.same (same_up na)), fun H1 dn => ⟨rfl, ?_⟩⟩⟩
    obtain ⟨dd, y, ea, ed, el, qq⟩ := made_end (C := c8 C0 C1 C2 C3 C4 C5 C6 C7) (i := 5) na rfl dn q
    exact ⟨_, rfl, _, rfl, a, C5, dd, _, _, _, _, _, y, rfl, E.t5, E.n5, ea, ed, el, (by show 2 ≤ sizeLine; decide), qq⟩
  | 6, _ =>
    refine ⟨_, rfl, rfl, false, rfl, iteF ?_⟩
    refine ⟨_, rfl, rfl, false, rfl, iteF ?_⟩
    refine ⟨_, rfl, rfl, false, rfl, iteF ?_⟩
    refine ⟨_, rfl, rfl, false, rfl, iteF ?_⟩
    refine ⟨_, rfl, rfl, false, rfl, iteF ?_⟩
    refine ⟨_, rfl, rfl, false, rfl, iteF ?_⟩
    refine ⟨_, rfl, rfl, true, rfl, iteT ?_⟩
    refine ⟨_, rfl, (by show 1 ≤ 1000; decide), fun a na => ⟨a, x, rfl, upd_same, (hT.same (same_up na)), fun H1 dn => ⟨rfl, ?_⟩⟩⟩
    obtain ⟨dd, y, ea, ed, el, qq⟩ := made_end (C := c8 C0 C1 C2 C3 C4 C5 C6 C7) (i := 6) na rfl dn q
    exact ⟨_, rfl, _, rfl, a, C6, dd, _, _, _, _, _, y, rfl, E.t6, E.n6, ea, ed, el, (by show 2 ≤ sizeLine; decide), qq⟩
  | 7, _ =>
    refine ⟨_, rfl, rfl, false, rfl, iteF ?_⟩
    refine ⟨_, rfl, rfl, false, rfl, iteF ?_⟩
    refine ⟨_, rfl, rfl, false, rfl, iteF ?_⟩
    refine ⟨_, rfl, rfl, false, rfl, iteF ?_⟩
    refine ⟨_, rfl, rfl, false, rfl, iteF ?_⟩
    refine ⟨_, rfl, rfl, false, rfl, iteF ?_⟩
    refine ⟨_, rfl, rfl, false, rfl, iteF ?_⟩
    refine ⟨_, rfl, (by show 1 ≤ 1000; decide), fun a na => ⟨a, x, rfl, upd_same, hs (by decide) (by decide) (by decide), (hT.same (same_up na)), fun H1 dn => ⟨rfl, ?_⟩⟩⟩
    obtain ⟨dd, y, ea, ed, el, qq⟩ := made_end (C := c8 C0 C1 C2 C3 C4 C5 C6 C7) (i := 7) na rfl dn q
    exact ⟨_, rfl, _, rfl, a, C7, dd, _, _, _, _, _, y, rfl, E.t7, E.n7, ea, ed, el, (by show 2 ≤ sizeLine; decide), qq⟩
end
end Sh

set_option Elab.async false
set_option linter.all false
set_option maxRecDepth 100000
set_option maxHeartbeats 4000000
namespace Sh
open PySem PySem.Spec PyProof.Rows L2
def bsOf : Nat → Nat
  | 5 => 1
  | 6 => 1
  | 7 => 2
  | _ => 0
def ownOf (i : Nat) : List Bool := [i == 0, i == 1, i == 2, i == 3, i == 4, i == 5, i == 6, i == 7]
def knownOf (i : Nat) : List Bool := [bsOf i == 0, bsOf i == 1, bsOf i == 2, false]
structure K8 (K : PySem.W.Frag) (C : Nat → Addr) : Prop where
  own : ∀ i j, i < 8 → j < 8 → PySem.W.kitOne K (.ref (C i)) (.ref (C j)) = some (i == j)
  ve : ∀ i, i < 8 → PySem.W.kitOne K (.ref (C i)) (.type "ValueError") = some (bsOf i == 0)
  le : ∀ i, i < 8 → PySem.W.kitOne K (.ref (C i)) (.type "LookupError") = some (bsOf i == 1)
  oe : ∀ i, i < 8 → PySem.W.kitOne K (.ref (C i)) (.type "OverflowError") = some (bsOf i == 2)
  no : ∀ i, i < 8 → PySem.W.kitAny K (.ref (C i)) [.type "KeyError", .type "IndexError", .type "TypeError", .type "RuntimeError"] = some false
theorem Exn.same {H H' : Hp} {a C : Addr} (e : Same H H') (h : Exn H a C) : Exn H' a C := by
  rcases h with h | ⟨dd, fs, h, hd⟩
  · exact .inl (e _ _ h)
  · exact .inr ⟨dd, fs, e _ _ h, e _ _ hd⟩
section
variable {P : Program} {w : World} {K : PySem.W.Frag} {mg : Str → Option Value} {base : Heap} {C0 C1 C2 C3 C4 C5 C6 C7 : Addr}
theorem e8_at (E : E8 K mg C0 C1 C2 C3 C4 C5 C6 C7) : ∀ i, i < 8 → ∃ B n1 n2 bm, ExK K (c8 C0 C1 C2 C3 C4 C5 C6 C7 i) B n1 n2 bm
  | 0, _ => ⟨_, _, _, _, E.t0⟩
  | 1, _ => ⟨_, _, _, _, E.t1⟩
  | 2, _ => ⟨_, _, _, _, E.t2⟩
  | 3, _ => ⟨_, _, _, _, E.t3⟩
  | 4, _ => ⟨_, _, _, _, E.t4⟩
  | 5, _ => ⟨_, _, _, _, E.t5⟩
  | 6, _ => ⟨_, _, _, _, E.t6⟩
  | 7, _ => ⟨_, _, _, _, E.t7⟩
def spKinds (K : PySem.W.Frag) (C : Nat → Addr) : Sp := fun vs H Q _ => ∃ (i : Nat) (a : Addr), vs = [.ref a] ∧ i < 8 ∧ Exn H a (C i) ∧
  ∀ p lo lk H', Same H H' → H' p = some (.tup [.ref lo, .ref lk]) → H' lo = some (.lst ((ownOf i).map V.bl)) → H' lk = some (.lst ((knownOf i).map V.bl)) → Q (.ref p) H'
theorem ok_kinds {f : Addr} {fd : FuncData} {n : Nat} (F : Fun K "_law_kinds" "_law_kinds" sKinds f fd) (E : E8 K mg C0 C1 C2 C3 C4 C5 C6 C7) (k : K8 K (c8 C0 C1 C2 C3 C4 C5 C6 C7)) (mi : mg "isinstance" = none) (mVa : mg "ValueError" = none) (mLo : mg "LookupError" = none) (mOv : mg "OverflowError" = none) (mKe : mg "KeyError" = none) (mIn : mg "IndexError" = none) (mTy : mg "TypeError" = none) (mRu : mg "RuntimeError" = none) : FnOk P w K mg base CX0 (n + 1) f fd ["_law_made"] (spKinds K (c8 C0 C1 C2 C3 C4 C5 C6 C7)) := by
  refine F.ok scKinds (fun vs H Q E h => ?_) (fun cdv A outer s H vs Q Ex hr h => ?_)
  · obtain ⟨i, x, rfl, _⟩ := h
    rfl
  obtain ⟨i, a, rfl, hi, hx, q⟩ := h
  obtain ⟨B, n1, n2, bm, T⟩ := e8_at E i hi
  refine ⟨_, pss_cons (ps_set (i := 1) scKinds.nd rfl (Or.inl rfl) (pe_lst (pa_cons (pe_callB call_isiE rfl mi (by decide +kernel) (pa_cons (pv 0) (pa_cons (pe_glob (v := .ref C0) rfl E.g0 rfl) pa_nil))) (pa_cons (pe_callB call_isiE rfl mi (by decide +kernel) (pa_cons (pv 0) (pa_cons (pe_glob (v := .ref C1) rfl E.g1 rfl) pa_nil))) (pa_cons (pe_callB call_isiE rfl mi (by decide +kernel) (pa_cons (pv 0) (pa_cons (pe_glob (v := .ref C2) rfl E.g2 rfl) pa_nil))) (pa_cons (pe_callB call_isiE rfl mi (by decide +kernel) (pa_cons (pv 0) (pa_cons (pe_glob (v := .ref C3) rfl E.g3 rfl) pa_nil))) pa_nil))))))
    (pss_cons (ps_set (i := 1) scKinds.nd rfl (Or.inl rfl) (pe_op op_cat (pv 1) (pe_lst (pa_cons (pe_callB call_isiE rfl mi (by decide +kernel) (pa_cons (pv 0) (pa_cons (pe_glob (v := .ref C4) rfl E.g4 rfl) pa_nil))) (pa_cons (pe_callB call_isiE rfl mi (by decide +kernel) (pa_cons (pv 0) (pa_cons (pe_glob (v := .ref C5) rfl E.g5 rfl) pa_nil))) (pa_cons (pe_callB call_isiE rfl mi (by decide +kernel) (pa_cons (pv 0) (pa_cons (pe_glob (v := .ref C6) rfl E.g6 rfl) pa_nil))) (pa_cons (pe_callB call_isiE rfl mi (by decide +kernel) (pa_cons (pv 0) (pa_cons (pe_glob (v := .ref C7) rfl E.g7 rfl) pa_nil))) pa_nil)))))))
    (pss_cons (ps_set (i := 2) scKinds.nd rfl (Or.inl rfl) (pe_lst (pa_cons (pe_callB call_isiE rfl mi (by decide +kernel) (pa_cons (pv 0) (pa_cons (pe_bltn (v := .ty "ValueError") rfl mVa (by decide +kernel) rfl) pa_nil))) (pa_cons (pe_callB call_isiE rfl mi (by decide +kernel) (pa_cons (pv 0) (pa_cons (pe_bltn (v := .ty "LookupError") rfl mLo (by decide +kernel) rfl) pa_nil))) (pa_cons (pe_callB call_isiE rfl mi (by decide +kernel) (pa_cons (pv 0) (pa_cons (pe_bltn (v := .ty "OverflowError") rfl mOv (by decide +kernel) rfl) pa_nil))) pa_nil)))))
    (pss_one (ps_ret (pe_tup (pa_cons (pv 1) (pa_cons (pe_op op_cat (pv 2) (pe_lst (pa_cons (pe_callB call_isiET rfl mi (by decide +kernel) (pa_cons (pv 0) (pa_cons (pe_tup (pa_cons (pe_bltn (v := .ty "KeyError") rfl mKe (by decide +kernel) rfl) (pa_cons (pe_bltn (v := .ty "IndexError") rfl mIn (by decide +kernel) rfl) (pa_cons (pe_bltn (v := .ty "TypeError") rfl mTy (by decide +kernel) rfl) (pa_cons (pe_bltn (v := .ty "RuntimeError") rfl mRu (by decide +kernel) rfl) pa_nil))))) pa_nil))) pa_nil))) pa_nil))))))), ?_⟩
  refine ⟨_, rfl, a, _, _, _, _, _, _, _, _, rfl, T, hx, .own _, k.own i 0 hi (by decide), _, rfl, a, _, _, _, _, _, _, _, _, rfl, T, hx, .own _, k.own i 1 hi (by decide), _, rfl, a, _, _, _, _, _, _, _, _, rfl, T, hx, .own _, k.own i 2 hi (by decide), _, rfl, a, _, _, _, _, _, _, _, _, rfl, T, hx, .own _, k.own i 3 hi (by decide), (by show 4 ≤ sizeLine; decide), fun p1 n1 => ?_⟩
  have s1 := same_up (o := .lst [.bl (i == 0), .bl (i == 1), .bl (i == 2), .bl (i == 3)]) n1
  have e1 := hx.same s1
  refine ⟨_, rfl, _, rfl, a, _, _, _, _, _, _, _, _, rfl, T, e1, .own _, k.own i 4 hi (by decide), _, rfl, a, _, _, _, _, _, _, _, _, rfl, T, e1, .own _, k.own i 5 hi (by decide), _, rfl, a, _, _, _, _, _, _, _, _, rfl, T, e1, .own _, k.own i 6 hi (by decide), _, rfl, a, _, _, _, _, _, _, _, _, rfl, T, e1, .own _, k.own i 7 hi (by decide), (by show 4 ≤ sizeLine; decide), fun p2 n2 => ?_⟩
  have t2 := same_up (o := .lst [.bl (i == 4), .bl (i == 5), .bl (i == 6), .bl (i == 7)]) n2
  have s2 := s1.trans t2
  refine ⟨p1, p2, _, _, rfl, rfl, t2 _ _ upd_same, upd_same, (by show 8 ≤ sizeLine; decide), fun p3 n3 => ?_⟩
  have t3 := same_up (o := .lst ((ownOf i).map V.bl)) n3
  have s3 := s2.trans t3
  have e3 := hx.same s3
  refine ⟨_, rfl, a, _, _, _, _, _, _, _, _, rfl, T, e3, .ty _, k.ve i hi, _, rfl, a, _, _, _, _, _, _, _, _, rfl, T, e3, .ty _, k.le i hi, _, rfl, a, _, _, _, _, _, _, _, _, rfl, T, e3, .ty _, k.oe i hi, (by show 3 ≤ sizeLine; decide), fun p4 n4 => ?_⟩
  have t4 := same_up (o := .lst [.bl (bsOf i == 0), .bl (bsOf i == 1), .bl (bsOf i == 2)]) n4
  have s4 := s3.trans t4
  have e4 := hx.same s4
  refine ⟨_, rfl, _, rfl, _, rfl, (by show 4 ≤ sizeLine; decide), fun tp ntp => ?_⟩
  have t5 := same_up (o := .tup [.ty "KeyError", .ty "IndexError", .ty "TypeError", .ty "RuntimeError"]) ntp
  have s5 := s4.trans t5
  refine ⟨a, _, tp, _, _, _, _, _, _, false, rfl, T, hx.same s5, upd_same, .cons (.ty _) (.cons (.ty _) (.cons (.ty _) (.cons (.ty _) .nil))), k.no i hi, (by show 1 ≤ sizeLine; decide), fun p5 n5 => ?_⟩
  have t6 := same_up (o := .lst [.bl false]) n5
  refine ⟨p4, p5, _, _, rfl, rfl, t6 _ _ (t5 _ _ upd_same), upd_same, (by show 4 ≤ sizeLine; decide), fun p6 n6 => ⟨(by show 2 ≤ sizeLine; decide), fun p np => ?_⟩⟩
  have t7 := same_up (o := .lst ((knownOf i).map V.bl)) n6
  have t8 := same_up (o := .tup [.ref p3, .ref p6]) np
  have s6 := s5.trans (t6.trans (t7.trans t8))
  refine q p p3 p6 _ s6 upd_same ?_ ?_
  · exact t8 _ _ (t7 _ _ (t6 _ _ (t5 _ _ (t4 _ _ upd_same))))
  · exact t8 _ _ upd_same
end
end Sh

set_option Elab.async false
set_option linter.all false
set_option maxRecDepth 100000
set_option maxHeartbeats 8000000
namespace Sh
open PySem PySem.Spec PyProof.Rows L2
abbrev sRight : Stmt := topS 20
abbrev NN : List Str := ["_law_box_here", "_law_line", "_law_name", "_law_test", "_law_pair", "_law_way", "_law_thing_so", "_law_made", "_law_its", "_law_own", "_law_known", "_law_base", "_law_k"]
theorem scRight : FnScope NN ["_law_box_here"] (defScope sRight) := ⟨rfl, rfl, rfl, by decide +kernel, rfl, by decide +kernel, by decide +kernel⟩
section
variable {P : Program} {w : World} {K : PySem.W.Frag} {mg : Str → Option Value} {base : Heap} {C0 C1 C2 C3 C4 C5 C6 C7 : Addr}
theorem td_s {H : Hp} {n : Nat} {z : Str} : TD K H (n + 1) (.str z) (.str z) := .inr (.inr (.inl ⟨z, rfl, rfl⟩))
theorem td_i {H : Hp} {n : Nat} {z : Int} : TD K H (n + 1) (.int z) (.int z) := .inr (.inl ⟨z, rfl, rfl⟩)
theorem td_n {H : Hp} {n : Nat} : TD K H (n + 1) .non .non := .inl ⟨rfl, rfl⟩
theorem td_t {H : Hp} {n : Nat} {p : Addr} {xs : List V} (h : H p = some (.tup xs)) (hl : xs.length ≤ 1000) (hx : ∀ u ∈ xs, TD K H n u u) : TD K H (n + 1) (.ref p) (.ref p) :=
  .inr (.inr (.inr ⟨p, p, xs, xs, rfl, rfl, SqT.of h, SqT.of h, rfl, hl, fun i u v e1 e2 => by
    rw [e1] at e2
    cases e2
    exact hx u (List.mem_of_getElem? e1)⟩))
theorem tt {H : Hp} {n : Nat} {a b : V} (x : TD K H n a a) (y : TD K H n b b) : ∀ u ∈ [a, b], TD K H n u u := fun u hu => by
  rcases List.mem_cons.mp hu with rfl | hu
  · exact x
  · rcases List.mem_cons.mp hu with rfl | hu
    · exact y
    · cases hu
theorem t3 {H : Hp} {n : Nat} {a b c : V} (x : TD K H n a a) (y : TD K H n b b) (z : TD K H n c c) : ∀ u ∈ [a, b, c], TD K H n u u := fun u hu => by
  rcases List.mem_cons.mp hu with rfl | hu
  · exact x
  · exact tt y z u hu
theorem dpb {H : Hp} : ∀ bs : List Bool, DpAll K H (bs.map V.bl) (bs.map PyData.bool)
  | [] => .nil
  | b :: bs => .cons (.bl b) (dpb bs)
def knC (i : Nat) : List Bool := (List.range 4).map fun j => (bsOf i == j)
def owC (i : Nat) : List Bool := (List.range 8).map fun j => (i == j)
theorem shp (i : Nat) (hi : i < 8) : SeqAt.shaped (.list ((ownOf i).map PyData.bool)) = true ∧ SeqAt.shaped (.list ((owC i).map PyData.bool)) = true ∧ SeqAt.shaped (.list ((knownOf i).map PyData.bool)) = true ∧ SeqAt.shaped (.list ((knC i).map PyData.bool)) = true ∧
    (!PyData.eqv (.list ((ownOf i).map PyData.bool)) (.list ((owC i).map PyData.bool))) = false ∧ (!PyData.eqv (.list ((knownOf i).map PyData.bool)) (.list ((knC i).map PyData.bool))) = false := by
  match i, hi with
  | 0, _ | 1, _ | 2, _ | 3, _ | 4, _ | 5, _ | 6, _ | 7, _ => exact ⟨by decide +kernel, by decide +kernel, by decide +kernel, by decide +kernel, by decide +kernel, by decide +kernel⟩
theorem eqI (a b : Nat) : V.bl (decide (V.int (0 + (a : Int)) = V.int (b : Int))) = V.bl (b == a) := by
  by_cases e : b = a
  · subst e; rw [Int.zero_add, decide_eq_true rfl]; simp
  · have h1 : ¬ V.int (0 + (a : Int)) = V.int (b : Int) := fun z => e (by have := V.int.inj z; omega)
    have h2 : (b == a) = false := by simpa using e
    rw [decide_eq_false h1, h2]
def things (l : Int) (m : Str) (t : V) (p : Addr) : List V := [.int l, .int l, .non, t, .str m, .str m, .ref p, .int l]
def spRight : Sp := fun vs H Q _ => ∃ (b : Addr) (y c : Int), vs = [.ref b] ∧ Bx H b y c ∧ 0 ≤ c ∧ c < 900000 ∧ ∀ c' H', c ≤ c' → c' ≤ c + 6 → Bx H' b y c' → But b H H' → Q (.bl true) H'
theorem Bx.same {H H' : Hp} {b : Addr} {y c : Int} (e : Same H H') (h : Bx H b y c) : Bx H' b y c := by
  obtain ⟨x, h1, h2⟩ := h
  exact ⟨x, e _ _ h1, h2⟩
theorem bx_lst {H : Hp} {b : Addr} {y c : Int} (h : Bx H b y c) : ∃ l, H b = some (.lst l) := by
  obtain ⟨x, h1, _⟩ := h
  exact ⟨_, h1⟩
theorem ok_right {f gT gO gM gK gS : Addr} {fd dT dO dM dK dS : FuncData} (F : Fun K "_law_right" "_law_right" sRight f fd)
    (GT : FnOk P w K mg base CX0 1 gT dT ["_law_box_here", "_law_below"] spTake) (bT : Binds K dT ["_law_box_here", "_law_below"] []) (kT : PySem.W.keepIn K (.ref gT) = true) (mT : mg "_law_take" = some (.ref gT))
    (GO : FnOk P w K mg base CX0 2 gO dO ["_law_box_here", "_law_some"] (spOf K)) (bO : Binds K dO ["_law_box_here", "_law_some"] []) (kO : PySem.W.keepIn K (.ref gO) = true) (mO : mg "_law_of" = some (.ref gO))
    (GM : FnOk P w K mg base CX0 33 gM dM ["_law_way", "_law_thing_so"] (spMade K (c8 C0 C1 C2 C3 C4 C5 C6 C7))) (bM : Binds K dM ["_law_way", "_law_thing_so"] []) (kM : PySem.W.keepIn K (.ref gM) = true) (mM : mg "_law_made_error" = some (.ref gM))
    (GK : FnOk P w K mg base CX0 1 gK dK ["_law_made"] (spKinds K (c8 C0 C1 C2 C3 C4 C5 C6 C7))) (bK : Binds K dK ["_law_made"] []) (kK : PySem.W.keepIn K (.ref gK) = true) (mK : mg "_law_kinds" = some (.ref gK))
    (GS : FnOk P w K mg base CX0 6 gS dS ["_law_found", "_law_due"] (spSame K 6)) (bS : Binds K dS ["_law_found", "_law_due"] []) (kS : PySem.W.keepIn K (.ref gS) = true) (mS : mg "_law_same" = some (.ref gS))
    (mr : mg "range" = none) {tg : Tok} (mG : mg "GREATEST" = some (.int (10 ^ 30) tg)) : FnOk P w K mg base CX0 34 f fd ["_law_box_here"] spRight := by
  refine F.ok scRight (fun vs H Q E h => ?_) (fun cdv A outer s H vs Q Ex hr h => ?_)
  · obtain ⟨b, y, c, rfl, _⟩ := h
    rfl
  obtain ⟨b, y, c, rfl, hB, c0, c1, q⟩ := h
  refine ⟨_, pss_cons (ps_par (i := 1) (j := 2) (by rfl) scRight.nd rfl rfl (by decide) rfl rfl (pa_cons (pe_call GT (hr.mono (by decide)) rfl mT kT bT .nil pass0 (pa_cons (pv 0) (pa_cons pe_int pa_nil))) (pa_cons (pe_call GO (hr.mono (by decide)) rfl mO kO bO .nil pass0 (pa_cons (pv 0) (pa_cons (pe_lst (pa_cons pe_str (pa_cons pe_str (pa_cons pe_str pa_nil)))) pa_nil))) pa_nil)) (by rfl))
    (pss_cons (ps_set (i := 3) scRight.nd rfl (Or.inl rfl) (pe_call GO (hr.mono (by decide)) rfl mO kO bO .nil pass0 (pa_cons (pv 0) (pa_cons (pe_lst (pa_cons (pe_tup (pa_cons pe_str (pa_cons (pe_tup (pa_cons pe_str (pa_cons pe_str pa_nil))) (pa_cons (pe_tup (pa_cons pe_str (pa_cons pe_str (pa_cons (pe_tup (pa_cons pe_str (pa_cons pe_int pa_nil))) pa_nil)))) pa_nil)))) (pa_cons (pe_tup (pa_cons pe_str (pa_cons (pe_tup (pa_cons pe_str (pa_cons (pe_tup (pa_cons pe_str (pa_cons pe_int pa_nil))) (pa_cons (pe_tup (pa_cons pe_str (pa_cons pe_str pa_nil))) pa_nil)))) pa_nil))) pa_nil))) pa_nil))))
    (pss_cons (ps_set (i := 4) scRight.nd rfl (Or.inl rfl) (pe_tup (pa_cons (pe_op op_sub (pe_call GT (hr.mono (by decide)) rfl mT kT bT .nil pass0 (pa_cons (pv 0) (pa_cons pe_int pa_nil))) pe_int) (pa_cons (pe_op op_sub (pe_call GT (hr.mono (by decide)) rfl mT kT bT .nil pass0 (pa_cons (pv 0) (pa_cons pe_int pa_nil))) pe_int) pa_nil))))
    (pss_cons (ps_for PassesOwn.never rfl (pi_range1 rfl mr (pa_cons pe_int pa_nil)) (pg_name (i := 5) scRight.nd rfl (Or.inr rfl))
      (pss_cons (ps_set (i := 6) scRight.nd rfl (Or.inl rfl) (pe_ix ix_list (pe_lst (pa_cons (pv 1) (pa_cons (pv 1) (pa_cons pe_non (pa_cons (pv 3) (pa_cons (pv 2) (pa_cons (pv 2) (pa_cons (pv 4) (pa_cons (pv 1) pa_nil))))))))) (pv 5) (fun _ _ => rfl)))
      (pss_cons (ps_asg (pe_call GM (hr.mono (by decide)) rfl mM kM bM .nil pass0 (pa_cons (pv 5) (pa_cons (pv 6) pa_nil))) (pg_tup rfl (pgs_cons (pg_name (i := 7) scRight.nd rfl (Or.inl rfl)) (pgs_cons (pg_name (i := 8) scRight.nd rfl (Or.inl rfl)) pgs_nil))))
      (pss_cons (ps_asg (pe_call GK (hr.mono (by decide)) rfl mK kK bK .nil pass0 (pa_cons (pv 7) pa_nil)) (pg_tup rfl (pgs_cons (pg_name (i := 9) scRight.nd rfl (Or.inl rfl)) (pgs_cons (pg_name (i := 10) scRight.nd rfl (Or.inl rfl)) pgs_nil))))
      (pss_cons (ps_set (i := 11) scRight.nd rfl (Or.inr rfl) (pe_ix ix_list (pe_lst (pa_cons pe_int (pa_cons pe_int (pa_cons pe_int (pa_cons pe_int (pa_cons pe_int (pa_cons pe_int (pa_cons pe_int (pa_cons pe_int pa_nil))))))))) (pv 5) (fun _ _ => rfl)))
      (pss_cons (ps_if (PW.pt (pw_or (pt_not (pt_val (pe_call GS (hr.mono (by decide)) rfl mS kS bS .nil pass0 (pa_cons (pv 8) (pa_cons (pv 6) pa_nil))))) (pw_or1 (pt_cmpR (op_neD hr.units) (pv 9) (pe_lc (own := [("_law_k", 12)]) (g := gName 12) (tt := tYes) rfl scRight.nd (pi_range1 rfl mr (pa_cons pe_int pa_nil)) (blkOk_by (N := NN) (sc := defScope sRight) (by decide +kernel)) (fun _ _ _ _ _ => pg_name (i := 12) scRight.nd rfl (Or.inl rfl)) (fun _ _ _ _ _ => pts_nil) (fun _ _ _ _ _ => pe_cmpR op_eq (pv 12) (pv 5) (nomark _))) (nomark _))))) (pss_one (ps_ret pe_bl)) pss_nil)
      (pss_one (ps_if (pt_cmpR (op_neD hr.units) (pv 10) (pe_lc (own := [("_law_k", 12)]) (g := gName 12) (tt := tYes) rfl scRight.nd (pi_range1 rfl mr (pa_cons pe_int pa_nil)) (blkOk_by (N := NN) (sc := defScope sRight) (by decide +kernel)) (fun _ _ _ _ _ => pg_name (i := 12) scRight.nd rfl (Or.inl rfl)) (fun _ _ _ _ _ => pts_nil) (fun _ _ _ _ _ => pe_cmpR op_eq (pv 12) (pv 11) (nomark _))) (nomark _)) (pss_one (ps_ret pe_bl)) pss_nil))))))))
    (pss_one (ps_ret (pe_call GS (hr.mono (by decide)) rfl mS kS bS .nil pass0 (pa_cons (pe_glob (v := .int (10 ^ 30)) rfl mG ⟨_, rfl⟩) (pa_cons (pe_op op_pow pe_int pe_int) pa_nil)))))))), ?_⟩
  refine ⟨_, rfl, b, 200, y, c, rfl, hB, c0, by omega, by decide, by decide, fun line c1' H1 v0 v1 u0 u1 hB1 bt1 => ?_⟩
  refine ⟨_, rfl, (by show 3 ≤ sizeLine; decide), fun l nl => ?_⟩
  have sl := same_up (o := .lst [.str "main", .str "f", .str "abcdefgh"]) nl
  obtain ⟨w1, hb1⟩ := bx_lst hB1
  refine ⟨b, l, _, y, c1', rfl, hB1.same sl, by omega, by omega, SqL.of upd_same, (ne_of_none hb1 nl).symm, by decide, by decide, fun i0 nm c2' H2 hnm u2 u3 hB2 bt2 => ?_⟩
  obtain ⟨m, rfl, hm⟩ : ∃ m : Str, nm = .str m ∧ m.length ≤ 100 := by
    rcases i0 with _ | _ | _ | i0
    · cases hnm; exact ⟨_, rfl, by decide +kernel⟩
    · cases hnm; exact ⟨_, rfl, by decide +kernel⟩
    · cases hnm; exact ⟨_, rfl, by decide +kernel⟩
    · simp at hnm
  have bb2 : But b H H2 := bt1.trans ((But.of sl).trans bt2)
  obtain ⟨w2, hb2⟩ := bx_lst hB2
  refine ⟨_, _, rfl, _, rfl, (by show 2 ≤ sizeLine; decide), fun p1 n1 => ⟨(by show 2 ≤ sizeLine; decide), fun p2 n2 => ⟨(by show 3 ≤ sizeLine; decide), fun p3 n3 => ⟨(by show 3 ≤ sizeLine; decide), fun p4 n4 => ?_⟩⟩⟩⟩
  refine ⟨(by show 2 ≤ sizeLine; decide), fun p5 n5 => ⟨(by show 2 ≤ sizeLine; decide), fun p6 n6 => ⟨(by show 3 ≤ sizeLine; decide), fun p7 n7 => ⟨(by show 2 ≤ sizeLine; decide), fun p8 n8 => ⟨(by show 2 ≤ sizeLine; decide), fun l2 nl2 => ?_⟩⟩⟩⟩⟩
  have s1 := same_up (o := .tup [.str "var", .str "a"]) n1
  have s2 := same_up (o := .tup [.str "num", .int 1]) n2
  have s3 := same_up (o := .tup [.str "item", .str "t", .ref p2]) n3
  have s4 := same_up (o := .tup [.str "less", .ref p1, .ref p3]) n4
  have s5 := same_up (o := .tup [.str "num", .int 1]) n5
  have s6 := same_up (o := .tup [.str "var", .str "zz"]) n6
  have s7 := same_up (o := .tup [.str "equal", .ref p5, .ref p6]) n7
  have s8 := same_up (o := .tup [.str "not", .ref p7]) n8
  have s9 := same_up (o := .lst [.ref p4, .ref p8]) nl2
  have z8 := s8.trans s9
  have z7 := s7.trans z8
  have z6 := s6.trans z7
  have z5 := s5.trans z6
  have z4 := s4.trans z5
  have z3 := s3.trans z4
  have z2 := s2.trans z3
  have z1 := s1.trans z2
  have k1 := z2 _ _ (upd_same (H := H2) (a := p1) (o := .tup [.str "var", .str "a"]))
  have k2 := z3 _ _ (upd_same (a := p2) (o := .tup [.str "num", .int 1]))
  have k3 := z4 _ _ (upd_same (a := p3) (o := .tup [.str "item", .str "t", .ref p2]))
  have k4 := z5 _ _ (upd_same (a := p4) (o := .tup [.str "less", .ref p1, .ref p3]))
  have k5 := z6 _ _ (upd_same (a := p5) (o := .tup [.str "num", .int 1]))
  have k6 := z7 _ _ (upd_same (a := p6) (o := .tup [.str "var", .str "zz"]))
  have k7 := z8 _ _ (upd_same (a := p7) (o := .tup [.str "equal", .ref p5, .ref p6]))
  have k8 := s9 _ _ (upd_same (a := p8) (o := .tup [.str "not", .ref p7]))
  have kl : ∃ o, z1 = z1 ∧ o = HO.lst [.ref p4, .ref p8] := ⟨_, rfl, rfl⟩
  refine ⟨b, l2, _, y, c2', rfl, hB2.same z1, by omega, by omega, SqL.of upd_same, fun e => ?_, (by show 1 ≤ 2; decide), (by show 2 ≤ 1000; decide), fun i1 test c3' H3 htest u4 u5 hB3 bt3 => ?_⟩
  · have q1 := z1 _ _ hb2
    have q2 := (s1.trans (s2.trans (s3.trans (s4.trans (s5.trans (s6.trans (s7.trans s8))))))) _ _ hb2
    rw [← e, nl2] at q2
    cases q2
  have d4 := td_t (K := K) (n := 5) k4 (Nat.le_of_ble_eq_true rfl) (t3 td_s (td_t (n := 4) k1 (Nat.le_of_ble_eq_true rfl) (tt td_s td_s)) (td_t (n := 4) k3 (Nat.le_of_ble_eq_true rfl) (t3 td_s td_s (td_t (n := 3) k2 (Nat.le_of_ble_eq_true rfl) (tt td_s td_i)))))
  have d8 := td_t (K := K) (n := 5) k8 (Nat.le_of_ble_eq_true rfl) (tt td_s (td_t (n := 4) k7 (Nat.le_of_ble_eq_true rfl) (t3 td_s (td_t (n := 3) k5 (Nat.le_of_ble_eq_true rfl) (tt td_s td_i)) (td_t (n := 3) k6 (Nat.le_of_ble_eq_true rfl) (tt td_s td_s)))))
  have tv3 : TD K H3 6 test test := by
    rcases i1 with _ | _ | i1
    · cases htest; exact (d4.but (z1 _ _ hb2) bt3)
    · cases htest; exact (d8.but (z1 _ _ hb2) bt3)
    · simp at htest
  have bb3 : But b H H3 := bb2.trans ((But.of z1).trans bt3)
  obtain ⟨w3, hb3⟩ := bx_lst hB3
  clear d4 d8 htest k1 k2 k3 k4 k5 k6 k7 k8 z1 z2 z3 z4 z5 z6 z7 z8 s1 s2 s3 s4 s5 s6 s7 s8 s9 bt3 kl
  refine ⟨_, rfl, b, 9, y, c3', rfl, hB3, by omega, by omega, by decide, by decide, fun w4 c4' H4 x0 x1 u6 u7 hB4 bt4 => ⟨_, _, rfl, rfl, ?_⟩⟩
  obtain ⟨w4', hb4⟩ := bx_lst hB4
  refine ⟨_, rfl, b, 90, y, c4', rfl, hB4, by omega, by omega, by decide, by decide, fun w5 c5' H5 x2 x3 u8 u9 hB5 bt5 => ⟨_, _, rfl, rfl, (by show 2 ≤ sizeLine; decide), fun pp npp => ?_⟩⟩
  have bb5 : But b H H5 := bb3.trans (bt4.trans bt5)
  have sp := same_up (o := .tup [.int (w4 - 1), .int (w5 - 9)]) npp
  have tv : TD K (upd H5 pp (.tup [.int (w4 - 1), .int (w5 - 9)])) 6 test test := ((tv3.but hb3 bt4).but hb4 bt5).same sp
  have tp : TD K (upd H5 pp (.tup [.int (w4 - 1), .int (w5 - 9)])) 6 (.ref pp) (.ref pp) := td_t (n := 5) upd_same (Nat.le_of_ble_eq_true rfl) (tt td_i td_i)
  have hB6 := hB5.same sp
  have bb6 : But b H (upd H5 pp (.tup [.int (w4 - 1), .int (w5 - 9)])) := bb5.trans (But.of sp)
  generalize upd H5 pp (.tup [.int (w4 - 1), .int (w5 - 9)]) = H6 at tv tp hB6 bb6 ⊢
  refine ⟨8, rfl, by decide, by decide, for_range (lo := 0) (n := 8) (fun i σ H7 => ∃ o5 o6 o7 o8 o9 o10 o11 o12 : Option V, σ = [some (.ref b), some (.int line), some (.str m), some test, some (.ref pp), o5, o6, o7, o8, o9, o10, o11, o12] ∧ Same H6 H7)
    ⟨none, none, none, none, none, none, none, none, rfl, Same.refl _⟩ ?_ ?_⟩
  · rintro i σ H7 hi ⟨o5, o6, o7, o8, o9, o10, o11, o12, rfl, s7⟩
    have th : ∃ v, (things line m test pp)[i]? = some v ∧ TD K H6 6 v v ∧ (i ≠ 2 → i ≠ 3 → i ≠ 6 → Sml v) := by
      have sl : Sml (.int line) := .inl ⟨line, rfl, v0, v1⟩
      have sm : Sml (.str m) := .inr ⟨m, rfl, hm⟩
      match i, hi with
      | 0, _ => exact ⟨_, rfl, td_i, fun _ _ _ => sl⟩
      | 1, _ => exact ⟨_, rfl, td_i, fun _ _ _ => sl⟩
      | 2, _ => exact ⟨_, rfl, td_n, fun h => absurd rfl h⟩
      | 3, _ => exact ⟨_, rfl, tv, fun _ h => absurd rfl h⟩
      | 4, _ => exact ⟨_, rfl, td_s, fun _ _ _ => sm⟩
      | 5, _ => exact ⟨_, rfl, td_s, fun _ _ _ => sm⟩
      | 6, _ => exact ⟨_, rfl, tp, fun _ _ h => absurd rfl h⟩
      | 7, _ => exact ⟨_, rfl, td_i, fun _ _ _ => sl⟩
    have hbs : ([.int 0, .int 0, .int 0, .int 0, .int 0, .int 1, .int 1, .int 2] : List V)[i]? = some (.int (bsOf i : Int)) := by
      match i, hi with
      | 0, _ | 1, _ | 2, _ | 3, _ | 4, _ | 5, _ | 6, _ | 7, _ => rfl
    obtain ⟨v, hv, tdv, smv⟩ := th
    obtain ⟨sh1, sh2, sh3, sh4, ev1, ev2⟩ := shp i hi
    rw [show (0 : Int) + (i : Int) = (i : Int) from Int.zero_add _]
    refine ⟨_, rfl, _, rfl, _, rfl, _, rfl, _, rfl, _, rfl, _, rfl, (by show 8 ≤ sizeLine; decide), fun l3 nl3 => ?_⟩
    have s8 := s7.trans (same_up (o := .lst (things line m test pp)) nl3)
    refine ⟨_, rfl, l3, things line m test pp, _, v, rfl, rfl, SqL.of upd_same, at_of rfl hv, ?_⟩
    refine ⟨_, rfl, _, rfl, i, v, rfl, hi, tdv.same s8, smv, fun p a y' H8 s9 e8 ex8 t8 => ⟨p, _, rfl, SqT.of e8, rfl, _, _, rfl, _, _, rfl, rfl, ?_⟩⟩
    refine ⟨_, rfl, i, a, rfl, hi, ex8, fun p2 lo lk H9 s10 e9 elo elk => ⟨p2, _, rfl, SqT.of e9, rfl, _, _, rfl, _, _, rfl, rfl, ?_⟩⟩
    refine ⟨(by show 8 ≤ sizeLine; decide), fun l4 nl4 => ?_⟩
    have s11 := same_up (o := .lst [.int 0, .int 0, .int 0, .int 0, .int 0, .int 1, .int 1, .int 2]) nl4
    refine ⟨_, rfl, l4, _, _, .int (bsOf i : Int), rfl, rfl, SqL.of upd_same, at_of rfl hbs, ?_⟩
    refine ⟨_, rfl, _, rfl, y', v, rfl, t8.same (s10.trans s11), fun H10 s12 => ⟨true, rfl, ?_⟩⟩
    have s13 : Same H9 H10 := s11.trans s12
    have s14 : Same H6 H10 := s8.trans (s9.trans (s10.trans s13))
    have elo' := s13 _ _ elo
    have elk' := s13 _ _ elk
    refine iteF ?_
    refine ⟨_, rfl, 8, rfl, by decide, by decide, fun D hD => lc_range (lo := 0) (n := 8) (fun k H11 => Same H10 H11 ∧ H11 D = some (.lst (((List.range k).map fun j => (i == j)).map V.bl))) ⟨same_up hD, upd_same⟩ ?_ ?_⟩
    · rintro k H11 hk ⟨s15, e15⟩
      refine ⟨rfl, ?_⟩
      show tOp rEq (tVar 12) (tVar 5) _ _ _
      refine ⟨_, rfl, _, rfl, rfl, _, e15, ?_, fun c o e => ?_, ?_⟩
      · rw [List.length_map, List.length_map, List.length_range]; exact small1000 (by omega)
      · rw [upd_ne (ne_of_none e hD)]; exact s15 _ _ e
      · rw [upd_same, List.range_succ, List.map_append, List.map_append, eqI]; rfl
    rintro H11 ⟨s15, e15⟩
    refine ⟨_, _, .lst (SqL.of (s15 _ _ elo')) (dpb (ownOf i)), .lst (SqL.of e15) (dpb (owC i)), sh1, sh2, false, congrArg V.bl ev1, iteF ?_⟩
    refine ⟨_, rfl, 4, rfl, by decide, by decide, fun D2 hD2 => lc_range (lo := 0) (n := 4) (fun k H12 => Same H11 H12 ∧ H12 D2 = some (.lst (((List.range k).map fun j => (bsOf i == j)).map V.bl))) ⟨same_up hD2, upd_same⟩ ?_ ?_⟩
    · rintro k H12 hk ⟨s16, e16⟩
      refine ⟨rfl, ?_⟩
      show tOp rEq (tVar 12) (tVar 11) _ _ _
      refine ⟨_, rfl, _, rfl, rfl, _, e16, ?_, fun c o e => ?_, ?_⟩
      · rw [List.length_map, List.length_map, List.length_range]; exact small1000 (by omega)
      · rw [upd_ne (ne_of_none e hD2)]; exact s16 _ _ e
      · rw [upd_same, List.range_succ, List.map_append, List.map_append, eqI]; rfl
    rintro H12 ⟨s16, e16⟩
    refine ⟨_, _, .lst (SqL.of (s16 _ _ (s15 _ _ elk'))) (dpb (knownOf i)), .lst (SqL.of e16) (dpb (knC i)), sh3, sh4, false, congrArg V.bl ev2, iteF ?_⟩
    exact ⟨_, _, _, _, _, _, _, _, rfl, s14.trans (s15.trans s16)⟩
  · rintro σ H7 ⟨o5, o6, o7, o8, o9, o10, o11, o12, rfl, s7⟩
    refine ⟨_, _, rfl, rfl, ⟨by decide, by decide, by decide⟩, .int (10 ^ 30), .int (10 ^ 30), rfl, td_i, fun H' s' => ?_⟩
    exact q c5' H' (by omega) (by omega) (hB6.same (s7.trans s')) (bb6.trans (But.of (s7.trans s')))
end
end Sh

set_option Elab.async false
set_option linter.all false
set_option maxRecDepth 100000
set_option maxHeartbeats 8000000
namespace Sh
open PySem PySem.Spec PyProof.Rows L2
abbrev sLaw : Stmt := topS 21
abbrev NL : List Str := ["_law_script", "_law_cells_here", "_law_k", "_law_box_here", "_law_turn"]
theorem scLaw : FnScope NL ["_law_script"] (defScope sLaw) := ⟨rfl, rfl, rfl, by decide +kernel, rfl, by decide +kernel, by decide +kernel⟩
section
variable {P : Program} {w : World} {K : PySem.W.Frag} {mg : Str → Option Value} {base : Heap}
def spLaw (K : PySem.W.Frag) : Sp := fun vs H Q _ => ∃ (a : Addr) (ns : List Int), vs = [.ref a] ∧ SqL K H a (ns.map V.int) ∧ ns.length ≤ 63 ∧ ∀ H', Q (.bl true) H'
theorem ok_law {f gC gB gR : Addr} {fd dC dB dR : FuncData} (F : Fun K "law" "law" sLaw f fd)
    (GC : FnOk P w K mg base CX0 1 gC dC ["_law_script", "_law_most"] (spCells K)) (bC : Binds K dC ["_law_script", "_law_most"] []) (kC : PySem.W.keepIn K (.ref gC) = true) (mC : mg "_law_cells" = some (.ref gC))
    (GB : FnOk P w K mg base CX0 1 gB dB ["_law_script", "_law_k"] (spBox K)) (bB : Binds K dB ["_law_script", "_law_k"] []) (kB : PySem.W.keepIn K (.ref gB) = true) (mB : mg "_law_box" = some (.ref gB))
    (GR : FnOk P w K mg base CX0 34 gR dR ["_law_box_here"] spRight) (bR : Binds K dR ["_law_box_here"] []) (kR : PySem.W.keepIn K (.ref gR) = true) (mR : mg "_law_right" = some (.ref gR))
    (mr : mg "range" = none) (ml : mg "len" = none) (mall : mg "all" = none) : FnOk P w K mg base CX0 35 f fd ["_law_script"] (spLaw K) := by
  refine F.ok scLaw (fun vs H Q E h => ?_) (fun cdv A outer s H vs Q Ex hr h => ?_)
  · obtain ⟨a, ns, rfl, _⟩ := h
    rfl
  obtain ⟨a, ns, rfl, hS, hlen, q⟩ := h
  refine ⟨_, pss_cons (ps_set (i := 1) scLaw.nd rfl (Or.inl rfl) (pe_call GC (hr.mono (by decide)) rfl mC kC bC .nil pass0 (pa_cons (pv 0) (pa_cons pe_int pa_nil))))
    (pss_cons (ps_for PassesOwn.never rfl (pi_range1 rfl mr (pa_cons (pe_callB call_len_seq rfl ml PySem.boot_len (pa_cons (pv 1) pa_nil)) pa_nil)) (pg_name (i := 2) scLaw.nd rfl (Or.inl rfl))
      (pss_cons (ps_set (i := 3) scLaw.nd rfl (Or.inr rfl) (pe_call GB (hr.mono (by decide)) rfl mB kB bB .nil pass0 (pa_cons (pv 1) (pa_cons (pv 2) pa_nil))))
      (pss_one (ps_if (pt_not (pt_val (pe_callB (cr_all rfl) rfl mall (by decide +kernel) (pa_cons (pe_lc (own := [("_law_turn", 4)]) (g := gName 4) (tt := tYes) rfl scLaw.nd (pi_range1 rfl mr (pa_cons pe_int pa_nil)) (blkOk_by (N := NL) (sc := defScope sLaw) (by decide +kernel))
        (fun _ _ _ _ _ => pg_name (i := 4) scLaw.nd rfl (Or.inl rfl)) (fun _ _ _ _ _ => pts_nil) (fun _ _ _ _ _ => pe_call GR hr rfl mR kR bR .nil pass0 (pa_cons (pv 3) pa_nil))) pa_nil)))) (pss_one (ps_ret pe_bl)) pss_nil))))
    (pss_one (ps_ret pe_bl))), ?_⟩
  refine ⟨_, rfl, a, ns, 3, rfl, hS, hlen, by decide, by decide, fun p ms H1 np s1 ep l1 l2 => ?_⟩
  have hml : (ms.map V.int).length = ms.length := List.length_map _
  refine ⟨_, rfl, p, _, rfl, .inl (SqL.of ep), _, rfl, by omega, by omega, for_range (lo := 0) (n := (ms.map V.int).length) (fun i σ H2 => ∃ o2 o3 o4 : Option V, σ = [some (.ref a), some (.ref p), o2, o3, o4] ∧ Same H1 H2)
    ⟨none, none, none, rfl, Same.refl _⟩ ?_ ?_⟩
  · rintro i σ H2 hi ⟨o2, o3, o4, rfl, s2⟩
    rw [hml] at hi
    refine ⟨_, rfl, _, rfl, p, ms, _, rfl, SqL.of (s2 _ _ ep), by omega, by omega, by omega, fun bx x y nbx x0 y0 y1 => ?_⟩
    have s3 := same_up (o := .lst [.int x, .int y, .int 0]) nbx
    have hb0 : Bx (upd H2 bx (.lst [.int x, .int y, .int 0])) bx y 0 := ⟨x, upd_same, x0, y0, y1⟩
    refine ⟨3, rfl, by decide, by decide, fun D hD => lc_range (lo := 0) (n := 3) (fun t H4 => ∃ c : Int, Bx H4 bx y c ∧ 0 ≤ c ∧ c ≤ 6 * (t : Int) ∧ Same H2 H4 ∧ H4 D = some (.lst ((List.replicate t true).map V.bl))) ?_ ?_ ?_⟩
    · have s4 := same_up (o := .lst []) hD
      exact ⟨0, hb0.same s4, by omega, by omega, s3.trans s4, upd_same⟩
    · rintro t H4 ht ⟨c, hB, c0, c1, s4, e4⟩
      have nD : H2 D = none := s3.free hD
      have neD : D ≠ bx := fun e => by
        rw [e, upd_same] at hD
        cases hD
      refine ⟨rfl, ?_⟩
      show tCall spRight [] E0 (tCons (tVar 3) tNil) _ _ _
      refine ⟨_, rfl, bx, y, c, rfl, hB, c0, by omega, fun c' H5 e0 e1 hB' bt => ?_⟩
      have e5 := bt _ _ neD e4
      refine ⟨_, e5, ?_, c', ?_, by omega, by omega, fun b o e => ?_, ?_⟩
      · rw [List.length_map, List.length_replicate]; exact small1000 (by omega)
      · obtain ⟨x', q1, q2⟩ := hB'
        exact ⟨x', by rw [upd_ne neD.symm]; exact q1, q2⟩
      · rw [upd_ne (ne_of_none e nD)]; exact bt _ _ (ne_of_none e nbx) (s4 _ _ e)
      · rw [upd_same, List.replicate_succ', List.map_append]; rfl
    · rintro H4 ⟨c, hB, c0, c1, s4, e4⟩
      refine ⟨D, _, rfl, SqL.of e4, true, congrArg V.bl (all_true 3), ?_⟩
      exact ⟨_, _, _, rfl, s2.trans s4⟩
  · rintro σ H2 ⟨o2, o3, o4, rfl, s2⟩
    exact q H2
end
theorem all_mk {l : PySem.W.OpenLaw} {w : World} {K : PySem.W.Frag} {h : Heap} {mg : Str → Option Value} {fa fD0 fD1 fD2 fD3 fD4 fD5 fD6 fD7 fD8 fD9 fI0 fI1 fI2 fI3 fI4 fI5 fI6 fI7 C0 C1 C2 C3 C4 C5 C6 C7 : Addr} (X : K.In h) (G : h.Ns mainGlobals mg) (hfa : mg "law" = some (.ref fa))
    {odD0 anD0 odD1 anD1 odD2 anD2 odD3 anD3 odD4 anD4 odD5 anD5 odD6 anD6 odD7 anD7 odD8 anD8 odD9 anD9 odI0 anI0 odI1 anI1 odI2 anI2 odI3 anI3 odI4 anI4 odI5 anI5 odI6 anI6 odI7 anI7 : Option Addr} {slD0 slD1 slD2 slD3 slD4 slD5 slD6 slD7 slD8 slD9 slI0 slI1 slI2 slI3 slI4 slI5 slI6 slI7 : Array (Option Value)} {ocD0 kVD0 dcD0 pmD0 cdD0 ctD0 ocD1 kVD1 dcD1 pmD1 cdD1 ctD1 ocD2 kVD2 dcD2 pmD2 cdD2 ctD2 ocD3 kVD3 dcD3 pmD3 cdD3 ctD3 ocD4 kVD4 dcD4 pmD4 cdD4 ctD4 ocD5 kVD5 dcD5 pmD5 cdD5 ctD5 ocD6 kVD6 dcD6 pmD6 cdD6 ctD6 ocD7 kVD7 dcD7 pmD7 cdD7 ctD7 ocD8 kVD8 dcD8 pmD8 cdD8 ctD8 ocD9 kVD9 dcD9 pmD9 cdD9 ctD9 ocI0 kVI0 dcI0 pmI0 cdI0 ctI0 ocI1 kVI1 dcI1 pmI1 cdI1 ctI1 ocI2 kVI2 dcI2 pmI2 cdI2 ctI2 ocI3 kVI3 dcI3 pmI3 cdI3 ctI3 ocI4 kVI4 dcI4 pmI4 cdI4 ctI4 ocI5 kVI5 dcI5 pmI5 cdI5 ctI5 ocI6 kVI6 dcI6 pmI6 cdI6 ctI6 ocI7 kVI7 dcI7 pmI7 cdI7 ctI7 : Value} {gv : Int} {tg : Tok}
    (aD0 : PySem.W.nsIn K mainGlobals "as_tuples" = some (some (.ref fD0)))
    (lD0 : K.lookup fD0 = some ⟨ocD0, odD0, .func (PySem.W.fnOf "as_tuples" "as_tuples" (defArgs sAs) (defBody sAs) (defScope sAs) .none kVD0 dcD0 pmD0 anD0 cdD0 ctD0), slD0⟩)
    (cD0 : PySem.W.codeIn K cdD0 "as_tuples" = true)
    (kD0 : PySem.W.keepIn K (.ref fD0) = true)
    (aD1 : PySem.W.nsIn K mainGlobals "_law_box" = some (some (.ref fD1)))
    (lD1 : K.lookup fD1 = some ⟨ocD1, odD1, .func (PySem.W.fnOf "_law_box" "_law_box" (defArgs sBox) (defBody sBox) (defScope sBox) .none kVD1 dcD1 pmD1 anD1 cdD1 ctD1), slD1⟩)
    (cD1 : PySem.W.codeIn K cdD1 "_law_box" = true)
    (kD1 : PySem.W.keepIn K (.ref fD1) = true)
    (aD2 : PySem.W.nsIn K mainGlobals "_law_take" = some (some (.ref fD2)))
    (lD2 : K.lookup fD2 = some ⟨ocD2, odD2, .func (PySem.W.fnOf "_law_take" "_law_take" (defArgs sTake) (defBody sTake) (defScope sTake) .none kVD2 dcD2 pmD2 anD2 cdD2 ctD2), slD2⟩)
    (cD2 : PySem.W.codeIn K cdD2 "_law_take" = true)
    (kD2 : PySem.W.keepIn K (.ref fD2) = true)
    (aD3 : PySem.W.nsIn K mainGlobals "_law_cells" = some (some (.ref fD3)))
    (lD3 : K.lookup fD3 = some ⟨ocD3, odD3, .func (PySem.W.fnOf "_law_cells" "_law_cells" (defArgs sCells) (defBody sCells) (defScope sCells) .none kVD3 dcD3 pmD3 anD3 cdD3 ctD3), slD3⟩)
    (cD3 : PySem.W.codeIn K cdD3 "_law_cells" = true)
    (kD3 : PySem.W.keepIn K (.ref fD3) = true)
    (aD4 : PySem.W.nsIn K mainGlobals "_law_of" = some (some (.ref fD4)))
    (lD4 : K.lookup fD4 = some ⟨ocD4, odD4, .func (PySem.W.fnOf "_law_of" "_law_of" (defArgs sOf) (defBody sOf) (defScope sOf) .none kVD4 dcD4 pmD4 anD4 cdD4 ctD4), slD4⟩)
    (cD4 : PySem.W.codeIn K cdD4 "_law_of" = true)
    (kD4 : PySem.W.keepIn K (.ref fD4) = true)
    (aD5 : PySem.W.nsIn K mainGlobals "_law_same" = some (some (.ref fD5)))
    (lD5 : K.lookup fD5 = some ⟨ocD5, odD5, .func (PySem.W.fnOf "_law_same" "_law_same" (defArgs sSame) (defBody sSame) (defScope sSame) .none kVD5 dcD5 pmD5 anD5 cdD5 ctD5), slD5⟩)
    (cD5 : PySem.W.codeIn K cdD5 "_law_same" = true)
    (kD5 : PySem.W.keepIn K (.ref fD5) = true)
    (aD6 : PySem.W.nsIn K mainGlobals "_law_made_error" = some (some (.ref fD6)))
    (lD6 : K.lookup fD6 = some ⟨ocD6, odD6, .func (PySem.W.fnOf "_law_made_error" "_law_made_error" (defArgs sMade) (defBody sMade) (defScope sMade) .none kVD6 dcD6 pmD6 anD6 cdD6 ctD6), slD6⟩)
    (cD6 : PySem.W.codeIn K cdD6 "_law_made_error" = true)
    (kD6 : PySem.W.keepIn K (.ref fD6) = true)
    (aD7 : PySem.W.nsIn K mainGlobals "_law_kinds" = some (some (.ref fD7)))
    (lD7 : K.lookup fD7 = some ⟨ocD7, odD7, .func (PySem.W.fnOf "_law_kinds" "_law_kinds" (defArgs sKinds) (defBody sKinds) (defScope sKinds) .none kVD7 dcD7 pmD7 anD7 cdD7 ctD7), slD7⟩)
    (cD7 : PySem.W.codeIn K cdD7 "_law_kinds" = true)
    (kD7 : PySem.W.keepIn K (.ref fD7) = true)
    (aD8 : PySem.W.nsIn K mainGlobals "_law_right" = some (some (.ref fD8)))
    (lD8 : K.lookup fD8 = some ⟨ocD8, odD8, .func (PySem.W.fnOf "_law_right" "_law_right" (defArgs sRight) (defBody sRight) (defScope sRight) .none kVD8 dcD8 pmD8 anD8 cdD8 ctD8), slD8⟩)
    (cD8 : PySem.W.codeIn K cdD8 "_law_right" = true)
    (kD8 : PySem.W.keepIn K (.ref fD8) = true)
    (aD9 : PySem.W.nsIn K mainGlobals "law" = some (some (.ref fD9)))
    (lD9 : K.lookup fD9 = some ⟨ocD9, odD9, .func (PySem.W.fnOf "law" "law" (defArgs sLaw) (defBody sLaw) (defScope sLaw) .none kVD9 dcD9 pmD9 anD9 cdD9 ctD9), slD9⟩)
    (cD9 : PySem.W.codeIn K cdD9 "law" = true)
    (kD9 : PySem.W.keepIn K (.ref fD9) = true)
    (gI0 : PySem.W.nsIn K mainGlobals "BadText" = some (some (.ref C0)))
    (iI0 : PySem.W.findIn K (.ref C0) "__init__" = some (some (.ref fI0)))
    (yI0 : PySem.W.typeIn K (.ref fI0) = some (.type "function"))
    (lI0 : K.lookup fI0 = some ⟨ocI0, odI0, .func (PySem.W.fnOf "__init__" "BadText.__init__" (defArgs sIBadText) (defBody sIBadText) (defScope sIBadText) .none kVI0 dcI0 pmI0 anI0 cdI0 ctI0), slI0⟩)
    (cI0 : PySem.W.codeIn K cdI0 "BadText.__init__" = true)
    (kI0 : PySem.W.keepIn K (.ref fI0) = true)
    (qI0 : PySem.W.excInitIn K C0 [.type "ValueError", .type "Exception", .type "BaseException", .type "object"] "ValueError.__new__" = true)
    (oI0 : PySem.W.excOver K C0 [.type "ValueError", .type "Exception", .type "BaseException", .type "object"] = true)
    (sI0 : PySem.W.findIn K (.ref C0) "__setattr__" = some (some (.builtin "object.__setattr__")))
    (hI0 : PySem.W.hasDictIn K C0 = true)
    (pI0 : PySem.W.keepIn K (.ref C0) = true)
    (uI0 : PySem.W.findIn K (.ref C0) "__getattribute__" = some (some (.builtin "BaseException.__getattribute__")))
    (vI0 : PySem.W.findIn K (.ref C0) "__getattr__" = some none)
    (wI0 : PySem.W.subIn K (.ref C0) (.type "BaseException") = some true)
    (xI0 : PySem.W.findIn K (.ref C0) "__class__" = some (some (.builtin "object.__class__")))
    (mI0 : PySem.W.mroIn K C0 (.type "object") = some true)
    (tI0 : PySem.W.takerIn K C0 "line" = some none)
    (nI0 : PySem.W.findIn K (.ref C0) "line" = some none)
    (gI1 : PySem.W.nsIn K mainGlobals "BadLine" = some (some (.ref C1)))
    (iI1 : PySem.W.findIn K (.ref C1) "__init__" = some (some (.ref fI1)))
    (yI1 : PySem.W.typeIn K (.ref fI1) = some (.type "function"))
    (lI1 : K.lookup fI1 = some ⟨ocI1, odI1, .func (PySem.W.fnOf "__init__" "BadLine.__init__" (defArgs sIBadLine) (defBody sIBadLine) (defScope sIBadLine) .none kVI1 dcI1 pmI1 anI1 cdI1 ctI1), slI1⟩)
    (cI1 : PySem.W.codeIn K cdI1 "BadLine.__init__" = true)
    (kI1 : PySem.W.keepIn K (.ref fI1) = true)
    (qI1 : PySem.W.excInitIn K C1 [.type "ValueError", .type "Exception", .type "BaseException", .type "object"] "ValueError.__new__" = true)
    (oI1 : PySem.W.excOver K C1 [.type "ValueError", .type "Exception", .type "BaseException", .type "object"] = true)
    (sI1 : PySem.W.findIn K (.ref C1) "__setattr__" = some (some (.builtin "object.__setattr__")))
    (hI1 : PySem.W.hasDictIn K C1 = true)
    (pI1 : PySem.W.keepIn K (.ref C1) = true)
    (uI1 : PySem.W.findIn K (.ref C1) "__getattribute__" = some (some (.builtin "BaseException.__getattribute__")))
    (vI1 : PySem.W.findIn K (.ref C1) "__getattr__" = some none)
    (wI1 : PySem.W.subIn K (.ref C1) (.type "BaseException") = some true)
    (xI1 : PySem.W.findIn K (.ref C1) "__class__" = some (some (.builtin "object.__class__")))
    (mI1 : PySem.W.mroIn K C1 (.type "object") = some true)
    (tI1 : PySem.W.takerIn K C1 "line" = some none)
    (nI1 : PySem.W.findIn K (.ref C1) "line" = some none)
    (gI2 : PySem.W.nsIn K mainGlobals "NoProgram" = some (some (.ref C2)))
    (iI2 : PySem.W.findIn K (.ref C2) "__init__" = some (some (.ref fI2)))
    (yI2 : PySem.W.typeIn K (.ref fI2) = some (.type "function"))
    (lI2 : K.lookup fI2 = some ⟨ocI2, odI2, .func (PySem.W.fnOf "__init__" "NoProgram.__init__" (defArgs sINoProgram) (defBody sINoProgram) (defScope sINoProgram) .none kVI2 dcI2 pmI2 anI2 cdI2 ctI2), slI2⟩)
    (cI2 : PySem.W.codeIn K cdI2 "NoProgram.__init__" = true)
    (kI2 : PySem.W.keepIn K (.ref fI2) = true)
    (qI2 : PySem.W.excInitIn K C2 [.type "ValueError", .type "Exception", .type "BaseException", .type "object"] "ValueError.__new__" = true)
    (oI2 : PySem.W.excOver K C2 [.type "ValueError", .type "Exception", .type "BaseException", .type "object"] = true)
    (sI2 : PySem.W.findIn K (.ref C2) "__setattr__" = some (some (.builtin "object.__setattr__")))
    (hI2 : PySem.W.hasDictIn K C2 = true)
    (pI2 : PySem.W.keepIn K (.ref C2) = true)
    (uI2 : PySem.W.findIn K (.ref C2) "__getattribute__" = some (some (.builtin "BaseException.__getattribute__")))
    (vI2 : PySem.W.findIn K (.ref C2) "__getattr__" = some none)
    (wI2 : PySem.W.subIn K (.ref C2) (.type "BaseException") = some true)
    (xI2 : PySem.W.findIn K (.ref C2) "__class__" = some (some (.builtin "object.__class__")))
    (mI2 : PySem.W.mroIn K C2 (.type "object") = some true)
    (gI3 : PySem.W.nsIn K mainGlobals "Unsafe" = some (some (.ref C3)))
    (iI3 : PySem.W.findIn K (.ref C3) "__init__" = some (some (.ref fI3)))
    (yI3 : PySem.W.typeIn K (.ref fI3) = some (.type "function"))
    (lI3 : K.lookup fI3 = some ⟨ocI3, odI3, .func (PySem.W.fnOf "__init__" "Unsafe.__init__" (defArgs sIUnsafe) (defBody sIUnsafe) (defScope sIUnsafe) .none kVI3 dcI3 pmI3 anI3 cdI3 ctI3), slI3⟩)
    (cI3 : PySem.W.codeIn K cdI3 "Unsafe.__init__" = true)
    (kI3 : PySem.W.keepIn K (.ref fI3) = true)
    (qI3 : PySem.W.excInitIn K C3 [.type "ValueError", .type "Exception", .type "BaseException", .type "object"] "ValueError.__new__" = true)
    (oI3 : PySem.W.excOver K C3 [.type "ValueError", .type "Exception", .type "BaseException", .type "object"] = true)
    (sI3 : PySem.W.findIn K (.ref C3) "__setattr__" = some (some (.builtin "object.__setattr__")))
    (hI3 : PySem.W.hasDictIn K C3 = true)
    (pI3 : PySem.W.keepIn K (.ref C3) = true)
    (uI3 : PySem.W.findIn K (.ref C3) "__getattribute__" = some (some (.builtin "BaseException.__getattribute__")))
    (vI3 : PySem.W.findIn K (.ref C3) "__getattr__" = some none)
    (wI3 : PySem.W.subIn K (.ref C3) (.type "BaseException") = some true)
    (xI3 : PySem.W.findIn K (.ref C3) "__class__" = some (some (.builtin "object.__class__")))
    (mI3 : PySem.W.mroIn K C3 (.type "object") = some true)
    (tI3 : PySem.W.takerIn K C3 "condition" = some none)
    (nI3 : PySem.W.findIn K (.ref C3) "condition" = some none)
    (gI4 : PySem.W.nsIn K mainGlobals "Taken" = some (some (.ref C4)))
    (iI4 : PySem.W.findIn K (.ref C4) "__init__" = some (some (.ref fI4)))
    (yI4 : PySem.W.typeIn K (.ref fI4) = some (.type "function"))
    (lI4 : K.lookup fI4 = some ⟨ocI4, odI4, .func (PySem.W.fnOf "__init__" "Taken.__init__" (defArgs sITaken) (defBody sITaken) (defScope sITaken) .none kVI4 dcI4 pmI4 anI4 cdI4 ctI4), slI4⟩)
    (cI4 : PySem.W.codeIn K cdI4 "Taken.__init__" = true)
    (kI4 : PySem.W.keepIn K (.ref fI4) = true)
    (qI4 : PySem.W.excInitIn K C4 [.type "ValueError", .type "Exception", .type "BaseException", .type "object"] "ValueError.__new__" = true)
    (oI4 : PySem.W.excOver K C4 [.type "ValueError", .type "Exception", .type "BaseException", .type "object"] = true)
    (sI4 : PySem.W.findIn K (.ref C4) "__setattr__" = some (some (.builtin "object.__setattr__")))
    (hI4 : PySem.W.hasDictIn K C4 = true)
    (pI4 : PySem.W.keepIn K (.ref C4) = true)
    (uI4 : PySem.W.findIn K (.ref C4) "__getattribute__" = some (some (.builtin "BaseException.__getattribute__")))
    (vI4 : PySem.W.findIn K (.ref C4) "__getattr__" = some none)
    (wI4 : PySem.W.subIn K (.ref C4) (.type "BaseException") = some true)
    (xI4 : PySem.W.findIn K (.ref C4) "__class__" = some (some (.builtin "object.__class__")))
    (mI4 : PySem.W.mroIn K C4 (.type "object") = some true)
    (tI4 : PySem.W.takerIn K C4 "name" = some none)
    (nI4 : PySem.W.findIn K (.ref C4) "name" = some none)
    (gI5 : PySem.W.nsIn K mainGlobals "NoFunction" = some (some (.ref C5)))
    (iI5 : PySem.W.findIn K (.ref C5) "__init__" = some (some (.ref fI5)))
    (yI5 : PySem.W.typeIn K (.ref fI5) = some (.type "function"))
    (lI5 : K.lookup fI5 = some ⟨ocI5, odI5, .func (PySem.W.fnOf "__init__" "NoFunction.__init__" (defArgs sINoFunction) (defBody sINoFunction) (defScope sINoFunction) .none kVI5 dcI5 pmI5 anI5 cdI5 ctI5), slI5⟩)
    (cI5 : PySem.W.codeIn K cdI5 "NoFunction.__init__" = true)
    (kI5 : PySem.W.keepIn K (.ref fI5) = true)
    (qI5 : PySem.W.excInitIn K C5 [.type "LookupError", .type "Exception", .type "BaseException", .type "object"] "LookupError.__new__" = true)
    (oI5 : PySem.W.excOver K C5 [.type "LookupError", .type "Exception", .type "BaseException", .type "object"] = true)
    (sI5 : PySem.W.findIn K (.ref C5) "__setattr__" = some (some (.builtin "object.__setattr__")))
    (hI5 : PySem.W.hasDictIn K C5 = true)
    (pI5 : PySem.W.keepIn K (.ref C5) = true)
    (uI5 : PySem.W.findIn K (.ref C5) "__getattribute__" = some (some (.builtin "BaseException.__getattribute__")))
    (vI5 : PySem.W.findIn K (.ref C5) "__getattr__" = some none)
    (wI5 : PySem.W.subIn K (.ref C5) (.type "BaseException") = some true)
    (xI5 : PySem.W.findIn K (.ref C5) "__class__" = some (some (.builtin "object.__class__")))
    (mI5 : PySem.W.mroIn K C5 (.type "object") = some true)
    (tI5 : PySem.W.takerIn K C5 "name" = some none)
    (nI5 : PySem.W.findIn K (.ref C5) "name" = some none)
    (gI6 : PySem.W.nsIn K mainGlobals "NoRisk" = some (some (.ref C6)))
    (iI6 : PySem.W.findIn K (.ref C6) "__init__" = some (some (.ref fI6)))
    (yI6 : PySem.W.typeIn K (.ref fI6) = some (.type "function"))
    (lI6 : K.lookup fI6 = some ⟨ocI6, odI6, .func (PySem.W.fnOf "__init__" "NoRisk.__init__" (defArgs sINoRisk) (defBody sINoRisk) (defScope sINoRisk) .none kVI6 dcI6 pmI6 anI6 cdI6 ctI6), slI6⟩)
    (cI6 : PySem.W.codeIn K cdI6 "NoRisk.__init__" = true)
    (kI6 : PySem.W.keepIn K (.ref fI6) = true)
    (qI6 : PySem.W.excInitIn K C6 [.type "LookupError", .type "Exception", .type "BaseException", .type "object"] "LookupError.__new__" = true)
    (oI6 : PySem.W.excOver K C6 [.type "LookupError", .type "Exception", .type "BaseException", .type "object"] = true)
    (sI6 : PySem.W.findIn K (.ref C6) "__setattr__" = some (some (.builtin "object.__setattr__")))
    (hI6 : PySem.W.hasDictIn K C6 = true)
    (pI6 : PySem.W.keepIn K (.ref C6) = true)
    (uI6 : PySem.W.findIn K (.ref C6) "__getattribute__" = some (some (.builtin "BaseException.__getattribute__")))
    (vI6 : PySem.W.findIn K (.ref C6) "__getattr__" = some none)
    (wI6 : PySem.W.subIn K (.ref C6) (.type "BaseException") = some true)
    (xI6 : PySem.W.findIn K (.ref C6) "__class__" = some (some (.builtin "object.__class__")))
    (mI6 : PySem.W.mroIn K C6 (.type "object") = some true)
    (tI6 : PySem.W.takerIn K C6 "point" = some none)
    (nI6 : PySem.W.findIn K (.ref C6) "point" = some none)
    (gI7 : PySem.W.nsIn K mainGlobals "TooMany" = some (some (.ref C7)))
    (iI7 : PySem.W.findIn K (.ref C7) "__init__" = some (some (.ref fI7)))
    (yI7 : PySem.W.typeIn K (.ref fI7) = some (.type "function"))
    (lI7 : K.lookup fI7 = some ⟨ocI7, odI7, .func (PySem.W.fnOf "__init__" "TooMany.__init__" (defArgs sITooMany) (defBody sITooMany) (defScope sITooMany) .none kVI7 dcI7 pmI7 anI7 cdI7 ctI7), slI7⟩)
    (cI7 : PySem.W.codeIn K cdI7 "TooMany.__init__" = true)
    (kI7 : PySem.W.keepIn K (.ref fI7) = true)
    (qI7 : PySem.W.excInitIn K C7 [.type "OverflowError", .type "ArithmeticError", .type "Exception", .type "BaseException", .type "object"] "OverflowError.__new__" = true)
    (oI7 : PySem.W.excOver K C7 [.type "OverflowError", .type "ArithmeticError", .type "Exception", .type "BaseException", .type "object"] = true)
    (sI7 : PySem.W.findIn K (.ref C7) "__setattr__" = some (some (.builtin "object.__setattr__")))
    (hI7 : PySem.W.hasDictIn K C7 = true)
    (pI7 : PySem.W.keepIn K (.ref C7) = true)
    (uI7 : PySem.W.findIn K (.ref C7) "__getattribute__" = some (some (.builtin "BaseException.__getattribute__")))
    (vI7 : PySem.W.findIn K (.ref C7) "__getattr__" = some none)
    (wI7 : PySem.W.subIn K (.ref C7) (.type "BaseException") = some true)
    (xI7 : PySem.W.findIn K (.ref C7) "__class__" = some (some (.builtin "object.__class__")))
    (mI7 : PySem.W.mroIn K C7 (.type "object") = some true)
    (tI7 : PySem.W.takerIn K C7 "many" = some none)
    (nI7 : PySem.W.findIn K (.ref C7) "many" = some none)
    (cg : PySem.W.specialIn K (.builtin "object.__class__") "__get__" = some (some (.builtin "getset_descriptor.__get__")))
    (ct : PySem.W.takesIn K (.builtin "object.__class__") = some true)
    (vvVa : PySem.W.findCls K (.type "ValueError") (.type "type") "__init__" = some (.val (.builtin "ValueError.__init__")))
    (vvLo : PySem.W.findCls K (.type "LookupError") (.type "type") "__init__" = some (.val (.builtin "LookupError.__init__")))
    (vvOv : PySem.W.findCls K (.type "OverflowError") (.type "type") "__init__" = some (.val (.builtin "OverflowError.__init__")))
    (e00 : PySem.W.kitOne K (.ref C0) (.ref C0) = some true)
    (e01 : PySem.W.kitOne K (.ref C0) (.ref C1) = some false)
    (e02 : PySem.W.kitOne K (.ref C0) (.ref C2) = some false)
    (e03 : PySem.W.kitOne K (.ref C0) (.ref C3) = some false)
    (e04 : PySem.W.kitOne K (.ref C0) (.ref C4) = some false)
    (e05 : PySem.W.kitOne K (.ref C0) (.ref C5) = some false)
    (e06 : PySem.W.kitOne K (.ref C0) (.ref C6) = some false)
    (e07 : PySem.W.kitOne K (.ref C0) (.ref C7) = some false)
    (e10 : PySem.W.kitOne K (.ref C1) (.ref C0) = some false)
    (e11 : PySem.W.kitOne K (.ref C1) (.ref C1) = some true)
    (e12 : PySem.W.kitOne K (.ref C1) (.ref C2) = some false)
    (e13 : PySem.W.kitOne K (.ref C1) (.ref C3) = some false)
    (e14 : PySem.W.kitOne K (.ref C1) (.ref C4) = some false)
    (e15 : PySem.W.kitOne K (.ref C1) (.ref C5) = some false)
    (e16 : PySem.W.kitOne K (.ref C1) (.ref C6) = some false)
    (e17 : PySem.W.kitOne K (.ref C1) (.ref C7) = some false)
    (e20 : PySem.W.kitOne K (.ref C2) (.ref C0) = some false)
    (e21 : PySem.W.kitOne K (.ref C2) (.ref C1) = some false)
    (e22 : PySem.W.kitOne K (.ref C2) (.ref C2) = some true)
    (e23 : PySem.W.kitOne K (.ref C2) (.ref C3) = some false)
    (e24 : PySem.W.kitOne K (.ref C2) (.ref C4) = some false)
    (e25 : PySem.W.kitOne K (.ref C2) (.ref C5) = some false)
    (e26 : PySem.W.kitOne K (.ref C2) (.ref C6) = some false)
    (e27 : PySem.W.kitOne K (.ref C2) (.ref C7) = some false)
    (e30 : PySem.W.kitOne K (.ref C3) (.ref C0) = some false)
    (e31 : PySem.W.kitOne K (.ref C3) (.ref C1) = some false)
    (e32 : PySem.W.kitOne K (.ref C3) (.ref C2) = some false)
    (e33 : PySem.W.kitOne K (.ref C3) (.ref C3) = some true)
    (e34 : PySem.W.kitOne K (.ref C3) (.ref C4) = some false)
    (e35 : PySem.W.kitOne K (.ref C3) (.ref C5) = some false)
    (e36 : PySem.W.kitOne K (.ref C3) (.ref C6) = some false)
    (e37 : PySem.W.kitOne K (.ref C3) (.ref C7) = some false)
    (e40 : PySem.W.kitOne K (.ref C4) (.ref C0) = some false)
    (e41 : PySem.W.kitOne K (.ref C4) (.ref C1) = some false)
    (e42 : PySem.W.kitOne K (.ref C4) (.ref C2) = some false)
    (e43 : PySem.W.kitOne K (.ref C4) (.ref C3) = some false)
    (e44 : PySem.W.kitOne K (.ref C4) (.ref C4) = some true)
    (e45 : PySem.W.kitOne K (.ref C4) (.ref C5) = some false)
    (e46 : PySem.W.kitOne K (.ref C4) (.ref C6) = some false)
    (e47 : PySem.W.kitOne K (.ref C4) (.ref C7) = some false)
    (e50 : PySem.W.kitOne K (.ref C5) (.ref C0) = some false)
    (e51 : PySem.W.kitOne K (.ref C5) (.ref C1) = some false)
    (e52 : PySem.W.kitOne K (.ref C5) (.ref C2) = some false)
    (e53 : PySem.W.kitOne K (.ref C5) (.ref C3) = some false)
    (e54 : PySem.W.kitOne K (.ref C5) (.ref C4) = some false)
    (e55 : PySem.W.kitOne K (.ref C5) (.ref C5) = some true)
    (e56 : PySem.W.kitOne K (.ref C5) (.ref C6) = some false)
    (e57 : PySem.W.kitOne K (.ref C5) (.ref C7) = some false)
    (e60 : PySem.W.kitOne K (.ref C6) (.ref C0) = some false)
    (e61 : PySem.W.kitOne K (.ref C6) (.ref C1) = some false)
    (e62 : PySem.W.kitOne K (.ref C6) (.ref C2) = some false)
    (e63 : PySem.W.kitOne K (.ref C6) (.ref C3) = some false)
    (e64 : PySem.W.kitOne K (.ref C6) (.ref C4) = some false)
    (e65 : PySem.W.kitOne K (.ref C6) (.ref C5) = some false)
    (e66 : PySem.W.kitOne K (.ref C6) (.ref C6) = some true)
    (e67 : PySem.W.kitOne K (.ref C6) (.ref C7) = some false)
    (e70 : PySem.W.kitOne K (.ref C7) (.ref C0) = some false)
    (e71 : PySem.W.kitOne K (.ref C7) (.ref C1) = some false)
    (e72 : PySem.W.kitOne K (.ref C7) (.ref C2) = some false)
    (e73 : PySem.W.kitOne K (.ref C7) (.ref C3) = some false)
    (e74 : PySem.W.kitOne K (.ref C7) (.ref C4) = some false)
    (e75 : PySem.W.kitOne K (.ref C7) (.ref C5) = some false)
    (e76 : PySem.W.kitOne K (.ref C7) (.ref C6) = some false)
    (e77 : PySem.W.kitOne K (.ref C7) (.ref C7) = some true)
    (r00 : PySem.W.kitOne K (.ref C0) (.type "ValueError") = some true)
    (r01 : PySem.W.kitOne K (.ref C0) (.type "LookupError") = some false)
    (r02 : PySem.W.kitOne K (.ref C0) (.type "OverflowError") = some false)
    (z0 : PySem.W.kitAny K (.ref C0) [.type "KeyError", .type "IndexError", .type "TypeError", .type "RuntimeError"] = some false)
    (r10 : PySem.W.kitOne K (.ref C1) (.type "ValueError") = some true)
    (r11 : PySem.W.kitOne K (.ref C1) (.type "LookupError") = some false)
    (r12 : PySem.W.kitOne K (.ref C1) (.type "OverflowError") = some false)
    (z1 : PySem.W.kitAny K (.ref C1) [.type "KeyError", .type "IndexError", .type "TypeError", .type "RuntimeError"] = some false)
    (r20 : PySem.W.kitOne K (.ref C2) (.type "ValueError") = some true)
    (r21 : PySem.W.kitOne K (.ref C2) (.type "LookupError") = some false)
    (r22 : PySem.W.kitOne K (.ref C2) (.type "OverflowError") = some false)
    (z2 : PySem.W.kitAny K (.ref C2) [.type "KeyError", .type "IndexError", .type "TypeError", .type "RuntimeError"] = some false)
    (r30 : PySem.W.kitOne K (.ref C3) (.type "ValueError") = some true)
    (r31 : PySem.W.kitOne K (.ref C3) (.type "LookupError") = some false)
    (r32 : PySem.W.kitOne K (.ref C3) (.type "OverflowError") = some false)
    (z3 : PySem.W.kitAny K (.ref C3) [.type "KeyError", .type "IndexError", .type "TypeError", .type "RuntimeError"] = some false)
    (r40 : PySem.W.kitOne K (.ref C4) (.type "ValueError") = some true)
    (r41 : PySem.W.kitOne K (.ref C4) (.type "LookupError") = some false)
    (r42 : PySem.W.kitOne K (.ref C4) (.type "OverflowError") = some false)
    (z4 : PySem.W.kitAny K (.ref C4) [.type "KeyError", .type "IndexError", .type "TypeError", .type "RuntimeError"] = some false)
    (r50 : PySem.W.kitOne K (.ref C5) (.type "ValueError") = some false)
    (r51 : PySem.W.kitOne K (.ref C5) (.type "LookupError") = some true)
    (r52 : PySem.W.kitOne K (.ref C5) (.type "OverflowError") = some false)
    (z5 : PySem.W.kitAny K (.ref C5) [.type "KeyError", .type "IndexError", .type "TypeError", .type "RuntimeError"] = some false)
    (r60 : PySem.W.kitOne K (.ref C6) (.type "ValueError") = some false)
    (r61 : PySem.W.kitOne K (.ref C6) (.type "LookupError") = some true)
    (r62 : PySem.W.kitOne K (.ref C6) (.type "OverflowError") = some false)
    (z6 : PySem.W.kitAny K (.ref C6) [.type "KeyError", .type "IndexError", .type "TypeError", .type "RuntimeError"] = some false)
    (r70 : PySem.W.kitOne K (.ref C7) (.type "ValueError") = some false)
    (r71 : PySem.W.kitOne K (.ref C7) (.type "LookupError") = some false)
    (r72 : PySem.W.kitOne K (.ref C7) (.type "OverflowError") = some true)
    (z7 : PySem.W.kitAny K (.ref C7) [.type "KeyError", .type "IndexError", .type "TypeError", .type "RuntimeError"] = some false)
    (gG : PySem.W.nsIn K mainGlobals "GREATEST" = some (some (.int gv tg)))
    (gE : gv = 10 ^ 30)
    (b_len : PySem.W.nsIn K mainGlobals "len" = some none)
    (b_abs : PySem.W.nsIn K mainGlobals "abs" = some none)
    (b_int : PySem.W.nsIn K mainGlobals "int" = some none)
    (b_list : PySem.W.nsIn K mainGlobals "list" = some none)
    (b_enumerate : PySem.W.nsIn K mainGlobals "enumerate" = some none)
    (b_isinstance : PySem.W.nsIn K mainGlobals "isinstance" = some none)
    (b_tuple : PySem.W.nsIn K mainGlobals "tuple" = some none)
    (b_bool : PySem.W.nsIn K mainGlobals "bool" = some none)
    (b_str : PySem.W.nsIn K mainGlobals "str" = some none)
    (b_all : PySem.W.nsIn K mainGlobals "all" = some none)
    (b_zip : PySem.W.nsIn K mainGlobals "zip" = some none)
    (b_range : PySem.W.nsIn K mainGlobals "range" = some none)
    (b_map : PySem.W.nsIn K mainGlobals "map" = some none)
    (b_ValueError : PySem.W.nsIn K mainGlobals "ValueError" = some none)
    (b_LookupError : PySem.W.nsIn K mainGlobals "LookupError" = some none)
    (b_OverflowError : PySem.W.nsIn K mainGlobals "OverflowError" = some none)
    (b_KeyError : PySem.W.nsIn K mainGlobals "KeyError" = some none)
    (b_IndexError : PySem.W.nsIn K mainGlobals "IndexError" = some none)
    (b_TypeError : PySem.W.nsIn K mainGlobals "TypeError" = some none)
    (b_RuntimeError : PySem.W.nsIn K mainGlobals "RuntimeError" = some none) :
    ∃ fd : FuncData, (∀ (s : Shared) (v : Value), BindsTo s fd ⟨[v], []⟩ [("_law_script", v)]) ∧ ∀ base : Heap, K.In base → base.Ns mainGlobals mg → FnOk l.prog w K mg base CX0 35 fa fd ["_law_script"] (spLaw K) := by
  have e := hfa.symm.trans (PySem.W.mg_of X G aD9)
  cases e
  subst gE
  have F0 := fun_mk (st := sAs) lD0 cD0 kD0
  have b0 := F0.binds (ps := ["thing"]) fun _ _ _ _ _ _ us hl => match us, hl with | [_], _ => rfl
  have F1 := fun_mk (st := sBox) lD1 cD1 kD1
  have b1 := F1.binds (ps := ["_law_script", "_law_k"]) fun _ _ _ _ _ _ us hl => match us, hl with | [_, _], _ => rfl
  have F2 := fun_mk (st := sTake) lD2 cD2 kD2
  have b2 := F2.binds (ps := ["_law_box_here", "_law_below"]) fun _ _ _ _ _ _ us hl => match us, hl with | [_, _], _ => rfl
  have F3 := fun_mk (st := sCells) lD3 cD3 kD3
  have b3 := F3.binds (ps := ["_law_script", "_law_most"]) fun _ _ _ _ _ _ us hl => match us, hl with | [_, _], _ => rfl
  have F4 := fun_mk (st := sOf) lD4 cD4 kD4
  have b4 := F4.binds (ps := ["_law_box_here", "_law_some"]) fun _ _ _ _ _ _ us hl => match us, hl with | [_, _], _ => rfl
  have F5 := fun_mk (st := sSame) lD5 cD5 kD5
  have b5 := F5.binds (ps := ["_law_found", "_law_due"]) fun _ _ _ _ _ _ us hl => match us, hl with | [_, _], _ => rfl
  have F6 := fun_mk (st := sMade) lD6 cD6 kD6
  have b6 := F6.binds (ps := ["_law_way", "_law_thing_so"]) fun _ _ _ _ _ _ us hl => match us, hl with | [_, _], _ => rfl
  have F7 := fun_mk (st := sKinds) lD7 cD7 kD7
  have b7 := F7.binds (ps := ["_law_made"]) fun _ _ _ _ _ _ us hl => match us, hl with | [_], _ => rfl
  have F8 := fun_mk (st := sRight) lD8 cD8 kD8
  have b8 := F8.binds (ps := ["_law_box_here"]) fun _ _ _ _ _ _ us hl => match us, hl with | [_], _ => rfl
  have F9 := fun_mk (st := sLaw) lD9 cD9 kD9
  have b9 := F9.binds (ps := ["_law_script"]) fun _ _ _ _ _ _ us hl => match us, hl with | [_], _ => rfl
  have m_len := PySem.W.mg_none_of X G b_len
  have m_abs := PySem.W.mg_none_of X G b_abs
  have m_int := PySem.W.mg_none_of X G b_int
  have m_list := PySem.W.mg_none_of X G b_list
  have m_enumerate := PySem.W.mg_none_of X G b_enumerate
  have m_isinstance := PySem.W.mg_none_of X G b_isinstance
  have m_tuple := PySem.W.mg_none_of X G b_tuple
  have m_bool := PySem.W.mg_none_of X G b_bool
  have m_str := PySem.W.mg_none_of X G b_str
  have m_all := PySem.W.mg_none_of X G b_all
  have m_zip := PySem.W.mg_none_of X G b_zip
  have m_range := PySem.W.mg_none_of X G b_range
  have m_map := PySem.W.mg_none_of X G b_map
  have m_ValueError := PySem.W.mg_none_of X G b_ValueError
  have m_LookupError := PySem.W.mg_none_of X G b_LookupError
  have m_OverflowError := PySem.W.mg_none_of X G b_OverflowError
  have m_KeyError := PySem.W.mg_none_of X G b_KeyError
  have m_IndexError := PySem.W.mg_none_of X G b_IndexError
  have m_TypeError := PySem.W.mg_none_of X G b_TypeError
  have m_RuntimeError := PySem.W.mg_none_of X G b_RuntimeError
  have n0 := PySem.W.mg_of X G aD0
  have n1 := PySem.W.mg_of X G aD1
  have n2 := PySem.W.mg_of X G aD2
  have n3 := PySem.W.mg_of X G aD3
  have n4 := PySem.W.mg_of X G aD4
  have n5 := PySem.W.mg_of X G aD5
  have n6 := PySem.W.mg_of X G aD6
  have n7 := PySem.W.mg_of X G aD7
  have n8 := PySem.W.mg_of X G aD8
  have T0 : ExK K C0 "ValueError" "ValueError.__new__" "ValueError.__init__" [.type "ValueError", .type "Exception", .type "BaseException", .type "object"] := ⟨qI0, oI0, sI0, hI0, pI0, PySem.F.excBase_ValueError, PySem.F.store_ValueError, ⟨uI0, vI0, wI0, hI0⟩, xI0, cg, ct, mI0⟩
  have J0 := fun_mk (st := sIBadText) lI0 cI0 kI0
  have j0 := J0.binds (ps := ["self", "line"]) fun _ _ _ _ _ _ us hl => match us, hl with | [_, _], _ => rfl
  have T1 : ExK K C1 "ValueError" "ValueError.__new__" "ValueError.__init__" [.type "ValueError", .type "Exception", .type "BaseException", .type "object"] := ⟨qI1, oI1, sI1, hI1, pI1, PySem.F.excBase_ValueError, PySem.F.store_ValueError, ⟨uI1, vI1, wI1, hI1⟩, xI1, cg, ct, mI1⟩
  have J1 := fun_mk (st := sIBadLine) lI1 cI1 kI1
  have j1 := J1.binds (ps := ["self", "line"]) fun _ _ _ _ _ _ us hl => match us, hl with | [_, _], _ => rfl
  have T2 : ExK K C2 "ValueError" "ValueError.__new__" "ValueError.__init__" [.type "ValueError", .type "Exception", .type "BaseException", .type "object"] := ⟨qI2, oI2, sI2, hI2, pI2, PySem.F.excBase_ValueError, PySem.F.store_ValueError, ⟨uI2, vI2, wI2, hI2⟩, xI2, cg, ct, mI2⟩
  have J2 := fun_mk (st := sINoProgram) lI2 cI2 kI2
  have j2 := J2.binds (ps := ["self"]) fun _ _ _ _ _ _ us hl => match us, hl with | [_], _ => rfl
  have T3 : ExK K C3 "ValueError" "ValueError.__new__" "ValueError.__init__" [.type "ValueError", .type "Exception", .type "BaseException", .type "object"] := ⟨qI3, oI3, sI3, hI3, pI3, PySem.F.excBase_ValueError, PySem.F.store_ValueError, ⟨uI3, vI3, wI3, hI3⟩, xI3, cg, ct, mI3⟩
  have J3 := fun_mk (st := sIUnsafe) lI3 cI3 kI3
  have j3 := J3.binds (ps := ["self", "condition"]) fun _ _ _ _ _ _ us hl => match us, hl with | [_, _], _ => rfl
  have T4 : ExK K C4 "ValueError" "ValueError.__new__" "ValueError.__init__" [.type "ValueError", .type "Exception", .type "BaseException", .type "object"] := ⟨qI4, oI4, sI4, hI4, pI4, PySem.F.excBase_ValueError, PySem.F.store_ValueError, ⟨uI4, vI4, wI4, hI4⟩, xI4, cg, ct, mI4⟩
  have J4 := fun_mk (st := sITaken) lI4 cI4 kI4
  have j4 := J4.binds (ps := ["self", "name"]) fun _ _ _ _ _ _ us hl => match us, hl with | [_, _], _ => rfl
  have T5 : ExK K C5 "LookupError" "LookupError.__new__" "LookupError.__init__" [.type "LookupError", .type "Exception", .type "BaseException", .type "object"] := ⟨qI5, oI5, sI5, hI5, pI5, PySem.F.excBase_LookupError, PySem.F.store_LookupError, ⟨uI5, vI5, wI5, hI5⟩, xI5, cg, ct, mI5⟩
  have J5 := fun_mk (st := sINoFunction) lI5 cI5 kI5
  have j5 := J5.binds (ps := ["self", "name"]) fun _ _ _ _ _ _ us hl => match us, hl with | [_, _], _ => rfl
  have T6 : ExK K C6 "LookupError" "LookupError.__new__" "LookupError.__init__" [.type "LookupError", .type "Exception", .type "BaseException", .type "object"] := ⟨qI6, oI6, sI6, hI6, pI6, PySem.F.excBase_LookupError, PySem.F.store_LookupError, ⟨uI6, vI6, wI6, hI6⟩, xI6, cg, ct, mI6⟩
  have J6 := fun_mk (st := sINoRisk) lI6 cI6 kI6
  have j6 := J6.binds (ps := ["self", "point"]) fun _ _ _ _ _ _ us hl => match us, hl with | [_, _], _ => rfl
  have T7 : ExK K C7 "OverflowError" "OverflowError.__new__" "OverflowError.__init__" [.type "OverflowError", .type "ArithmeticError", .type "Exception", .type "BaseException", .type "object"] := ⟨qI7, oI7, sI7, hI7, pI7, PySem.F.excBase_OverflowError, PySem.F.store_OverflowError, ⟨uI7, vI7, wI7, hI7⟩, xI7, cg, ct, mI7⟩
  have J7 := fun_mk (st := sITooMany) lI7 cI7 kI7
  have j7 := J7.binds (ps := ["self", "many"]) fun _ _ _ _ _ _ us hl => match us, hl with | [_, _], _ => rfl
  have E : E8 K mg C0 C1 C2 C3 C4 C5 C6 C7 := ⟨T0, PySem.W.mg_of X G gI0, nI0, T1, PySem.W.mg_of X G gI1, nI1, T2, PySem.W.mg_of X G gI2, T3, PySem.W.mg_of X G gI3, nI3, T4, PySem.W.mg_of X G gI4, nI4, T5, PySem.W.mg_of X G gI5, nI5, T6, PySem.W.mg_of X G gI6, nI6, T7, PySem.W.mg_of X G gI7, nI7⟩
  have K0 : K8 K (c8 C0 C1 C2 C3 C4 C5 C6 C7) := by
    refine ⟨fun i j hi hj => ?_, fun i hi => ?_, fun i hi => ?_, fun i hi => ?_, fun i hi => ?_⟩
    · match i, hi with
      | 0, _ => exact (fun j hj => match j, hj with | 0, _ => e00 | 1, _ => e01 | 2, _ => e02 | 3, _ => e03 | 4, _ => e04 | 5, _ => e05 | 6, _ => e06 | 7, _ => e07 : ∀ j, j < 8 → PySem.W.kitOne K (.ref C0) (.ref (c8 C0 C1 C2 C3 C4 C5 C6 C7 j)) = some (0 == j)) j hj
      | 1, _ => exact (fun j hj => match j, hj with | 0, _ => e10 | 1, _ => e11 | 2, _ => e12 | 3, _ => e13 | 4, _ => e14 | 5, _ => e15 | 6, _ => e16 | 7, _ => e17 : ∀ j, j < 8 → PySem.W.kitOne K (.ref C1) (.ref (c8 C0 C1 C2 C3 C4 C5 C6 C7 j)) = some (1 == j)) j hj
      | 2, _ => exact (fun j hj => match j, hj with | 0, _ => e20 | 1, _ => e21 | 2, _ => e22 | 3, _ => e23 | 4, _ => e24 | 5, _ => e25 | 6, _ => e26 | 7, _ => e27 : ∀ j, j < 8 → PySem.W.kitOne K (.ref C2) (.ref (c8 C0 C1 C2 C3 C4 C5 C6 C7 j)) = some (2 == j)) j hj
      | 3, _ => exact (fun j hj => match j, hj with | 0, _ => e30 | 1, _ => e31 | 2, _ => e32 | 3, _ => e33 | 4, _ => e34 | 5, _ => e35 | 6, _ => e36 | 7, _ => e37 : ∀ j, j < 8 → PySem.W.kitOne K (.ref C3) (.ref (c8 C0 C1 C2 C3 C4 C5 C6 C7 j)) = some (3 == j)) j hj
      | 4, _ => exact (fun j hj => match j, hj with | 0, _ => e40 | 1, _ => e41 | 2, _ => e42 | 3, _ => e43 | 4, _ => e44 | 5, _ => e45 | 6, _ => e46 | 7, _ => e47 : ∀ j, j < 8 → PySem.W.kitOne K (.ref C4) (.ref (c8 C0 C1 C2 C3 C4 C5 C6 C7 j)) = some (4 == j)) j hj
      | 5, _ => exact (fun j hj => match j, hj with | 0, _ => e50 | 1, _ => e51 | 2, _ => e52 | 3, _ => e53 | 4, _ => e54 | 5, _ => e55 | 6, _ => e56 | 7, _ => e57 : ∀ j, j < 8 → PySem.W.kitOne K (.ref C5) (.ref (c8 C0 C1 C2 C3 C4 C5 C6 C7 j)) = some (5 == j)) j hj
      | 6, _ => exact (fun j hj => match j, hj with | 0, _ => e60 | 1, _ => e61 | 2, _ => e62 | 3, _ => e63 | 4, _ => e64 | 5, _ => e65 | 6, _ => e66 | 7, _ => e67 : ∀ j, j < 8 → PySem.W.kitOne K (.ref C6) (.ref (c8 C0 C1 C2 C3 C4 C5 C6 C7 j)) = some (6 == j)) j hj
      | 7, _ => exact (fun j hj => match j, hj with | 0, _ => e70 | 1, _ => e71 | 2, _ => e72 | 3, _ => e73 | 4, _ => e74 | 5, _ => e75 | 6, _ => e76 | 7, _ => e77 : ∀ j, j < 8 → PySem.W.kitOne K (.ref C7) (.ref (c8 C0 C1 C2 C3 C4 C5 C6 C7 j)) = some (7 == j)) j hj
    · exact match i, hi with | 0, _ => r00 | 1, _ => r10 | 2, _ => r20 | 3, _ => r30 | 4, _ => r40 | 5, _ => r50 | 6, _ => r60 | 7, _ => r70
    · exact match i, hi with | 0, _ => r01 | 1, _ => r11 | 2, _ => r21 | 3, _ => r31 | 4, _ => r41 | 5, _ => r51 | 6, _ => r61 | 7, _ => r71
    · exact match i, hi with | 0, _ => r02 | 1, _ => r12 | 2, _ => r22 | 3, _ => r32 | 4, _ => r42 | 5, _ => r52 | 6, _ => r62 | 7, _ => r72
    · exact match i, hi with | 0, _ => z0 | 1, _ => z1 | 2, _ => z2 | 3, _ => z3 | 4, _ => z4 | 5, _ => z5 | 6, _ => z6 | 7, _ => z7
  refine ⟨PySem.W.fnOf "law" "law" (defArgs sLaw) (defBody sLaw) (defScope sLaw) .none kVD9 dcD9 pmD9 anD9 cdD9 ctD9, fun s v => .of_eq rfl, fun base _ _ => ?_⟩
  have GA := all_as (P := l.prog) (w := w) (mg := mg) (base := base) F0 b0 n0 m_isinstance m_list m_tuple m_map 6
  have GB := ok_box (P := l.prog) (w := w) (mg := mg) (base := base) (n := 0) F1 m_len m_abs m_int
  have GT := ok_take (P := l.prog) (w := w) (mg := mg) (base := base) (n := 0) F2
  have GC := ok_cells (P := l.prog) (w := w) (mg := mg) (base := base) (n := 0) F3 m_list m_enumerate
  have GO := ok_of (P := l.prog) (w := w) (mg := mg) (base := base) (n := 1) F4 GT b2 kD2 n2 m_len
  have GS := all_same (P := l.prog) (w := w) (mg := mg) (base := base) F5 b5 n5 m_isinstance m_list m_tuple m_bool m_str m_int m_len m_all m_zip 6
  have O0 := FnOk.mono (ok_IBadText (P := l.prog) (w := w) (mg := mg) (base := base) (n := 6) J0 T0 m_ValueError vvVa tI0) (by decide : 7 ≤ 31)
  have O1 := FnOk.mono (ok_IBadLine (P := l.prog) (w := w) (mg := mg) (base := base) (n := 6) J1 T1 m_ValueError vvVa tI1) (by decide : 7 ≤ 31)
  have O2 := FnOk.mono (ok_INoProgram (P := l.prog) (w := w) (mg := mg) (base := base) (n := 6) J2 T2 m_ValueError vvVa) (by decide : 7 ≤ 31)
  have O3 := ok_IUnsafe (P := l.prog) (w := w) (mg := mg) (base := base) (n := 6) (m := 30) J3 T3 m_ValueError vvVa tI3 GA b0 kD0 n0
  have O4 := FnOk.mono (ok_ITaken (P := l.prog) (w := w) (mg := mg) (base := base) (n := 6) J4 T4 m_ValueError vvVa tI4) (by decide : 7 ≤ 31)
  have O5 := FnOk.mono (ok_INoFunction (P := l.prog) (w := w) (mg := mg) (base := base) (n := 6) J5 T5 m_LookupError vvLo tI5) (by decide : 7 ≤ 31)
  have O6 := ok_INoRisk (P := l.prog) (w := w) (mg := mg) (base := base) (n := 6) (m := 30) J6 T6 m_LookupError vvLo tI6 GA b0 kD0 n0
  have O7 := FnOk.mono (ok_ITooMany (P := l.prog) (w := w) (mg := mg) (base := base) (n := 6) J7 T7 m_OverflowError vvOv tI7) (by decide : 7 ≤ 31)
  have I : I8 l.prog w K mg base C0 C1 C2 C3 C4 C5 C6 C7 fI0 fI1 fI2 fI3 fI4 fI5 fI6 fI7 _ _ _ _ _ _ _ _ := ⟨iI0, yI0, O0, j0, iI1, yI1, O1, j1, iI2, yI2, O2, j2, iI3, yI3, O3, j3, iI4, yI4, O4, j4, iI5, yI5, O5, j5, iI6, yI6, O6, j6, iI7, yI7, O7, j7⟩
  have GM := ok_made F6 E I
  have GK := ok_kinds (P := l.prog) (w := w) (mg := mg) (base := base) (n := 0) F7 E K0 m_isinstance m_ValueError m_LookupError m_OverflowError m_KeyError m_IndexError m_TypeError m_RuntimeError
  have GR := ok_right F8 GT b2 kD2 n2 GO b4 kD4 n4 GM b6 kD6 n6 GK b7 kD7 n7 GS b5 kD5 n5 m_range (PySem.W.mg_of X G gG)
  exact ok_law F9 GC b3 kD3 n3 GB b1 kD1 n1 GR b8 kD8 n8 m_range m_len m_all
end Sh

set_option Elab.async false
open PySem PySem.W PyProof.Rows
set_option maxRecDepth 100000 in
set_option maxHeartbeats 0 in
theorem PySem.Challenge.cw_shadowruns_k90_errors_holds : PySem.Challenge.rw_shadowruns_k90_errors.Holds := by
  w_on; o_law; k_head; (case hw => w_witness2)
  k_fill
  refine L2.walk_of (l := PySem.Challenge.rw_shadowruns_k90_errors) (n := 63) (k := 35) (x := "_law_script") (CX := fun _ => L2.CX0) (sp := fun w => Sh.spLaw _) rfl (by decide) rfl ⟨rfl, by decide, by decide⟩ (fun w h Y => PySem.W.kIn_of Y) ?F (fun _ _ a ns hl _ hS => ⟨a, ns, rfl, hS, hl, fun _ => rfl⟩) (fun _ _ _ _ _ h => h)
  case F =>
    intro w mg fa h KX G hmg
    refine' Sh.all_mk KX G hmg ?aD0 ?lD0 ?cD0 ?kD0 ?aD1 ?lD1 ?cD1 ?kD1 ?aD2 ?lD2 ?cD2 ?kD2 ?aD3 ?lD3 ?cD3 ?kD3 ?aD4 ?lD4 ?cD4 ?kD4 ?aD5 ?lD5 ?cD5 ?kD5 ?aD6 ?lD6 ?cD6 ?kD6 ?aD7 ?lD7 ?cD7 ?kD7 ?aD8 ?lD8 ?cD8 ?kD8 ?aD9 ?lD9 ?cD9 ?kD9 ?gI0 ?iI0 ?yI0 ?lI0 ?cI0 ?kI0 ?qI0 ?oI0 ?sI0 ?hI0 ?pI0 ?uI0 ?vI0 ?wI0 ?xI0 ?mI0 ?tI0 ?nI0 ?gI1 ?iI1 ?yI1 ?lI1 ?cI1 ?kI1 ?qI1 ?oI1 ?sI1 ?hI1 ?pI1 ?uI1 ?vI1 ?wI1 ?xI1 ?mI1 ?tI1 ?nI1 ?gI2 ?iI2 ?yI2 ?lI2 ?cI2 ?kI2 ?qI2 ?oI2 ?sI2 ?hI2 ?pI2 ?uI2 ?vI2 ?wI2 ?xI2 ?mI2 ?gI3 ?iI3 ?yI3 ?lI3 ?cI3 ?kI3 ?qI3 ?oI3 ?sI3 ?hI3 ?pI3 ?uI3 ?vI3 ?wI3 ?xI3 ?mI3 ?tI3 ?nI3 ?gI4 ?iI4 ?yI4 ?lI4 ?cI4 ?kI4 ?qI4 ?oI4 ?sI4 ?hI4 ?pI4 ?uI4 ?vI4 ?wI4 ?xI4 ?mI4 ?tI4 ?nI4 ?gI5 ?iI5 ?yI5 ?lI5 ?cI5 ?kI5 ?qI5 ?oI5 ?sI5 ?hI5 ?pI5 ?uI5 ?vI5 ?wI5 ?xI5 ?mI5 ?tI5 ?nI5 ?gI6 ?iI6 ?yI6 ?lI6 ?cI6 ?kI6 ?qI6 ?oI6 ?sI6 ?hI6 ?pI6 ?uI6 ?vI6 ?wI6 ?xI6 ?mI6 ?tI6 ?nI6 ?gI7 ?iI7 ?yI7 ?lI7 ?cI7 ?kI7 ?qI7 ?oI7 ?sI7 ?hI7 ?pI7 ?uI7 ?vI7 ?wI7 ?xI7 ?mI7 ?tI7 ?nI7 ?cg ?ct ?vvVa ?vvLo ?vvOv ?e00 ?e01 ?e02 ?e03 ?e04 ?e05 ?e06 ?e07 ?e10 ?e11 ?e12 ?e13 ?e14 ?e15 ?e16 ?e17 ?e20 ?e21 ?e22 ?e23 ?e24 ?e25 ?e26 ?e27 ?e30 ?e31 ?e32 ?e33 ?e34 ?e35 ?e36 ?e37 ?e40 ?e41 ?e42 ?e43 ?e44 ?e45 ?e46 ?e47 ?e50 ?e51 ?e52 ?e53 ?e54 ?e55 ?e56 ?e57 ?e60 ?e61 ?e62 ?e63 ?e64 ?e65 ?e66 ?e67 ?e70 ?e71 ?e72 ?e73 ?e74 ?e75 ?e76 ?e77 ?r00 ?r01 ?r02 ?z0 ?r10 ?r11 ?r12 ?z1 ?r20 ?r21 ?r22 ?z2 ?r30 ?r31 ?r32 ?z3 ?r40 ?r41 ?r42 ?z4 ?r50 ?r51 ?r52 ?z5 ?r60 ?r61 ?r62 ?z6 ?r70 ?r71 ?r72 ?z7 ?gG ?gE ?b_len ?b_abs ?b_int ?b_list ?b_enumerate ?b_isinstance ?b_tuple ?b_bool ?b_str ?b_all ?b_zip ?b_range ?b_map ?b_ValueError ?b_LookupError ?b_OverflowError ?b_KeyError ?b_IndexError ?b_TypeError ?b_RuntimeError
    (case aD0 => k_is)
    (case lD0 => k_is)
    (case cD0 => k_is)
    (case kD0 => k_is)
    (case aD1 => k_is)
    (case lD1 => k_is)
    (case cD1 => k_is)
    (case kD1 => k_is)
    (case aD2 => k_is)
    (case lD2 => k_is)
    (case cD2 => k_is)
    (case kD2 => k_is)
    (case aD3 => k_is)
    (case lD3 => k_is)
    (case cD3 => k_is)
    (case kD3 => k_is)
    (case aD4 => k_is)
    (case lD4 => k_is)
    (case cD4 => k_is)
    (case kD4 => k_is)
    (case aD5 => k_is)
    (case lD5 => k_is)
    (case cD5 => k_is)
    (case kD5 => k_is)
    (case aD6 => k_is)
    (case lD6 => k_is)
    (case cD6 => k_is)
    (case kD6 => k_is)
    (case aD7 => k_is)
    (case lD7 => k_is)
    (case cD7 => k_is)
    (case kD7 => k_is)
    (case aD8 => k_is)
    (case lD8 => k_is)
    (case cD8 => k_is)
    (case kD8 => k_is)
    (case aD9 => k_is)
    (case lD9 => k_is)
    (case cD9 => k_is)
    (case kD9 => k_is)
    (case gI0 => k_is)
    (case iI0 => k_is)
    (case yI0 => k_is)
    (case lI0 => k_is)
    (case cI0 => k_is)
    (case kI0 => k_is)
    (case qI0 => kx_is)
    (case oI0 => kx_is)
    (case sI0 => k_is)
    (case hI0 => k_is)
    (case pI0 => k_is)
    (case uI0 => k_is)
    (case vI0 => k_is)
    (case wI0 => k_is)
    (case xI0 => k_is)
    (case mI0 => k_is)
    (case tI0 => k_is)
    (case nI0 => k_is)
    (case gI1 => k_is)
    (case iI1 => k_is)
    (case yI1 => k_is)
    (case lI1 => k_is)
    (case cI1 => k_is)
    (case kI1 => k_is)
    (case qI1 => kx_is)
    (case oI1 => kx_is)
    (case sI1 => k_is)
    (case hI1 => k_is)
    (case pI1 => k_is)
    (case uI1 => k_is)
    (case vI1 => k_is)
    (case wI1 => k_is)
    (case xI1 => k_is)
    (case mI1 => k_is)
    (case tI1 => k_is)
    (case nI1 => k_is)
    (case gI2 => k_is)
    (case iI2 => k_is)
    (case yI2 => k_is)
    (case lI2 => k_is)
    (case cI2 => k_is)
    (case kI2 => k_is)
    (case qI2 => kx_is)
    (case oI2 => kx_is)
    (case sI2 => k_is)
    (case hI2 => k_is)
    (case pI2 => k_is)
    (case uI2 => k_is)
    (case vI2 => k_is)
    (case wI2 => k_is)
    (case xI2 => k_is)
    (case mI2 => k_is)
    (case gI3 => k_is)
    (case iI3 => k_is)
    (case yI3 => k_is)
    (case lI3 => k_is)
    (case cI3 => k_is)
    (case kI3 => k_is)
    (case qI3 => kx_is)
    (case oI3 => kx_is)
    (case sI3 => k_is)
    (case hI3 => k_is)
    (case pI3 => k_is)
    (case uI3 => k_is)
    (case vI3 => k_is)
    (case wI3 => k_is)
    (case xI3 => k_is)
    (case mI3 => k_is)
    (case tI3 => k_is)
    (case nI3 => k_is)
    (case gI4 => k_is)
    (case iI4 => k_is)
    (case yI4 => k_is)
    (case lI4 => k_is)
    (case cI4 => k_is)
    (case kI4 => k_is)
    (case qI4 => kx_is)
    (case oI4 => kx_is)
    (case sI4 => k_is)
    (case hI4 => k_is)
    (case pI4 => k_is)
    (case uI4 => k_is)
    (case vI4 => k_is)
    (case wI4 => k_is)
    (case xI4 => k_is)
    (case mI4 => k_is)
    (case tI4 => k_is)
    (case nI4 => k_is)
    (case gI5 => k_is)
    (case iI5 => k_is)
    (case yI5 => k_is)
    (case lI5 => k_is)
    (case cI5 => k_is)
    (case kI5 => k_is)
    (case qI5 => kx_is)
    (case oI5 => kx_is)
    (case sI5 => k_is)
    (case hI5 => k_is)
    (case pI5 => k_is)
    (case uI5 => k_is)
    (case vI5 => k_is)
    (case wI5 => k_is)
    (case xI5 => k_is)
    (case mI5 => k_is)
    (case tI5 => k_is)
    (case nI5 => k_is)
    (case gI6 => k_is)
    (case iI6 => k_is)
    (case yI6 => k_is)
    (case lI6 => k_is)
    (case cI6 => k_is)
    (case kI6 => k_is)
    (case qI6 => kx_is)
    (case oI6 => kx_is)
    (case sI6 => k_is)
    (case hI6 => k_is)
    (case pI6 => k_is)
    (case uI6 => k_is)
    (case vI6 => k_is)
    (case wI6 => k_is)
    (case xI6 => k_is)
    (case mI6 => k_is)
    (case tI6 => k_is)
    (case nI6 => k_is)
    (case gI7 => k_is)
    (case iI7 => k_is)
    (case yI7 => k_is)
    (case lI7 => k_is)
    (case cI7 => k_is)
    (case kI7 => k_is)
    (case qI7 => kx_is)
    (case oI7 => kx_is)
    (case sI7 => k_is)
    (case hI7 => k_is)
    (case pI7 => k_is)
    (case uI7 => k_is)
    (case vI7 => k_is)
    (case wI7 => k_is)
    (case xI7 => k_is)
    (case mI7 => k_is)
    (case tI7 => k_is)
    (case nI7 => k_is)
    (case cg => k_is)
    (case ct => k_is)
    (case vvVa => k_is)
    (case vvLo => k_is)
    (case vvOv => k_is)
    (case e00 => kit_is)
    (case e01 => kit_is)
    (case e02 => kit_is)
    (case e03 => kit_is)
    (case e04 => kit_is)
    (case e05 => kit_is)
    (case e06 => kit_is)
    (case e07 => kit_is)
    (case e10 => kit_is)
    (case e11 => kit_is)
    (case e12 => kit_is)
    (case e13 => kit_is)
    (case e14 => kit_is)
    (case e15 => kit_is)
    (case e16 => kit_is)
    (case e17 => kit_is)
    (case e20 => kit_is)
    (case e21 => kit_is)
    (case e22 => kit_is)
    (case e23 => kit_is)
    (case e24 => kit_is)
    (case e25 => kit_is)
    (case e26 => kit_is)
    (case e27 => kit_is)
    (case e30 => kit_is)
    (case e31 => kit_is)
    (case e32 => kit_is)
    (case e33 => kit_is)
    (case e34 => kit_is)
    (case e35 => kit_is)
    (case e36 => kit_is)
    (case e37 => kit_is)
    (case e40 => kit_is)
    (case e41 => kit_is)
    (case e42 => kit_is)
    (case e43 => kit_is)
    (case e44 => kit_is)
    (case e45 => kit_is)
    (case e46 => kit_is)
    (case e47 => kit_is)
    (case e50 => kit_is)
    (case e51 => kit_is)
    (case e52 => kit_is)
    (case e53 => kit_is)
    (case e54 => kit_is)
    (case e55 => kit_is)
    (case e56 => kit_is)
    (case e57 => kit_is)
    (case e60 => kit_is)
    (case e61 => kit_is)
    (case e62 => kit_is)
    (case e63 => kit_is)
    (case e64 => kit_is)
    (case e65 => kit_is)
    (case e66 => kit_is)
    (case e67 => kit_is)
    (case e70 => kit_is)
    (case e71 => kit_is)
    (case e72 => kit_is)
    (case e73 => kit_is)
    (case e74 => kit_is)
    (case e75 => kit_is)
    (case e76 => kit_is)
    (case e77 => kit_is)
    (case r00 => kit_is)
    (case r01 => kit_is)
    (case r02 => kit_is)
    (case z0 => kit_is)
    (case r10 => kit_is)
    (case r11 => kit_is)
    (case r12 => kit_is)
    (case z1 => kit_is)
    (case r20 => kit_is)
    (case r21 => kit_is)
    (case r22 => kit_is)
    (case z2 => kit_is)
    (case r30 => kit_is)
    (case r31 => kit_is)
    (case r32 => kit_is)
    (case z3 => kit_is)
    (case r40 => kit_is)
    (case r41 => kit_is)
    (case r42 => kit_is)
    (case z4 => kit_is)
    (case r50 => kit_is)
    (case r51 => kit_is)
    (case r52 => kit_is)
    (case z5 => kit_is)
    (case r60 => kit_is)
    (case r61 => kit_is)
    (case r62 => kit_is)
    (case z6 => kit_is)
    (case r70 => kit_is)
    (case r71 => kit_is)
    (case r72 => kit_is)
    (case z7 => kit_is)
    (case gG => k_is)
    (case gE => rfl)
    (case b_len => k_is)
    (case b_abs => k_is)
    (case b_int => k_is)
    (case b_list => k_is)
    (case b_enumerate => k_is)
    (case b_isinstance => k_is)
    (case b_tuple => k_is)
    (case b_bool => k_is)
    (case b_str => k_is)
    (case b_all => k_is)
    (case b_zip => k_is)
    (case b_range => k_is)
    (case b_map => k_is)
    (case b_ValueError => k_is)
    (case b_LookupError => k_is)
    (case b_OverflowError => k_is)
    (case b_KeyError => k_is)
    (case b_IndexError => k_is)
    (case b_TypeError => k_is)
    (case b_RuntimeError => k_is)
