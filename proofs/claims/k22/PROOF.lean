import PyProof.Rows.All
import Wide.All
import OpenK.AllK
import Wide.FinOn
import HandS.ForMost
import HandS.IsInst
import HandS.Walk
import HandS.Zip
import HandS.OwnEq
import HandS.Conv
import HandS.More
import HandS.OwnIter
import PyProof.InstNe
import KE.GoesEnum
import KE.GoesMore
import HandS.MapObj
import KE.KDictZip
import KE.GoesZip
import HandS.TupAny
import HandS.Small
import HandS.Codes
import KE.KEqDeep
import KE.KEqSeq
import HandS.Deep
import HandS.Style
import HandS.Flow
import PySem.Challenge.RW_bucketsums_k22_whole_spans
set_option Elab.async false
set_option linter.all false
set_option maxRecDepth 100000
set_option maxHeartbeats 4000000
namespace BK
open PySem PySem.Spec PyProof.Rows L2
section
variable {X : Cx} {CX : CXT} {n : Nat} {f C : Addr} {fd : FuncData} {ps : List Str} {sp : Sp} {E : XK} {A : Around} {pins : List (Addr × Obj)} {σ : L2.St} {H : Hp} {s : Shared}
/-- a def's promise, called from somewhere below the running body -/
theorem run_at {Q : VK} {us : List Value} {vs : List V} (sb : Sub X n A) (F : FnOk X.prog X.w X.K X.mg X.base CX n f fd ps sp) (hb : Binds X.K fd ps []) (hx : Passes CX X E)
    (I : Inv X pins σ H s) (r : Vals vs us) (h : sp vs H Q E) : wpAny (model X.prog X.w) A (call (.ref f) us) (EP X pins σ Q) X.xe s := by
  have e0 : Env0 X.prog X.w X.K X.mg X.base A X.stack s H := by
    have e := I.env0
    exact ⟨by rw [sb.fr]; exact e.frames, e.mod, e.bs, e.bsz, e.funs, e.frf, e.hok, e.bare⟩
  have hl := F.len _ _ _ _ h
  refine wpAny_call (codeAny_mono (F.run A X.stack s H ⟨us, []⟩ us vs Q E sb.room e0 (by
    have := hb s us I.kIn (by rw [List.append_nil, ← r.length]; exact hl)
    rwa [List.append_nil] at this) r h) fun r s' hq => ?_)
  cases r with
  | error e => exact hx pins σ H s e s' I hq
  | ok fl =>
    cases fl with
    | ret u => exact I.after hq
    | next => exact False.elim hq
    | brk => exact False.elim hq
    | cont => exact False.elim hq

/-- len(o), o of an own class with __len__ -/
def rLenOwn (C : Addr) (sp : Sp) (E : XK) : List V → Hp → VK → Prop := fun xs H Q => ∃ a dx fs, xs = [.ref a] ∧ H a = some (.ins C dx fs) ∧
  sp [.ref a] H (fun v H' => ∃ k : Int, v = .int k ∧ 0 ≤ k ∧ k < 2 ^ 63 ∧ Q (.int k) H') E
theorem call_lenOwn (F : FnOk X.prog X.w X.K X.mg X.base CX n f fd ps sp) (hr : Room (n + 1) X.A) (hs : PySem.W.findIn X.K (.ref C) "__len__" = some (some (.ref f))) (hf : PySem.W.isFn X.K (.ref f) = true)
    (hb : Binds X.K fd ps []) (hx : Passes CX X E) : CallR X (.builtin "len") (rLenOwn C sp E) := by
  intro pins s σ H xs us Q I r h
  obtain ⟨a, dx, fs, rfl, ha, hsp⟩ := h
  obtain ⟨u, rfl, ru⟩ := vals1 r
  cases ru
  obtain ⟨mA, J, _⟩ := ins_get I.hok ha
  obtain ⟨od, J, _⟩ := J.look
  obtain ⟨m, hF⟩ := I.fr
  refine PySem.W.len_K hF I.ok.mod.kin J hs hf ?_
  refine wpAny_mono (run_at (vs := [.ref a]) ⟨hr.in1, rfl⟩ F hb hx I (.cons rfl .nil) hsp) (fun u s' q => ?_) fun _ _ x => x
  obtain ⟨v, H', I', rv, k, rfl, h0, h1, q⟩ := q
  obtain ⟨t, rfl⟩ := rv
  exact ⟨⟨h0, h1⟩, .int k, H', I'.tok _, ⟨_, rfl⟩, q⟩

/-- a == b by an own __eq__ that gives a bool -/
def rEqOwn (C : Addr) (sp : Sp) (E : XK) : R2 := fun x y H Q => ∃ a b dx dy fs gs, x = .ref a ∧ y = .ref b ∧ H a = some (.ins C dx fs) ∧ H b = some (.ins C dy gs) ∧
  sp [.ref a, .ref b] H (fun v H' => ∃ k, v = .bl k ∧ Q (.bl k) H') E
theorem op_eqOwn (F : FnOk X.prog X.w X.K X.mg X.base CX n f fd ps sp) (hr : Room n X.A) (hs : PySem.W.findIn X.K (.ref C) "__eq__" = some (some (.ref f))) (hf : PySem.W.isFn X.K (.ref f) = true)
    (hb : Binds X.K fd ps []) (hx : Passes CX X E) : OpR X (compareOp .Eq) (rEqOwn C sp E) := by
  intro pins s σ H x y v u Q I rx ry hq
  obtain ⟨a, b, dx, dy, fs, gs, rfl, rfl, ha, hb', hsp⟩ := hq
  cases rx
  cases ry
  obtain ⟨mA, J, _⟩ := ins_get I.hok ha
  obtain ⟨mB, J', _⟩ := ins_get I.hok hb'
  obtain ⟨od, J, _⟩ := J.look
  obtain ⟨od', J', _⟩ := J'.look
  obtain ⟨m, hF⟩ := I.fr
  show wpAny (model X.prog X.w) X.A (richCompare .Eq (.ref a) (.ref b)) (EP X pins σ Q) X.xe s
  refine PySem.W.cmp_K (op := .Eq) (tb := .ref C) hr.units0 hF I.ok.mod.kin J J'.type (by simp [PySem.W.notFirst]) hs hf ?_
  refine wpAny_mono (run_at (vs := [.ref a, .ref b]) ⟨hr, rfl⟩ F hb hx I (.cons rfl (.cons rfl .nil)) hsp) (fun u s' q => ?_) fun _ _ x => x
  obtain ⟨v, H', I', rv, k, rfl, q⟩ := q
  cases rv
  exact ⟨.bl k, H', I', rfl, q⟩
end
section
variable {prog : Program} {w : World} {A : Around} {E : Value → Shared → Prop} {s : Shared} {K : PySem.W.Frag} {x C L f : Addr} {h₀ : Heap} {m : Str → Option Value} {ox : Obj} {od : Option Obj} {b tb : Value}
  {nm q : Str} {N : Addr} {bs bm : List Value} {hdct : Bool} {sn : List Str} {sub : List Value} {ab : Bool} {col : Option Bool} {dd : Option Addr} {k0 k1 k2 k3 k5 : Option Value} {newId : String}
open PySem.W
theorem ifBoundB_K {M : Model} {name : Str} {id : String} {args : List Value} {Q : Option Value → Shared → Prop} (X : K.In s.heap) (I : InstAt s.heap x ox C od) (hs : findIn K (.ref C) name = some (some (.builtin id))) (S : Slot "object" name id)
    (h : wpAny M A (call (.builtin id) (.ref x :: args)) (fun v => Q (some v)) E s) : wpAny M A (callSpecialIfBound? (.ref x) name args) Q E s := by
  simp only [callSpecialIfBound?, bindSpecialIfBound?]
  refine wpAny_holding (wpAny_bind (wpAny_bind (wpAny_bind (I.type.here ((looks_findIn X hs).here ?_)))))
  simp only [S.bind]
  refine wpAny_bind (wpAny_askSetting (wpAny_ite ?_))
  have fin : wpAny M A (call (.builtin id) ([.ref x] ++ args) >>= fun v => pure (some v)) Q E s := wpAny_bind (wpAny_mono h (fun v s' h' => wpAny_pure h') fun _ _ h' => h')
  split
  · exact wpAny_bind (wpAny_pure (wpAny_pure (by exact fin)))
  · exact wpAny_tryCatch (wpAny_bind (wpAny_pure (wpAny_pure (by exact fin))))
theorem objNe_K {Q : Fin → Shared → Prop} (hu : A.units < cLine) (X : K.In s.heap) (I : InstAt s.heap x ox C od) (he : findIn K (.ref C) "__eq__" = some (some (.ref f))) (hf : isFn K (.ref f) = true)
    (h : wpAny (model prog w) A (call (.ref f) [.ref x, b]) (fun v s' => ∃ k, v = .bool k ∧ Q (.done (.ret (.bool (!k)))) s') E s) : wpAny (model prog w) A (Builtin.«object.__ne__» ⟨[.ref x, b], []⟩) Q E s := by
  obtain ⟨hh, g, d, t, os⟩ := s
  unfold Builtin.«object.__ne__»
  repeat (first
    | with_reducible refine wpAny_cRoomFor hu ?_
    | (refine wpAny_bind (m := callSpecialIfBound? (.ref x) (Str.ofString "__eq__") [b])
        (ifBound_K X I he hf (wpAny_mono h (fun r s' hr => by
          obtain ⟨k, rfl, hq⟩ := hr
          repeat (first | exact hq | exact wpAny_pure hq | exact wpAny_truthy_bool hq | (refine wpAny_bind (m := truthy (.bool _)) (wpAny_truthy_bool ?_)) | wp_step)) fun _ _ e => e)))
    | wp_step)
theorem try_ne_K {Q : Option Value → Shared → Prop} (hu : A.units + 1 < cLine) (X : K.In s.heap) (I : InstAt s.heap x ox C od)
    (hs : findIn K (.ref C) "__ne__" = some (some (.builtin "object.__ne__"))) (he : findIn K (.ref C) "__eq__" = some (some (.ref f))) (hf : isFn K (.ref f) = true)
    (hC : K.lookup C = some (excClassObj nm q C N bs bm hdct sn sub ab col dd k0 k1 k2 k3 k5 newId)) (hob : bm.contains (.type "object") = true)
    (h : wpAny (model prog w) A.in1 (call (.ref f) [.ref x, b]) (fun v s' => ∃ k, v = .bool k ∧ Q (some (.bool (!k))) s') E s) : wpAny (model prog w) A (tryCompare (.ref x) "__ne__" b) Q E s := by
  obtain ⟨hh, g, d, t, os⟩ := s
  simp only [tryCompare]
  refine wpAny_bind (ifBoundB_K X I hs PySem.F.cmp_object.ne (wpAny_call (codeAny_call_builtin PySem.F.cmp_object.ne.plain PySem.F.cmpEntry_ne
    (wpAny_check_slot_inst PySem.F.cmpKind_ne PySem.F.cmpSplit_ne (PySem.F.cmpArgs_ne _ _) hob I.at_ I.cls (X _ _ hC)
      (objNe_K (A := A.in1) hu X I he hf (wpAny_mono h (fun v s' hv => ?_) fun _ _ e => e))))))
  obtain ⟨k, rfl, hq⟩ := hv
  first | exact ⟨k, rfl, wpAny_pure hq⟩ | exact ⟨k, rfl, wpAny_pure (wpAny_pure hq)⟩ | exact ⟨k, rfl, hq⟩
theorem ne_K {Q : Value → Shared → Prop} (hu : A.units + 1 < cLine) (F : Fr h₀ L s.heap m) (X₀ : K.In h₀) (I : InstAt s.heap x ox C od) (hb : Looks (model prog w) s.heap (typeOf b) (.ref C))
    (hs : findIn K (.ref C) "__ne__" = some (some (.builtin "object.__ne__"))) (he : findIn K (.ref C) "__eq__" = some (some (.ref f))) (hf : isFn K (.ref f) = true)
    (hC : K.lookup C = some (excClassObj nm q C N bs bm hdct sn sub ab col dd k0 k1 k2 k3 k5 newId)) (hob : bm.contains (.type "object") = true)
    (h : wpAny (model prog w) A.in1 (call (.ref f) [.ref x, b]) (fun v s' => ∃ k, v = .bool k ∧ Q (.bool (!k)) s') E s) : wpAny (model prog w) A (richCompare .NotEq (.ref x) b) Q E s := by
  have X := X₀.keeps F.keep
  unfold richCompare
  simp only [oneThing_ref]
  refine wpAny_holding (wpAny_bind (wpAny_cRoomFor (Nat.lt_of_succ_lt hu) ?_))
  rw [cmpInfo_NotEq]
  dsimp only
  refine wpAny_bind (I.type.here (wpAny_bind (hb.here ?_)))
  rw [show (Value.ref C != Value.ref C) = false from by simp]
  simp only [Bool.false_eq_true, if_false]
  refine wpAny_bind (wpAny_pure ?_)
  simp only [Bool.false_eq_true, if_false]
  refine wpAny_bind (try_ne_K hu X I hs he hf hC hob (wpAny_mono h (fun v s' hv => ?_) fun _ _ e => e))
  obtain ⟨b, rfl, hq⟩ := hv
  first | exact ⟨b, rfl, wpAny_pure hq⟩ | exact ⟨b, rfl, wpAny_pure (wpAny_pure hq)⟩
end
section
variable {X : Cx} {CX : CXT} {n : Nat} {f C : Addr} {fd : FuncData} {ps : List Str} {sp : Sp} {E : XK} {A : Around} {pins : List (Addr × Obj)} {σ : L2.St} {H : Hp} {s : Shared}
  {nm q : Str} {N : Addr} {bs bm : List Value} {hdct : Bool} {sn : List Str} {sub : List Value} {ab : Bool} {col : Option Bool} {dd : Option Addr} {k0 k1 k2 k3 k5 : Option Value} {newId : String}
/-- a != b by an own __eq__ that gives a bool -/
def rNeOwn (C : Addr) (sp : Sp) (E : XK) : R2 := fun x y H Q => ∃ a b dx dy fs gs, x = .ref a ∧ y = .ref b ∧ H a = some (.ins C dx fs) ∧ H b = some (.ins C dy gs) ∧
  sp [.ref a, .ref b] H (fun v H' => ∃ k, v = .bl k ∧ Q (.bl (!k)) H') E
theorem op_neOwn (F : FnOk X.prog X.w X.K X.mg X.base CX n f fd ps sp) (hr : Room (n + 1) X.A) (hs : PySem.W.findIn X.K (.ref C) "__ne__" = some (some (.builtin "object.__ne__"))) (he : PySem.W.findIn X.K (.ref C) "__eq__" = some (some (.ref f))) (hf : PySem.W.isFn X.K (.ref f) = true)
    (hC : X.K.lookup C = some (excClassObj nm q C N bs bm hdct sn sub ab col dd k0 k1 k2 k3 k5 newId)) (hob : bm.contains (.type "object") = true)
    (hb : Binds X.K fd ps []) (hx : Passes CX X E) : OpR X (compareOp .NotEq) (rNeOwn C sp E) := by
  intro pins s σ H x y v u Q I rx ry hq
  obtain ⟨a, b, dx, dy, fs, gs, rfl, rfl, ha, hb', hsp⟩ := hq
  cases rx
  cases ry
  obtain ⟨mA, J, _⟩ := ins_get I.hok ha
  obtain ⟨mB, J', _⟩ := ins_get I.hok hb'
  obtain ⟨od, J, _⟩ := J.look
  obtain ⟨od', J', _⟩ := J'.look
  obtain ⟨m, hF⟩ := I.fr
  show wpAny (model X.prog X.w) X.A (richCompare .NotEq (.ref a) (.ref b)) (EP X pins σ Q) X.xe s
  refine ne_K (by have := hr.units; omega) hF I.ok.mod.kin J J'.type hs he hf hC hob ?_
  refine wpAny_mono (run_at (vs := [.ref a, .ref b]) ⟨hr.in1, rfl⟩ F hb hx I (.cons rfl (.cons rfl .nil)) hsp) (fun u s' q => ?_) fun _ _ x => x
  obtain ⟨v, H', I', rv, k, rfl, q⟩ := q
  cases rv
  exact ⟨k, rfl, .bl (!k), H', I', rfl, q⟩

/-- o[i] by an own __getitem__ -/
def rIxOwn (C : Addr) (sp : Sp) (E : XK) : R2 := fun x y H Q => ∃ a dx fs, x = .ref a ∧ H a = some (.ins C dx fs) ∧ sp [.ref a, y] H Q E
theorem pe_ixOwn {a b : Expr} {ta tb : TE} {pos : Pos} (F : FnOk X.prog X.w X.K X.mg X.base CX n f fd ps sp) (hr : Room (n + 1) X.A) (hs : PySem.W.findIn X.K (.ref C) "__getitem__" = some (some (.ref f))) (hfn : PySem.W.fnIn X.K f = true) (hf : PySem.W.isFn X.K (.ref f) = true)
    (hb : Binds X.K fd ps []) (hx : Passes CX X E) (ha : PE X a ta) (hbb : PE X b tb)
    (hsl : ∀ x i, subscripted b true (.ref x) i = runValue (.builtin "lifetime.subscript" ⟨[.ref x, i], []⟩) := by intro _ _; rfl) : PE X (.Subscript a b pos) (tOp (rIxOwn C sp E) ta tb) := by
  refine ⟨fun pins s σ H Q I h => ?_⟩
  refine Subscript_ (binT ha hbb I h fun v u s2 x y H2 I2 rx ry q => ?_)
  obtain ⟨p, dx, fs, rfl, hp, hsp⟩ := q
  cases rx
  obtain ⟨mA, J, _⟩ := ins_get I2.hok hp
  obtain ⟨od, J, _⟩ := J.look
  obtain ⟨m, hF⟩ := I2.fr
  exact PySem.W.sub_K hF I2.ok.mod.kin J hs hfn hf (run_at (vs := [.ref p, y]) ⟨hr.in1, rfl⟩ F hb hx I2 (.cons rfl (.cons ry .nil)) hsp) (hsl _ _)

/-- all or some of a list or tuple of ints; sum of a tuple of ints -/
theorem PI.or {tg it : Expr} {w1 w2 : TI} (h1 : PI X tg it w1) (h2 : PI X tg it w2) : PI X tg it (fun σ H R => w1 σ H R ∨ w2 σ H R) :=
  ⟨fun pins s σ H R I h => h.elim (h1.run pins s σ H R I) (h2.run pins s σ H R I)⟩
end
end BK
namespace BK
open PySem PySem.Spec PyProof.Rows L2 RZ
section
variable {prog : Program} {w : World} {A : Around} {E : Value → Shared → Prop} {s : Shared} {l : Addr} {xs : Array (Int × Tok)} {its : List Value} {ns : List Int}
theorem sumT_raw {Q : Value → Shared → Prop} (hh : A.handled = none) (hl : s.heap.IsTuple l its.toArray) (hi : IntsAre its ns)
    (h : ∀ h' tk t', (∀ b o, s.heap.get? b = some o → h'.get? b = some o) → Q (.int ns.sum t') { s with heap := h', toks := tk }) : wpAny (model prog w) A (call (.builtin "sum") [.ref l]) Q E s := by
  obtain ⟨xs, e⟩ := hi.allInts.items
  have hn : numsOf (intItems xs).toList = ns := by rw [← e]; exact hi.numsOf
  rw [nums_intItems] at hn
  rw [e] at hl
  have hlt : l < s.heap.objs.size := by obtain ⟨_, e, _⟩ := hl; exact Heap.lt_size e
  refine call_sum_walkG (wpAny_pyIter_tuple hl ⟨_, _, _, _, _, _, numAt xs, rfl, Walks.tuple (A := A.in1) hh _ l (Nat.ne_of_lt hlt) (intItems xs), ⟨⟨_, Heap.get?_push_size _ rfl, rfl, rfl⟩, hl.push _⟩, (fun b hb => ?_), (fun _ _ => intItems_at), fun h' tk t' hk => ?_⟩)
  · show b < (s.heap.push _).objs.size
    rw [Heap.size_push]
    rcases List.mem_cons.mp hb with rfl | hb
    · exact Nat.lt_succ_self _
    · rcases List.mem_cons.mp hb with rfl | hb
      · exact Nat.lt_succ_of_lt hlt
      · cases hb
  · have := h h' tk t' fun b o q => hk b o (fun hm => by
      rcases List.mem_cons.mp hm with e1 | hm
      · exact absurd (e1 ▸ Heap.lt_size q) (Nat.lt_irrefl _)
      · cases hm) (Heap.get?_push_of_some _ q)
    rw [preSum_eq, List.take_of_length_le (by simp [intItems]), hn]
    exact this
set_option maxHeartbeats 8000000 in
theorem meets_enumerate_newT (l : Addr) (items : Array Value) :
    Meets (Builtin.«enumerate.__new__» ⟨[.type "enumerate", .ref l], []⟩) (fun _ R s => s.heap.IsTuple l items ∧
      R (.ok (.ret (.ref (s.heap.push { cls := .type "tuple_iterator", data := .fields #[.ref l, .int 0 0] }).objs.size)))
        { s with heap := (s.heap.push { cls := .type "tuple_iterator", data := .fields #[.ref l, .int 0 0] }).push { cls := .type "enumerate", data := .fields #[.none, .bool false, .ref s.heap.objs.size, rawInt 0, .none, .none] } }) :=
  .of_wp fun prog w A R s h => by
    obtain ⟨hp, g, d, tk, os⟩ := s; obtain ⟨hl, h⟩ := h
    have hsub := sub_enumerate
    have q1 : ∀ {A' : Around} {E : Value → Shared → Prop} {Q : Value → Shared → Prop}, Q (.ref hp.objs.size) ⟨hp.push { cls := .type "tuple_iterator", data := .fields #[.ref l, .int 0 0] }, g, d, tk, os⟩ → wpAny (model prog w) A' (pyIter (.ref l)) Q E ⟨hp, g, d, tk, os⟩ :=
      fun q => wpAny_pyIter_tuple (s := ⟨hp, g, d, tk, os⟩) hl q
    wp_walk using q1
    refine wpAny_stack_any fun st => wpAny_pure ?_
    split
    · rename_i c _ _ _ _ _
      cases (c == Value.type "enumerate")
      · wp_walk using q1
        exact ⟨_, rfl, h⟩
      · wp_walk using q1
        exact ⟨_, rfl, h⟩
    · wp_walk using q1
      exact ⟨_, rfl, h⟩
theorem call_enumerate_tuple {items : Array Value} {Q : Value → Shared → Prop} (hL : s.heap.IsTuple l items)
    (h : ∀ h', IsEnum h' (s.heap.objs.size + 1) s.heap.objs.size 0 .none → h'.IsTupleIter s.heap.objs.size l 0 → h'.objs.size = s.heap.objs.size + 2 →
      (∀ b o, s.heap.get? b = some o → h'.get? b = some o) → Q (.ref (s.heap.objs.size + 1)) { s with heap := h' }) :
    wpAny (model prog w) A (call (.type "enumerate") [.ref l]) Q E s := by
  refine callType_new F.called_enumerate (by decide) (F.typeCall_enumerate_1 _) (F.newCall_enumerate_1 _) (fun obj => F.args_object_init_2 obj _) F.entry_enumerate_new
    (meets_enumerate_newT l items) ⟨hL, ?_⟩
  have hz : (s.heap.push { cls := .type "tuple_iterator", data := .fields #[.ref l, .int 0 0] }).objs.size = s.heap.objs.size + 1 := Heap.size_push ..
  show _ ∧ _
  rw [hz]
  have he : IsEnum ((s.heap.push { cls := .type "tuple_iterator", data := .fields #[.ref l, .int 0 0] }).push
      { cls := .type "enumerate", data := .fields #[.none, .bool false, .ref s.heap.objs.size, rawInt 0, .none, .none] }) (s.heap.objs.size + 1) s.heap.objs.size 0 .none := by
    have := Heap.get?_push_size (s.heap.push { cls := .type "tuple_iterator", data := .fields #[.ref l, .int 0 0] })
      (o := { cls := .type "enumerate", data := .fields #[.none, .bool false, .ref s.heap.objs.size, rawInt 0, .none, .none] }) rfl
    rw [hz] at this; exact this
  refine ⟨⟨_, he, rfl⟩, h _ he ⟨_, Heap.get?_push_of_some _ (Heap.get?_push_size _ rfl), rfl, rfl⟩ (by rw [Heap.size_push, hz]) fun b o x => Heap.get?_push_of_some _ (Heap.get?_push_of_some _ x)⟩
theorem enumT_end {e it l : Addr} {i : Nat} {items : Array Value} {old : Value} {Q : Option Value → Shared → Prop} (hh : A.handled = none)
    (he : IsEnum s.heap e it i old) (hit : s.heap.IsTupleIter it l i) (hl : s.heap.IsTuple l items) (hx : items[i]? = none)
    (hQ : ∀ h', Heap.ExtBut it s.heap h' → Q none { s with heap := h' }) : wpAny (model prog w) A (pyNext (.ref e)) Q E s := by
  have hT : s.TypeIs (.ref e) "enumerate" := ⟨_, he, rfl⟩
  unfold pyNext
  refine wpAny_bind (wpAny_attempt (wpAny_callSpecial?_slot (name := Str.ofString "__next__") hT F.slot_enumerate_next
    (wpAny_call_entry F.slot_enumerate_next hT F.entry_enumerate_next ?_ (F.args_enumerate_next_1 _))))
  show wpAny _ _ (PySem.field (.ref e) 2 >>= _) _ _ _
  refine wpAny_bind (wpAny_field he rfl (x := .ref it) rfl ?_)
  refine wpAny_bind (wpAny_nextOf_tuple_end hh hit hl hx fun h' x he' hx' => ?_)
  obtain ⟨o, ho, hc⟩ := hx'
  refine wpAny_bind (wpAny_isInstance (T := "StopIteration") (b := true) ⟨o, ho, hc⟩ isSubtype_stop ?_)
  exact wpAny_pure (hQ _ he')
end
section
variable {X : Cx}
/-- sum(t) of a tuple of ints -/
def rSumT (K : PySem.W.Frag) : List V → Hp → VK → Prop := fun vs H Q => ∃ (a : Addr) (ns : List Int), vs = [V.ref a] ∧ SqT K H a (ns.map V.int) ∧ Q (.int ns.sum) H
theorem cr_sumT (hc : X.calm = true) : CallR X (.builtin "sum") (rSumT X.K) := by
  intro pins s σ H vs us Q I r h
  obtain ⟨a, ns, rfl, hs, q⟩ := h
  obtain ⟨its, rv, hl, _⟩ := I.tuple hs
  rw [Vals.ref1 r]
  exact sumT_raw (I.ok.hd hc) (show s.heap.IsTuple a its.toArray from hl) rv.ints fun h' tk t' hk => ⟨.int _, H, I.kept hk, ⟨_, rfl⟩, q⟩
/-- enumerate(tuple) -/
def IteT (K : PySem.W.Frag) (a : Addr) : It :=
  ⟨fun i H => ∃ (xs : List V) (x : V), SqT K H a xs ∧ xs[i]? = some x, fun i H v H' => ∃ T x, v = .ref T ∧ H T = none ∧ H' = upd H T (.tup [.int (i : Nat), x]) ∧ ∀ xs, SqT K H a xs → xs[i]? = some x, fun i H => ∃ xs : List V, SqT K H a xs ∧ xs.length ≤ i⟩
theorem turn_enumT {P : Program} {w : World} {K : PySem.W.Frag} {elts : List Expr} {kk : Nat} {tpos : Pos} (a e it : Addr) :
    Turn P w K (.Tuple elts kk tpos) (IteT K a) [e, it] e (fun i h => (∃ old, IsEnum h e it ((i : Nat) : Int) old) ∧ h.IsTupleIter it a i ∧ e ≠ it ∧ a ≠ it ∧ a ≠ e) where
  mem := by simp
  obj := fun i h st b hb => by
    obtain ⟨⟨old, he⟩, ⟨o, ho, hc, hd⟩, _⟩ := st
    have e' : b = e ∨ b = it := by simpa using hb
    rcases e' with z | z
    · rw [z]; exact ⟨_, he, fun v q => nomatch q⟩
    · rw [z]; exact ⟨o, ho, fun v q => by rw [hd] at q; cases q⟩
  keep := fun i h h' st k => let ⟨⟨old, he⟩, hi, hne⟩ := st; ⟨⟨old, k e (by simp) _ he⟩, hi.at fun o q => k it (by simp) o q, hne⟩
  item := by
    intro X hP hw hK hc i pins s σ H E I hf st hg
    subst hP hw hK
    obtain ⟨⟨old, he⟩, hit, hne, hai, hae⟩ := st
    obtain ⟨xs, x, hq, hx⟩ := hg
    obtain ⟨its, rv, p, hz⟩ := I.tuple hq
    obtain ⟨u, hu, ru⟩ := rv.get hx
    have hel : e < s.heap.objs.size := Heap.lt_size he
    have hil : it < s.heap.objs.size := by obtain ⟨_, q, _⟩ := hit; exact Heap.lt_size q
    have hlt : i < its.toArray.size := by
      have := (List.getElem?_eq_some_iff.mp hu).1
      simpa using this
    have p' : s.heap.IsTuple a its.toArray := p
    refine wpAny_pyNext_enum_itemC (n := its.toArray.size) (fp := [it, a]) (Draws.tuple (prog := X.prog) (w := X.w) (A := X.A.in1) (I.ok.hd hc) it a hai its.toArray) he ⟨hit, p'⟩ hlt hne (by simp [hne, Ne.symm hae]) fun u' h' tk hu' ho hit' hT hsz hk => ?_
    have eu : u' = u := by
      have h1 : its[i]? = some u' := by simpa using hu'
      rw [hu] at h1
      exact (Option.some.inj h1).symm
    subst eu
    refine ⟨_, rfl, wpAny_letOwnedTupleGo_enum (s := { s with heap := h', toks := tk + 1 }) ho fun h'' he' sb => ?_⟩
    have hT2 : h''.get? s.heap.objs.size = some { cls := .type "tuple", data := .seq #[.int i tk, u'] } := (sb.2 _ (Nat.ne_of_gt hel)).trans hT
    have new : ObjOk X.prog X.w (upd H s.heap.objs.size (.tup [.int (i : Nat), x])) h'' s.heap.objs.size (.tup [.int (i : Nat), x]) :=
      ⟨by show 2 ≤ sizeLine; decide, [.int i tk, u'], .cons ⟨_, rfl⟩ (.cons ru .nil), ⟨_, hT2, rfl, _, rfl⟩⟩
    have I1 : Inv X pins σ (upd H s.heap.objs.size (.tup [.int (i : Nat), x])) { s with heap := h'', toks := tk + 1 } :=
      I.turnedNew (ch := [e, it]) (fun b ob hb q => (sb.2 b (fun z => hb (by simp [z]))).trans (hk b ob (fun z => hb (by simp [z])) (fun z => hb (by simp [z])) q)) hf (Nat.le_refl _) new
    refine ⟨.ref s.heap.objs.size, _, I1, rfl, ⟨_, x, rfl, I.hok.fresh (Nat.le_refl _), rfl, fun ys hy => by rw [I.tuple_inj hy hq]; exact hx⟩, ⟨⟨u', ?_⟩, hit'.1.at fun o q => (sb.2 it (Ne.symm hne)).trans q, hne, hai, hae⟩, fun b hb => ?_⟩
    · have e1 : ((i + 1 : Nat) : Int) = (i : Int) + 1 := by omega
      rw [e1]; exact he'
    · have hb' : b < s.heap.objs.size := by
        have e' : b = e ∨ b = it := by simpa using hb
        rcases e' with z | z
        · rw [z]; exact hel
        · rw [z]; exact hil
      rw [upd_ne (Nat.ne_of_lt hb')]
      exact (hf b hb).1
  done := by
    intro X hP hw hK hc i pins s σ H E I hf st hg
    subst hP hw hK
    obtain ⟨⟨old, he⟩, hit, hne, hai, hae⟩ := st
    obtain ⟨xs, hq, hx⟩ := hg
    obtain ⟨its, rv, p, hz⟩ := I.tuple hq
    obtain ⟨f0, f1, f2, f3, f4, f5⟩ := hf it (by simp)
    have hl := rv.length
    have hx' : its.toArray[i]? = none := by simp; omega
    exact enumT_end (I.ok.hd hc) he hit (show s.heap.IsTuple a its.toArray from p) hx' fun h' eb => ⟨rfl, I.turned (t' := s.toks) (fun b o hb q => eb b o hb q) f0 f1 f3 f4 f5⟩
  self := fun A i s Q E st h => let ⟨⟨_, he⟩, _⟩ := st; wpAny_pyIter_enum he h
def iEnumT (K : PySem.W.Frag) (ta : TA) : TI := fun σ H R => ta σ H fun vs H1 => ∃ a xs, vs = [.ref a] ∧ SqT K H1 a xs ∧ R (IteT K a) H1
theorem pi_enumT {X : Cx} {e : Expr} {ta : TA} {p pos tpos : Pos} {elts : List Expr} {kk : Nat} (hg : Gl X "enumerate") (hm : X.mg "enumerate" = none) (ha : PA X [e] ta) (hs : starEach [e] X.env = [(false, eval e X.env)] := by rfl) :
    PI X (.Tuple elts kk tpos) (.Call (.Name "enumerate" p) [e] [] pos) (iEnumT X.K ta) := by
  refine ⟨fun pins s σ H R I h => ?_⟩
  refine Call_ (ld_blt I hg hm boot_enumerate (PyProof.Rows.callWith_type1 (thn (ha.run pos pins s σ H _ I h) fun us s1 ⟨vs, H1, I1, r1, q1⟩ => ?_) hs rfl))
  obtain ⟨a, xs, ex, hq, q⟩ := q1
  subst ex
  cases r1 with
  | cons r rr =>
    cases rr
    cases r
    obtain ⟨its, rv, p', hz⟩ := I1.tuple hq
    have p2 : s1.heap.IsTuple a its.toArray := p'
    have hlt : a < s1.heap.objs.size := by obtain ⟨_, q, _⟩ := id p2; exact Heap.lt_size q
    refine call_enumerate_tuple p2 fun h' he hit hsz hk => wpAny_pyIter_enum he ?_
    have I2 : Inv X pins σ H1 { s1 with heap := h' } := I1.kept (t' := s1.toks) hk
    refine ⟨s1.heap.objs.size + 1, [s1.heap.objs.size + 1, s1.heap.objs.size], _, _, H1, rfl, I2, turn_enumT a (s1.heap.objs.size + 1) s1.heap.objs.size, ⟨⟨.none, he⟩, hit, Nat.succ_ne_self _, Nat.ne_of_lt hlt, Nat.ne_of_lt (Nat.lt_succ_of_lt hlt)⟩, fun b hb => ?_, q⟩
    have e' : b = s1.heap.objs.size + 1 ∨ b = s1.heap.objs.size := by simpa using hb
    have hle : s1.heap.objs.size ≤ b := by
      rcases e' with z | z
      · rw [z]; exact Nat.le_add_right _ _
      · rw [z]; exact Nat.le_refl _
    exact I1.fpOk hle (I1.hok.fresh hle)
theorem walk_enumT {K : PySem.W.Frag} {a : Addr} {xs : List V} : Walk (IteT K a) xs.length (fun H => SqT K H a xs) (YPair (fun i => some (.int (i : Nat))) (fun i => xs[i]?)) := by
  refine ⟨fun i _ hi q => ⟨xs, xs[i], q, by simp [hi]⟩, fun _ q => ⟨xs, q, Nat.le_refl _⟩, fun i H v H' _ q y => ?_⟩
  obtain ⟨T, x, h1, h2, h3, h4⟩ := y
  exact ⟨T, .int (i : Nat), x, h1, h2, h3, rfl, h4 xs q⟩
theorem walk_zipT {K : PySem.W.Frag} {a b : Addr} {xs ys : List V} {n : Nat} (hn : n = min xs.length ys.length) : Walk (ItzT K a b) n (fun H => SqT K H a xs ∧ SqT K H b ys) (YPair (fun i => xs[i]?) (fun i => ys[i]?)) := by
  subst hn
  refine ⟨fun i _ hi q => ?_, fun _ q => ⟨xs, ys, q.1, q.2, by omega⟩, fun i H v H' _ q y => ?_⟩
  · have h1 : i < xs.length := by omega
    have h2 : i < ys.length := by omega
    exact ⟨xs, ys, xs[i], ys[i], q.1, q.2, by simp [h1], by simp [h2]⟩
  · obtain ⟨T, x, z, h1, h2, h3, h4, h5⟩ := y
    exact ⟨T, x, z, h1, h2, h3, h4 xs q.1, h5 ys q.2⟩
end
end BK
namespace BK
open PySem PySem.Spec PyProof.Rows L2 RZ
section
variable {prog : Program} {w : World} {A : Around} {E : Value → Shared → Prop} {s : Shared} {z TI TO i1 i2 : Addr} {fp1 fp2 : List Addr} {n1 n2 i : Nat} {P1 P2 : Nat → Value → Prop} {St1 St2 : Nat → Heap → Prop} {a1 a2 : Value}
open PySem.W
theorem zipD_next_held {Q : Value → Shared → Prop} {T : Addr} {f : Bool} {oT : Obj} (S : ZipSep2 z TI TO i1 i2 fp1 fp2) (D1 : Draws prog w A i1 fp1 n1 P1 St1) (D2 : Draws prog w A i2 fp2 n2 P2 St2)
    (hz : IsZipHeld s.heap z TI TO T f) (hT : s.heap.get? T = some oT) (hTI : IsTupOf2 s.heap TI (.ref i1) (.ref i2)) (st1 : St1 i s.heap) (st2 : St2 i s.heap) (l1 : i < n1) (l2 : i < n2)
    (hQ : ∀ x1 x2 h' tk, P1 i x1 → P2 i x2 → IsZipHeld h' z TI TO T true → St1 (i + 1) h' → St2 (i + 1) h' → IsTupOf2 h' s.heap.objs.size x1 x2 →
      (∀ c o, c ≠ z → c ≠ i1 → c ≠ i2 → s.heap.get? c = some o → h'.get? c = some o) → Q (.ref s.heap.objs.size) { s with heap := h', toks := tk }) :
    wpAny (model prog w) A (Builtin.«zip.__next__» ⟨[.ref z], []⟩) (fun fin s' => ∃ v, fin = .done (.ret v) ∧ Q v s') E s := by
  obtain ⟨hp, g, d, tk0, os⟩ := s
  show wpAny _ _ (PySem.field (.ref z) 2 >>= _) _ _ _
  refine wpAny_bind (wpAny_field hz rfl (x := .bool false) rfl ?_)
  show wpAny _ _ (PySem.field (.ref z) 3 >>= _) _ _ _
  refine wpAny_bind (wpAny_field hz rfl (x := .ref TI) rfl ?_)
  refine wpAny_bind (wpAny_seqItems hTI rfl ?_)
  show wpAny _ _ (Builtin.SmallTypes.ownedTupleIsFree (.ref z) >>= _) _ _ _
  refine wpAny_bind (wpAny_tupleHeld_zip hz hT fun h₁ hz₁ hs₁ => ?_)
  simp only [Bool.false_eq_true, if_false]
  refine wpAny_bind ?_
  rw [← Array.forIn_toList]
  simp only [List.forIn_cons, List.forIn_nil]
  refine wpAny_bind (wpAny_bind (wpAny_holding ?_))
  show wpAny _ _ (Builtin.SmallTypes.nextOf (.ref i1) >>= _) _ _ _
  refine wpAny_bind (D1.item i ⟨h₁, g, d, tk0, os⟩ _ _ l1 (D1.over st1 hs₁ S.zf1) fun x1 h₂ tk2 p1 st1₂ hs₂ => wpAny_pure ?_)
  refine wpAny_pure ?_
  refine wpAny_bind (wpAny_bind (wpAny_holding ?_))
  show wpAny _ _ (Builtin.SmallTypes.nextOf (.ref i2) >>= _) _ _ _
  refine wpAny_bind (D2.item i ⟨h₂, g, d, tk2, os⟩ _ _ l2 (D2.over (D2.over st2 hs₁ S.zf2) hs₂ S.sep1_2) fun x2 h₃ tk3 p2 st2₃ hs₃ => wpAny_pure ?_)
  refine wpAny_pure (wpAny_pure ?_)
  show wpAny _ _ (newTuple [x1, x2] >>= _) _ _ _
  refine wpAny_bind (wpAny_newTuple ?_)
  have hsz : h₃.objs.size = hp.objs.size := by rw [hs₃.1, hs₂.1, hs₁.1]
  have hz₃ : IsZipHeld h₃ z TI TO T true := hs₃.extBut _ _ S.zi2 (hs₂.extBut _ _ S.zi1 hz₁)
  have hk : ∀ c o, c ≠ z → c ≠ i1 → c ≠ i2 → hp.get? c = some o → h₃.get? c = some o := fun c o c1 c2 c3 e => hs₃.extBut _ _ c3 (hs₂.extBut _ _ c2 (hs₁.extBut _ _ c1 e))
  refine wpAny_pure ⟨_, rfl, ?_⟩
  show Q (.ref h₃.objs.size) _
  have hpp : IsTupOf2 (h₃.push { cls := .type "tuple", data := .seq #[x1, x2] }) h₃.objs.size x1 x2 := Heap.get?_push_size _ rfl
  rw [hsz] at hpp ⊢
  have kp : ∀ c o, h₃.get? c = some o → (h₃.push { cls := .type "tuple", data := .seq #[x1, x2] }).get? c = some o := fun c o e => Heap.get?_push_of_some _ e
  exact hQ x1 x2 _ tk3 p1 p2 (kp _ _ hz₃) (D1.frame _ _ _ (D1.over st1₂ hs₃ S.sep2_1) fun b _ o e => kp b o e) (D2.frame _ _ _ st2₃ fun b _ o e => kp b o e) hpp fun c o c1 c2 c3 e => kp _ _ (hk c o c1 c2 c3 e)
theorem zipD_end_held {Q : Fin → Shared → Prop} {T : Addr} {f : Bool} {oT : Obj} (S : ZipSep2 z TI TO i1 i2 fp1 fp2) (D1 : Draws prog w A i1 fp1 n1 P1 St1) (D2 : Draws prog w A i2 fp2 n2 P2 St2)
    (hz : IsZipHeld s.heap z TI TO T f) (hT : s.heap.get? T = some oT) (hTI : IsTupOf2 s.heap TI (.ref i1) (.ref i2)) (st1 : St1 i s.heap) (st2 : St2 i s.heap) (l1 : i ≤ n1) (l2 : i ≤ n2) (hend : i = n1 ∨ i = n2)
    (hE : ∀ h' tk e, (∀ c o, c ≠ z → c ≠ i1 → c ≠ i2 → s.heap.get? c = some o → h'.get? c = some o) → (∃ o, h'.get? e = some o ∧ o.cls = .type "StopIteration") → E (.ref e) { s with heap := h', toks := tk }) :
    wpAny (model prog w) A (Builtin.«zip.__next__» ⟨[.ref z], []⟩) Q E s := by
  obtain ⟨hp, g, d, tk0, os⟩ := s
  show wpAny _ _ (PySem.field (.ref z) 2 >>= _) _ _ _
  refine wpAny_bind (wpAny_field hz rfl (x := .bool false) rfl ?_)
  show wpAny _ _ (PySem.field (.ref z) 3 >>= _) _ _ _
  refine wpAny_bind (wpAny_field hz rfl (x := .ref TI) rfl ?_)
  refine wpAny_bind (wpAny_seqItems hTI rfl ?_)
  show wpAny _ _ (Builtin.SmallTypes.ownedTupleIsFree (.ref z) >>= _) _ _ _
  refine wpAny_bind (wpAny_tupleHeld_zip hz hT fun h₁ hz₁ hs₁ => ?_)
  simp only [Bool.false_eq_true, if_false]
  refine wpAny_bind ?_
  rw [← Array.forIn_toList]
  simp only [List.forIn_cons, List.forIn_nil]
  refine wpAny_bind (wpAny_bind (wpAny_holding ?_))
  show wpAny _ _ (Builtin.SmallTypes.nextOf (.ref i1) >>= _) _ _ _
  have st1₁ := D1.over st1 hs₁ S.zf1
  have st2₁ := D2.over st2 hs₁ S.zf2
  by_cases e1 : i = n1
  · subst e1
    refine wpAny_bind (D1.done ⟨h₁, g, d, tk0, os⟩ _ _ st1₁ fun h₂ e hs₂ he => ?_)
    exact hE h₂ tk0 e (fun c o c1 c2 _ x => hs₂ _ _ c2 (hs₁.extBut _ _ c1 x)) he
  · have e2 : i = n2 := by omega
    refine wpAny_bind (D1.item i ⟨h₁, g, d, tk0, os⟩ _ _ (by omega) st1₁ fun x1 h₂ tk2 p1 st1₂ hs₂ => wpAny_pure ?_)
    refine wpAny_pure ?_
    refine wpAny_bind (wpAny_bind (wpAny_holding ?_))
    show wpAny _ _ (Builtin.SmallTypes.nextOf (.ref i2) >>= _) _ _ _
    subst e2
    refine wpAny_bind (D2.done ⟨h₂, g, d, tk2, os⟩ _ _ (D2.over st2₁ hs₂ S.sep1_2) fun h₃ e hs₃ he => ?_)
    exact hE h₃ tk2 e (fun c o c1 c2 c3 x => hs₃ _ _ c3 (hs₂.extBut _ _ c2 (hs₁.extBut _ _ c1 x))) he
theorem pyNext_zipD_held {Q : Option Value → Shared → Prop} {T : Addr} {f : Bool} {oT : Obj} (S : ZipSep2 z TI TO i1 i2 fp1 fp2) (D1 : Draws prog w A.in1 i1 fp1 n1 P1 St1) (D2 : Draws prog w A.in1 i2 fp2 n2 P2 St2)
    (hz : IsZipHeld s.heap z TI TO T f) (hT : s.heap.get? T = some oT) (hTI : IsTupOf2 s.heap TI (.ref i1) (.ref i2)) (st1 : St1 i s.heap) (st2 : St2 i s.heap) (l1 : i < n1) (l2 : i < n2)
    (hQ : ∀ x1 x2 h' tk, P1 i x1 → P2 i x2 → IsZipHeld h' z TI TO T true → St1 (i + 1) h' → St2 (i + 1) h' → IsTupOf2 h' s.heap.objs.size x1 x2 →
      (∀ c o, c ≠ z → c ≠ i1 → c ≠ i2 → s.heap.get? c = some o → h'.get? c = some o) → Q (some (.ref s.heap.objs.size)) { s with heap := h', toks := tk }) :
    wpAny (model prog w) A (pyNext (.ref z)) Q E s := by
  have hTy : s.TypeIs (.ref z) "zip" := ⟨_, hz, rfl⟩
  unfold pyNext
  exact wpAny_bind (wpAny_attempt (wpAny_callSpecial?_slot (name := Str.ofString "__next__") hTy F.slot_zip_next
    (wpAny_call_entry F.slot_zip_next hTy F.entry_zip_next
      (zipD_next_held S D1 D2 hz hT hTI st1 st2 l1 l2 fun x1 x2 h' tk b1 b2 b3 b4 b5 b6 b7 => wpAny_pure (hQ x1 x2 h' tk b1 b2 b3 b4 b5 b6 b7)) (F.args_zip_next_1 _))))
theorem pyNext_zipD_end_held {Q : Option Value → Shared → Prop} {T : Addr} {f : Bool} {oT : Obj} (S : ZipSep2 z TI TO i1 i2 fp1 fp2) (D1 : Draws prog w A.in1 i1 fp1 n1 P1 St1) (D2 : Draws prog w A.in1 i2 fp2 n2 P2 St2)
    (hz : IsZipHeld s.heap z TI TO T f) (hT : s.heap.get? T = some oT) (hTI : IsTupOf2 s.heap TI (.ref i1) (.ref i2)) (st1 : St1 i s.heap) (st2 : St2 i s.heap) (l1 : i ≤ n1) (l2 : i ≤ n2) (hend : i = n1 ∨ i = n2)
    (hQ : ∀ h' tk, (∀ c o, c ≠ z → c ≠ i1 → c ≠ i2 → s.heap.get? c = some o → h'.get? c = some o) → Q none { s with heap := h', toks := tk }) : wpAny (model prog w) A (pyNext (.ref z)) Q E s := by
  have hTy : s.TypeIs (.ref z) "zip" := ⟨_, hz, rfl⟩
  unfold pyNext
  refine wpAny_bind (wpAny_attempt (wpAny_callSpecial?_slot (name := Str.ofString "__next__") hTy F.slot_zip_next
    (wpAny_call_entry F.slot_zip_next hTy F.entry_zip_next (zipD_end_held S D1 D2 hz hT hTI st1 st2 l1 l2 hend fun h' tk e hk he => ?_) (F.args_zip_next_1 _))))
  obtain ⟨o, ho, hc⟩ := he
  refine wpAny_bind (wpAny_isInstance (T := "StopIteration") (b := true) ⟨o, ho, hc⟩ isSubtype_stop ?_)
  exact wpAny_pure (hQ _ _ hk)
end
end BK
namespace BK
open PySem PySem.Spec PyProof.Rows L2 RZ
theorem nolen_zip : typeLookup (.type "zip") "__len__" = pure none := by rw [typeLookup_type, builtinLookup_eq_fast]; kernel_rfl
theorem nohint_zip : typeLookup (.type "zip") "__length_hint__" = pure none := by rw [typeLookup_type, builtinLookup_eq_fast]; kernel_rfl
/-- the pairs at ps are those of xs and ys -/
def Prs2 (H : Hp) (xs ys : List V) (ps : List Addr) : Prop := ∀ (k : Nat) (p : Addr), ps[k]? = some p → ∃ x y, xs[k]? = some x ∧ ys[k]? = some y ∧ H p = some (.tup [x, y])
section
variable {X : Cx} {A1 : Around} {z TI TO i1 i2 q : Addr} {fp1 fp2 : List Addr} {n1 n2 : Nat} {St1 St2 : Nat → Heap → Prop} {its1 its2 : List Value} {xs ys : List V} {pins : List (Addr × Obj)} {σ : L2.St} {H0 : Hp}
/-- how the zip stands ahead of its k-th turn -/
def ZAt (z TI TO i1 i2 : Addr) (k : Nat) (h : Heap) : Prop := IsTupOf2 h TI (.ref i1) (.ref i2) ∧
  ((k = 0 ∧ IsZip h z TI TO .none ∧ ∃ a1 a2, IsTupOf2 h TO a1 a2) ∨ ∃ T f oT, IsZipHeld h z TI TO T f ∧ h.get? T = some oT)
theorem ZAt.keep {k : Nat} {h h' : Heap} (a : ZAt z TI TO i1 i2 k h) (kp : ∀ b o, b ≠ q → h.get? b = some o → h'.get? b = some o) (hq : ∃ o, h'.get? q = some o) (n1 : z ≠ q) (n2 : TI ≠ q) (n3 : TO ≠ q) : ZAt z TI TO i1 i2 k h' := by
  obtain ⟨hT, h⟩ := a
  refine ⟨kp _ _ n2 hT, ?_⟩
  rcases h with ⟨e, hz, a1, a2, hO⟩ | ⟨T, f, oT, hz, hT⟩
  · exact .inl ⟨e, kp _ _ n1 hz, a1, a2, kp _ _ n3 hO⟩
  · refine .inr ⟨T, f, ?_⟩
    by_cases e : T = q
    · obtain ⟨o, ho⟩ := hq
      exact ⟨o, kp _ _ n1 hz, by rw [e]; exact ho⟩
    · exact ⟨oT, kp _ _ n1 hz, kp _ _ e hT⟩
structure LZ (X : Cx) (pins : List (Addr × Obj)) (σ : L2.St) (H0 : Hp) (z TI TO i1 i2 q : Addr) (St1 St2 : Nat → Heap → Prop) (xs ys : List V) (k : Nat) (Hk : Hp) (s : Shared) (ps : List Addr) : Prop where
  inv : Inv X pins σ Hk s
  za : ZAt z TI TO i1 i2 k s.heap
  s1 : St1 k s.heap
  s2 : St2 k s.heap
  fp : ∀ b ∈ [z, TI, TO, i1, i2], FpOk X pins Hk b
  ex : ∀ b ∈ [z, TI, TO, i1, i2], b < s.heap.objs.size
  lst : Hk q = some (.lst (ps.map V.ref))
  len : ps.length = k
  prs : Prs2 Hk xs ys ps
  same : ∀ b o, b ≠ q → H0 b = some o → Hk b = some o
theorem zip_loop {Rs : Result → Shared → Prop} (hh : A1.handled = none) (S : ZipSep2 z TI TO i1 i2 fp1 fp2) (D1 : Draws X.prog X.w A1.in1.in1 i1 fp1 n1 (fun i v => its1.toArray[i]? = some v) St1) (D2 : Draws X.prog X.w A1.in1.in1 i2 fp2 n2 (fun i v => its2.toArray[i]? = some v) St2)
    (v1 : Vals xs its1) (v2 : Vals ys its2) (e1 : xs.length = n1) (e2 : ys.length = n2) (hq1 : q ∉ fp1) (hq2 : q ∉ fp2) (hsz : min n1 n2 ≤ 1000)
    (hdone : ∀ ps Hk s, Inv X pins σ Hk s → Hk q = some (.lst (ps.map V.ref)) → ps.length = min n1 n2 → Prs2 Hk xs ys ps → (∀ b o, b ≠ q → H0 b = some o → Hk b = some o) → Rs (.ok (.ret .none)) s) :
    ∀ (m k : Nat) (Hk : Hp) (s : Shared) (ps : List Addr), m = min n1 n2 - k → k ≤ min n1 n2 → LZ X pins σ H0 z TI TO i1 i2 q St1 St2 xs ys k Hk s ps → codeAny (model X.prog X.w) A1 (.builtin "list.extend.loop" ⟨[.ref q, .ref z, .none], []⟩) Rs s := by
  intro m
  induction m with
  | zero =>
    intro k Hk s ps hm hk L
    have ek : k = min n1 n2 := by omega
    refine codeAny_builtin PySem.F.entry_extend_loop ?_
    rw [Around.under_plainId PySem.F.plain_extend_loop _]
    show wpAny _ A1.in1 (pyNext (.ref z) >>= _) _ _ s
    have fin : ∀ h' tk, (∀ c o, c ≠ z → c ≠ TO → c ≠ i1 → c ≠ i2 → s.heap.get? c = some o → h'.get? c = some o) → Rs (.ok (.ret .none)) { s with heap := h', toks := tk } := by
      intro h' tk kp
      have I1 : Inv X pins σ Hk { s with heap := h', toks := tk } := L.inv.turnedL (ch := [z, TI, TO, i1, i2]) (fun b o hb e => kp b o (fun c => hb (by simp [c])) (fun c => hb (by simp [c])) (fun c => hb (by simp [c])) (fun c => hb (by simp [c])) e) L.fp
      exact hdone ps Hk _ I1 L.lst (by rw [L.len, ek]) L.prs L.same
    obtain ⟨hT, h⟩ := L.za
    rcases h with ⟨e0, hz, a1, a2, hO⟩ | ⟨T, f, oT, hz, hTo⟩
    · refine wpAny_bind (wpAny_pyNext_zipD2_end S D1 D2 hz hT hO L.s1 L.s2 (by omega) (by omega) (by omega) fun h' tk kp => ?_)
      exact wpAny_pure (fin h' tk kp)
    · refine wpAny_bind (pyNext_zipD_end_held S D1 D2 hz hTo hT L.s1 L.s2 (by omega) (by omega) (by omega) fun h' tk kp => ?_)
      exact wpAny_pure (fin h' tk fun c o c1 _ c3 c4 => kp c o c1 c3 c4)
  | succ m ih =>
    intro k Hk s ps hm hk L
    have k1 : k < n1 := by omega
    have k2 : k < n2 := by omega
    refine codeAny_builtin PySem.F.entry_extend_loop ?_
    rw [Around.under_plainId PySem.F.plain_extend_loop _]
    show wpAny _ A1.in1 (pyNext (.ref z) >>= _) _ _ s
    have hx : xs[k]? = some (xs[k]'(by omega)) := List.getElem?_eq_getElem (by omega)
    have hy : ys[k]? = some (ys[k]'(by omega)) := List.getElem?_eq_getElem (by omega)
    obtain ⟨u1, hu1, ru1⟩ := v1.get hx
    obtain ⟨u2, hu2, ru2⟩ := v2.get hy
    have turn : ∀ (x1 x2 : Value) (h' : Heap) (tk : Nat), its1.toArray[k]? = some x1 → its2.toArray[k]? = some x2 → ZAt z TI TO i1 i2 (k + 1) h' → St1 (k + 1) h' → St2 (k + 1) h' → IsTupOf2 h' s.heap.objs.size x1 x2 →
        (∀ c o, c ≠ z → c ≠ TO → c ≠ i1 → c ≠ i2 → s.heap.get? c = some o → h'.get? c = some o) → (∀ b ∈ [z, TI, TO, i1, i2], b < h'.objs.size) →
        wpAny (model X.prog X.w) A1.in1 (updateSeq q (·.push (.ref s.heap.objs.size)) >>= fun _ => again (.builtin "list.extend.loop" ⟨[.ref q, .ref z, .none], []⟩))
          (fun fin s' => match fin with | .done f => Rs (.ok f) s' | .again c' => c'.quiet = true ∧ codeAny (model X.prog X.w) A1 c' Rs s') (fun e s' => Rs (.error e) s') { s with heap := h', toks := tk } := by
      intro x1 x2 h' tk g1 g2 za st1 st2 hp kp hsz'
      have ex1 : x1 = u1 := by
        rw [List.getElem?_toArray, hu1] at g1
        exact (Option.some.inj g1).symm
      have ex2 : x2 = u2 := by
        rw [List.getElem?_toArray, hu2] at g2
        exact (Option.some.inj g2).symm
      subst ex1 ex2
      have hqT : q ≠ s.heap.objs.size := fun e => by
        have := L.inv.hok.fresh (Nat.le_refl s.heap.objs.size)
        rw [← e, L.lst] at this
        cases this
      have new : ObjOk X.prog X.w (upd Hk s.heap.objs.size (.tup [xs[k]'(by omega), ys[k]'(by omega)])) h' s.heap.objs.size (.tup [xs[k]'(by omega), ys[k]'(by omega)]) :=
        ⟨by show 2 ≤ sizeLine; decide, [x1, x2], .cons ru1 (.cons ru2 .nil), ⟨_, hp, rfl, _, rfl⟩⟩
      have I1 : Inv X pins σ (upd Hk s.heap.objs.size (.tup [xs[k]'(by omega), ys[k]'(by omega)])) { s with heap := h', toks := tk } :=
        L.inv.turnedNew (ch := [z, TI, TO, i1, i2]) (fun b o hb e => kp b o (fun c => hb (by simp [c])) (fun c => hb (by simp [c])) (fun c => hb (by simp [c])) (fun c => hb (by simp [c])) e) L.fp (Nat.le_refl _) new
      have hl1 : (upd Hk s.heap.objs.size (.tup [xs[k]'(by omega), ys[k]'(by omega)])) q = some (.lst (ps.map V.ref)) := by rw [upd_ne hqT]; exact L.lst
      have hlen := L.len
      obtain ⟨zl, its, c, r2, hl, e⟩ := I1.lstM hl1
      have hpl : (ps.map V.ref).length = ps.length := List.length_map ..
      refine wpAny_bind (wpAny_updateSeq e rfl (wpAny_pure ⟨plainId_quiet PySem.F.plain_extend_loop _, ?_⟩) (by rw [List.size_toArray, ← hl, hpl]; exact Nat.le_of_lt (small1000 (by omega))) (by show (its.toArray.push _).size ≤ sizeLine + 1; rw [Array.size_push, List.size_toArray, ← hl, hpl]; exact Nat.succ_le_succ (Nat.le_of_lt (small1000 (by omega)))))
      have I2 := I1.lset (f := (·.push (Value.ref s.heap.objs.size))) (its' := its ++ [.ref s.heap.objs.size]) (ys := ps.map V.ref ++ [V.ref s.heap.objs.size]) (t' := tk) hl1 e (by simp) (r2.append (.cons (show RelV (V.ref s.heap.objs.size) (Value.ref s.heap.objs.size) from rfl) .nil)) (by rw [List.length_append, hpl]; exact Nat.le_of_lt (small1000 (by show ps.length + 1 ≤ 1000; omega)))
      have oth : ∀ b o, b ≠ q → h'.get? b = some o → (h'.update q (Obj.mapSeq (·.push (.ref s.heap.objs.size)))).get? b = some o := fun b o hb e => (Heap.get?_update_other _ _ (Ne.symm hb)).trans e
      have nb : ∀ b ∈ [z, TI, TO, i1, i2], b ≠ q := fun b hb e => by
        have := (L.fp b hb).1
        rw [e, L.lst] at this
        cases this
      refine ih (k + 1) _ _ (ps ++ [s.heap.objs.size]) (by omega) (by omega) ⟨I2, za.keep oth ⟨_, Heap.get?_update_self _ e rfl⟩ (nb _ (by simp)) (nb _ (by simp)) (nb _ (by simp)), D1.frame _ _ _ st1 fun b hb o e => oth b o (fun c => hq1 (c ▸ hb)) e, D2.frame _ _ _ st2 fun b hb o e => oth b o (fun c => hq2 (c ▸ hb)) e, fun b hb => ?_, fun b hb => ?_, ?_, ?_, ?_, ?_⟩
      · obtain ⟨f0, f1, f2, f3, f4, f5⟩ := L.fp b hb
        refine ⟨?_, f1, f2, f3, f4, f5⟩
        rw [upd_ne (nb b hb), upd_ne (Nat.ne_of_lt (L.ex b hb))]
        exact f0
      · have := hsz' b hb
        show b < (h'.update q _).objs.size
        simpa using this
      · rw [upd_same, List.map_append]
        rfl
      · rw [List.length_append, L.len]
        rfl
      · intro j p hj
        by_cases hj2 : j < ps.length
        · rw [List.getElem?_append_left hj2] at hj
          obtain ⟨x, y, hx, hy, e⟩ := L.prs j p hj
          have n1 : p ≠ q := fun z => by rw [z, L.lst] at e; cases e
          have n2 : p ≠ s.heap.objs.size := fun z => by
            have := L.inv.hok.fresh (Nat.le_refl s.heap.objs.size)
            rw [← z, e] at this
            cases this
          exact ⟨x, y, hx, hy, by rw [upd_ne n1, upd_ne n2]; exact e⟩
        · rw [List.getElem?_append_right (by omega)] at hj
          have hj3 : j - ps.length = 0 := by
            have := (List.getElem?_eq_some_iff.mp hj).1
            simp at this
            omega
          rw [hj3] at hj
          have ep : s.heap.objs.size = p := by simpa using hj
          have ej : j = k := by omega
          rw [ej, ← ep]
          exact ⟨_, _, hx, hy, by rw [upd_ne (Ne.symm hqT), upd_same]⟩
      · intro b o hb e
        have e2 := L.same b o hb e
        have n2 : b ≠ s.heap.objs.size := fun z => by
          have := L.inv.hok.fresh (Nat.le_refl s.heap.objs.size)
          rw [← z, e2] at this
          cases this
        rw [upd_ne hb, upd_ne n2]
        exact e2
    obtain ⟨hT, h⟩ := L.za
    rcases h with ⟨e0, hz, a1, a2, hO⟩ | ⟨T, f, oT, hz, hTo⟩
    · refine wpAny_bind (wpAny_pyNext_zipD2_item S D1 D2 hz hT hO L.s1 L.s2 k1 k2 fun x1 x2 h' tk p1 p2 hz' hO' s1' s2' hp hsz' kp => ?_)
      refine turn x1 x2 h' tk p1 p2 ⟨kp _ _ S.TIz S.TITO S.TIi1 S.TIi2 hT, .inr ⟨s.heap.objs.size, false, _, hz', hp⟩⟩ s1' s2' hp kp (fun b hb => Nat.lt_of_lt_of_le (L.ex b hb) (by omega))
    · refine wpAny_bind (pyNext_zipD_held S D1 D2 hz hTo hT L.s1 L.s2 k1 k2 fun x1 x2 h' tk p1 p2 hz' s1' s2' hp kp => ?_)
      have hp' : s.heap.objs.size < h'.objs.size := Heap.lt_size hp
      have hTk : ∃ o, h'.get? T = some o := by
        by_cases c1 : T = z
        · exact ⟨_, by rw [c1]; exact hz'⟩
        · by_cases c2 : T = i1
          · obtain ⟨o, ho⟩ := D1.live _ _ s1'
            exact ⟨o, by rw [c2]; exact ho⟩
          · by_cases c3 : T = i2
            · obtain ⟨o, ho⟩ := D2.live _ _ s2'
              exact ⟨o, by rw [c3]; exact ho⟩
            · exact ⟨oT, kp _ _ c1 c2 c3 hTo⟩
      obtain ⟨oT', hTk⟩ := hTk
      refine turn x1 x2 h' tk p1 p2 ⟨kp _ _ S.TIz S.TIi1 S.TIi2 hT, .inr ⟨T, true, oT', hz', hTk⟩⟩ s1' s2' hp (fun c o c1 _ c3 c4 => kp c o c1 c3 c4) (fun b hb => Nat.lt_of_lt_of_le (L.ex b hb) (by omega))
/-- what list(zip(a, b)) asks; a, b: lists or tuples -/
def rLZ (K : PySem.W.Frag) : List V → Hp → VK → Prop := fun vs H Q => ∃ (a b : Addr) (xs ys : List V), vs = [.ref a, .ref b] ∧ (SqL K H a xs ∨ SqT K H a xs) ∧ (SqL K H b ys ∨ SqT K H b ys) ∧ min xs.length ys.length ≤ 1000 ∧
  ∀ (q : Addr) (ps : List Addr) (H' : Hp), H q = none → (∀ b o, H b = some o → H' b = some o) → H' q = some (.lst (ps.map V.ref)) → ps.length = min xs.length ys.length → Prs2 H' xs ys ps → Q (.ref q) H'
/-- one of the two: how it is drawn from -/
theorem src_draws {K : PySem.W.Frag} {H : Hp} {s : Shared} {a : Addr} {xs : List V} (hK : X.K = K) (I : Inv X pins σ H s) (h : SqL K H a xs ∨ SqT K H a xs) :
    ∃ (its : List Value) (o : Addr → Obj) (G : Heap → Prop) (St : Addr → Nat → Heap → Prop), Vals xs its ∧ a < s.heap.objs.size ∧ G s.heap ∧ (∀ n : Nat, n = s.heap.objs.size → True) ∧
      Begins (.ref a) (o a) G ∧ (∀ (A : Around) (it : Addr), A.handled = none → a ≠ it → Draws X.prog X.w A it [it, a] xs.length (fun i v => its.toArray[i]? = some v) (St it)) ∧
      (∀ h' it, G s.heap → (∀ c ob, s.heap.get? c = some ob → h'.get? c = some ob) → h'.get? it = some (o a) → St it 0 h') := by
  subst hK
  rcases h with h | h
  · obtain ⟨its, rv, p, _⟩ := I.list h
    have hl := p.isList
    have hlt : a < s.heap.objs.size := by obtain ⟨_, e, _⟩ := id hl; exact Heap.lt_size e
    have es : its.toArray.size = xs.length := by rw [List.size_toArray, ← rv.length]
    refine ⟨its, fun a => { cls := .type "list_iterator", data := .fields #[.ref a, .int 0 0] }, fun h => h.IsList a its.toArray, fun it i h => h.IsListIter it a i ∧ h.IsList a its.toArray, rv, hlt, hl, fun _ _ => trivial, begins_list a its.toArray, fun A it hh hne => ?_, fun h' it g k e => ⟨⟨_, e, rfl, rfl⟩, g.at fun o q => k a o q⟩⟩
    rw [← es]
    exact Draws.list hh it a hne its.toArray
  · obtain ⟨its, rv, p, _⟩ := I.tuple h
    have hl : s.heap.IsTuple a its.toArray := p
    have hlt : a < s.heap.objs.size := by obtain ⟨_, e, _⟩ := id hl; exact Heap.lt_size e
    have es : its.toArray.size = xs.length := by rw [List.size_toArray, ← rv.length]
    refine ⟨its, fun a => { cls := .type "tuple_iterator", data := .fields #[.ref a, .int 0 0] }, fun h => h.IsTuple a its.toArray, fun it i h => h.IsTupleIter it a i ∧ h.IsTuple a its.toArray, rv, hlt, hl, fun _ _ => trivial, begins_tuple a its.toArray, fun A it hh hne => ?_, fun h' it g k e => ⟨⟨_, e, rfl, rfl⟩, g.at fun o q => k a o q⟩⟩
    rw [← es]
    exact Draws.tuple hh it a hne its.toArray
end
end BK
namespace BK
open PySem PySem.Spec PyProof.Rows L2 RZ
section
variable {X : Cx} {pins : List (Addr × Obj)} {σ : L2.St} {H : Hp}
theorem zip_hint {M : Model} {A : Around} {E : Value → Shared → Prop} {s : Shared} {z TI TO : Addr} {f : Value} {Q : Bool → Shared → Prop} (hz : IsZip s.heap z TI TO f) (h : Q true s) :
    wpAny M A (Builtin.List.listLengthHint (.ref z)) Q E s := by
  unfold Builtin.List.listLengthHint
  refine wpAny_bind (wpAny_specialOf (T := "zip") ⟨_, hz, rfl⟩ nolen_zip ?_)
  refine PySem.W.KFB.if_not rfl ?_
  refine PySem.W.KFB.if_not rfl ?_
  refine wpAny_bind (wpAny_specialOf (T := "zip") ⟨_, hz, rfl⟩ nohint_zip ?_)
  exact wpAny_pure h
theorem pe_listZip {e1 e2 : Expr} {ta : TA} {p p2 pos pos2 : Pos} (hc : X.calm = true) (hg : Gl X "list") (hm : X.mg "list" = none) (hg2 : Gl X "zip") (hm2 : X.mg "zip" = none) (ha : PA X [e1, e2] ta)
    (hs : starEach [e1, e2] X.env = (false, eval e1 X.env) :: starEach [e2] X.env := by rfl) (hpl : (backTo pos2 (starEach [e2] X.env)).any (·.1) = false := by rfl)
    (hs2 : starEach [.Call (.Name "zip" p2) [e1, e2] [] pos2] X.env = (false, eval (.Call (.Name "zip" p2) [e1, e2] [] pos2) X.env) :: starEach [] X.env := by rfl) :
    PE X (.Call (.Name "list" p) [.Call (.Name "zip" p2) [e1, e2] [] pos2] [] pos) (tCB (rLZ X.K) ta) := by
  refine ⟨fun pins s σ H Q I h => ?_⟩
  refine Call_ (ld_blt I hg hm boot_list (PyProof.Rows.callWith_type1 (args_cons (Call_ (ld_blt I hg2 hm2 PyProof.Rows.boot_zip (PyProof.Rows.callWith_type1 (thn (ha.run pos2 pins s σ H _ I h) fun us s1 ⟨vs, H1, I1, r1, q1⟩ => ?_) hs hpl))) hs2) hs2 rfl))
  obtain ⟨a, b, xs, ys, rfl, ga, gb, hmin, q1⟩ := q1
  obtain ⟨u1, u2, rfl, ru1, ru2⟩ := vals2 r1
  cases ru1
  cases ru2
  obtain ⟨its1, o1, G1, St1, v1, lt1, g1, _, B1, D1, k1⟩ := src_draws rfl I1 ga
  obtain ⟨its2, o2, G2, St2, v2, lt2, g2, _, B2, D2, k2⟩ := src_draws rfl I1 gb
  refine zip_begins2 B1 B2 g1 g2 fun h' hz hTI hTO eo1 eo2 hsz kp => args_nil ?_
  have S : ZipSep2 (s1.heap.objs.size + 4) (s1.heap.objs.size + 2) (s1.heap.objs.size + 3) s1.heap.objs.size (s1.heap.objs.size + 1) (s1.heap.objs.size :: [a]) ((s1.heap.objs.size + 1) :: [b]) :=
    zip_sep2 (fun c hcm => by rw [List.mem_singleton.mp hcm]; exact lt1) (fun c hcm => by rw [List.mem_singleton.mp hcm]; exact lt2)
  have I2 : Inv X pins σ H1 { s1 with heap := h' } := I1.kept (t' := s1.toks) kp
  have fr : H1 h'.objs.size = none := I2.hok.fresh (Nat.le_refl _)
  have hh : X.A.handled = none := I1.ok.hd hc
  -- the new list
  refine callType_codes (Q₁ := fun obj s₁ => obj = .ref h'.objs.size ∧ s₁ = { s1 with heap := h'.push { cls := .type "list", data := .seq #[] } }) PySem.F.called_list (PySem.F.typeCall_list_1 _) PySem.F.entry_list_init
    (code_list_new _ ⟨rfl, rfl⟩) fun obj s₁ h₁ => ?_
  obtain ⟨rfl, rfl⟩ := h₁
  have hS : (h'.push { cls := .type "list", data := .seq #[] }).get? h'.objs.size = some { cls := .type "list", data := .seq #[] } := Heap.get?_push_size _ rfl
  refine ⟨⟨_, hS, rfl⟩, PySem.F.args_list_init_2 _ _, ?_⟩
  have J1 : Inv X pins σ (upd H1 h'.objs.size (.lst [])) { s1 with heap := h'.push { cls := .type "list", data := .seq #[] } } := I2.lnew (its := []) (t' := s1.toks) .nil (Nat.zero_le _)
  show wpAny _ _ (do let old ← Builtin.List.listItems (.ref h'.objs.size); Builtin.List.listUpdate (.ref h'.objs.size) (fun _ => #[]); letGo old.toList.reverse; Builtin.List.listExtendWith (.ref h'.objs.size) (.ref (s1.heap.objs.size + 4)) .none) _ _ _
  refine wpAny_bind ?_
  unfold Builtin.List.listItems
  refine wpAny_bind (wpAny_seqItems hS rfl (wpAny_pure ?_))
  show wpAny _ _ (updateSeq h'.objs.size (fun _ => #[]) >>= fun _ => letGo (#[] : Array Value).toList.reverse >>= fun _ => Builtin.List.listExtendWith (.ref h'.objs.size) (.ref (s1.heap.objs.size + 4)) .none) _ _ _
  refine wpAny_bind (wpAny_updateSeq hS rfl ?_)
  have J2 := J1.lset (f := fun _ => #[]) (its := []) (its' := []) (ys := []) (t' := s1.toks) upd_same hS rfl .nil (Nat.zero_le _)
  rw [upd_upd] at J2
  refine wpAny_bind (wpAny_letGo ?_)
  -- what stood keeps standing, but for the list
  have kq : ∀ c o, c ≠ h'.objs.size → h'.get? c = some o → ((h'.push { cls := .type "list", data := .seq #[] }).update h'.objs.size (Obj.mapSeq fun _ => (#[] : Array Value))).get? c = some o :=
    fun c o n e => (Heap.get?_update_other _ _ (Ne.symm n)).trans (Heap.get?_push_of_some _ e)
  generalize hB : ((h'.push { cls := .type "list", data := .seq #[] }).update h'.objs.size (Obj.mapSeq fun _ => (#[] : Array Value))) = hb at J2 kq ⊢
  have hsb : hb.objs.size = h'.objs.size + 1 := by rw [← hB]; simp
  have ne4 : s1.heap.objs.size + 4 ≠ h'.objs.size := by omega
  have hzb := kq _ _ ne4 hz
  unfold Builtin.List.listExtendWith
  refine wpAny_bind (wpAny_typeOf (T := "zip") ⟨_, hzb, rfl⟩ ?_)
  have n1 : Builtin.List.listSameRef (.ref h'.objs.size) (.ref (s1.heap.objs.size + 4)) = false := by simp [Builtin.List.listSameRef, Ne.symm ne4]
  have n2 : (Value.type "zip" == Value.type "list") = false := by decide
  have n3 : (Value.type "zip" == Value.type "tuple") = false := by decide
  simp only [n1, n2, n3, Bool.or_false, Bool.false_eq_true, if_false]
  refine wpAny_bind (wpAny_pyIter_zip hzb ?_)
  refine wpAny_bind (wpAny_holding (zip_hint hzb ?_))
  have go : ∀ (hc : Heap) (tk : Nat), Inv X pins σ (upd H1 h'.objs.size (.lst [])) { s1 with heap := hc, toks := tk } → (∀ c o, c ≠ h'.objs.size → hb.get? c = some o → hc.get? c = some o) → hb.objs.size ≤ hc.objs.size →
      codeAny (model X.prog X.w) X.A.in1 (.builtin "list.extend.loop" ⟨[.ref h'.objs.size, .ref (s1.heap.objs.size + 4), .none], []⟩) (wants (fun r s₂ => r = .none ∧ EP X pins σ Q (.ref h'.objs.size) s₂) X.xe) { s1 with heap := hc, toks := tk } := by
    intro hc tk J kc hsz2
    have kk : ∀ c o, h'.get? c = some o → hc.get? c = some o := fun c o e => by
      have n : c ≠ h'.objs.size := Nat.ne_of_lt (Heap.lt_size e)
      exact kc c o n (kq c o n e)
    have nq1 : h'.objs.size ∉ [s1.heap.objs.size, a] := fun hm => by
      rcases List.mem_cons.mp hm with e | hm
      · omega
      · exact absurd lt1 (Nat.not_lt.mpr (by rw [← List.mem_singleton.mp hm, hsz]; exact Nat.le_add_right _ _))
    have nq2 : h'.objs.size ∉ [s1.heap.objs.size + 1, b] := fun hm => by
      rcases List.mem_cons.mp hm with e | hm
      · omega
      · exact absurd lt2 (Nat.not_lt.mpr (by rw [← List.mem_singleton.mp hm, hsz]; exact Nat.le_add_right _ _))
    refine zip_loop (A1 := X.A.in1) (Rs := wants (fun r s₂ => r = .none ∧ EP X pins σ Q (.ref h'.objs.size) s₂) X.xe) (H0 := H1) (z := s1.heap.objs.size + 4) (TI := s1.heap.objs.size + 2) (TO := s1.heap.objs.size + 3) (i1 := s1.heap.objs.size) (i2 := s1.heap.objs.size + 1) (q := h'.objs.size) hh S (D1 _ _ hh (Nat.ne_of_lt lt1)) (D2 _ _ hh (Nat.ne_of_lt (Nat.lt_succ_of_lt lt2))) v1 v2 rfl rfl nq1 nq2 hmin
      (fun ps Hk s IK e1 e2 e3 e4 => ⟨rfl, .ref h'.objs.size, Hk, IK, rfl, q1 _ ps Hk fr (fun c o e => e4 c o (ne_of_none e fr) e) e1 e2 e3⟩) _ 0 _ _ [] rfl (Nat.zero_le _) ⟨J, ⟨kk _ _ hTI, .inl ⟨rfl, kk _ _ hz, _, _, kk _ _ hTO⟩⟩, ?_, ?_, fun c hcm => ?_, fun c hcm => ?_, upd_same, rfl, fun k pp e => by simp at e, fun c o n e => by rw [upd_ne n]; exact e⟩
    · exact k1 _ _ g1 (fun c o e => kk _ _ (kp _ _ e)) (kk _ _ eo1)
    · exact k2 _ _ g2 (fun c o e => kk _ _ (kp _ _ e)) (kk _ _ eo2)
    · have e' : c = s1.heap.objs.size + 4 ∨ c = s1.heap.objs.size + 2 ∨ c = s1.heap.objs.size + 3 ∨ c = s1.heap.objs.size ∨ c = s1.heap.objs.size + 1 := by simpa using hcm
      have hle : s1.heap.objs.size ≤ c := by
        rcases e' with z | z | z | z | z <;> (rw [z]; first | exact Nat.le_add_right _ _ | exact Nat.le_refl _)
      have hne : c ≠ h'.objs.size := by
        rcases e' with z | z | z | z | z <;> (refine Nat.ne_of_lt ?_; rw [z, hsz]; first | exact Nat.add_lt_add_left (by decide) _ | exact Nat.lt_add_of_pos_right (by decide))
      exact I1.fpOk hle (by rw [upd_ne hne]; exact I1.hok.fresh hle)
    · have e' : c = s1.heap.objs.size + 4 ∨ c = s1.heap.objs.size + 2 ∨ c = s1.heap.objs.size + 3 ∨ c = s1.heap.objs.size ∨ c = s1.heap.objs.size + 1 := by simpa using hcm
      have : s1.heap.objs.size + 5 ≤ hc.objs.size := by omega
      refine Nat.lt_of_lt_of_le ?_ this
      rcases e' with z | z | z | z | z <;> (rw [z]; first | exact Nat.add_lt_add_left (by decide) _ | exact Nat.lt_add_of_pos_right (by decide))
  refine wpAny_ite_split (fun _ => ?_) (fun _ => wpAny_pure ⟨plainId_quiet PySem.F.plain_extend_loop _, go hb s1.toks J2 (fun _ _ _ e => e) (Nat.le_refl _)⟩)
  refine wpAny_bind (wpAny_rule ?_)
  refine wpAny_bind ?_
  show wpAny _ _ (updateSeq h'.objs.size (·.push .none) >>= fun _ => updateSeq h'.objs.size (·.pop)) _ _ _
  obtain ⟨z3, its3, k3, r3, hl3, e3⟩ := J2.lstM upd_same
  cases r3
  refine wpAny_bind (wpAny_updateSeq e3 rfl ?_)
  have I3 := J2.lset (f := (·.push Value.none)) (its' := [Value.none]) (ys := [.non]) (t' := s1.toks) upd_same e3 (by simp) (.cons rfl .nil) (by rw [List.length_singleton, sizeLine_eq]; decide)
  obtain ⟨z4, its4, k4, r4, hl4, e4⟩ := I3.lstM upd_same
  obtain ⟨u4, rfl, ru4⟩ := r4.one
  refine wpAny_updateSeq e4 rfl ?_ (by show 1 ≤ sizeLine; rw [sizeLine_eq]; decide) (by show 0 ≤ sizeLine + 1; exact Nat.zero_le _)
  have I4 := I3.lset (f := (·.pop)) (its := [u4]) (its' := []) (ys := []) (t' := s1.toks) upd_same e4 (by rfl) .nil (Nat.zero_le _)
  rw [upd_upd, upd_upd] at I4
  exact wpAny_pure ⟨plainId_quiet PySem.F.plain_extend_loop _, go _ s1.toks I4 (fun c o n e => (Heap.get?_update_other _ _ (Ne.symm n)).trans ((Heap.get?_update_other _ _ (Ne.symm n)).trans e)) (by simp)⟩
end
end BK
namespace BK
open PySem PySem.Spec PyProof.Rows L2 RZ
section
variable {prog : Program} {w : World} {A : Around} {E : Value → Shared → Prop} {s : Shared} {l : Addr} {xs : Array (Int × Tok)} {its : List Value} {ns : List Int}
/-- what is common to max and min of a tuple: its walk -/
theorem iterT {Q : Value → Shared → Prop} (hl : s.heap.IsTuple l (intItems xs))
    (h : ∀ s₂ : Shared, s₂ = { s with heap := s.heap.push { cls := .type "tuple_iterator", data := .fields #[.ref l, .int 0 0] } } → (s₂.heap.IsTupleIter s.heap.objs.size l 0 ∧ s₂.heap.IsTuple l (intItems xs)) →
      (∀ b ∈ [s.heap.objs.size, l], b < s₂.heap.objs.size) → l ≠ s.heap.objs.size → Q (.ref s.heap.objs.size) s₂) : wpAny (model prog w) A (pyIter (.ref l)) Q E s := by
  have hlt : l < s.heap.objs.size := by obtain ⟨_, e, _⟩ := hl; exact Heap.lt_size e
  refine wpAny_pyIter_tuple hl (h _ rfl ⟨⟨_, Heap.get?_push_size _ rfl, rfl, rfl⟩, hl.push _⟩ (fun b hb => ?_) (Nat.ne_of_lt hlt))
  show b < (s.heap.push _).objs.size
  rw [Heap.size_push]
  rcases List.mem_cons.mp hb with rfl | hb
  · exact Nat.lt_succ_self _
  · rw [List.mem_singleton.mp hb]
    exact Nat.lt_succ_of_lt hlt
theorem keptT {o : Obj} {h' : Heap} (hk : ∀ b o', b ∉ [s.heap.objs.size] → (s.heap.push o).get? b = some o' → h'.get? b = some o') : ∀ b o', s.heap.get? b = some o' → h'.get? b = some o' :=
  fun b o' q => hk b o' (fun hm => absurd (List.mem_singleton.mp hm ▸ Heap.lt_size q) (Nat.lt_irrefl _)) (Heap.get?_push_of_some _ q)
theorem maxT_raw {Q : Value → Shared → Prop} (hh : A.handled = none) (hl : s.heap.IsTuple l its.toArray) (hi : IntsAre its ns) (hne : 0 < ns.length)
    (h : ∀ h' tk M t', (∀ b o, s.heap.get? b = some o → h'.get? b = some o) → M ∈ ns → (∀ a, a ∈ ns → a ≤ M) → Q (.int M t') { s with heap := h', toks := tk }) : wpAny (model prog w) A (call (.builtin "max") [.ref l]) Q E s := by
  obtain ⟨xs, e⟩ := hi.allInts.items
  have hn : numsOf (intItems xs).toList = ns := by rw [← e]; exact hi.numsOf
  rw [nums_intItems] at hn
  subst hn
  rw [e] at hl
  have hsz : 0 < xs.size := by simpa using hne
  refine call_max_walk (iterT hl fun s₂ e st hfp hlI => ?_)
  subst e
  refine ⟨_, _, _, _, _, _, _, rfl, Walks.tuple (A := A.in1) hh _ l hlI (intItems xs), st, hfp, by simpa [intItems] using hsz, CmpOf.ints_gt (numAt xs) (fun _ _ => intItems_at), fun v h' tk hv hk => ?_⟩
  have hv' : (intItems xs)[argBest (fun i j => decide (numAt xs i > numAt xs j)) (xs.size - 1)]? = some v := by simpa [intItems] using hv
  obtain ⟨t, rfl⟩ := intItems_at hv'
  obtain ⟨h1, h2⟩ := argBest_gt (numAt xs) (xs.size - 1)
  refine h h' tk _ t (keptT hk) ?_ fun a ha => ?_
  · rw [numAt_eq]; exact PySem.getD_mem (by rw [List.length_map, Array.length_toList]; omega)
  · obtain ⟨j, hj, rfl⟩ := mem_getD ha
    rw [List.length_map, Array.length_toList] at hj
    rw [← numAt_eq]; exact h2 j (by omega)
theorem minT_raw {Q : Value → Shared → Prop} (hh : A.handled = none) (hl : s.heap.IsTuple l its.toArray) (hi : IntsAre its ns) (hne : 0 < ns.length)
    (h : ∀ h' tk M t', (∀ b o, s.heap.get? b = some o → h'.get? b = some o) → M ∈ ns → (∀ a, a ∈ ns → M ≤ a) → Q (.int M t') { s with heap := h', toks := tk }) : wpAny (model prog w) A (call (.builtin "min") [.ref l]) Q E s := by
  obtain ⟨xs, e⟩ := hi.allInts.items
  have hn : numsOf (intItems xs).toList = ns := by rw [← e]; exact hi.numsOf
  rw [nums_intItems] at hn
  subst hn
  rw [e] at hl
  have hsz : 0 < xs.size := by simpa using hne
  refine call_min_walk (iterT hl fun s₂ e st hfp hlI => ?_)
  subst e
  refine ⟨_, _, _, _, _, _, _, rfl, Walks.tuple (A := A.in1) hh _ l hlI (intItems xs), st, hfp, by simpa [intItems] using hsz, CmpOf.ints_lt (numAt xs) (fun _ _ => intItems_at), fun v h' tk hv hk => ?_⟩
  have hv' : (intItems xs)[argBest (fun i j => decide (numAt xs i < numAt xs j)) (xs.size - 1)]? = some v := by simpa [intItems] using hv
  obtain ⟨t, rfl⟩ := intItems_at hv'
  obtain ⟨h1, h2⟩ := argBest_lt (numAt xs) (xs.size - 1)
  refine h h' tk _ t (keptT hk) ?_ fun a ha => ?_
  · rw [numAt_eq]; exact PySem.getD_mem (by rw [List.length_map, Array.length_toList]; omega)
  · obtain ⟨j, hj, rfl⟩ := mem_getD ha
    rw [List.length_map, Array.length_toList] at hj
    rw [← numAt_eq]; exact h2 j (by omega)
end
section
variable {X : Cx}
/-- max(t), min(t) of a tuple of ints -/
def rMaxT (K : PySem.W.Frag) : List V → Hp → VK → Prop := fun vs H Q => ∃ (a : Addr) (ns : List Int), vs = [V.ref a] ∧ (SqL K H a (ns.map V.int) ∨ SqT K H a (ns.map V.int)) ∧ 0 < ns.length ∧ ∀ m, m ∈ ns → (∀ y, y ∈ ns → y ≤ m) → Q (.int m) H
def rMinT (K : PySem.W.Frag) : List V → Hp → VK → Prop := fun vs H Q => ∃ (a : Addr) (ns : List Int), vs = [V.ref a] ∧ (SqL K H a (ns.map V.int) ∨ SqT K H a (ns.map V.int)) ∧ 0 < ns.length ∧ ∀ m, m ∈ ns → (∀ y, y ∈ ns → m ≤ y) → Q (.int m) H
theorem cr_maxT (hc : X.calm = true) : CallR X (.builtin "max") (rMaxT X.K) := by
  intro pins s σ H vs us Q I r h
  obtain ⟨a, ns, rfl, hs, hne, q⟩ := h
  rcases hs with hs | hs
  · exact cr_max hc pins s σ H _ us Q I r ⟨a, ns, rfl, hs, hne, q⟩
  · obtain ⟨its, rv, hl, _⟩ := I.tuple hs
    rw [Vals.ref1 r]
    exact maxT_raw (I.ok.hd hc) (show s.heap.IsTuple a its.toArray from hl) rv.ints hne fun h' tk m t' hk h1 h2 => ⟨.int _, H, I.kept hk, ⟨_, rfl⟩, q m h1 h2⟩
theorem cr_minT (hc : X.calm = true) : CallR X (.builtin "min") (rMinT X.K) := by
  intro pins s σ H vs us Q I r h
  obtain ⟨a, ns, rfl, hs, hne, q⟩ := h
  rcases hs with hs | hs
  · exact cr_min hc pins s σ H _ us Q I r ⟨a, ns, rfl, hs, hne, q⟩
  · obtain ⟨its, rv, hl, _⟩ := I.tuple hs
    rw [Vals.ref1 r]
    exact minT_raw (I.ok.hd hc) (show s.heap.IsTuple a its.toArray from hl) rv.ints hne fun h' tk m t' hk h1 h2 => ⟨.int _, H, I.kept hk, ⟨_, rfl⟩, q m h1 h2⟩
end
end BK
namespace K2
open PySem PySem.Spec PyProof.Rows L2 BK
def topS (i : Nat) : Stmt := PySem.Challenge.pw_bucketsums_k22_whole_spans.main.body.getD i (.Pass ⟨0, 0, 0, 0⟩)
abbrev sWhole : Stmt := topS 11
abbrev sBetween : Stmt := topS 12
abbrev sAre : Stmt := topS 13
/-! what the promises say of -/
def inB (lo hi i : Int) : Bool := decide (lo ≤ i ∧ i ≤ hi)
def Sq (H : Hp) (a : Addr) (ns : List Int) : Prop := H a = some (.lst (ns.map V.int)) ∨ H a = some (.tup (ns.map V.int))
theorem sqL {K : PySem.W.Frag} {H : Hp} {a : Addr} {xs : List V} (h : H a = some (.lst xs)) : SqL K H a xs := .inl (.inl h)
theorem sqT {K : PySem.W.Frag} {H : Hp} {a : Addr} {xs : List V} (h : H a = some (.tup xs)) : SqT K H a xs := .inl (.inl h)
def spWhole : Sp := fun vs H Q _ => ∃ i, vs = [.int i] ∧ Q (.bl true) H
def spBetween : Sp := fun vs H Q _ => ∃ i lo hi, vs = [.int i, .int lo, .int hi] ∧ Q (.bl (inB lo hi i)) H
def spAre : Sp := fun vs H Q _ => ∃ a ns lo hi, vs = [.ref a, .int lo, .int hi] ∧ Sq H a ns ∧ ns.length ≤ 1000 ∧ ∀ H', Same H H' → Q (.bl (ns.all (inB lo hi))) H'
theorem same_upd {H : Hp} {p : Addr} {o : HO} (h : H p = none) : Same H (upd H p o) := fun b x e => by
  rw [upd_ne (ne_of_none e h)]
  exact e
theorem Same.seqT {K : PySem.W.Frag} {H H' : Hp} {a : Addr} {xs : List V} (e : Same H H') (h : SqT K H a xs) : SqT K H' a xs := SqT.ext h e
theorem Same.sq {H H' : Hp} {a : Addr} {ns : List Int} (e : Same H H') (h : Sq H a ns) : Sq H' a ns := h.imp (fun h => e _ _ h) fun h => e _ _ h
theorem same_set {H H1 : Hp} {D : Addr} {o : HO} (nD : H D = none) (s : Same H H1) : Same H (upd H1 D o) := fun b x e => by
  rw [upd_ne (ne_of_none e nD)]
  exact s b x e
section
variable {P : Program} {w : World} {K : PySem.W.Frag} {mg : Str → Option Value} {base : Heap}
theorem scWhole : FnScope ["item"] ["item"] (defScope sWhole) := ⟨rfl, rfl, rfl, by decide +kernel, rfl, by decide +kernel, by decide +kernel⟩
theorem ok_whole {f : Addr} {fd : FuncData} (F : Fun K "is_whole" "is_whole" sWhole f fd) (mi : mg "isinstance" = none) (mt : mg "int" = none) (mb : mg "bool" = none) : FnOk P w K mg base CX0 1 f fd ["item"] spWhole := by
  refine F.ok scWhole (fun vs H Q E h => ?_) (fun cdv A outer s H vs Q E hr h => ?_)
  · obtain ⟨i, rfl, _⟩ := h
    rfl
  · obtain ⟨i, rfl, q⟩ := h
    refine ⟨_, pss_one (ps_ret (pe_and (pe_callB call_isi (by rfl) mi (by decide +kernel) (pa_cons (pv 0) (pa_cons (pe_bltn (v := .ty "int") (by rfl) mt (by decide +kernel) rfl) pa_nil)))
      (pe_one (pe_not (pe_callB call_isi (by rfl) mi (by decide +kernel) (pa_cons (pv 0) (pa_cons (pe_bltn (v := .ty "bool") (by rfl) mb (by decide +kernel) rfl) pa_nil))))))), ?_⟩
    refine ⟨_, rfl, _, _, _, _, true, rfl, .ty _, .base (.int i), kit_ty (by decide +kernel), true, rfl, iteT ?_⟩
    exact ⟨_, rfl, _, _, _, _, false, rfl, .ty _, .base (.int i), kit_ty (by decide +kernel), false, rfl, q⟩
/-- the shared checks, as the top has written them -/
structure Chk (K : PySem.W.Frag) (mg : Str → Option Value) (fW fB fA : Addr) (dW dB dA : FuncData) : Prop where
  isi : mg "isinstance" = none
  int : mg "int" = none
  bool : mg "bool" = none
  all : mg "all" = none
  W : Fun K "is_whole" "is_whole" sWhole fW dW
  B : Fun K "is_between" "is_between" sBetween fB dB
  A : Fun K "are_between" "are_between" sAre fA dA
  gW : mg "is_whole" = some (.ref fW)
  gB : mg "is_between" = some (.ref fB)
  gA : mg "are_between" = some (.ref fA)
  bW : Binds K dW ["item"] []
  bB : Binds K dB ["item", "least", "most"] []
  bA : Binds K dA ["items", "least", "most"] []
theorem scBetween : FnScope ["item", "least", "most"] ["item", "least", "most"] (defScope sBetween) := ⟨rfl, rfl, rfl, by decide +kernel, rfl, by decide +kernel, by decide +kernel⟩
variable {fW fB fA : Addr} {dW dB dA : FuncData}
theorem Chk.whole (C : Chk K mg fW fB fA dW dB dA) : FnOk P w K mg base CX0 1 fW dW ["item"] spWhole := ok_whole C.W C.isi C.int C.bool
theorem ok_between (C : Chk K mg fW fB fA dW dB dA) : FnOk P w K mg base CX0 2 fB dB ["item", "least", "most"] spBetween := by
  have GW : FnOk P w K mg base CX0 1 fW dW ["item"] spWhole := C.whole
  refine C.B.ok scBetween (fun vs H Q E h => ?_) (fun cdv A outer s H vs Q E hr h => ?_)
  · obtain ⟨i, lo, hi, rfl, _⟩ := h
    rfl
  · obtain ⟨i, lo, hi, rfl, q⟩ := h
    refine ⟨_, pss_one (ps_ret (pe_and (pe_call GW hr (by rfl) C.gW C.W.kp C.bW .nil pass0 (pa_cons (pv 0) pa_nil))
      (pe_one (pe_chain op_le op_le (pv 1) (pv 0) (pv 2))))), ?_⟩
    refine ⟨_, rfl, i, rfl, true, rfl, iteT ?_⟩
    refine ⟨_, rfl, _, rfl, _, _, rfl, rfl, _, rfl, ?_⟩
    by_cases h1 : lo ≤ i
    · rw [decide_eq_true h1]
      refine iteT ⟨_, rfl, _, _, rfl, rfl, ?_⟩
      have e : inB lo hi i = decide (i ≤ hi) := by unfold inB; simp [h1]
      rw [e] at q
      exact q
    · rw [decide_eq_false h1]
      refine iteF ?_
      have e : inB lo hi i = false := by unfold inB; simp [h1]
      rw [e] at q
      exact q
theorem scAre : FnScope ["items", "least", "most", "item"] ["items", "least", "most"] (defScope sAre) := ⟨rfl, rfl, rfl, by decide +kernel, rfl, by decide +kernel, by decide +kernel⟩
theorem ok_are (C : Chk K mg fW fB fA dW dB dA) : FnOk P w K mg base CX0 3 fA dA ["items", "least", "most"] spAre := by
  have GB : FnOk P w K mg base CX0 2 fB dB ["item", "least", "most"] spBetween := ok_between C
  refine C.A.ok scAre (fun vs H Q E h => ?_) (fun cdv A outer s H vs Q E hr h => ?_)
  · obtain ⟨a, ns, lo, hi, rfl, _⟩ := h
    rfl
  · obtain ⟨a, ns, lo, hi, rfl, hS, hl, q⟩ := h
    refine ⟨_, pss_one (ps_ret (pe_callB (cr_all rfl) (by rfl) C.all (by decide +kernel) (pa_cons
      (pe_lc (own := [("item", 3)]) (g := gName 3) (tt := tYes) rfl scAre.nd (PI.or (pi_list (pv 0)) (pi_tup (pv 0))) (blkOk_by (N := ["items", "least", "most", "item"]) (sc := defScope sAre) (by decide +kernel))
        (fun _ _ _ _ _ => pg_name (i := 3) scAre.nd rfl (Or.inl rfl)) (fun _ _ _ _ _ => pts_nil)
        (fun _ _ _ _ _ => pe_call GB hr (by rfl) C.gB C.B.kp C.bB .nil pass0 (pa_cons (pv 3) (pa_cons (pv 1) (pa_cons (pv 2) pa_nil))))) pa_nil))), ?_⟩
    have turn : ∀ (D : Addr) (nD : H D = none) (i : Nat) (x : V) (H1 : Hp), (ns.map V.int)[i]? = some x → (Same H H1 ∧ H1 D = some (.lst ((ns.take i).map fun j => V.bl (inB lo hi j)))) → ∃ j, x = .int j ∧ ns[i]? = some j ∧ (ns.take (i + 1)) = ns.take i ++ [j] := by
      intro D nD i x H1 hx _
      rw [List.getElem?_map] at hx
      cases e : ns[i]? with
      | none => rw [e] at hx; cases hx
      | some j =>
        rw [e] at hx
        refine ⟨j, (Option.some.inj hx).symm, rfl, ?_⟩
        rw [List.take_succ, e]
        rfl
    have fin : ∀ (D : Addr) (H1 : Hp), H D = none → (Same H H1 ∧ H1 D = some (.lst ((ns.take (ns.map V.int).length).map fun j => V.bl (inB lo hi j)))) → rAll K [.ref D] H1 Q := by
      intro D H1 nD ⟨sm, e⟩
      rw [List.length_map, List.take_length] at e
      refine ⟨D, ns.map (inB lo hi), rfl, .inl (.inl ?_), ?_⟩
      · rw [e, List.map_map]
        rfl
      · have e2 : (ns.map (inB lo hi)).all id = ns.all (inB lo hi) := by simp [List.all_map]
        rw [e2]
        exact q H1 sm
    rcases hS with hS | hS
    · have hS := sqL (K := K) hS
      refine .inl ⟨_, rfl, a, rfl, ⟨_, hS⟩, fun D nD => lc_list (K := K) (a := a) (xs := ns.map V.int) (fun i H1 => Same H H1 ∧ H1 D = some (.lst ((ns.take i).map fun j => V.bl (inB lo hi j)))) ⟨same_upd nD, by rw [upd_same]; rfl⟩ (fun i H1 _ h => h.1.seq hS) (fun i x H1 hx h => ?_) (fun H1 h => fin D H1 nD h)⟩
      obtain ⟨j, rfl, hj, ht⟩ := turn D nD i x H1 hx h
      exact ⟨rfl, _, rfl, _, rfl, _, rfl, j, lo, hi, rfl, _, h.2, by rw [List.length_map, List.length_take]; exact small1000 (by omega), same_set nD h.1, by rw [upd_same, ht, List.map_append]; rfl⟩
    · have hS := sqT (K := K) hS
      refine .inr ⟨_, rfl, a, rfl, ⟨_, hS⟩, fun D nD => lc_tup (K := K) (a := a) (xs := ns.map V.int) (fun i H1 => Same H H1 ∧ H1 D = some (.lst ((ns.take i).map fun j => V.bl (inB lo hi j)))) ⟨same_upd nD, by rw [upd_same]; rfl⟩ (fun i H1 _ h => Same.seqT h.1 hS) (fun i x H1 hx h => ?_) (fun H1 h => fin D H1 nD h)⟩
      obtain ⟨j, rfl, hj, ht⟩ := turn D nD i x H1 hx h
      exact ⟨rfl, _, rfl, _, rfl, _, rfl, j, lo, hi, rfl, _, h.2, by rw [List.length_map, List.length_take]; exact small1000 (by omega), same_set nD h.1, by rw [upd_same, ht, List.map_append]; rfl⟩
end
end K2
namespace K2
open PySem PySem.Spec PyProof.Rows L2 BK
abbrev sInit : Stmt := inClass (topS 20) 0
abbrev sLen : Stmt := inClass (topS 20) 2
/-- a column stands at p -/
def ColAt (C : Addr) (H : Hp) (p : Addr) (ns : List Int) : Prop := ∃ dx ct, H p = some (.ins C dx [("counts", .ref ct)]) ∧ H ct = some (.tup (ns.map V.int))
def Good (ns : List Int) : Prop := 1 ≤ ns.length ∧ ns.length ≤ 12 ∧ ns.all (inB 0 9) = true
theorem ColAt.same {C p : Addr} {H H' : Hp} {ns : List Int} (c : ColAt C H p ns) (s : Same H H') : ColAt C H' p ns :=
  let ⟨dx, ct, h1, h2⟩ := c; ⟨dx, ct, s _ _ h1, s _ _ h2⟩
theorem ty_list {K : PySem.W.Frag} {H : Hp} {a : Addr} {xs : List V} (h : SqL K H a xs) : TyX K H (.ref a) (.type "list") := by
  rcases h with (h | ⟨o, h⟩) | ⟨o, its, n, h, hc, _⟩
  · exact .base (.lst h)
  · exact .base (.frz h)
  · exact .kList h hc
theorem ty_tup {K : PySem.W.Frag} {H : Hp} {a : Addr} {xs : List V} (h : SqT K H a xs) : TyX K H (.ref a) (.type "tuple") := by
  rcases h with (h | ⟨o, h⟩) | ⟨o, its, n, h, hc, _⟩
  · exact .base (.tup h)
  · exact .fTuple h
  · exact .kTuple h hc
theorem dp_ints {K : PySem.W.Frag} {H : Hp} : ∀ ns : List Int, DpAll K H (ns.map V.int) (ns.map PyData.int)
  | [] => .nil
  | n :: r => .cons (.int n) (dp_ints r)
theorem shaped_tup (ns : List Int) : SeqAt.shaped (.tuple (ns.map PyData.int)) = true := by
  have h := PySem.W.ke_shaped_ints ns
  simpa [SeqAt.shaped, PyData.canLay0, PyData.depth] using h
theorem eqv_tup (ns ms : List Int) : PyData.eqv (.tuple (ns.map PyData.int)) (.tuple (ms.map PyData.int)) = decide (ns = ms) := by
  rw [← PySem.W.ked_eqvAll ns ms]
  simp [PyData.eqv]
theorem eqv_lst (ns ms : List Int) : PyData.eqv (.list (ns.map PyData.int)) (.list (ms.map PyData.int)) = decide (ns = ms) := by
  rw [← PySem.W.ked_eqvAll ns ms]
  simp [PyData.eqv]

/-! promises -/
def spInit (C : Addr) : Sp := fun vs H Q _ => ∃ (p dx a : Addr) (ns : List Int), vs = [.ref p, .ref a] ∧ H p = some (.ins C dx []) ∧ Sq H a ns ∧ Good ns ∧
  ∀ H', ColAt C H' p ns → (∀ b o, b ≠ p → H b = some o → H' b = some o) → Q .non H'
def spLen (C : Addr) : Sp := fun vs H Q _ => ∃ (p : Addr) (ns : List Int), vs = [.ref p] ∧ ColAt C H p ns ∧ Q (.int ns.length) H
structure CT (K : PySem.W.Frag) (mg : Str → Option Value) (C : Addr) : Prop where
  cl : Cls K C
  nC : NoAttr K C "counts"
  mgC : mg "Column" = some (.ref C)
  isC : C8.InsC K C
  list : mg "list" = none
  tuple : mg "tuple" = none
  len : mg "len" = none
  sum : mg "sum" = none
  enum : mg "enumerate" = none
  zip : mg "zip" = none
  mv : ∃ t, mg "MOST_VALUES" = some (.int 12 t)
  mc : ∃ t, mg "MOST_COUNT" = some (.int 9 t)
theorem lk (ct : Addr) : List.lookup ("counts" : Str) ([("counts", V.ref ct)] : List (Str × V)) = some (.ref ct) := by simp [List.lookup]
section
variable {P : Program} {w : World} {K : PySem.W.Frag} {mg : Str → Option Value} {base : Heap} {fW fB fA C : Addr} {dW dB dA : FuncData}
theorem scInit : FnScope ["self", "counts"] ["self", "counts"] (defScope sInit) := ⟨rfl, rfl, rfl, by decide +kernel, rfl, by decide +kernel, by decide +kernel⟩
theorem ok_init {f : Addr} {fd : FuncData} (F : Fun K "__init__" "Column.__init__" sInit f fd) (Ch : Chk K mg fW fB fA dW dB dA) (T : CT K mg C) : FnOk P w K mg base CX0 4 f fd ["self", "counts"] (spInit C) := by
  have GA : FnOk P w K mg base CX0 3 fA dA ["items", "least", "most"] spAre := ok_are Ch
  obtain ⟨tv, gv⟩ := T.mv
  obtain ⟨tc, gc⟩ := T.mc
  refine F.ok scInit (fun vs H Q E h => ?_) (fun cdv A outer s H vs Q E hr h => ?_)
  · obtain ⟨p, dx, a, ns, rfl, _⟩ := h
    rfl
  · obtain ⟨p, dx, a, ns, rfl, hp, hS, ⟨g1, g2, g3⟩, q⟩ := h
    refine ⟨_, pss_cons (ps_if (PW.pt (pw_or (pt_not (pt_val (pe_callB call_isiT (by rfl) Ch.isi (by decide +kernel) (pa_cons (pv 1) (pa_cons (pe_tup (pa_cons (pe_bltn (v := .ty "list") (by rfl) T.list (by decide +kernel) rfl) (pa_cons (pe_bltn (v := .ty "tuple") (by rfl) T.tuple (by decide +kernel) rfl) pa_nil))) pa_nil)))))
        (pw_or1 (pt_not (pt_chain op_le op_le pe_int (pe_callB call_len_seq (by rfl) T.len PySem.boot_len (pa_cons (pv 1) pa_nil)) (pe_glob (v := .int 12) rfl gv ⟨_, rfl⟩)))))) (pss_one ps_never) pss_nil)
      (pss_cons (ps_if (pt_not (pt_val (pe_call GA hr (by rfl) Ch.gA Ch.A.kp Ch.bA .nil pass0 (pa_cons (pv 1) (pa_cons pe_int (pa_cons (pe_glob (v := .int 9) rfl gc ⟨_, rfl⟩) pa_nil)))))) (pss_one ps_never) pss_nil)
      (pss_one (ps_fld (pv 0) (pe_callTy call_tuple_of (by rfl) T.tuple (by decide +kernel) (pa_cons (pv 1) pa_nil)) rfl))), ?_⟩
    refine ⟨_, rfl, by show 2 ≤ sizeLine; decide, fun T0 nT => ?_⟩
    have s1 : Same H (upd H T0 (.tup [.ty "list", .ty "tuple"])) := same_upd nT
    have hS1 := Same.sq s1 hS
    have kany : ∃ t, TyX K (upd H T0 (.tup [.ty "list", .ty "tuple"])) (.ref a) t ∧ PySem.W.kitAny K t [.type "list", .type "tuple"] = some true := by
      rcases hS1 with h | h
      · exact ⟨_, ty_list (sqL h), kitAny_cons (kit_ty (r := true) (by decide +kernel)) (fun z => nomatch z) (fun _ => rfl)⟩
      · exact ⟨_, ty_tup (sqT h), kitAny_cons (kit_ty (r := false) (by decide +kernel)) (fun _ => kitAny_cons (kit_ty (r := true) (by decide +kernel)) (fun z => nomatch z) (fun _ => rfl)) (fun z => nomatch z)⟩
    obtain ⟨t, ty, ka⟩ := kany
    refine ⟨_, T0, _, t, _, true, rfl, upd_same, .cons (.ty _) (.cons (.ty _) .nil), ty, ka, _, rfl, iteF ?_⟩
    have hq : SqL K (upd H T0 (.tup [.ty "list", .ty "tuple"])) a (ns.map V.int) ∨ SqT K (upd H T0 (.tup [.ty "list", .ty "tuple"])) a (ns.map V.int) := hS1.imp sqL sqT
    refine ⟨_, rfl, a, _, rfl, hq, _, _, rfl, rfl, _, rfl, ?_⟩
    have e1 : decide ((1 : Int) ≤ ((ns.map V.int).length : Int)) = true := by rw [List.length_map]; exact decide_eq_true (by omega)
    have e2 : decide (((ns.map V.int).length : Int) ≤ 12) = true := by rw [List.length_map]; exact decide_eq_true (by omega)
    rw [e1]
    refine iteT ⟨_, _, rfl, rfl, _, rfl, ?_⟩
    rw [e2]
    refine iteF ?_
    refine ⟨_, rfl, a, ns, 0, 9, rfl, hS1, by omega, fun H2 s2 => ⟨_, rfl, ?_⟩⟩
    rw [g3]
    refine iteF ?_
    have s3 := s1.trans s2
    have hp2 := s2 _ _ (s1 _ _ hp)
    have hS2 := Same.sq s3 hS
    refine ⟨_, rfl, a, ns.map V.int, rfl, ?_⟩
    have key : ∀ (ct : Addr) (H3 : Hp), Same H2 H3 → H3 ct = some (.tup (ns.map V.int)) → (∃ (p' C' dx' : Addr) (fs : List (Str × V)), V.ref p = .ref p' ∧ H3 p' = some (.ins C' dx' fs) ∧ Cls K C' ∧ NoAttr K C' "counts" ∧ fs.length < 1000 ∧ Q .non (upd H3 p' (.ins C' dx' (putF "counts" (.ref ct) fs)))) := by
      intro ct H3 s4 hct
      have hp3 := s4 _ _ hp2
      have ne : ct ≠ p := fun z => by rw [z, hp3] at hct; cases hct
      refine ⟨p, C, dx, [], rfl, hp3, T.cl, T.nC, by show 0 < 1000; decide, ?_⟩
      refine q _ ⟨dx, ct, upd_same, by rw [upd_ne ne]; exact hct⟩ fun b o nb e => ?_
      rw [upd_ne nb]
      exact s4 _ _ (s3 _ _ e)
    rcases hS2 with h | h
    · refine .inl ⟨sqL h, fun l nl => ?_⟩
      exact ⟨_, rfl, key l _ (same_upd nl) upd_same⟩
    · refine .inr ⟨sqT h, ?_⟩
      exact ⟨_, rfl, key a H2 (Same.refl _) h⟩
theorem scLen : FnScope ["self"] ["self"] (defScope sLen) := ⟨rfl, rfl, rfl, by decide +kernel, rfl, by decide +kernel, by decide +kernel⟩
theorem ok_len {f : Addr} {fd : FuncData} (F : Fun K "__len__" "Column.__len__" sLen f fd) (T : CT K mg C) : FnOk P w K mg base CX0 1 f fd ["self"] (spLen C) := by
  refine F.ok scLen (fun vs H Q E h => ?_) (fun cdv A outer s H vs Q E hr h => ?_)
  · obtain ⟨p, ns, rfl, _⟩ := h
    rfl
  · obtain ⟨p, ns, rfl, ⟨dx, ct, h1, h2⟩, q⟩ := h
    refine ⟨_, pss_one (ps_ret (pe_callB call_len_seq (by rfl) T.len PySem.boot_len (pa_cons (pe_fld (pv 0) rfl) pa_nil))), ?_⟩
    refine ⟨_, rfl, p, C, dx, _, _, rfl, h1, T.cl, T.nC, lk ct, ct, _, rfl, .inr (sqT h2), ?_⟩
    rw [List.length_map]
    exact q
end
end K2
namespace K2
open PySem PySem.Spec PyProof.Rows L2 BK
abbrev sAsc : Stmt := topS 14
abbrev sCuts : Stmt := topS 15
abbrev sNumb : Stmt := topS 16
abbrev sCCuts : Stmt := topS 17
abbrev sPairs : Stmt := topS 18
abbrev sCCol : Stmt := topS 21
abbrev sArgs : Stmt := topS 24
abbrev sSpan : Stmt := topS 25
theorem map_get {ns : List Int} {i : Nat} {x : V} (h : (ns.map V.int)[i]? = some x) : ∃ v, x = .int v ∧ ns[i]? = some v := by
  rw [List.getElem?_map] at h
  cases e : ns[i]? with
  | none => rw [e] at h; cases h
  | some v =>
    rw [e] at h
    exact ⟨v, (Option.some.inj h).symm, rfl⟩
def ordB (ns : List Int) : Bool := (ns.zip (ns.drop 1)).all fun p => decide (p.1 < p.2)
def ascB (ns : List Int) (past : Int) : Bool := ns.all (inB 0 (past - 1)) && ordB ns
def cutsB (ns : List Int) (w : Int) : Bool := ascB ns w && (decide (0 < ns.length) && decide (ns.head? = some 0))
def maxI (ns : List Int) : Int := ns.tail.foldl max (ns.headD 0)
def minI (ns : List Int) : Int := ns.tail.foldl min (ns.headD 0)
theorem foldl_max : ∀ (r : List Int) (x : Int), (r.foldl max x = x ∨ r.foldl max x ∈ r) ∧ x ≤ r.foldl max x ∧ ∀ y ∈ r, y ≤ r.foldl max x
  | [], x => ⟨.inl rfl, Int.le_refl _, fun y h => by cases h⟩
  | a :: r, x => by
    obtain ⟨h1, h2, h3⟩ := foldl_max r (max x a)
    rw [List.foldl_cons]
    refine ⟨?_, by omega, fun y hy => ?_⟩
    · rcases h1 with h1 | h1
      · rw [h1]
        rcases Int.le_total x a with h | h
        · right; rw [Int.max_eq_right h]; simp
        · left; rw [Int.max_eq_left h]
      · right; exact List.mem_cons_of_mem _ h1
    · rcases List.mem_cons.mp hy with rfl | hy
      · omega
      · exact h3 y hy
theorem foldl_min : ∀ (r : List Int) (x : Int), (r.foldl min x = x ∨ r.foldl min x ∈ r) ∧ r.foldl min x ≤ x ∧ ∀ y ∈ r, r.foldl min x ≤ y
  | [], x => ⟨.inl rfl, Int.le_refl _, fun y h => by cases h⟩
  | a :: r, x => by
    obtain ⟨h1, h2, h3⟩ := foldl_min r (min x a)
    rw [List.foldl_cons]
    refine ⟨?_, by omega, fun y hy => ?_⟩
    · rcases h1 with h1 | h1
      · rw [h1]
        rcases Int.le_total x a with h | h
        · left; rw [Int.min_eq_left h]
        · right; rw [Int.min_eq_right h]; simp
      · right; exact List.mem_cons_of_mem _ h1
    · rcases List.mem_cons.mp hy with rfl | hy
      · omega
      · exact h3 y hy
theorem maxI_mem {ns : List Int} (h : ns ≠ []) : maxI ns ∈ ns := by
  cases ns with
  | nil => exact absurd rfl h
  | cons a r =>
    rcases (foldl_max r a).1 with e | e
    · show r.foldl max a ∈ a :: r
      rw [e]; exact List.mem_cons_self
    · exact List.mem_cons_of_mem _ e
theorem le_maxI {ns : List Int} {y : Int} (h : y ∈ ns) : y ≤ maxI ns := by
  cases ns with
  | nil => cases h
  | cons a r =>
    rcases List.mem_cons.mp h with rfl | h
    · exact (foldl_max r y).2.1
    · exact (foldl_max r a).2.2 y h
theorem minI_mem {ns : List Int} (h : ns ≠ []) : minI ns ∈ ns := by
  cases ns with
  | nil => exact absurd rfl h
  | cons a r =>
    rcases (foldl_min r a).1 with e | e
    · show r.foldl min a ∈ a :: r
      rw [e]; exact List.mem_cons_self
    · exact List.mem_cons_of_mem _ e
theorem minI_le {ns : List Int} {y : Int} (h : y ∈ ns) : minI ns ≤ y := by
  cases ns with
  | nil => cases h
  | cons a r =>
    rcases List.mem_cons.mp h with rfl | h
    · exact (foldl_min r y).2.1
    · exact (foldl_min r a).2.2 y h
theorem maxI_of {ns : List Int} {m : Int} (h : m ∈ ns) (g : ∀ y ∈ ns, y ≤ m) : m = maxI ns :=
  Int.le_antisymm (le_maxI h) (g _ (maxI_mem (List.ne_nil_of_mem h)))
theorem minI_of {ns : List Int} {m : Int} (h : m ∈ ns) (g : ∀ y ∈ ns, m ≤ y) : m = minI ns :=
  Int.le_antisymm (g _ (minI_mem (List.ne_nil_of_mem h))) (minI_le h)
def spanI (ns : List Int) : Int := maxI ns - minI ns
/-! promises -/
def spAsc : Sp := fun vs H Q _ => ∃ (t : Addr) (ns : List Int) (past : Int), vs = [.ref t, .int past] ∧ H t = some (.tup (ns.map V.int)) ∧ ns.length ≤ 900 ∧ ∀ H', Same H H' → Q (.bl (ascB ns past)) H'
def spCuts : Sp := fun vs H Q _ => ∃ (t : Addr) (ns : List Int) (w : Int), vs = [.ref t, .int w] ∧ H t = some (.tup (ns.map V.int)) ∧ ns.length ≤ 900 ∧ ∀ H', Same H H' → Q (.bl (cutsB ns w)) H'
def spNumb : Sp := fun vs H Q _ => ∃ (i lo hi : Int), vs = [.int i, .int lo, .int hi] ∧ lo ≤ i ∧ i ≤ hi ∧ Q .non H
def spCCuts : Sp := fun vs H Q _ => ∃ (t : Addr) (ns : List Int) (w : Int), vs = [.ref t, .int w] ∧ H t = some (.tup (ns.map V.int)) ∧ ns.length ≤ 900 ∧ cutsB ns w = true ∧ ∀ H', Same H H' → Q .non H'
/-- a list of pairs of ints -/
def PrsI (H : Hp) (q : Addr) (L : List (Int × Int)) : Prop := ∃ ps : List Addr, H q = some (.lst (ps.map V.ref)) ∧ ps.length = L.length ∧ ∀ (k : Nat) (p : Addr) (ab : Int × Int), ps[k]? = some p → L[k]? = some ab → H p = some (.tup [.int ab.1, .int ab.2])
def pairsL (cs : List Int) (w : Int) : List (Int × Int) := cs.zip (cs.drop 1 ++ [w])
def spPairs : Sp := fun vs H Q _ => ∃ (t : Addr) (cs : List Int) (w : Int), vs = [.ref t, .int w] ∧ H t = some (.tup (cs.map V.int)) ∧ cs ≠ [] ∧ cs.length ≤ 900 ∧ ∀ q H', H q = none → Same H H' → PrsI H' q (pairsL cs w) → Q (.ref q) H'
def spCCol (C : Addr) : Sp := fun vs H Q _ => ∃ (p : Addr) (ns : List Int), vs = [.ref p] ∧ ColAt C H p ns ∧ Q .non H
def spArgs (C : Addr) : Sp := fun vs H Q _ => ∃ (p : Addr) (ns : List Int) (b : Int), vs = [.ref p, .int b] ∧ ColAt C H p ns ∧ 1 ≤ b ∧ b ≤ ns.length ∧ ns.length ≤ 12 ∧ Q .non H
def spSpan : Sp := fun vs H Q _ => ∃ (t : Addr) (ns : List Int), vs = [.ref t] ∧ (H t = some (.lst (ns.map V.int)) ∨ H t = some (.tup (ns.map V.int))) ∧ ns ≠ [] ∧ Q (.int (spanI ns)) H
structure GT (K : PySem.W.Frag) (mg : Str → Option Value) (g1 g2 g3 g4 g5 g6 g7 g8 : Addr) (d1 d2 d3 d4 d5 d6 d7 d8 : FuncData) : Prop where
  max : mg "max" = none
  min : mg "min" = none
  F1 : Fun K "are_ascending" "are_ascending" sAsc g1 d1
  F2 : Fun K "are_cuts" "are_cuts" sCuts g2 d2
  F3 : Fun K "check_number" "check_number" sNumb g3 d3
  F4 : Fun K "check_cuts" "check_cuts" sCCuts g4 d4
  F5 : Fun K "bucket_pairs" "bucket_pairs" sPairs g5 d5
  F6 : Fun K "check_column" "check_column" sCCol g6 d6
  F7 : Fun K "_check_arguments" "_check_arguments" sArgs g7 d7
  F8 : Fun K "_span" "_span" sSpan g8 d8
  g1 : mg "are_ascending" = some (.ref g1)
  g2 : mg "are_cuts" = some (.ref g2)
  g3 : mg "check_number" = some (.ref g3)
  g4 : mg "check_cuts" = some (.ref g4)
  g5 : mg "bucket_pairs" = some (.ref g5)
  g6 : mg "check_column" = some (.ref g6)
  g7 : mg "_check_arguments" = some (.ref g7)
  g8 : mg "_span" = some (.ref g8)
  b1 : Binds K d1 ["items", "past"] []
  b2 : Binds K d2 ["cuts", "width"] []
  b3 : Binds K d3 ["number", "least", "most"] []
  b4 : Binds K d4 ["cuts", "width"] []
  b5 : Binds K d5 ["cuts", "width"] []
  b6 : Binds K d6 ["column"] []
  b7 : Binds K d7 ["column", "buckets"] []
  b8 : Binds K d8 ["counts"] []
section
variable {P : Program} {w : World} {K : PySem.W.Frag} {mg : Str → Option Value} {base : Heap} {fW fB fA C : Addr} {dW dB dA : FuncData} {g1 g2 g3 g4 g5 g6 g7 g8 : Addr} {d1 d2 d3 d4 d5 d6 d7 d8 : FuncData}
theorem scAsc : FnScope ["items", "past", "one", "other"] ["items", "past"] (defScope sAsc) := ⟨rfl, rfl, rfl, by decide +kernel, rfl, by decide +kernel, by decide +kernel⟩
theorem ok_asc (G : GT K mg g1 g2 g3 g4 g5 g6 g7 g8 d1 d2 d3 d4 d5 d6 d7 d8) (Ch : Chk K mg fW fB fA dW dB dA) (T : CT K mg C) : FnOk P w K mg base CX0 4 g1 d1 ["items", "past"] spAsc := by
  have GA : FnOk P w K mg base CX0 3 fA dA ["items", "least", "most"] spAre := ok_are Ch
  refine G.F1.ok scAsc (fun vs H Q E h => ?_) (fun cdv A outer s H vs Q E hr h => ?_)
  · obtain ⟨t, ns, past, rfl, _⟩ := h
    rfl
  · obtain ⟨t, ns, past, rfl, ht, hlen, q⟩ := h
    refine ⟨_, pss_cons (ps_if (PW.pt (pw_or (pt_not (pt_val (pe_callB call_isi (by rfl) Ch.isi (by decide +kernel) (pa_cons (pv 0) (pa_cons (pe_bltn (v := .ty "tuple") (by rfl) T.tuple (by decide +kernel) rfl) pa_nil)))))
        (pw_or1 (pt_not (pt_val (pe_call GA hr (by rfl) Ch.gA Ch.A.kp Ch.bA .nil pass0 (pa_cons (pv 0) (pa_cons pe_int (pa_cons (pe_op op_sub (pv 1) pe_int) pa_nil))))))))) (pss_one (ps_ret pe_bl)) pss_nil)
      (pss_one (ps_ret (pe_callB (cr_all rfl) (by rfl) Ch.all (by decide +kernel) (pa_cons (pe_lc (own := [("one", 2), ("other", 3)]) (g := gTup K 2 (gCons (gName 2) (gCons (gName 3) gNil))) (tt := tYes) (te := tOp (rI0 fun i j => .bl (decide (i < j))) (tVar 2) (tVar 3)) rfl scAsc.nd
          (RZ.pi_zipA (by rfl) T.zip (pa_cons (pv 0) (pa_cons (pe_slice sl_tupA (pv 0) (po_some pe_int) po_none) pa_nil))) (blkOk_by (N := ["items", "past", "one", "other"]) (sc := defScope sAsc) (by decide +kernel))
          (fun _ _ _ _ _ => pg_tup rfl (pgs_cons (pg_name (i := 2) scAsc.nd rfl (Or.inl rfl)) (pgs_cons (pg_name (i := 3) scAsc.nd rfl (Or.inl rfl)) pgs_nil))) (fun _ _ _ _ _ => pts_nil)
          (fun _ _ _ _ _ => pe_cmpR op_lt (pv 2) (pv 3) (nomark _))) pa_nil)))), ?_⟩
    have hl : (ns.map V.int).length = ns.length := List.length_map ..
    refine ⟨_, rfl, _, _, _, _, true, rfl, .ty _, ty_tup (sqT ht), kit_ty (by decide +kernel), _, rfl, iteF ?_⟩
    refine ⟨_, rfl, _, rfl, _, _, rfl, rfl, t, ns, 0, past - 1, rfl, .inr ht, by omega, fun H1 s1 => ⟨_, rfl, ?_⟩⟩
    cases ha : ns.all (inB 0 (past - 1)) with
    | false =>
      refine iteT ?_
      have e : ascB ns past = false := by unfold ascB; rw [ha]; rfl
      have := q H1 s1
      rw [e] at this
      exact this
    | true =>
      refine iteF ?_
      have e : ascB ns past = ordB ns := by unfold ascB; rw [ha]; rfl
      have ht1 := s1 _ _ ht
      -- the comprehension, whatever tuple the slice is
      have comp : ∀ (b : Addr) (H2 : Hp), Same H1 H2 → H2 b = some (.tup ((ns.drop 1).map V.int)) → ∀ D, H2 D = none → ∃ W : Nat → Nat → Hp → Prop, (∃ m, W 0 m (upd H2 D (.lst []))) ∧ ∀ i m H, W i m H →
          ((RZ.ItzT K t b).stop i H ∧ rAll K [.ref D] H Q) ∨ ((RZ.ItzT K t b).go i H ∧ ∃ Nx : Hp → Prop, (∀ H', Nx H' → ∃ m', m' < m ∧ W (i + 1) m' H') ∧ ∀ x H', (RZ.ItzT K t b).yld i H x H' → gTup K 2 (gCons (gName 2) (gCons (gName 3) gNil)) x (wipe (L2.start ["items", "past", "one", "other"] [.ref t, .int past]) [2, 3]) H' fun σ2 H2 => wipe σ2 [2, 3] = wipe (L2.start ["items", "past", "one", "other"] [.ref t, .int past]) [2, 3] ∧ tYes σ2 H2 fun b H3 =>
            if b = true then tOp (rI0 fun i j => .bl (decide (i < j))) (tVar 2) (tVar 3) σ2 H3 fun y H4 => ∃ acc, H4 D = some (.lst acc) ∧ acc.length < sizeLine ∧ Nx (upd H4 D (.lst (acc ++ [y]))) else Nx H3) := by
        intro b H2 s2 hb D nD
        have ht2 := s2 _ _ ht1
        have zl : (ns.zip (ns.drop 1)).length = ns.length - 1 := by rw [List.length_zip, List.length_drop]; omega
        refine lc_it (walk_zipT (K := K) (a := t) (b := b) (n := ns.length - 1) (xs := ns.map V.int) (ys := (ns.drop 1).map V.int) (by rw [hl, List.length_map, List.length_drop]; omega))
          (fun i H3 => Same H2 H3 ∧ H3 D = some (.lst (((ns.zip (ns.drop 1)).take i).map fun p => V.bl (decide (p.1 < p.2))))) ⟨same_upd nD, by rw [upd_same]; rfl⟩ (fun i H3 _ h => ⟨sqT (h.1 _ _ ht2), sqT (h.1 _ _ hb)⟩) ?_ ?_
        · rintro i x H3 H4 hi ⟨s3, e3⟩ ⟨T0, x1, y1, rfl, nT, rfl, ex, ey⟩
          obtain ⟨u, rfl, hu⟩ := map_get ex
          obtain ⟨v, rfl, hv⟩ := map_get ey
          have nDT : D ≠ T0 := fun z => by rw [← z, e3] at nT; cases nT
          have ez : (ns.zip (ns.drop 1))[i]? = some (u, v) := by rw [List.getElem?_zip_eq_some]; exact ⟨hu, hv⟩
          refine ⟨T0, _, rfl, sqT upd_same, rfl, _, _, rfl, _, _, rfl, rfl, rfl, _, rfl, _, rfl, _, _, rfl, rfl, _, by rw [upd_ne nDT]; exact e3, by rw [List.length_map, List.length_take]; exact small1000 (by omega), same_set nD (s3.trans (same_upd nT)), ?_⟩
          rw [upd_same, List.take_succ, ez, List.map_append]
          rfl
        · rintro H3 ⟨s3, e3⟩
          rw [List.take_of_length_le (by rw [zl]; exact Nat.le_refl _)] at e3
          refine ⟨D, (ns.zip (ns.drop 1)).map (fun p => decide (p.1 < p.2)), rfl, sqL (by rw [e3, List.map_map]; rfl), ?_⟩
          have e2 : ((ns.zip (ns.drop 1)).map (fun p => decide (p.1 < p.2))).all id = ordB ns := by unfold ordB; rw [List.all_map]; rfl
          rw [e2, ← e]
          exact q H3 ((s1.trans s2).trans s3)
      have ecut : cutV (ns.map V.int) (some 1) none = (ns.drop 1).map V.int := by
        unfold cutV
        rw [show HT.sIx (ns.map V.int).length 0 (some 1) = min 1 (ns.map V.int).length from HT.sIx_nat _ 0 1, HT.sIx_none, hl]
        rw [List.take_of_length_le (by rw [List.length_drop, hl]; exact Nat.le_refl _), ← List.map_drop]
        congr 1
        rcases Nat.le_total 1 ns.length with h | h
        · rw [Nat.min_eq_left h]
        · rw [Nat.min_eq_right h, List.drop_of_length_le (Nat.le_refl _), List.drop_of_length_le h]
      refine ⟨_, rfl, _, rfl, 1, rfl, t, _, rfl, sqT ht1, fun z => ?_, fun _ b nb => ?_⟩
      · have h0 : ns = [] := by
          rw [show HT.sIx (ns.map V.int).length 0 (some 1) = min 1 (ns.map V.int).length from HT.sIx_nat _ 0 1, hl] at z
          exact List.length_eq_zero_iff.mp (by omega)
        refine ⟨t, t, _, _, rfl, .inr ⟨sqT ht1, sqT ht1, fun D nD => comp t H1 (Same.refl _) (by rw [ht1, h0]; rfl) D nD⟩⟩
      · rw [ecut]
        exact ⟨t, b, _, _, rfl, .inr ⟨sqT (same_upd nb _ _ ht1), sqT upd_same, fun D nD => comp b _ (same_upd nb) upd_same D nD⟩⟩
end
end K2
namespace K2
open PySem PySem.Spec PyProof.Rows L2 BK
structure LnT (K : PySem.W.Frag) (C fL : Addr) (dL : FuncData) : Prop where
  FL : Fun K "__len__" "Column.__len__" sLen fL dL
  bL : Binds K dL ["self"] []
  eL : PySem.W.findIn K (.ref C) "__len__" = some (some (.ref fL))
  iL : PySem.W.isFn K (.ref fL) = true
section
variable {P : Program} {w : World} {K : PySem.W.Frag} {mg : Str → Option Value} {base : Heap} {fW fB fA C fL : Addr} {dW dB dA dL : FuncData} {g1 g2 g3 g4 g5 g6 g7 g8 : Addr} {d1 d2 d3 d4 d5 d6 d7 d8 : FuncData}
theorem scCuts : FnScope ["cuts", "width"] ["cuts", "width"] (defScope sCuts) := ⟨rfl, rfl, rfl, by decide +kernel, rfl, by decide +kernel, by decide +kernel⟩
theorem ok_cuts (G : GT K mg g1 g2 g3 g4 g5 g6 g7 g8 d1 d2 d3 d4 d5 d6 d7 d8) (Ch : Chk K mg fW fB fA dW dB dA) (T : CT K mg C) : FnOk P w K mg base CX0 5 g2 d2 ["cuts", "width"] spCuts := by
  have GA : FnOk P w K mg base CX0 4 g1 d1 ["items", "past"] spAsc := ok_asc G Ch T
  refine G.F2.ok scCuts (fun vs H Q E h => ?_) (fun cdv A outer s H vs Q E hr h => ?_)
  · obtain ⟨t, ns, past, rfl, _⟩ := h
    rfl
  · obtain ⟨t, ns, wd, rfl, ht, hlen, q⟩ := h
    refine ⟨_, pss_one (ps_ret (pe_and (pe_call GA hr (by rfl) G.g1 G.F1.kp G.b1 .nil pass0 (pa_cons (pv 0) (pa_cons (pv 1) pa_nil)))
      (pe_and (pe_cmpR op_gt (pe_callB call_len_seq (by rfl) T.len PySem.boot_len (pa_cons (pv 0) pa_nil)) pe_int (nomark _))
        (pe_one (pe_cmpR op_eq (pe_ix ix_tup (pv 0) pe_int (fun _ _ => rfl)) pe_int (nomark _)))))), ?_⟩
    refine ⟨_, rfl, _, rfl, t, ns, wd, rfl, ht, hlen, fun H1 s1 => ⟨_, rfl, ?_⟩⟩
    have q1 := q H1 s1
    have ht1 := s1 _ _ ht
    cases ha : ascB ns wd with
    | false =>
      have e : cutsB ns wd = false := by unfold cutsB; rw [ha]; rfl
      rw [e] at q1
      exact iteF q1
    | true =>
      refine iteT ⟨_, rfl, t, _, rfl, .inr (sqT ht1), _, _, rfl, rfl, _, rfl, ?_⟩
      rw [List.length_map]
      cases ns with
      | nil =>
        have e : cutsB [] wd = false := by unfold cutsB; simp
        rw [e] at q1
        exact iteF q1
      | cons x r =>
        rw [decide_eq_true (by show (0 : Int) < _; simp)]
        refine iteT ⟨_, rfl, t, _, ((0 : Nat) : Int), .int x, rfl, rfl, sqT ht1, atI_nat rfl, rfl, ?_⟩
        have e : cutsB (x :: r) wd = decide (x = 0) := by unfold cutsB; rw [ha]; simp
        rw [e, show decide (x = 0) = decide (V.int x = V.int 0) by simp] at q1
        exact q1
theorem scNumb : FnScope ["number", "least", "most"] ["number", "least", "most"] (defScope sNumb) := ⟨rfl, rfl, rfl, by decide +kernel, rfl, by decide +kernel, by decide +kernel⟩
theorem ok_numb (G : GT K mg g1 g2 g3 g4 g5 g6 g7 g8 d1 d2 d3 d4 d5 d6 d7 d8) (Ch : Chk K mg fW fB fA dW dB dA) : FnOk P w K mg base CX0 3 g3 d3 ["number", "least", "most"] spNumb := by
  have GB : FnOk P w K mg base CX0 2 fB dB ["item", "least", "most"] spBetween := ok_between Ch
  refine G.F3.ok scNumb (fun vs H Q E h => ?_) (fun cdv A outer s H vs Q E hr h => ?_)
  · obtain ⟨i, lo, hi, rfl, _⟩ := h
    rfl
  · obtain ⟨i, lo, hi, rfl, h1, h2, q⟩ := h
    refine ⟨_, pss_one (ps_if (pt_not (pt_val (pe_call GB hr (by rfl) Ch.gB Ch.B.kp Ch.bB .nil pass0 (pa_cons (pv 0) (pa_cons (pv 1) (pa_cons (pv 2) pa_nil)))))) (pss_one ps_never) pss_nil), ?_⟩
    refine ⟨_, rfl, _, rfl, _, rfl, i, lo, hi, rfl, _, rfl, ?_⟩
    have e : inB lo hi i = true := by unfold inB; simp [h1, h2]
    rw [e]
    exact iteF q
theorem scCCuts : FnScope ["cuts", "width"] ["cuts", "width"] (defScope sCCuts) := ⟨rfl, rfl, rfl, by decide +kernel, rfl, by decide +kernel, by decide +kernel⟩
theorem ok_ccuts (G : GT K mg g1 g2 g3 g4 g5 g6 g7 g8 d1 d2 d3 d4 d5 d6 d7 d8) (Ch : Chk K mg fW fB fA dW dB dA) (T : CT K mg C) : FnOk P w K mg base CX0 6 g4 d4 ["cuts", "width"] spCCuts := by
  have GC : FnOk P w K mg base CX0 5 g2 d2 ["cuts", "width"] spCuts := ok_cuts G Ch T
  refine G.F4.ok scCCuts (fun vs H Q E h => ?_) (fun cdv A outer s H vs Q E hr h => ?_)
  · obtain ⟨t, ns, wd, rfl, _⟩ := h
    rfl
  · obtain ⟨t, ns, wd, rfl, ht, hlen, hc, q⟩ := h
    refine ⟨_, pss_one (ps_if (pt_not (pt_val (pe_call GC hr (by rfl) G.g2 G.F2.kp G.b2 .nil pass0 (pa_cons (pv 0) (pa_cons (pv 1) pa_nil))))) (pss_one ps_never) pss_nil), ?_⟩
    refine ⟨_, rfl, _, rfl, t, ns, wd, rfl, ht, hlen, fun H1 s1 => ⟨_, rfl, ?_⟩⟩
    rw [hc]
    exact iteF (q H1 s1)
theorem pairs_get {cs : List Int} {wd : Int} {k : Nat} {ab : Int × Int} (h : (pairsL cs wd)[k]? = some ab) : cs[k]? = some ab.1 ∧ (cs.drop 1 ++ [wd])[k]? = some ab.2 := by
  unfold pairsL at h
  rw [List.getElem?_zip_eq_some] at h
  exact h
theorem cut1 (ns : List Int) : cutV (ns.map V.int) (some 1) none = (ns.drop 1).map V.int := by
  have hl : (ns.map V.int).length = ns.length := List.length_map ..
  unfold cutV
  rw [show HT.sIx (ns.map V.int).length 0 (some 1) = min 1 (ns.map V.int).length from HT.sIx_nat _ 0 1, HT.sIx_none, hl]
  rw [List.take_of_length_le (by rw [List.length_drop, hl]; exact Nat.le_refl _), ← List.map_drop]
  congr 1
  rcases Nat.le_total 1 ns.length with h | h
  · rw [Nat.min_eq_left h]
  · rw [Nat.min_eq_right h, List.drop_of_length_le (Nat.le_refl _), List.drop_of_length_le h]
theorem scPairs : FnScope ["cuts", "width"] ["cuts", "width"] (defScope sPairs) := ⟨rfl, rfl, rfl, by decide +kernel, rfl, by decide +kernel, by decide +kernel⟩
theorem ok_pairs (G : GT K mg g1 g2 g3 g4 g5 g6 g7 g8 d1 d2 d3 d4 d5 d6 d7 d8) (T : CT K mg C) : FnOk P w K mg base CX0 1 g5 d5 ["cuts", "width"] spPairs := by
  refine G.F5.ok scPairs (fun vs H Q E h => ?_) (fun cdv A outer s H vs Q E hr h => ?_)
  · obtain ⟨t, ns, wd, rfl, _⟩ := h
    rfl
  · obtain ⟨t, cs, wd, rfl, ht, hne, hlen, q⟩ := h
    have hl : (cs.map V.int).length = cs.length := List.length_map ..
    have h0 : 0 < cs.length := List.length_pos_iff.mpr hne
    refine ⟨_, pss_one (ps_ret (pe_listZip rfl (by rfl) T.list (by rfl) T.zip (pa_cons (pv 0) (pa_cons (pe_op op_catA (pe_slice sl_tupA (pv 0) (po_some pe_int) po_none) (pe_tup (pa_cons (pv 1) pa_nil))) pa_nil)))), ?_⟩
    refine ⟨_, rfl, _, rfl, 1, rfl, t, _, rfl, sqT ht, fun z => ?_, fun _ b nb => ?_⟩
    · exfalso
      have z1 := z.1
      rw [show HT.sIx (cs.map V.int).length 0 (some 1) = min 1 (cs.map V.int).length from HT.sIx_nat _ 0 1, hl] at z1
      omega
    · rw [cut1]
      have s1 : Same H (upd H b (.tup ((cs.drop 1).map V.int))) := same_upd nb
      refine ⟨_, rfl, by show 1 ≤ sizeLine; decide, fun u nu => ?_⟩
      have s2 : Same H (upd (upd H b (.tup ((cs.drop 1).map V.int))) u (.tup [.int wd])) := s1.trans (same_upd nu)
      have hb : (upd (upd H b (.tup ((cs.drop 1).map V.int))) u (.tup [.int wd])) b = some (.tup ((cs.drop 1).map V.int)) := same_upd nu _ _ upd_same
      have fin : ∀ (r : Addr) (H3 : Hp), Same H H3 → H3 r = some (.tup ((cs.drop 1 ++ [wd]).map V.int)) → rLZ K [.ref t, .ref r] H3 Q := by
        intro r H3 s3 hr3
        have lz : ((cs.drop 1 ++ [wd]).map V.int).length = cs.length := by rw [List.length_map, List.length_append, List.length_drop]; simp; omega
        refine ⟨t, r, _, _, rfl, .inr (sqT (s3 _ _ ht)), .inr (sqT hr3), by rw [lz, hl, Nat.min_self]; omega, fun x ps H' nx s4 hx hp pr => ?_⟩
        rw [lz, hl, Nat.min_self] at hp
        refine q x H' (s3.free nx) (s3.trans s4) ⟨ps, hx, ?_, fun k p ab hk hab => ?_⟩
        · unfold pairsL
          rw [hp, List.length_zip, List.length_append, List.length_drop]
          simp
          omega
        · obtain ⟨x, y, e1, e2, e3⟩ := pr k p hk
          obtain ⟨f1, f2⟩ := pairs_get hab
          rw [List.getElem?_map, f1] at e1
          rw [List.getElem?_map, f2] at e2
          cases e1
          cases e2
          exact e3
      refine ⟨b, u, _, _, rfl, rfl, sqT hb, sqT upd_same, ?_, fun z => ?_, fun _ z => (nomatch z), fun _ _ r nr => ?_⟩
      · rw [List.length_map, List.length_drop]
        exact Nat.le_of_lt (small1000 (by show _ + 1 ≤ 1000; omega))
      · refine fin u _ s2 ?_
        have e : cs.drop 1 = [] := List.map_eq_nil_iff.mp z
        rw [e, upd_same]
        rfl
      · refine fin r _ (s2.trans (same_upd nr)) ?_
        rw [upd_same, List.map_append]
        rfl
theorem scCCol : FnScope ["column"] ["column"] (defScope sCCol) := ⟨rfl, rfl, rfl, by decide +kernel, rfl, by decide +kernel, by decide +kernel⟩
theorem ok_ccol (G : GT K mg g1 g2 g3 g4 g5 g6 g7 g8 d1 d2 d3 d4 d5 d6 d7 d8) (Ch : Chk K mg fW fB fA dW dB dA) (T : CT K mg C) : FnOk P w K mg base CX0 1 g6 d6 ["column"] (spCCol C) := by
  refine G.F6.ok scCCol (fun vs H Q E h => ?_) (fun cdv A outer s H vs Q E hr h => ?_)
  · obtain ⟨p, ns, rfl, _⟩ := h
    rfl
  · obtain ⟨p, ns, rfl, ⟨dx, ct, h1, h2⟩, q⟩ := h
    refine ⟨_, pss_one (ps_if (pt_not (pt_val (pe_callB (C8.call_isC T.isC) (by rfl) Ch.isi (by decide +kernel) (pa_cons (pv 0) (pa_cons (pe_glob (v := .ref C) rfl T.mgC rfl) pa_nil))))) (pss_one ps_never) pss_nil), ?_⟩
    exact ⟨_, rfl, p, dx, _, rfl, h1, _, rfl, iteF q⟩
theorem scArgs : FnScope ["column", "buckets"] ["column", "buckets"] (defScope sArgs) := ⟨rfl, rfl, rfl, by decide +kernel, rfl, by decide +kernel, by decide +kernel⟩
theorem ok_args (G : GT K mg g1 g2 g3 g4 g5 g6 g7 g8 d1 d2 d3 d4 d5 d6 d7 d8) (Ch : Chk K mg fW fB fA dW dB dA) (T : CT K mg C) (Ln : LnT K C fL dL) : FnOk P w K mg base CX0 4 g7 d7 ["column", "buckets"] (spArgs C) := by
  have GC : FnOk P w K mg base CX0 1 g6 d6 ["column"] (spCCol C) := ok_ccol G Ch T
  have GN : FnOk P w K mg base CX0 3 g3 d3 ["number", "least", "most"] spNumb := ok_numb G Ch
  have GL : FnOk P w K mg base CX0 1 fL dL ["self"] (spLen C) := ok_len Ln.FL T
  refine G.F7.ok scArgs (fun vs H Q E h => ?_) (fun cdv A outer s H vs Q E hr h => ?_)
  · obtain ⟨p, ns, b, rfl, _⟩ := h
    rfl
  · obtain ⟨p, ns, b, rfl, hc, h1, h2, h3, q⟩ := h
    refine ⟨_, pss_cons (ps_expr (pe_call GC (hr.mono (by decide)) (by rfl) G.g6 G.F6.kp G.b6 .nil pass0 (pa_cons (pv 0) pa_nil)))
      (pss_one (ps_expr (pe_call GN hr (by rfl) G.g3 G.F3.kp G.b3 .nil pass0 (pa_cons (pv 1) (pa_cons pe_int (pa_cons (pe_callB (call_lenOwn GL (hr.mono (by decide)) Ln.eL Ln.iL Ln.bL pass0) (by rfl) T.len PySem.boot_len (pa_cons (pv 0) pa_nil)) pa_nil)))))), ?_⟩
    obtain ⟨dx, ct, e1, e2⟩ := id hc
    exact ⟨_, rfl, p, ns, rfl, hc, _, rfl, _, rfl, p, dx, _, rfl, e1, p, ns, rfl, hc, _, rfl, by omega, by omega, b, 1, _, rfl, h1, h2, q⟩
theorem scSpan : FnScope ["counts"] ["counts"] (defScope sSpan) := ⟨rfl, rfl, rfl, by decide +kernel, rfl, by decide +kernel, by decide +kernel⟩
theorem ok_span (G : GT K mg g1 g2 g3 g4 g5 g6 g7 g8 d1 d2 d3 d4 d5 d6 d7 d8) : FnOk P w K mg base CX0 1 g8 d8 ["counts"] spSpan := by
  refine G.F8.ok scSpan (fun vs H Q E h => ?_) (fun cdv A outer s H vs Q E hr h => ?_)
  · obtain ⟨t, ns, rfl, _⟩ := h
    rfl
  · obtain ⟨t, ns, rfl, hS, hne, q⟩ := h
    have h0 : 0 < ns.length := List.length_pos_iff.mpr hne
    refine ⟨_, pss_one (ps_ret (pe_op op_sub (pe_callB (cr_maxT rfl) (by rfl) G.max (by decide +kernel) (pa_cons (pv 0) pa_nil)) (pe_callB (cr_minT rfl) (by rfl) G.min (by decide +kernel) (pa_cons (pv 0) pa_nil)))), ?_⟩
    have hs : SqL K H t (ns.map V.int) ∨ SqT K H t (ns.map V.int) := hS.imp sqL sqT
    refine ⟨_, rfl, t, ns, rfl, hs, h0, fun m h1 h2 => ⟨_, rfl, t, ns, rfl, hs, h0, fun m2 h3 h4 => ⟨_, _, rfl, rfl, ?_⟩⟩⟩
    rw [maxI_of h1 h2, minI_of h3 h4]
    exact q
end
end K2
namespace K2
open PySem PySem.Spec PyProof.Rows L2 BK
abbrev sMarks : Stmt := topS 26
abbrev sLong : Stmt := topS 27
abbrev sLeast : Stmt := topS 28
def seg (ns : List Int) (a b : Nat) : List Int := (ns.drop a).take (b - a)
theorem seg_len {ns : List Int} {a b : Nat} (h : b ≤ ns.length) (h2 : a ≤ b) : (seg ns a b).length = b - a := by
  unfold seg
  rw [List.length_take, List.length_drop]
  omega
theorem seg_ne {ns : List Int} {a b : Nat} (h : a < ns.length) (h2 : a < b) : seg ns a b ≠ [] := fun z => by
  have : (seg ns a b).length = 0 := by rw [z]; rfl
  unfold seg at this
  rw [List.length_take, List.length_drop] at this
  omega
theorem seg_sub {ns : List Int} {a b : Nat} {x : Int} (h : x ∈ seg ns a b) : x ∈ ns := List.mem_of_mem_drop (List.mem_of_mem_take h)
theorem cut2 (ns : List Int) (a b : Nat) : cutV (ns.map V.int) (some (a : Int)) (some (b : Int)) = (seg ns a b).map V.int := by
  have hl : (ns.map V.int).length = ns.length := List.length_map ..
  unfold cutV seg
  rw [HT.sIx_nat, HT.sIx_nat, hl, List.map_take, List.map_drop]
  rcases Nat.le_total a ns.length with h | h
  · rw [Nat.min_eq_left h]
    rcases Nat.le_total b ns.length with h2 | h2
    · rw [Nat.min_eq_left h2]
    · rw [Nat.min_eq_right h2, List.take_of_length_le (by rw [List.length_drop, hl]; exact Nat.le_refl _), List.take_of_length_le (by rw [List.length_drop, hl]; omega)]
  · rw [Nat.min_eq_right h, List.drop_of_length_le (by rw [hl]; exact Nat.le_refl _), List.drop_of_length_le (by rw [hl]; exact h)]
    simp
theorem slT_read {K : PySem.W.Frag} {H : Hp} {t : Addr} {ns : List Int} {a b : Nat} {Q : VK} (ht : H t = some (.tup (ns.map V.int)))
    (q : ∀ p H', Same H H' → H' p = some (.tup ((seg ns a b).map V.int)) → Q (.ref p) H') : rSlA K (.ref t) (some (a : Int)) (some (b : Int)) H Q := by
  have hl : (ns.map V.int).length = ns.length := List.length_map ..
  refine ⟨t, _, rfl, sqT ht, fun z => ?_, fun _ p np => ?_⟩
  · refine q t H (Same.refl _) ?_
    rw [HT.sIx_nat, HT.sIx_nat, hl] at z
    have e : seg ns a b = ns := by
      unfold seg
      rcases Nat.eq_zero_or_pos ns.length with h | h
      · rw [List.length_eq_zero_iff.mp h]; simp
      · have ha : a = 0 := by omega
        rw [ha, List.drop_zero]
        exact List.take_of_length_le (by omega)
    rw [e]
    exact ht
  · refine q p _ (same_upd np) ?_
    rw [upd_same, cut2]
theorem slT_readHi {K : PySem.W.Frag} {H : Hp} {t : Addr} {ns : List Int} {b : Nat} {Q : VK} (ht : H t = some (.tup (ns.map V.int)))
    (q : ∀ p H', Same H H' → H' p = some (.tup ((ns.take b).map V.int)) → Q (.ref p) H') : rSlA K (.ref t) none (some (b : Int)) H Q := by
  have hl : (ns.map V.int).length = ns.length := List.length_map ..
  refine ⟨t, _, rfl, sqT ht, fun z => ?_, fun _ p np => ?_⟩
  · refine q t H (Same.refl _) ?_
    rw [HT.sIx_nat, HT.sIx_none, hl] at z
    rw [List.take_of_length_le (by omega)]
    exact ht
  · refine q p _ (same_upd np) ?_
    rw [upd_same]
    unfold cutV
    rw [HT.sIx_nat, HT.sIx_none, hl, List.drop_zero, Nat.sub_zero, List.map_take]
    rcases Nat.le_total b ns.length with h | h
    · rw [Nat.min_eq_left h]
    · rw [Nat.min_eq_right h, List.take_of_length_le (by rw [hl]; exact Nat.le_refl _), List.take_of_length_le (by rw [hl]; exact h)]
def gapB (ns : List Int) (sp : Int) (p : Int × Int) : Bool := decide (spanI (seg ns p.1.toNat (p.2 + 1).toNat) ≥ sp)
def marksB (ns ms : List Int) (b sp : Int) : Bool := if sp = 0 then decide (ms = []) else ascB ms ns.length && (decide ((ms.length : Int) = b + 1) && (ms.zip (ms.drop 1)).all (gapB ns sp))
def longS (ns : List Int) (sp : Int) : Nat → List Int
  | 0 => [0]
  | k + 1 => if sp < spanI (seg ns ((longS ns sp k).getLastD 0).toNat (k + 2)) then longS ns sp k ++ [((k + 1 : Nat) : Int)] else longS ns sp k
def longL (ns : List Int) (sp : Int) : List Int := longS ns sp (ns.length - 1)
theorem longS_snoc (ns : List Int) (sp : Int) : ∀ k, ∃ (r : List Int) (y : Nat), longS ns sp k = r ++ [(y : Int)] ∧ y ≤ k ∧ r.length ≤ k
  | 0 => ⟨[], 0, rfl, Nat.le_refl _, Nat.le_refl _⟩
  | k + 1 => by
    obtain ⟨r, y, e, h, hl⟩ := longS_snoc ns sp k
    unfold longS
    split
    · exact ⟨_, k + 1, rfl, Nat.le_refl _, by rw [e, List.length_append]; simp; omega⟩
    · exact ⟨r, y, e, by omega, by omega⟩
theorem longS_len (ns : List Int) (sp : Int) (k : Nat) : 1 ≤ (longS ns sp k).length ∧ (longS ns sp k).length ≤ k + 1 := by
  obtain ⟨r, y, e, h, hl⟩ := longS_snoc ns sp k
  rw [e, List.length_append]
  simp
  omega
theorem inB_mem {ns : List Int} {lo hi x : Int} (h : ns.all (inB lo hi) = true) (m : x ∈ ns) : lo ≤ x ∧ x ≤ hi := by
  have := List.all_eq_true.mp h x m
  simpa [inB] using this
theorem span_le9 {ns : List Int} (h : ns.all (inB 0 9) = true) {a b : Nat} (ne : seg ns a b ≠ []) : spanI (seg ns a b) ≤ 9 := by
  have h1 := inB_mem h (seg_sub (maxI_mem ne))
  have h2 := inB_mem h (seg_sub (minI_mem ne))
  unfold spanI
  omega
theorem long9 {ns : List Int} (h : ns.all (inB 0 9) = true) : ∀ k, k < ns.length → longS ns 9 k = [0]
  | 0, _ => rfl
  | k + 1, hk => by
    unfold longS
    rw [long9 h k (by omega), if_neg]
    have := span_le9 h (seg_ne (ns := ns) (a := 0) (b := k + 2) (by omega) (by omega))
    show ¬ 9 < spanI (seg ns 0 (k + 2))
    omega
def leastI (ns : List Int) (b : Int) : Int := (((List.range 10).find? fun (s : Nat) => decide (((longL ns (s : Int)).length : Int) ≤ b)).getD 9 : Nat)
theorem least_is {ns : List Int} {b : Int} {s : Nat} (hs : s < 10) (h : ((longL ns (s : Int)).length : Int) ≤ b) (g : ∀ t : Nat, t < s → b < ((longL ns (t : Int)).length : Int)) : leastI ns b = s := by
  unfold leastI
  have e : (List.range 10).find? (fun (s : Nat) => decide (((longL ns (s : Int)).length : Int) ≤ b)) = some s := by
    rw [List.find?_range_eq_some]
    refine ⟨decide_eq_true h, List.mem_range.mpr hs, fun j hj => ?_⟩
    have := g j hj
    simp
    omega
  rw [e]
  rfl
/-! promises -/
def spMarks : Sp := fun vs H Q _ => ∃ (t ct : Addr) (ms ns : List Int) (b sp : Int), vs = [.ref t, .ref ct, .int b, .int sp] ∧ H t = some (.tup (ms.map V.int)) ∧ H ct = some (.tup (ns.map V.int)) ∧ ms.length ≤ 900 ∧ ns.length ≤ 12 ∧ 1 ≤ b ∧ ∀ H', Same H H' → Q (.bl (marksB ns ms b sp)) H'
def spLong : Sp := fun vs H Q _ => ∃ (ct : Addr) (ns : List Int) (sp : Int), vs = [.ref ct, .int sp] ∧ H ct = some (.tup (ns.map V.int)) ∧ 1 ≤ ns.length ∧ ns.length ≤ 12 ∧ ∀ p H', Same H H' → H' p = some (.tup ((longL ns sp).map V.int)) → Q (.ref p) H'
def spLeast : Sp := fun vs H Q _ => ∃ (ct : Addr) (ns : List Int) (b : Int), vs = [.ref ct, .int b] ∧ H ct = some (.tup (ns.map V.int)) ∧ Good ns ∧ 1 ≤ b ∧ ∀ H', Same H H' → Q (.int (leastI ns b)) H'
structure GU (K : PySem.W.Frag) (mg : Str → Option Value) (h1 h2 h3 : Addr) (e1 e2 e3 : FuncData) : Prop where
  range : mg "range" = none
  F1 : Fun K "_are_marks" "_are_marks" sMarks h1 e1
  F2 : Fun K "_longest" "_longest" sLong h2 e2
  F3 : Fun K "_least" "_least" sLeast h3 e3
  g1 : mg "_are_marks" = some (.ref h1)
  g2 : mg "_longest" = some (.ref h2)
  g3 : mg "_least" = some (.ref h3)
  b1 : Binds K e1 ["marks", "counts", "buckets", "span"] []
  b2 : Binds K e2 ["counts", "span"] []
  b3 : Binds K e3 ["counts", "buckets"] []
section
variable {P : Program} {w : World} {K : PySem.W.Frag} {mg : Str → Option Value} {base : Heap} {fW fB fA C fL : Addr} {dW dB dA dL : FuncData} {g1 g2 g3 g4 g5 g6 g7 g8 : Addr} {d1 d2 d3 d4 d5 d6 d7 d8 : FuncData}
  {h1 h2 h3 : Addr} {e1 e2 e3 : FuncData}
theorem scMarks : FnScope ["marks", "counts", "buckets", "span", "one", "other"] ["marks", "counts", "buckets", "span"] (defScope sMarks) := ⟨rfl, rfl, rfl, by decide +kernel, rfl, by decide +kernel, by decide +kernel⟩
theorem ok_marks (G : GT K mg g1 g2 g3 g4 g5 g6 g7 g8 d1 d2 d3 d4 d5 d6 d7 d8) (Ch : Chk K mg fW fB fA dW dB dA) (T : CT K mg C) (U : GU K mg h1 h2 h3 e1 e2 e3) : FnOk P w K mg base CX0 5 h1 e1 ["marks", "counts", "buckets", "span"] spMarks := by
  have GA : FnOk P w K mg base CX0 4 g1 d1 ["items", "past"] spAsc := ok_asc G Ch T
  have GS : FnOk P w K mg base CX0 1 g8 d8 ["counts"] spSpan := ok_span G
  refine U.F1.ok scMarks (fun vs H Q E h => ?_) (fun cdv A outer s H vs Q E hr h => ?_)
  · obtain ⟨t, ct, ms, ns, b, sp, rfl, _⟩ := h
    rfl
  · obtain ⟨t, ct, ms, ns, b, sp, rfl, ht, hct, hl1, hl2, hb, q⟩ := h
    refine ⟨_, pss_cons (ps_if (pt_cmpR op_eq (pv 3) pe_int (nomark _)) (pss_one (ps_ret (pe_and (pe_callB call_isi (by rfl) Ch.isi (by decide +kernel) (pa_cons (pv 0) (pa_cons (pe_bltn (v := .ty "tuple") (by rfl) T.tuple (by decide +kernel) rfl) pa_nil)))
        (pe_one (pe_cmpR op_eq (pe_callB call_len_seq (by rfl) T.len PySem.boot_len (pa_cons (pv 0) pa_nil)) pe_int (nomark _)))))) pss_nil)
      (pss_cons (ps_if (PW.pt (pw_or (pt_not (pt_val (pe_call GA hr (by rfl) G.g1 G.F1.kp G.b1 .nil pass0 (pa_cons (pv 0) (pa_cons (pe_callB call_len_seq (by rfl) T.len PySem.boot_len (pa_cons (pv 1) pa_nil)) pa_nil)))))
          (pw_or1 (pt_cmpR op_ne (pe_callB call_len_seq (by rfl) T.len PySem.boot_len (pa_cons (pv 0) pa_nil)) (pe_op op_add (pv 2) pe_int) (nomark _))))) (pss_one (ps_ret pe_bl)) pss_nil)
      (pss_one (ps_ret (pe_callB (cr_all rfl) (by rfl) Ch.all (by decide +kernel) (pa_cons (pe_lc (own := [("one", 4), ("other", 5)]) (g := gTup K 2 (gCons (gName 4) (gCons (gName 5) gNil))) (tt := tYes)
          (te := tOp (rI0 fun i j => .bl (decide (j ≤ i))) (tCall spSpan [] _ (tCons (tSl (rSlA K) (tVar 1) (tPart (tVar 4)) (tPart (tOp (rI0 fun i j => .int (i + j)) (tVar 5) (tC (.int 1))))) tNil)) (tVar 3)) rfl scMarks.nd
          (RZ.pi_zipA (by rfl) T.zip (pa_cons (pv 0) (pa_cons (pe_slice sl_tupA (pv 0) (po_some pe_int) po_none) pa_nil))) (blkOk_by (N := ["marks", "counts", "buckets", "span", "one", "other"]) (sc := defScope sMarks) (by decide +kernel))
          (fun _ _ _ _ _ => pg_tup rfl (pgs_cons (pg_name (i := 4) scMarks.nd rfl (Or.inl rfl)) (pgs_cons (pg_name (i := 5) scMarks.nd rfl (Or.inl rfl)) pgs_nil))) (fun _ _ _ _ _ => pts_nil)
          (fun _ _ _ _ _ => pe_cmpR op_ge (pe_call GS (hr.mono (by decide)) (by rfl) G.g8 G.F8.kp G.b8 .nil pass0 (pa_cons (pe_slice sl_tupA (pv 1) (po_some (pv 4)) (po_some (pe_op op_add (pv 5) pe_int))) pa_nil)) (pv 3) (nomark _))) pa_nil))))), ?_⟩
    have hl : (ms.map V.int).length = ms.length := List.length_map ..
    refine ⟨_, rfl, rfl, _, rfl, ite2 (fun z => ?_) (fun z => ?_)⟩
    · have z : sp = 0 := by simpa using z
      refine ⟨_, rfl, _, _, _, _, true, rfl, .ty _, ty_tup (sqT ht), kit_ty (by decide +kernel), _, rfl, iteT ?_⟩
      refine ⟨_, rfl, t, _, rfl, .inr (sqT ht), rfl, ?_⟩
      have e : marksB ns ms b sp = decide (V.int ((ms.map V.int).length : Int) = V.int 0) := by
        unfold marksB
        rw [if_pos z, hl]
        simp
      rw [← e]
      exact q H (Same.refl _)
    · have z : sp ≠ 0 := by simpa using z
      refine ⟨_, rfl, _, rfl, ct, _, rfl, .inr (sqT hct), t, ms, _, rfl, ht, hl1, fun H1 s1 => ⟨_, rfl, ?_⟩⟩
      have ht1 := s1 _ _ ht
      have hct1 := s1 _ _ hct
      rw [List.length_map]
      cases ha : ascB ms ns.length with
      | false =>
        refine iteT ?_
        have e : marksB ns ms b sp = false := by unfold marksB; rw [if_neg z, ha]; rfl
        have := q H1 s1
        rw [e] at this
        exact this
      | true =>
        refine iteF ⟨_, rfl, t, _, rfl, .inr (sqT ht1), _, rfl, _, _, rfl, rfl, rfl, _, rfl, ?_⟩
        rw [hl]
        by_cases hb2 : (ms.length : Int) = b + 1
        · rw [hb2, decide_eq_true rfl]
          refine iteF ?_
          have e : marksB ns ms b sp = (ms.zip (ms.drop 1)).all (gapB ns sp) := by unfold marksB; rw [if_neg z, ha, decide_eq_true hb2]; rfl
          have hA : ms.all (inB 0 ((ns.length : Int) - 1)) = true := by unfold ascB at ha; simp at ha; simpa using ha.1
          have hO : ordB ms = true := by unfold ascB at ha; simp at ha; simpa using ha.2
          refine ⟨_, rfl, _, rfl, 1, rfl, t, _, rfl, sqT ht1, fun z => ?_, fun _ b2 nb => ?_⟩
          · exfalso
            have z1 := z.1
            rw [show HT.sIx (ms.map V.int).length 0 (some 1) = min 1 (ms.map V.int).length from HT.sIx_nat _ 0 1, hl] at z1
            omega
          · rw [cut1]
            have s2 : Same H1 (upd H1 b2 (.tup ((ms.drop 1).map V.int))) := same_upd nb
            refine ⟨t, b2, _, _, rfl, .inr ⟨sqT (s2 _ _ ht1), sqT upd_same, fun D nD => ?_⟩⟩
            have ht2 := s2 _ _ ht1
            have hct2 := s2 _ _ hct1
            have zl : (ms.zip (ms.drop 1)).length = ms.length - 1 := by rw [List.length_zip, List.length_drop]; omega
            refine lc_it (walk_zipT (K := K) (a := t) (b := b2) (n := ms.length - 1) (xs := ms.map V.int) (ys := (ms.drop 1).map V.int) (by rw [hl, List.length_map, List.length_drop]; omega))
              (fun i H3 => Same (upd H1 b2 (.tup ((ms.drop 1).map V.int))) H3 ∧ H3 D = some (.lst (((ms.zip (ms.drop 1)).take i).map fun p => V.bl (gapB ns sp p)))) ⟨same_upd nD, by rw [upd_same]; rfl⟩ (fun i H3 _ h => ⟨sqT (h.1 _ _ ht2), sqT (h.1 _ _ upd_same)⟩) ?_ ?_
            · rintro i x H3 H4 hi ⟨s3, e3⟩ ⟨T0, x1, y1, rfl, nT, rfl, ex, ey⟩
              obtain ⟨u, rfl, hu⟩ := map_get ex
              obtain ⟨v, rfl, hv⟩ := map_get ey
              have nDT : D ≠ T0 := fun z => by rw [← z, e3] at nT; cases nT
              have ez : (ms.zip (ms.drop 1))[i]? = some (u, v) := by rw [List.getElem?_zip_eq_some]; exact ⟨hu, hv⟩
              have hu2 := inB_mem hA (List.mem_of_getElem? hu)
              have hv2 := inB_mem hA (List.mem_of_mem_drop (List.mem_of_getElem? hv))
              have huv : u < v := by
                have := List.all_eq_true.mp hO _ (List.mem_of_getElem? ez)
                simpa using this
              obtain ⟨u', rfl⟩ : ∃ k : Nat, u = k := ⟨u.toNat, by omega⟩
              obtain ⟨v', rfl⟩ : ∃ k : Nat, v = k := ⟨v.toNat, by omega⟩
              refine ⟨T0, _, rfl, sqT upd_same, rfl, _, _, rfl, _, _, rfl, rfl, rfl, _, rfl, _, rfl, _, rfl, _, rfl, _, _, rfl, rfl, _, rfl, ?_⟩
              have hct4 : (upd H3 T0 (.tup [V.int (u' : Int), V.int (v' : Int)])) ct = some (.tup (ns.map V.int)) := same_upd nT _ _ (s3 _ _ hct2)
              refine slT_read (b := v' + 1) hct4 fun p H5 s5 hp => ?_
              refine ⟨p, _, rfl, .inr hp, seg_ne (by omega) (by omega), _, rfl, _, _, rfl, rfl, ?_⟩
              have e5 : H5 D = some (.lst (((ms.zip (ms.drop 1)).take i).map fun p => V.bl (gapB ns sp p))) := s5 _ _ (by rw [upd_ne nDT]; exact e3)
              refine ⟨_, e5, by rw [List.length_map, List.length_take]; exact small1000 (by omega), same_set nD ((s3.trans (same_upd nT)).trans s5), ?_⟩
              rw [upd_same, List.take_succ, ez, List.map_append]
              have : gapB ns sp ((u' : Int), (v' : Int)) = decide (spanI (seg ns u' (v' + 1)) ≥ sp) := by
                unfold gapB
                simp only [Int.toNat_natCast]
                rw [show ((v' : Int) + 1).toNat = v' + 1 by omega]
              simp [this]
            · rintro H3 ⟨s3, e3⟩
              rw [List.take_of_length_le (by rw [zl]; exact Nat.le_refl _)] at e3
              refine ⟨D, (ms.zip (ms.drop 1)).map (gapB ns sp), rfl, sqL (by rw [e3, List.map_map]; rfl), ?_⟩
              have e2 : ((ms.zip (ms.drop 1)).map (gapB ns sp)).all id = (ms.zip (ms.drop 1)).all (gapB ns sp) := by rw [List.all_map]; rfl
              rw [e2, ← e]
              exact q H3 ((s1.trans s2).trans s3)
        · rw [decide_eq_false (by simpa using hb2)]
          refine iteT ?_
          have e : marksB ns ms b sp = false := by unfold marksB; rw [if_neg z, ha, decide_eq_false hb2]; rfl
          have := q H1 s1
          rw [e] at this
          exact this
end
end K2
namespace K2
open PySem PySem.Spec PyProof.Rows L2 BK
section
variable {P : Program} {w : World} {K : PySem.W.Frag} {mg : Str → Option Value} {base : Heap} {fW fB fA C fL : Addr} {dW dB dA dL : FuncData} {g1 g2 g3 g4 g5 g6 g7 g8 : Addr} {d1 d2 d3 d4 d5 d6 d7 d8 : FuncData}
  {h1 h2 h3 : Addr} {e1 e2 e3 : FuncData}
theorem scLong : FnScope ["counts", "span", "cuts", "value"] ["counts", "span"] (defScope sLong) := ⟨rfl, rfl, rfl, by decide +kernel, rfl, by decide +kernel, by decide +kernel⟩
theorem ok_long (G : GT K mg g1 g2 g3 g4 g5 g6 g7 g8 d1 d2 d3 d4 d5 d6 d7 d8) (T : CT K mg C) (U : GU K mg h1 h2 h3 e1 e2 e3) : FnOk P w K mg base CX0 2 h2 e2 ["counts", "span"] spLong := by
  have GS : FnOk P w K mg base CX0 1 g8 d8 ["counts"] spSpan := ok_span G
  refine U.F2.ok scLong (fun vs H Q E h => ?_) (fun cdv A outer s H vs Q E hr h => ?_)
  · obtain ⟨ct, ns, sp, rfl, _⟩ := h
    rfl
  · obtain ⟨ct, ns, sp, rfl, hct, hl1, hl2, q⟩ := h
    refine ⟨_, pss_cons (ps_set (i := 2) scLong.nd rfl (.inl rfl) (pe_lst (pa_cons pe_int pa_nil)))
      (pss_cons (ps_for PassesOwn.never rfl (pi_range2 rfl U.range (pa_cons pe_int (pa_cons (pe_callB call_len_seq (by rfl) T.len PySem.boot_len (pa_cons (pv 0) pa_nil)) pa_nil))) (pg_name (i := 3) scLong.nd rfl (.inl rfl))
        (pss_one (ps_if (pt_cmpR op_gt (pe_call GS hr (by rfl) G.g8 G.F8.kp G.b8 .nil pass0 (pa_cons (pe_slice sl_tupA (pv 0) (po_some (pe_ix ix_list (pv 2) (pe_un un_neg pe_int) (fun _ _ => rfl))) (po_some (pe_op op_add (pv 3) pe_int))) pa_nil)) (pv 1) (nomark _))
          (pss_one (ps_expr (pe_bm PySem.F.plainAttrs_list PySem.F.slot_list_append PySem.F.type_list_append mt_append (pv 2) (pa_cons (pv 3) pa_nil)))) pss_nil)))
      (pss_one (ps_ret (pe_callTy call_tuple_of (by rfl) T.tuple (by decide +kernel) (pa_cons (pv 2) pa_nil))))), ?_⟩
    refine ⟨by show 1 ≤ sizeLine; decide, fun l nl => ?_⟩
    have s0 : Same H (upd H l (.lst [V.int 0])) := same_upd nl
    refine ⟨_, rfl, ct, _, rfl, .inr (sqT (s0 _ _ hct)), _, _, rfl, ⟨by decide, by decide, by omega, ?_⟩, ?_⟩
    · rw [List.length_map]; omega
    · refine for_range (lo := 1) (n := (((ns.map V.int).length : Int) - 1).toNat) (fun k σ H1 => ∃ v, σ = [some (.ref ct), some (.int sp), some (.ref l), v] ∧ Same H H1 ∧ H1 l = some (.lst ((longS ns sp k).map V.int)))
        ⟨none, rfl, s0, by rw [upd_same]; rfl⟩ ?_ ?_
      · rintro k σ H1 hk ⟨v, rfl, s1, e1⟩
        rw [List.length_map] at hk
        obtain ⟨r, y, er, hy, hrl⟩ := longS_snoc ns sp k
        refine ⟨_, rfl, _, rfl, _, rfl, l, _, _, _, rfl, rfl, sqL e1, by rw [er, List.map_append]; exact atI_last _ _, (y : Int), rfl, _, rfl, _, _, rfl, rfl, (((k + 2 : Nat) : Int)), ?_, ?_⟩
        · show V.int (1 + (k : Int) + 1) = V.int _
          congr 1
          omega
        · refine slT_read (s1 _ _ hct) fun p H2 s2 hp => ?_
          refine ⟨p, _, rfl, .inr hp, seg_ne (by omega) (by omega), _, rfl, _, _, rfl, rfl, _, rfl, ?_⟩
          have e2 := s2 _ _ e1
          have eg : (longS ns sp k).getLastD 0 = (y : Int) := by rw [er]; simp
          have es : longS ns sp (k + 1) = if sp < spanI (seg ns y (k + 2)) then longS ns sp k ++ [((k + 1 : Nat) : Int)] else longS ns sp k := by
            show (if sp < spanI (seg ns ((longS ns sp k).getLastD 0).toNat (k + 2)) then longS ns sp k ++ [((k + 1 : Nat) : Int)] else longS ns sp k) = _
            rw [eg, Int.toNat_natCast]
          refine ite2 (fun z => ?_) (fun z => ?_)
          · have z : sp < spanI (seg ns y (k + 2)) := by simpa using z
            rw [if_pos z] at es
            refine ⟨_, rfl, .inl ⟨rfl, _, sqL e2⟩, _, rfl, l, _, _, rfl, rfl, e2, ?_, _, rfl, same_set nl (s1.trans s2), ?_⟩
            · have := (longS_len ns sp k).2
              rw [List.length_map]
              exact small1000 (by omega)
            · rw [upd_same, es, List.map_append]
              congr 3
              show [V.int (1 + (k : Int))] = [V.int _]
              rw [show (1 + (k : Int)) = ((k + 1 : Nat) : Int) by omega]
          · have z : ¬ sp < spanI (seg ns y (k + 2)) := by simpa using z
            rw [if_neg z] at es
            exact ⟨_, rfl, s1.trans s2, by rw [es]; exact e2⟩
      · rintro σ H1 ⟨v, rfl, s1, e1⟩
        refine ⟨_, rfl, l, _, rfl, .inl ⟨sqL e1, fun p np => q p _ (s1.trans (same_upd np)) ?_⟩⟩
        rw [upd_same]
        unfold longL
        rw [List.length_map, show (((ns.length : Nat) : Int) - 1).toNat = ns.length - 1 by omega]
theorem scLeast : FnScope ["counts", "buckets", "span"] ["counts", "buckets"] (defScope sLeast) := ⟨rfl, rfl, rfl, by decide +kernel, rfl, by decide +kernel, by decide +kernel⟩
theorem ok_least (G : GT K mg g1 g2 g3 g4 g5 g6 g7 g8 d1 d2 d3 d4 d5 d6 d7 d8) (T : CT K mg C) (U : GU K mg h1 h2 h3 e1 e2 e3) : FnOk P w K mg base CX0 3 h3 e3 ["counts", "buckets"] spLeast := by
  have GL : FnOk P w K mg base CX0 2 h2 e2 ["counts", "span"] spLong := ok_long G T U
  refine U.F3.ok scLeast (fun vs H Q E h => ?_) (fun cdv A outer s H vs Q E hr h => ?_)
  · obtain ⟨ct, ns, b, rfl, _⟩ := h
    rfl
  · obtain ⟨ct, ns, b, rfl, hct, hg, hb, q⟩ := h
    refine ⟨_, pss_cons (ps_set (i := 2) scLeast.nd rfl (.inl rfl) pe_int)
      (pss_cons (ps_while PassesOwn.never (pt_cmpR op_gt (pe_callB call_len_seq (by rfl) T.len PySem.boot_len (pa_cons (pe_call GL hr (by rfl) U.g2 U.F2.kp U.b2 .nil pass0 (pa_cons (pv 0) (pa_cons (pv 2) pa_nil))) pa_nil)) (pv 1) (nomark _))
        (pss_one (ps_aug (i := 2) scLeast.nd rfl (.inl rfl) pe_int ip_add)))
      (pss_one (ps_ret (pv 2)))), ?_⟩
    refine while_by (fun σ H1 => ∃ t : Nat, σ = [some (.ref ct), some (.int b), some (.int (t : Int))] ∧ Same H H1 ∧ t < 10 ∧ ∀ u : Nat, u < t → b < ((longL ns (u : Int)).length : Int)) (fun σ H1 => match σ with | [_, _, some (.int t)] => 10 - t.toNat | _ => 0)
      ⟨0, rfl, Same.refl _, by decide, fun u hu => by omega⟩ ?_ ?_
    · rintro σ H1 ⟨t, rfl, s1, ht, hu⟩
      refine ⟨_, rfl, _, rfl, ct, ns, _, rfl, s1 _ _ hct, hg.1, hg.2.1, fun p H2 s2 hp => ⟨p, _, rfl, .inr (sqT hp), _, rfl, _, _, rfl, rfl, _, rfl, ?_⟩⟩
      rw [List.length_map]
      by_cases z : b < ((longL ns (t : Int)).length : Int)
      · rw [decide_eq_true (by exact z)]
        have t9 : t ≠ 9 := fun e => by
          have h9 := long9 hg.2.2 (ns.length - 1) (by have := hg.1; omega)
          unfold longL at z
          rw [e] at z
          have : longS ns ((9 : Nat) : Int) (ns.length - 1) = [0] := h9
          rw [this] at z
          simp at z
          omega
        refine iteT ⟨_, rfl, _, _, rfl, rfl, ?_⟩
        refine ⟨⟨t + 1, rfl, s1.trans s2, by omega, fun u h => ?_⟩, ?_⟩
        · by_cases e : u = t
          · rw [e]; exact z
          · exact hu u (by omega)
        · show 10 - ((t : Int) + 1).toNat < 10 - ((t : Int)).toNat
          omega
      · rw [decide_eq_false (by exact z)]
        refine iteF ⟨_, rfl, ?_⟩
        have e := least_is (ns := ns) (b := b) ht (by omega) hu
        have := q H2 (s1.trans s2)
        rw [e] at this
        exact this
    · rintro σ H1 Q1 Q2 hq ⟨v, ev, v2, ev2, a, ms, sp, eq, c1, c2, c3, k⟩
      refine ⟨v, ev, v2, ev2, a, ms, sp, eq, c1, c2, c3, fun p H2 s2 hp => ?_⟩
      obtain ⟨p', xs, f1, f2, y, ey, i, j, ei, ej, kk, ek, f⟩ := k p H2 s2 hp
      exact ⟨p', xs, f1, f2, y, ey, i, j, ei, ej, kk, ek, hq _ _ f⟩
end
end K2
namespace K2
open PySem PySem.Spec PyProof.Rows L2 BK
abbrev sGreat : Stmt := topS 29
abbrev sBest : Stmt := topS 30
abbrev sLeastS : Stmt := topS 31
abbrev sFew : Stmt := topS 32
abbrev sProf : Stmt := topS 33
abbrev sSIni : Stmt := inClass (topS 23) 0
abbrev sSEq : Stmt := inClass (topS 23) 1
abbrev sSShow : Stmt := inClass (topS 23) 2
def spansL (ns cs : List Int) : List Int := (pairsL cs ns.length).map fun p => spanI (seg ns p.1.toNat p.2.toNat)
def gspan (ns cs : List Int) : Int := maxI (spansL ns cs)
def marksL (ns : List Int) (b : Int) : List Int := if 0 < leastI ns b then (longL ns (leastI ns b - 1)).take (b + 1).toNat else []
def showsB (ns : List Int) (b : Int) (cs ms : List Int) : Bool := cutsB cs ns.length && (decide ((cs.length : Int) ≤ b) && (decide (gspan ns cs = leastI ns b) && marksB ns ms b (leastI ns b)))
theorem pairs_len (cs : List Int) (h : cs ≠ []) (wd : Int) : (pairsL cs wd).length = cs.length := by
  have := List.length_pos_iff.mpr h
  unfold pairsL
  rw [List.length_zip, List.length_append, List.length_drop]
  simp
  omega
theorem ord_lt {ns : List Int} (h : ordB ns = true) {k : Nat} {u v : Int} (h1 : ns[k]? = some u) (h2 : ns[k + 1]? = some v) : u < v := by
  have e : (ns.zip (ns.drop 1))[k]? = some (u, v) := by
    rw [List.getElem?_zip_eq_some]
    refine ⟨h1, ?_⟩
    rw [List.getElem?_drop, Nat.add_comm]
    exact h2
  have := List.all_eq_true.mp h _ (List.mem_of_getElem? e)
  simpa using this
theorem cuts_parts {cs : List Int} {wd : Int} (h : cutsB cs wd = true) : cs.all (inB 0 (wd - 1)) = true ∧ ordB cs = true ∧ cs ≠ [] ∧ cs.head? = some 0 := by
  unfold cutsB ascB at h
  simp only [Bool.and_eq_true, decide_eq_true_eq] at h
  obtain ⟨⟨h1, h2⟩, h3, h4⟩ := h
  exact ⟨h1, h2, List.length_pos_iff.mp h3, h4⟩
theorem pairs_asc {cs : List Int} {n : Nat} (h : cutsB cs n = true) {k : Nat} {ab : Int × Int} (hk : (pairsL cs n)[k]? = some ab) : 0 ≤ ab.1 ∧ ab.1 < ab.2 ∧ ab.2 ≤ n := by
  obtain ⟨h1, h2, h3, h4⟩ := cuts_parts h
  obtain ⟨f1, f2⟩ := pairs_get hk
  have b1 := inB_mem h1 (List.mem_of_getElem? f1)
  by_cases hk2 : k + 1 < cs.length
  · rw [List.getElem?_append_left (by rw [List.length_drop]; omega), List.getElem?_drop, Nat.add_comm] at f2
    have b2 := inB_mem h1 (List.mem_of_getElem? f2)
    have := ord_lt h2 f1 f2
    omega
  · have hk3 : k < cs.length := (List.getElem?_eq_some_iff.mp f1).1
    rw [List.getElem?_append_right (by rw [List.length_drop]; omega), List.length_drop] at f2
    have : k - (cs.length - 1) = 0 := by omega
    rw [this] at f2
    have e : (n : Int) = ab.2 := by simpa using f2
    omega
/-! promises -/
def SpAt (S : Addr) (H : Hp) (p : Addr) (cs ms : List Int) : Prop := ∃ dx a b, H p = some (.ins S dx [("cuts", .ref a), ("marks", .ref b)]) ∧ H a = some (.tup (cs.map V.int)) ∧ H b = some (.tup (ms.map V.int))
theorem SpAt.same {S p : Addr} {H H' : Hp} {cs ms : List Int} (c : SpAt S H p cs ms) (s : Same H H') : SpAt S H' p cs ms :=
  let ⟨dx, a, b, h1, h2, h3⟩ := c; ⟨dx, a, b, s _ _ h1, s _ _ h2, s _ _ h3⟩
def spSIni (S : Addr) : Sp := fun vs H Q _ => ∃ (p dx a b : Addr) (cs ms : List Int), vs = [.ref p, .ref a, .ref b] ∧ H p = some (.ins S dx []) ∧ Sq H a cs ∧ Sq H b ms ∧
  ∀ H', SpAt S H' p cs ms → (∀ b o, b ≠ p → H b = some o → H' b = some o) → Q .non H'
def spSEq (S : Addr) : Sp := fun vs H Q _ => ∃ (p q : Addr) (cs ms cs' ms' : List Int), vs = [.ref p, .ref q] ∧ SpAt S H p cs ms ∧ SpAt S H q cs' ms' ∧ Q (.bl (decide (cs = cs') && decide (ms = ms'))) H
def spShow (S C : Addr) : Sp := fun vs H Q _ => ∃ (p c : Addr) (cs ms ns : List Int) (b : Int), vs = [.ref p, .ref c, .int b] ∧ SpAt S H p cs ms ∧ ColAt C H c ns ∧ Good ns ∧ 1 ≤ b ∧ b ≤ ns.length ∧ cs.length ≤ 900 ∧ ms.length ≤ 900 ∧ ∀ H', Same H H' → Q (.bl (showsB ns b cs ms)) H'
def spGreat (C : Addr) : Sp := fun vs H Q _ => ∃ (p t : Addr) (cs ns : List Int), vs = [.ref p, .ref t] ∧ ColAt C H p ns ∧ Good ns ∧ H t = some (.tup (cs.map V.int)) ∧ cs.length ≤ 900 ∧ cutsB cs ns.length = true ∧ ∀ H', Same H H' → Q (.int (gspan ns cs)) H'
def spBest (S C : Addr) : Sp := fun vs H Q _ => ∃ (c : Addr) (ns : List Int) (b : Int), vs = [.ref c, .int b] ∧ ColAt C H c ns ∧ Good ns ∧ 1 ≤ b ∧ b ≤ ns.length ∧ ∀ p H', Same H H' → SpAt S H' p (longL ns (leastI ns b)) (marksL ns b) → Q (.ref p) H'
def spLeastS (C : Addr) : Sp := fun vs H Q _ => ∃ (c : Addr) (ns : List Int) (b : Int), vs = [.ref c, .int b] ∧ ColAt C H c ns ∧ Good ns ∧ 1 ≤ b ∧ b ≤ ns.length ∧ ∀ H', Same H H' → Q (.int (leastI ns b)) H'
def spFew (C : Addr) : Sp := fun vs H Q _ => ∃ (c : Addr) (ns : List Int) (sp : Int), vs = [.ref c, .int sp] ∧ ColAt C H c ns ∧ Good ns ∧ 0 ≤ sp ∧ sp ≤ 9 ∧ ∀ H', Same H H' → Q (.int (longL ns sp).length) H'
def profL (ns : List Int) (k : Nat) : List Int := (List.range k).map fun i => leastI ns ((i + 1 : Nat) : Int)
def spProf (C : Addr) : Sp := fun vs H Q _ => ∃ (c : Addr) (ns : List Int), vs = [.ref c] ∧ ColAt C H c ns ∧ Good ns ∧ ∀ p H', Same H H' → H p = none → H' p = some (.lst ((profL ns ns.length).map V.int)) → Q (.ref p) H'
structure GV (K : PySem.W.Frag) (mg : Str → Option Value) (S i1 i2 i3 i4 i5 i6 i7 i8 : Addr) (q1 q2 q3 q4 q5 q6 q7 q8 : FuncData) : Prop where
  cl : Cls K S
  nc : NoAttr K S "cuts"
  nm : NoAttr K S "marks"
  mgS : mg "Spans" = some (.ref S)
  isS : C8.InsC K S
  maker : Mk K S i6
  F1 : Fun K "greatest_span" "greatest_span" sGreat i1 q1
  F2 : Fun K "best_spans" "best_spans" sBest i2 q2
  F3 : Fun K "least_span" "least_span" sLeastS i3 q3
  F4 : Fun K "fewest_within" "fewest_within" sFew i4 q4
  F5 : Fun K "span_profile" "span_profile" sProf i5 q5
  F6 : Fun K "__init__" "Spans.__init__" sSIni i6 q6
  F7 : Fun K "__eq__" "Spans.__eq__" sSEq i7 q7
  F8 : Fun K "shows" "Spans.shows" sSShow i8 q8
  g1 : mg "greatest_span" = some (.ref i1)
  g2 : mg "best_spans" = some (.ref i2)
  g3 : mg "least_span" = some (.ref i3)
  g4 : mg "fewest_within" = some (.ref i4)
  g5 : mg "span_profile" = some (.ref i5)
  b1 : Binds K q1 ["column", "cuts"] []
  b2 : Binds K q2 ["column", "buckets"] []
  b3 : Binds K q3 ["column", "buckets"] []
  b4 : Binds K q4 ["column", "span"] []
  b5 : Binds K q5 ["column"] []
  b6 : Binds K q6 ["self", "cuts", "marks"] []
  b7 : Binds K q7 ["self", "other"] []
  b8 : Binds K q8 ["self", "column", "buckets"] []
  mc : ∃ t, mg "MOST_COUNT" = some (.int 9 t)
theorem lkc (a b : Addr) : List.lookup ("cuts" : Str) ([("cuts", V.ref a), ("marks", V.ref b)] : List (Str × V)) = some (.ref a) := by simp [List.lookup]
theorem lkm (a b : Addr) : List.lookup ("marks" : Str) ([("cuts", V.ref a), ("marks", V.ref b)] : List (Str × V)) = some (.ref b) := by
  have : (("marks" : Str) == ("cuts" : Str)) = false := by decide +kernel
  simp [List.lookup, this]
section
variable {P : Program} {w : World} {K : PySem.W.Frag} {mg : Str → Option Value} {base : Heap} {fW fB fA C fL : Addr} {dW dB dA dL : FuncData} {g1 g2 g3 g4 g5 g6 g7 g8 : Addr} {d1 d2 d3 d4 d5 d6 d7 d8 : FuncData}
  {h1 h2 h3 : Addr} {e1 e2 e3 : FuncData} {S i1 i2 i3 i4 i5 i6 i7 i8 : Addr} {q1 q2 q3 q4 q5 q6 q7 q8 : FuncData}
theorem scSIni : FnScope ["self", "cuts", "marks"] ["self", "cuts", "marks"] (defScope sSIni) := ⟨rfl, rfl, rfl, by decide +kernel, rfl, by decide +kernel, by decide +kernel⟩
theorem ok_sini (T : CT K mg C) (W : GV K mg S i1 i2 i3 i4 i5 i6 i7 i8 q1 q2 q3 q4 q5 q6 q7 q8) : FnOk P w K mg base CX0 1 i6 q6 ["self", "cuts", "marks"] (spSIni S) := by
  refine W.F6.ok scSIni (fun vs H Q E h => ?_) (fun cdv A outer s H vs Q E hr h => ?_)
  · obtain ⟨p, dx, a, b, cs, ms, rfl, _⟩ := h
    rfl
  · obtain ⟨p, dx, a, b, cs, ms, rfl, hp, ha, hb, q⟩ := h
    refine ⟨_, pss_cons (ps_fld (pv 0) (pe_callTy call_tuple_of (by rfl) T.tuple (by decide +kernel) (pa_cons (pv 1) pa_nil)) rfl) (pss_one (ps_fld (pv 0) (pe_callTy call_tuple_of (by rfl) T.tuple (by decide +kernel) (pa_cons (pv 2) pa_nil)) rfl)), ?_⟩
    refine ⟨_, rfl, a, cs.map V.int, rfl, ?_⟩
    have key2 : ∀ (u v : Addr) (H3 : Hp), (∀ b o, b ≠ p → H b = some o → H3 b = some o) → H3 p = some (.ins S dx [("cuts", .ref u)]) → H3 u = some (.tup (cs.map V.int)) → H3 v = some (.tup (ms.map V.int)) →
        (∃ (p' C' dx' : Addr) (fs : List (Str × V)), V.ref p = .ref p' ∧ H3 p' = some (.ins C' dx' fs) ∧ Cls K C' ∧ NoAttr K C' "marks" ∧ fs.length < 1000 ∧ Q .non (upd H3 p' (.ins C' dx' (putF "marks" (.ref v) fs)))) := by
      intro u v H3 s4 hp3 hu hv
      have n1 : u ≠ p := fun z => by rw [z, hp3] at hu; cases hu
      have n2 : v ≠ p := fun z => by rw [z, hp3] at hv; cases hv
      refine ⟨p, S, dx, _, rfl, hp3, W.cl, W.nm, by show 1 < 1000; decide, ?_⟩
      refine q _ ⟨dx, u, v, by rw [upd_same]; rfl, by rw [upd_ne n1]; exact hu, by rw [upd_ne n2]; exact hv⟩ fun b o nb e => ?_
      rw [upd_ne nb]
      exact s4 _ _ nb e
    have key : ∀ (u : Addr) (H3 : Hp), Same H H3 → H3 u = some (.tup (cs.map V.int)) → (∃ (p' C' dx' : Addr) (fs : List (Str × V)), V.ref p = .ref p' ∧ H3 p' = some (.ins C' dx' fs) ∧ Cls K C' ∧ NoAttr K C' "cuts" ∧ fs.length < 1000 ∧
        (sFld K (tVar 0) (tCB (fun xs H Q => ∃ p ys, xs = [V.ref p] ∧ ((SqL K H p ys ∧ ∀ l, H l = none → Q (.ref l) (upd H l (.tup ys))) ∨ (SqT K H p ys ∧ Q (.ref p) H))) (tCons (tVar 2) tNil)) "marks") { nx := fun x H' => Q V.non H', rt := Q } (L2.start ["self", "cuts", "marks"] [V.ref p, V.ref a, V.ref b]) (upd H3 p' (.ins C' dx' (putF "cuts" (.ref u) fs)))) := by
      intro u H3 s4 hu
      have hp3 := s4 _ _ hp
      have n1 : u ≠ p := fun z => by rw [z, hp3] at hu; cases hu
      refine ⟨p, S, dx, [], rfl, hp3, W.cl, W.nc, by show 0 < 1000; decide, ?_⟩
      have hb3 := Same.sq s4 hb
      have nb : b ≠ p := fun z => by rcases hb3 with h | h <;> (rw [z, hp3] at h; cases h)
      have hu5 : (upd H3 p (.ins S dx (putF "cuts" (.ref u) []))) u = some (.tup (cs.map V.int)) := by rw [upd_ne n1]; exact hu
      have st : ∀ b o, b ≠ p → H b = some o → (upd H3 p (.ins S dx (putF "cuts" (.ref u) []))) b = some o := fun b o nb e => by rw [upd_ne nb]; exact s4 _ _ e
      refine ⟨_, rfl, b, ms.map V.int, rfl, ?_⟩
      rcases hb3 with h | h
      · refine .inl ⟨sqL (by rw [upd_ne nb]; exact h), fun l nl => ⟨_, rfl, key2 u l _ (fun b o nb e => same_upd nl _ _ (st b o nb e)) (same_upd nl _ _ (by rw [upd_same]; rfl)) (same_upd nl _ _ hu5) upd_same⟩⟩
      · refine .inr ⟨sqT (by rw [upd_ne nb]; exact h), ⟨_, rfl, key2 u b _ st (by rw [upd_same]; rfl) hu5 (by rw [upd_ne nb]; exact h)⟩⟩
    rcases ha with h | h
    · exact .inl ⟨sqL h, fun l nl => ⟨_, rfl, key l _ (same_upd nl) upd_same⟩⟩
    · exact .inr ⟨sqT h, ⟨_, rfl, key a H (Same.refl _) h⟩⟩
theorem scSEq : FnScope ["self", "other"] ["self", "other"] (defScope sSEq) := ⟨rfl, rfl, rfl, by decide +kernel, rfl, by decide +kernel, by decide +kernel⟩
theorem ok_seq (Ch : Chk K mg fW fB fA dW dB dA) (W : GV K mg S i1 i2 i3 i4 i5 i6 i7 i8 q1 q2 q3 q4 q5 q6 q7 q8) : FnOk P w K mg base CX0 1 i7 q7 ["self", "other"] (spSEq S) := by
  refine W.F7.ok scSEq (fun vs H Q E h => ?_) (fun cdv A outer s H vs Q E hr h => ?_)
  · obtain ⟨p, q, cs, ms, cs', ms', rfl, _⟩ := h
    rfl
  · obtain ⟨p, p2, cs, ms, cs', ms', rfl, ⟨dx, a, b, h1, h2, h3⟩, ⟨dy, a', b', k1, k2, k3⟩, q⟩ := h
    refine ⟨_, pss_one (ps_ret (pe_and (pe_callB (C8.call_isC W.isS) (by rfl) Ch.isi (by decide +kernel) (pa_cons (pv 1) (pa_cons (pe_glob (v := .ref S) rfl W.mgS rfl) pa_nil)))
      (pe_and (pe_cmpR (op_eqD hr.units) (pe_fld (pv 0) rfl) (pe_fld (pv 1) rfl) (nomark _)) (pe_one (pe_cmpR (op_eqD hr.units) (pe_fld (pv 0) rfl) (pe_fld (pv 1) rfl) (nomark _)))))), ?_⟩
    refine ⟨_, rfl, p2, dy, _, rfl, k1, true, rfl, iteT ?_⟩
    refine ⟨_, rfl, p, S, dx, _, _, rfl, h1, W.cl, W.nc, lkc a b, ?_⟩
    refine ⟨_, rfl, p2, S, dy, _, _, rfl, k1, W.cl, W.nc, lkc a' b', ?_⟩
    refine ⟨_, _, .tup (sqT h2) (dp_ints cs), .tup (sqT k2) (dp_ints cs'), shaped_tup cs, shaped_tup cs', _, rfl, ?_⟩
    rw [eqv_tup]
    by_cases z : cs = cs'
    · rw [decide_eq_true z] at q ⊢
      refine iteT ⟨_, rfl, p, S, dx, _, _, rfl, h1, W.cl, W.nm, lkm a b, ?_⟩
      refine ⟨_, rfl, p2, S, dy, _, _, rfl, k1, W.cl, W.nm, lkm a' b', ?_⟩
      refine ⟨_, _, .tup (sqT h3) (dp_ints ms), .tup (sqT k3) (dp_ints ms'), shaped_tup ms, shaped_tup ms', ?_⟩
      rw [eqv_tup]
      exact q
    · rw [decide_eq_false z] at q ⊢
      exact iteF q
theorem scGreat : FnScope ["column", "cuts", "start", "end"] ["column", "cuts"] (defScope sGreat) := ⟨rfl, rfl, rfl, by decide +kernel, rfl, by decide +kernel, by decide +kernel⟩
theorem ok_great (G : GT K mg g1 g2 g3 g4 g5 g6 g7 g8 d1 d2 d3 d4 d5 d6 d7 d8) (Ch : Chk K mg fW fB fA dW dB dA) (T : CT K mg C) (Ln : LnT K C fL dL) (W : GV K mg S i1 i2 i3 i4 i5 i6 i7 i8 q1 q2 q3 q4 q5 q6 q7 q8) :
    FnOk P w K mg base CX0 7 i1 q1 ["column", "cuts"] (spGreat C) := by
  have GC : FnOk P w K mg base CX0 1 g6 d6 ["column"] (spCCol C) := ok_ccol G Ch T
  have GK : FnOk P w K mg base CX0 6 g4 d4 ["cuts", "width"] spCCuts := ok_ccuts G Ch T
  have GP : FnOk P w K mg base CX0 1 g5 d5 ["cuts", "width"] spPairs := ok_pairs G T
  have GS : FnOk P w K mg base CX0 1 g8 d8 ["counts"] spSpan := ok_span G
  have GL : FnOk P w K mg base CX0 1 fL dL ["self"] (spLen C) := ok_len Ln.FL T
  refine W.F1.ok scGreat (fun vs H Q E h => ?_) (fun cdv A outer s H vs Q E hr h => ?_)
  · obtain ⟨p, t, cs, ns, rfl, _⟩ := h
    rfl
  · obtain ⟨p, t, cs, ns, rfl, hc, hg, ht, hl, hcb, q⟩ := h
    refine ⟨_, pss_cons (ps_expr (pe_call GC (hr.mono (by decide)) (by rfl) G.g6 G.F6.kp G.b6 .nil pass0 (pa_cons (pv 0) pa_nil)))
      (pss_cons (ps_expr (pe_call GK hr (by rfl) G.g4 G.F4.kp G.b4 .nil pass0 (pa_cons (pv 1) (pa_cons (pe_callB (call_lenOwn GL (hr.mono (by decide)) Ln.eL Ln.iL Ln.bL pass0) (by rfl) T.len PySem.boot_len (pa_cons (pv 0) pa_nil)) pa_nil))))
      (pss_one (ps_ret (pe_callB (cr_maxT rfl) (by rfl) G.max (by decide +kernel) (pa_cons (pe_lc (own := [("start", 2), ("end", 3)]) (g := gTup K 2 (gCons (gName 2) (gCons (gName 3) gNil))) (tt := tYes)
        (te := tCall spSpan [] _ (tCons (tSl (rSlA K) (tFld K (tVar 0) "counts") (tPart (tVar 2)) (tPart (tVar 3))) tNil)) rfl scGreat.nd
        (pi_list (pe_call GP (hr.mono (by decide)) (by rfl) G.g5 G.F5.kp G.b5 .nil pass0 (pa_cons (pv 1) (pa_cons (pe_callB (call_lenOwn GL (hr.mono (by decide)) Ln.eL Ln.iL Ln.bL pass0) (by rfl) T.len PySem.boot_len (pa_cons (pv 0) pa_nil)) pa_nil))))
        (blkOk_by (N := ["column", "cuts", "start", "end"]) (sc := defScope sGreat) (by decide +kernel))
        (fun _ _ _ _ _ => pg_tup rfl (pgs_cons (pg_name (i := 2) scGreat.nd rfl (Or.inl rfl)) (pgs_cons (pg_name (i := 3) scGreat.nd rfl (Or.inl rfl)) pgs_nil))) (fun _ _ _ _ _ => pts_nil)
        (fun _ _ _ _ _ => pe_call GS (hr.mono (by decide)) (by rfl) G.g8 G.F8.kp G.b8 .nil pass0 (pa_cons (pe_slice sl_tupA (pe_fld (pv 0) rfl) (po_some (pv 2)) (po_some (pv 3))) pa_nil))) pa_nil))))), ?_⟩
    obtain ⟨dx, ct, f1, f2⟩ := id hc
    have hn0 := hg.1
    have hn := hg.2.1
    obtain ⟨c1, c2, c3, c4⟩ := cuts_parts hcb
    have hpl := pairs_len cs c3 ns.length
    refine ⟨_, rfl, p, ns, rfl, hc, _, rfl, _, rfl, p, dx, _, rfl, f1, p, ns, rfl, hc, _, rfl, by omega, by omega, t, cs, _, rfl, ht, hl, hcb, fun H1 s1 => ?_⟩
    have hc1 := hc.same s1
    refine ⟨_, rfl, _, rfl, p, dx, _, rfl, s1 _ _ f1, p, ns, rfl, hc1, _, rfl, by omega, by omega, t, cs, _, rfl, s1 _ _ ht, c3, hl, fun l H2 nl s2 hL => ?_⟩
    obtain ⟨ps, hps, hlen, hpair⟩ := hL
    refine ⟨l, rfl, ⟨_, sqL hps⟩, fun D nD => ?_⟩
    refine lc_list (K := K) (a := l) (xs := ps.map V.ref) (fun i H3 => Same H2 H3 ∧ H3 D = some (.lst (((spansL ns cs).take i).map V.int))) ⟨same_upd nD, by rw [upd_same]; rfl⟩ (fun i H3 _ h => sqL (h.1 _ _ hps)) (fun i x H3 hx h => ?_) (fun H3 h => ?_)
    · obtain ⟨s3, e3⟩ := h
      rw [List.getElem?_map] at hx
      cases ep : ps[i]? with
      | none => rw [ep] at hx; cases hx
      | some pr =>
        rw [ep] at hx
        cases hx
        have hi : i < (pairsL cs ns.length).length := by rw [← hlen]; exact (List.getElem?_eq_some_iff.mp ep).1
        have eab := List.getElem?_eq_getElem hi
        have hpt := hpair i pr _ ep eab
        obtain ⟨b1, b2, b3⟩ := pairs_asc hcb eab
        have esp : (spansL ns cs)[i]? = some (spanI (seg ns (pairsL cs ns.length)[i].1.toNat (pairsL cs ns.length)[i].2.toNat)) := by unfold spansL; rw [List.getElem?_map, eab]; rfl
        generalize (pairsL cs ns.length)[i] = ab at *
        obtain ⟨u, v⟩ := ab
        obtain ⟨u, rfl⟩ : ∃ k : Nat, u = k := ⟨u.toNat, by dsimp at b1; omega⟩
        obtain ⟨v, rfl⟩ : ∃ k : Nat, v = k := ⟨v.toNat, by dsimp at b1 b2; omega⟩
        simp only [Int.toNat_natCast] at esp
        dsimp at b1 b2 b3
        have hc3 := hc1.same (s2.trans s3)
        obtain ⟨dx3, ct3, f31, f32⟩ := hc3
        refine ⟨pr, _, rfl, sqT (s3 _ _ hpt), rfl, _, _, rfl, _, _, rfl, rfl, rfl, _, rfl, p, C, dx3, _, _, rfl, f31, T.cl, T.nC, lk ct3, _, rfl, _, rfl, _, rfl, _, rfl, ?_⟩
        refine slT_read f32 fun z H5 s5 hz => ?_
        refine ⟨z, _, rfl, .inr hz, seg_ne (by omega) (by omega), ?_⟩
        refine ⟨_, s5 _ _ e3, by rw [List.length_map, List.length_take]; exact small1000 (by unfold spansL; rw [List.length_map, hpl]; omega), same_set nD (s3.trans s5), ?_⟩
        rw [upd_same, List.take_succ, esp, List.map_append]
        rfl
    · obtain ⟨s3, e3⟩ := h
      have hsl : (spansL ns cs).length = cs.length := by unfold spansL; rw [List.length_map, hpl]
      rw [List.take_of_length_le (by rw [hsl, List.length_map, hlen, hpl]; exact Nat.le_refl _)] at e3
      refine ⟨D, spansL ns cs, rfl, .inl (sqL e3), by rw [hsl]; exact List.length_pos_iff.mpr c3, fun m m1 m2 => ?_⟩
      rw [maxI_of m1 m2]
      exact q H3 ((s1.trans s2).trans s3)
end
end K2
namespace K2
open PySem PySem.Spec PyProof.Rows L2 BK
section
variable {P : Program} {w : World} {K : PySem.W.Frag} {mg : Str → Option Value} {base : Heap} {fW fB fA C fL : Addr} {dW dB dA dL : FuncData} {g1 g2 g3 g4 g5 g6 g7 g8 : Addr} {d1 d2 d3 d4 d5 d6 d7 d8 : FuncData}
  {h1 h2 h3 : Addr} {e1 e2 e3 : FuncData} {S i1 i2 i3 i4 i5 i6 i7 i8 : Addr} {q1 q2 q3 q4 q5 q6 q7 q8 : FuncData}
theorem scLeastS : FnScope ["column", "buckets"] ["column", "buckets"] (defScope sLeastS) := ⟨rfl, rfl, rfl, by decide +kernel, rfl, by decide +kernel, by decide +kernel⟩
theorem ok_leastS (G : GT K mg g1 g2 g3 g4 g5 g6 g7 g8 d1 d2 d3 d4 d5 d6 d7 d8) (Ch : Chk K mg fW fB fA dW dB dA) (T : CT K mg C) (Ln : LnT K C fL dL) (U : GU K mg h1 h2 h3 e1 e2 e3) (W : GV K mg S i1 i2 i3 i4 i5 i6 i7 i8 q1 q2 q3 q4 q5 q6 q7 q8) :
    FnOk P w K mg base CX0 5 i3 q3 ["column", "buckets"] (spLeastS C) := by
  have GA : FnOk P w K mg base CX0 4 g7 d7 ["column", "buckets"] (spArgs C) := ok_args G Ch T Ln
  have GL : FnOk P w K mg base CX0 3 h3 e3 ["counts", "buckets"] spLeast := ok_least G T U
  refine W.F3.ok scLeastS (fun vs H Q E h => ?_) (fun cdv A outer s H vs Q E hr h => ?_)
  · obtain ⟨p, ns, b, rfl, _⟩ := h
    rfl
  · obtain ⟨p, ns, b, rfl, hc, hg, h1, h2, q⟩ := h
    refine ⟨_, pss_cons (ps_expr (pe_call GA hr (by rfl) G.g7 G.F7.kp G.b7 .nil pass0 (pa_cons (pv 0) (pa_cons (pv 1) pa_nil))))
      (pss_one (ps_ret (pe_call GL (hr.mono (by decide)) (by rfl) U.g3 U.F3.kp U.b3 .nil pass0 (pa_cons (pe_fld (pv 0) rfl) (pa_cons (pv 1) pa_nil))))), ?_⟩
    obtain ⟨dx, ct, f1, f2⟩ := id hc
    have hn := hg.2.1
    exact ⟨_, rfl, _, rfl, p, ns, b, rfl, hc, h1, h2, hn, _, rfl, p, C, dx, _, _, rfl, f1, T.cl, T.nC, lk ct, _, rfl, ct, ns, b, rfl, f2, hg, h1, q⟩
theorem scFew : FnScope ["column", "span"] ["column", "span"] (defScope sFew) := ⟨rfl, rfl, rfl, by decide +kernel, rfl, by decide +kernel, by decide +kernel⟩
theorem ok_few (G : GT K mg g1 g2 g3 g4 g5 g6 g7 g8 d1 d2 d3 d4 d5 d6 d7 d8) (Ch : Chk K mg fW fB fA dW dB dA) (T : CT K mg C) (U : GU K mg h1 h2 h3 e1 e2 e3) (W : GV K mg S i1 i2 i3 i4 i5 i6 i7 i8 q1 q2 q3 q4 q5 q6 q7 q8) :
    FnOk P w K mg base CX0 4 i4 q4 ["column", "span"] (spFew C) := by
  have GC : FnOk P w K mg base CX0 1 g6 d6 ["column"] (spCCol C) := ok_ccol G Ch T
  have GN : FnOk P w K mg base CX0 3 g3 d3 ["number", "least", "most"] spNumb := ok_numb G Ch
  have GL : FnOk P w K mg base CX0 2 h2 e2 ["counts", "span"] spLong := ok_long G T U
  obtain ⟨tc, gc⟩ := T.mc
  refine W.F4.ok scFew (fun vs H Q E h => ?_) (fun cdv A outer s H vs Q E hr h => ?_)
  · obtain ⟨p, ns, b, rfl, _⟩ := h
    rfl
  · obtain ⟨p, ns, sp, rfl, hc, hg, h1, h2, q⟩ := h
    refine ⟨_, pss_cons (ps_expr (pe_call GC (hr.mono (by decide)) (by rfl) G.g6 G.F6.kp G.b6 .nil pass0 (pa_cons (pv 0) pa_nil)))
      (pss_cons (ps_expr (pe_call GN hr (by rfl) G.g3 G.F3.kp G.b3 .nil pass0 (pa_cons (pv 1) (pa_cons pe_int (pa_cons (pe_glob (v := .int 9) rfl gc ⟨_, rfl⟩) pa_nil)))))
      (pss_one (ps_ret (pe_callB call_len_seq (by rfl) T.len PySem.boot_len (pa_cons (pe_call GL (hr.mono (by decide)) (by rfl) U.g2 U.F2.kp U.b2 .nil pass0 (pa_cons (pe_fld (pv 0) rfl) (pa_cons (pv 1) pa_nil))) pa_nil))))), ?_⟩
    obtain ⟨dx, ct, f1, f2⟩ := id hc
    refine ⟨_, rfl, p, ns, rfl, hc, _, rfl, sp, 0, 9, rfl, h1, h2, _, rfl, p, C, dx, _, _, rfl, f1, T.cl, T.nC, lk ct, _, rfl, ct, ns, sp, rfl, f2, hg.1, hg.2.1, fun r H1 s1 hr1 => ⟨r, _, rfl, .inr (sqT hr1), ?_⟩⟩
    rw [List.length_map]
    exact q H1 s1
theorem scProf : FnScope ["column", "buckets"] ["column"] (defScope sProf) := ⟨rfl, rfl, rfl, by decide +kernel, rfl, by decide +kernel, by decide +kernel⟩
theorem ok_prof (G : GT K mg g1 g2 g3 g4 g5 g6 g7 g8 d1 d2 d3 d4 d5 d6 d7 d8) (Ch : Chk K mg fW fB fA dW dB dA) (T : CT K mg C) (Ln : LnT K C fL dL) (U : GU K mg h1 h2 h3 e1 e2 e3) (W : GV K mg S i1 i2 i3 i4 i5 i6 i7 i8 q1 q2 q3 q4 q5 q6 q7 q8) :
    FnOk P w K mg base CX0 4 i5 q5 ["column"] (spProf C) := by
  have GC : FnOk P w K mg base CX0 1 g6 d6 ["column"] (spCCol C) := ok_ccol G Ch T
  have GL : FnOk P w K mg base CX0 3 h3 e3 ["counts", "buckets"] spLeast := ok_least G T U
  have GN : FnOk P w K mg base CX0 1 fL dL ["self"] (spLen C) := ok_len Ln.FL T
  refine W.F5.ok scProf (fun vs H Q E h => ?_) (fun cdv A outer s H vs Q E hr h => ?_)
  · obtain ⟨p, ns, rfl, _⟩ := h
    rfl
  · obtain ⟨p, ns, rfl, hc, hg, q⟩ := h
    refine ⟨_, pss_cons (ps_expr (pe_call GC (hr.mono (by decide)) (by rfl) G.g6 G.F6.kp G.b6 .nil pass0 (pa_cons (pv 0) pa_nil)))
      (pss_one (ps_ret (pe_lc (own := [("buckets", 1)]) (g := gName 1) (tt := tYes) (te := tCall spLeast [] _ (tCons (tFld K (tVar 0) "counts") (tCons (tVar 1) tNil))) rfl scProf.nd (pi_range2 rfl U.range (pa_cons pe_int (pa_cons (pe_op op_add (pe_callB (call_lenOwn GN (hr.mono (by decide)) Ln.eL Ln.iL Ln.bL pass0) (by rfl) T.len PySem.boot_len (pa_cons (pv 0) pa_nil)) pe_int) pa_nil))) (blkOk_by (N := ["column", "buckets"]) (sc := defScope sProf) (by decide +kernel))
        (fun _ _ _ _ _ => pg_name (i := 1) scProf.nd rfl (Or.inl rfl)) (fun _ _ _ _ _ => pts_nil)
        (fun _ _ _ _ _ => pe_call GL hr (by rfl) U.g3 U.F3.kp U.b3 .nil pass0 (pa_cons (pe_fld (pv 0) rfl) (pa_cons (pv 1) pa_nil)))))), ?_⟩
    obtain ⟨dx, ct, f1, f2⟩ := id hc
    have hn := hg.2.1
    refine ⟨_, rfl, p, ns, rfl, hc, _, rfl, p, dx, _, rfl, f1, p, ns, rfl, hc, _, rfl, by omega, by omega, _, _, rfl, rfl, _, _, rfl, ⟨by decide, by decide, by omega, by omega⟩, fun D nD => ?_⟩
    have hpl : ∀ k, (profL ns k).length = k := fun k => by unfold profL; rw [List.length_map, List.length_range]
    refine lc_range (lo := 1) (n := ((ns.length : Int) + 1 - 1).toNat) (fun i H1 => Same H H1 ∧ H1 D = some (.lst ((profL ns i).map V.int))) ⟨same_upd nD, by rw [upd_same]; rfl⟩ (fun i H1 hi h => ?_) (fun H1 h => ?_)
    · obtain ⟨s1, eD⟩ := h
      refine ⟨rfl, _, rfl, p, C, dx, _, _, rfl, s1 _ _ f1, T.cl, T.nC, lk ct, _, rfl, ct, ns, _, rfl, s1 _ _ f2, hg, by omega, fun H2 s2 => ?_⟩
      refine ⟨_, s2 _ _ eD, by rw [List.length_map, hpl]; exact small1000 (by omega), same_set nD (s1.trans s2), ?_⟩
      rw [upd_same]
      unfold profL
      rw [List.range_succ, List.map_append, List.map_append]
      rw [show (1 : Int) + (i : Int) = ((i + 1 : Nat) : Int) by omega]
      rfl
    · rw [show ((ns.length : Int) + 1 - 1).toNat = ns.length by omega] at h
      exact q D H1 h.1 nD h.2
theorem scBest : FnScope ["column", "buckets", "span", "marks"] ["column", "buckets"] (defScope sBest) := ⟨rfl, rfl, rfl, by decide +kernel, rfl, by decide +kernel, by decide +kernel⟩
theorem ok_best (G : GT K mg g1 g2 g3 g4 g5 g6 g7 g8 d1 d2 d3 d4 d5 d6 d7 d8) (Ch : Chk K mg fW fB fA dW dB dA) (T : CT K mg C) (Ln : LnT K C fL dL) (U : GU K mg h1 h2 h3 e1 e2 e3) (W : GV K mg S i1 i2 i3 i4 i5 i6 i7 i8 q1 q2 q3 q4 q5 q6 q7 q8) :
    FnOk P w K mg base CX0 5 i2 q2 ["column", "buckets"] (spBest S C) := by
  have GA : FnOk P w K mg base CX0 4 g7 d7 ["column", "buckets"] (spArgs C) := ok_args G Ch T Ln
  have GL : FnOk P w K mg base CX0 3 h3 e3 ["counts", "buckets"] spLeast := ok_least G T U
  have GO : FnOk P w K mg base CX0 2 h2 e2 ["counts", "span"] spLong := ok_long G T U
  have GI : FnOk P w K mg base CX0 1 i6 q6 ["self", "cuts", "marks"] (spSIni S) := ok_sini T W
  refine W.F2.ok scBest (fun vs H Q E h => ?_) (fun cdv A outer s H vs Q E hr h => ?_)
  · obtain ⟨p, ns, b, rfl, _⟩ := h
    rfl
  · obtain ⟨p, ns, b, rfl, hc, hg, h1, h2, q⟩ := h
    refine ⟨_, pss_cons (ps_expr (pe_call GA hr (by rfl) G.g7 G.F7.kp G.b7 .nil pass0 (pa_cons (pv 0) (pa_cons (pv 1) pa_nil))))
      (pss_cons (ps_set (i := 2) scBest.nd rfl (.inl rfl) (pe_call GL (hr.mono (by decide)) (by rfl) U.g3 U.F3.kp U.b3 .nil pass0 (pa_cons (pe_fld (pv 0) rfl) (pa_cons (pv 1) pa_nil))))
      (C8.pss_cut (ps_set (i := 3) scBest.nd rfl (.inl rfl) (pe_ifExp (pt_cmpR op_gt (pv 2) pe_int (nomark _)) (pe_slice sl_tupA (pe_call GO (hr.mono (by decide)) (by rfl) U.g2 U.F2.kp U.b2 .nil pass0 (pa_cons (pe_fld (pv 0) rfl) (pa_cons (pe_op op_sub (pv 2) pe_int) pa_nil))) po_none (po_some (pe_op op_add (pv 1) pe_int))) (pe_tup pa_nil)))
      (pss_one (ps_ret (pe_make W.maker GI (hr.mono (by decide)) rfl W.mgS W.b6 .nil pass0 (pa_cons (pe_call GO (hr.mono (by decide)) (by rfl) U.g2 U.F2.kp U.b2 .nil pass0 (pa_cons (pe_fld (pv 0) rfl) (pa_cons (pv 2) pa_nil))) (pa_cons (pv 3) pa_nil))))))), ?_⟩
    obtain ⟨dx, ct, f1, f2⟩ := id hc
    have hn := hg.2.1
    refine ⟨_, rfl, _, rfl, p, ns, b, rfl, hc, h1, h2, hn, _, rfl, p, C, dx, _, _, rfl, f1, T.cl, T.nC, lk ct, _, rfl, ct, ns, b, rfl, f2, hg, h1, fun H1 s1 => ?_⟩
    refine ⟨fun σ H2 => ∃ m, σ = [some (.ref p), some (.int b), some (.int (leastI ns b)), some (.ref m)] ∧ Same H H2 ∧ H2 m = some (.tup ((marksL ns b).map V.int)), ?_, ?_⟩
    · refine ⟨_, rfl, _, _, rfl, rfl, _, rfl, ite2 (fun z => ?_) (fun z => ?_)⟩
      · have z : 0 < leastI ns b := by simpa using z
        refine ⟨_, rfl, p, C, dx, _, _, rfl, s1 _ _ f1, T.cl, T.nC, lk ct, _, rfl, _, _, rfl, rfl, ct, ns, _, rfl, s1 _ _ f2, hg.1, hn, fun r H2 s2 hr2 => ?_⟩
        refine ⟨_, rfl, _, _, rfl, rfl, (((b + 1).toNat : Nat) : Int), by rw [show (((b + 1).toNat : Nat) : Int) = b + 1 by omega], slT_readHi hr2 fun u H3 s3 hu => ⟨u, rfl, (s1.trans s2).trans s3, ?_⟩⟩
        unfold marksL
        rw [if_pos z]
        exact hu
      · have z : ¬ 0 < leastI ns b := by simpa using z
        refine ⟨by show 0 ≤ sizeLine; decide, fun u nu => ⟨u, rfl, s1.trans (same_upd nu), ?_⟩⟩
        unfold marksL
        rw [if_neg z, upd_same]
        rfl
    · rintro σ H2 ⟨m, rfl, s2, hm⟩
      refine ⟨_, rfl, p, C, dx, _, _, rfl, s2 _ _ f1, T.cl, T.nC, lk ct, _, rfl, ct, ns, _, rfl, s2 _ _ f2, hg.1, hn, fun r H3 s3 hr3 => ⟨_, rfl, fun x dy nwx ndx nex => ?_⟩⟩
      have mm : Same H3 (upd (upd H3 dy (.own x)) x (.ins S dy [])) := fun b o e => by
        rw [upd_ne (ne_of_none e nwx), upd_ne (ne_of_none e ndx)]
        exact e
      refine ⟨x, dy, r, m, longL ns (leastI ns b), marksL ns b, rfl, upd_same, .inr (mm _ _ hr3), .inr (mm _ _ (s3 _ _ hm)), fun H4 sp kp => ?_⟩
      have sm : Same H3 H4 := fun b o e => kp b o (ne_of_none e nwx) (mm b o e)
      exact ⟨rfl, q x H4 ((s2.trans s3).trans sm) sp⟩
theorem scShow : FnScope ["self", "column", "buckets", "span"] ["self", "column", "buckets"] (defScope sSShow) := ⟨rfl, rfl, rfl, by decide +kernel, rfl, by decide +kernel, by decide +kernel⟩
theorem ok_show (G : GT K mg g1 g2 g3 g4 g5 g6 g7 g8 d1 d2 d3 d4 d5 d6 d7 d8) (Ch : Chk K mg fW fB fA dW dB dA) (T : CT K mg C) (Ln : LnT K C fL dL) (U : GU K mg h1 h2 h3 e1 e2 e3) (W : GV K mg S i1 i2 i3 i4 i5 i6 i7 i8 q1 q2 q3 q4 q5 q6 q7 q8) :
    FnOk P w K mg base CX0 8 i8 q8 ["self", "column", "buckets"] (spShow S C) := by
  have GA : FnOk P w K mg base CX0 4 g7 d7 ["column", "buckets"] (spArgs C) := ok_args G Ch T Ln
  have GL : FnOk P w K mg base CX0 3 h3 e3 ["counts", "buckets"] spLeast := ok_least G T U
  have GK : FnOk P w K mg base CX0 5 g2 d2 ["cuts", "width"] spCuts := ok_cuts G Ch T
  have GG : FnOk P w K mg base CX0 7 i1 q1 ["column", "cuts"] (spGreat C) := ok_great G Ch T Ln W
  have GM : FnOk P w K mg base CX0 5 h1 e1 ["marks", "counts", "buckets", "span"] spMarks := ok_marks G Ch T U
  have GN : FnOk P w K mg base CX0 1 fL dL ["self"] (spLen C) := ok_len Ln.FL T
  refine W.F8.ok scShow (fun vs H Q E h => ?_) (fun cdv A outer s H vs Q E hr h => ?_)
  · obtain ⟨p, c, cs, ms, ns, b, rfl, _⟩ := h
    rfl
  · obtain ⟨p, c, cs, ms, ns, b, rfl, hs, hc, hg, h1, h2, l1, l2, q⟩ := h
    refine ⟨_, pss_cons (ps_expr (pe_call GA (hr.mono (by decide)) (by rfl) G.g7 G.F7.kp G.b7 .nil pass0 (pa_cons (pv 1) (pa_cons (pv 2) pa_nil))))
      (pss_cons (ps_set (i := 3) scShow.nd rfl (.inl rfl) (pe_call GL (hr.mono (by decide)) (by rfl) U.g3 U.F3.kp U.b3 .nil pass0 (pa_cons (pe_fld (pv 1) rfl) (pa_cons (pv 2) pa_nil))))
      (pss_one (ps_ret (pe_and (pe_call GK (hr.mono (by decide)) (by rfl) G.g2 G.F2.kp G.b2 .nil pass0 (pa_cons (pe_fld (pv 0) rfl) (pa_cons (pe_callB (call_lenOwn GN (hr.mono (by decide)) Ln.eL Ln.iL Ln.bL pass0) (by rfl) T.len PySem.boot_len (pa_cons (pv 1) pa_nil)) pa_nil)))
        (pe_and (pe_cmpR op_le (pe_callB call_len_seq (by rfl) T.len PySem.boot_len (pa_cons (pe_fld (pv 0) rfl) pa_nil)) (pv 2) (nomark _))
        (pe_and (pe_cmpR op_eq (pe_call GG hr (by rfl) W.g1 W.F1.kp W.b1 .nil pass0 (pa_cons (pv 1) (pa_cons (pe_fld (pv 0) rfl) pa_nil))) (pv 3) (nomark _))
        (pe_one (pe_call GM (hr.mono (by decide)) (by rfl) U.g1 U.F1.kp U.b1 .nil pass0 (pa_cons (pe_fld (pv 0) rfl) (pa_cons (pe_fld (pv 1) rfl) (pa_cons (pv 2) (pa_cons (pv 3) pa_nil)))))))))))), ?_⟩
    obtain ⟨dx, ct, f1, f2⟩ := id hc
    obtain ⟨dy, a, m, k1, k2, k3⟩ := id hs
    have hn := hg.2.1
    refine ⟨_, rfl, _, rfl, c, ns, b, rfl, hc, h1, h2, hn, _, rfl, c, C, dx, _, _, rfl, f1, T.cl, T.nC, lk ct, _, rfl, ct, ns, b, rfl, f2, hg, h1, fun H1 s1 => ?_⟩
    refine ⟨_, rfl, p, S, dy, _, _, rfl, s1 _ _ k1, W.cl, W.nc, lkc a m, _, rfl, c, dx, _, rfl, s1 _ _ f1, c, ns, rfl, hc.same s1, _, rfl, by omega, by omega, a, cs, _, rfl, s1 _ _ k2, l1, fun H2 s2 => ⟨_, rfl, ?_⟩⟩
    have s12 := s1.trans s2
    cases hcb : cutsB cs ns.length with
    | false =>
      have := q H2 s12
      unfold showsB at this
      rw [hcb] at this
      exact iteF this
    | true =>
      refine iteT ⟨_, rfl, p, S, dy, _, _, rfl, s12 _ _ k1, W.cl, W.nc, lkc a m, a, _, rfl, .inr (sqT (s12 _ _ k2)), _, rfl, _, _, rfl, rfl, _, rfl, ?_⟩
      rw [List.length_map]
      by_cases hle : (cs.length : Int) ≤ b
      · rw [decide_eq_true hle]
        refine iteT ⟨_, rfl, _, rfl, p, S, dy, _, _, rfl, s12 _ _ k1, W.cl, W.nc, lkc a m, c, a, cs, ns, rfl, hc.same s12, hg, s12 _ _ k2, l1, hcb, fun H3 s3 => ⟨_, rfl, rfl, _, rfl, ?_⟩⟩
        have s13 := s12.trans s3
        by_cases hgs : gspan ns cs = leastI ns b
        · rw [hgs, decide_eq_true rfl]
          refine iteT ⟨_, rfl, p, S, dy, _, _, rfl, s13 _ _ k1, W.cl, W.nm, lkm a m, _, rfl, c, C, dx, _, _, rfl, s13 _ _ f1, T.cl, T.nC, lk ct, _, rfl, _, rfl, m, ct, ms, ns, b, _, rfl, s13 _ _ k3, s13 _ _ f2, l2, hn, h1, fun H4 s4 => ?_⟩
          have := q H4 (s13.trans s4)
          unfold showsB at this
          rw [hcb, decide_eq_true hle, decide_eq_true hgs] at this
          exact this
        · rw [decide_eq_false (by simpa using hgs)]
          have := q H3 s13
          unfold showsB at this
          rw [hcb, decide_eq_true hle, decide_eq_false hgs] at this
          exact iteF this
      · rw [decide_eq_false hle]
        have := q H2 s12
        unfold showsB at this
        rw [hcb, decide_eq_false hle] at this
        exact iteF this
end
end K2
namespace K2
open PySem PySem.Spec PyProof.Rows L2 BK
/-! all cuts, and how few within a span -/
theorem mem_seg {ns : List Int} {a b : Nat} {x : Int} : x ∈ seg ns a b ↔ ∃ i, a ≤ i ∧ i < b ∧ ns[i]? = some x := by
  unfold seg
  rw [List.mem_iff_getElem?]
  constructor
  · rintro ⟨i, h⟩
    rw [List.getElem?_take] at h
    split at h
    · rw [List.getElem?_drop] at h
      exact ⟨a + i, by omega, by omega, h⟩
    · cases h
  · rintro ⟨i, h1, h2, h3⟩
    refine ⟨i - a, ?_⟩
    rw [List.getElem?_take, if_pos (by omega), List.getElem?_drop, show a + (i - a) = i by omega]
    exact h3
theorem span_mono {ns : List Int} {a b a' b' : Nat} (h1 : a' ≤ a) (h2 : b ≤ b') (ne : seg ns a b ≠ []) : spanI (seg ns a b) ≤ spanI (seg ns a' b') := by
  have sub : ∀ x, x ∈ seg ns a b → x ∈ seg ns a' b' := fun x h => by
    obtain ⟨i, g1, g2, g3⟩ := mem_seg.mp h
    exact mem_seg.mpr ⟨i, by omega, by omega, g3⟩
  have m1 := le_maxI (sub _ (maxI_mem ne))
  have m2 := minI_le (sub _ (minI_mem ne))
  unfold spanI
  omega
theorem span_nonneg {ns : List Int} (ne : ns ≠ []) : 0 ≤ spanI ns := by
  have := le_maxI (minI_mem ne)
  unfold spanI
  omega
theorem span_one {ns : List Int} {a : Nat} (h : a < ns.length) : spanI (seg ns a (a + 1)) = 0 := by
  have e : seg ns a (a + 1) = [ns[a]] := by
    unfold seg
    rw [show a + 1 - a = 1 by omega, List.drop_eq_getElem_cons h]
    rfl
  rw [e]
  unfold spanI maxI minI
  simp
def cutsK : Nat → List (List Int)
  | 0 => [[0]]
  | k + 1 => cutsK k ++ (cutsK k).map (· ++ [((k + 1 : Nat) : Int)])
def allCuts (n : Nat) : List (List Int) := cutsK (n - 1)
theorem cutsK_len : ∀ k, (cutsK k).length = 2 ^ k
  | 0 => rfl
  | k + 1 => by
    unfold cutsK
    rw [List.length_append, List.length_map, cutsK_len k, Nat.pow_succ]
    omega
theorem cutsK_snoc : ∀ k (cs : List Int), cs ∈ cutsK k → ∃ (c : List Int) (y : Nat), cs = c ++ [(y : Int)] ∧ y ≤ k ∧ c.length ≤ k
  | 0, cs, h => by
    unfold cutsK at h
    rw [List.mem_singleton] at h
    exact ⟨[], 0, h, Nat.le_refl _, Nat.le_refl _⟩
  | k + 1, cs, h => by
    unfold cutsK at h
    rcases List.mem_append.mp h with h | h
    · obtain ⟨c, y, e, h1, h2⟩ := cutsK_snoc k cs h
      exact ⟨c, y, e, by omega, by omega⟩
    · obtain ⟨c, hc, rfl⟩ := List.mem_map.mp h
      obtain ⟨c', y, e, h1, h2⟩ := cutsK_snoc k c hc
      exact ⟨c, k + 1, rfl, Nat.le_refl _, by rw [e, List.length_append]; simp; omega⟩
theorem pairs_snoc (c : List Int) (y m : Int) : pairsL (c ++ [y]) m = pairsL c y ++ [(y, m)] := by
  unfold pairsL
  cases c with
  | nil => rfl
  | cons x r =>
    have e : (x :: r ++ [y]).drop 1 ++ [m] = ((x :: r).drop 1 ++ [y]) ++ [m] := by simp
    rw [e, List.zip_append (by simp)]
    rfl
def okS (ns : List Int) (s : Int) (c : List Int) (m : Nat) : Prop := ∀ p ∈ pairsL c (m : Int), spanI (seg ns p.1.toNat p.2.toNat) ≤ s
theorem okS_snoc {ns : List Int} {s : Int} {c : List Int} {y m : Nat} : okS ns s (c ++ [(y : Int)]) m ↔ okS ns s c y ∧ spanI (seg ns y m) ≤ s := by
  unfold okS
  rw [pairs_snoc]
  constructor
  · intro h
    refine ⟨fun p hp => h p (List.mem_append_left _ hp), ?_⟩
    have := h ((y : Int), (m : Int)) (by simp)
    simpa using this
  · rintro ⟨h1, h2⟩ p hp
    rcases List.mem_append.mp hp with hp | hp
    · exact h1 p hp
    · rw [List.mem_singleton] at hp
      subst hp
      simpa using h2
theorem snoc_inj {c c' : List Int} {y y' : Nat} (h : c ++ [(y : Int)] = c' ++ [(y' : Int)]) : c = c' ∧ y = y' := by
  have := List.append_inj' h rfl
  refine ⟨this.1, ?_⟩
  have h2 := this.2
  simp at h2
  omega
theorem longS_step {ns : List Int} {s : Int} {k : Nat} {r : List Int} {z : Nat} (h : longS ns s k = r ++ [(z : Int)]) : longS ns s (k + 1) = if s < spanI (seg ns z (k + 2)) then (r ++ [(z : Int)]) ++ [((k + 1 : Nat) : Int)] else r ++ [(z : Int)] := by
  show (if s < spanI (seg ns ((longS ns s k).getLastD 0).toNat (k + 2)) then longS ns s k ++ [((k + 1 : Nat) : Int)] else longS ns s k) = _
  have : (longS ns s k).getLastD 0 = (z : Int) := by rw [h]; simp
  rw [this, Int.toNat_natCast, h]
/-- the longest buckets are the fewest -/
theorem ahead {ns : List Int} {s : Int} : ∀ k, k < ns.length → ∀ (c : List Int) (y : Nat), (c ++ [(y : Int)]) ∈ cutsK k → okS ns s c y → spanI (seg ns y (k + 1)) ≤ s →
    ∀ (r : List Int) (z : Nat), longS ns s k = r ++ [(z : Int)] → r.length ≤ c.length ∧ (r.length = c.length → y ≤ z)
  | 0, _, c, y, h, _, _, r, z, e => by
    unfold cutsK at h
    rw [List.mem_singleton] at h
    obtain ⟨h1, h2⟩ := snoc_inj (y' := 0) (c' := []) h
    have e' : ([] : List Int) ++ [((0 : Nat) : Int)] = r ++ [(z : Int)] := e
    obtain ⟨f1, f2⟩ := snoc_inj e'
    rw [h1, h2, ← f1, ← f2]
    simp
  | k + 1, hk, c, y, h, ho, hs, r, z, e => by
    obtain ⟨r0, z0, e0, hz0, _⟩ := longS_snoc ns s k
    rw [longS_step e0] at e
    unfold cutsK at h
    rcases List.mem_append.mp h with h | h
    · obtain ⟨c1, y1, e1, hy1, _⟩ := cutsK_snoc k _ h
      obtain ⟨-, rfl⟩ := snoc_inj e1
      have hs' : spanI (seg ns y (k + 1)) ≤ s := Int.le_trans (span_mono (Nat.le_refl _) (Nat.le_succ _) (seg_ne (by omega) (by omega))) hs
      obtain ⟨i1, i2⟩ := ahead k (by omega) c y h ho hs' r0 z0 e0
      by_cases g : s < spanI (seg ns z0 (k + 2))
      · rw [if_pos g] at e
        obtain ⟨rfl, rfl⟩ := snoc_inj e.symm
        have ne : r0.length ≠ c.length := fun q => by
          have := span_mono (ns := ns) (i2 q) (Nat.le_refl (k + 2)) (seg_ne (by omega) (by omega))
          have hs2 : spanI (seg ns y (k + 2)) ≤ s := hs
          omega
        simp only [List.length_append, List.length_singleton]
        exact ⟨by omega, fun _ => by omega⟩
      · rw [if_neg g] at e
        obtain ⟨rfl, rfl⟩ := snoc_inj e.symm
        exact ⟨i1, i2⟩
    · obtain ⟨c', hc', ec⟩ := List.mem_map.mp h
      obtain ⟨rfl, rfl⟩ := snoc_inj ec.symm
      obtain ⟨c2, y2, rfl, hy2, _⟩ := cutsK_snoc k _ hc'
      obtain ⟨o1, o2⟩ := okS_snoc.mp ho
      obtain ⟨i1, i2⟩ := ahead k (by omega) c2 y2 hc' o1 o2 r0 z0 e0
      by_cases g : s < spanI (seg ns z0 (k + 2))
      · rw [if_pos g] at e
        obtain ⟨rfl, rfl⟩ := snoc_inj e.symm
        simp only [List.length_append, List.length_singleton]
        exact ⟨by omega, fun _ => Nat.le_refl _⟩
      · rw [if_neg g] at e
        obtain ⟨rfl, rfl⟩ := snoc_inj e.symm
        simp only [List.length_append, List.length_singleton]
        exact ⟨by omega, fun q => by omega⟩
theorem long_mem (ns : List Int) (s : Int) : ∀ k, longS ns s k ∈ cutsK k
  | 0 => by unfold longS cutsK; simp
  | k + 1 => by
    have ih := long_mem ns s k
    unfold longS cutsK
    rw [List.mem_append]
    split
    · exact .inr (List.mem_map.mpr ⟨_, ih, rfl⟩)
    · exact .inl ih
theorem long_ok {ns : List Int} {s : Int} (h0 : 0 ≤ s) : ∀ k, k < ns.length → ∀ (r : List Int) (z : Nat), longS ns s k = r ++ [(z : Int)] → okS ns s r z ∧ spanI (seg ns z (k + 1)) ≤ s
  | 0, hk, r, z, e => by
    have e' : ([] : List Int) ++ [((0 : Nat) : Int)] = r ++ [(z : Int)] := e
    obtain ⟨rfl, rfl⟩ := snoc_inj e'
    refine ⟨fun p hp => ?_, ?_⟩
    · unfold pairsL at hp
      simp at hp
    · rw [span_one hk]
      exact h0
  | k + 1, hk, r, z, e => by
    obtain ⟨r0, z0, e0, hz0, _⟩ := longS_snoc ns s k
    obtain ⟨i1, i2⟩ := long_ok h0 k (by omega) r0 z0 e0
    rw [longS_step e0] at e
    by_cases g : s < spanI (seg ns z0 (k + 2))
    · rw [if_pos g] at e
      obtain ⟨rfl, rfl⟩ := snoc_inj e.symm
      exact ⟨okS_snoc.mpr ⟨i1, i2⟩, by rw [span_one hk]; exact h0⟩
    · rw [if_neg g] at e
      obtain ⟨rfl, rfl⟩ := snoc_inj e.symm
      exact ⟨i1, by show spanI (seg ns z (k + 2)) ≤ s; omega⟩
/-! marks -/
def gapsP (ns : List Int) (t : Int) (l : List Int) : Prop := ∀ p ∈ l.zip (l.drop 1), t < spanI (seg ns p.1.toNat (p.2 + 1).toNat)
theorem zip_snoc (c : List Int) (x y : Int) : ((c ++ [x]) ++ [y]).zip (((c ++ [x]) ++ [y]).drop 1) = (c ++ [x]).zip ((c ++ [x]).drop 1) ++ [(x, y)] := by
  have h := pairs_snoc (c ++ [x]) y 0
  unfold pairsL at h
  cases c with
  | nil => rfl
  | cons a r =>
    have e1 : ((a :: r ++ [x]) ++ [y]).drop 1 = (r ++ [x]) ++ [y] := by simp
    have e2 : (a :: r ++ [x]).drop 1 = r ++ [x] := by simp
    rw [e1, e2]
    have e3 : (a :: r ++ [x]) ++ [y] = (a :: r) ++ ([x] ++ [y]) := by simp
    rw [e3, List.zip_append (l₁ := a :: r) (by simp)]
    have e4 : (a :: r ++ [x]).zip (r ++ [x]) = (a :: r).zip (r ++ [x]) := by
      have : r ++ [x] = (r ++ [x]) ++ [] := by simp
      conv => lhs; rw [this]
      rw [List.zip_append (by simp)]
      simp
    rw [e4]
    rfl
theorem gaps_snoc {ns : List Int} {t : Int} {c : List Int} {x y : Nat} : gapsP ns t ((c ++ [(x : Int)]) ++ [(y : Int)]) ↔ gapsP ns t (c ++ [(x : Int)]) ∧ t < spanI (seg ns x (y + 1)) := by
  unfold gapsP
  rw [zip_snoc]
  constructor
  · intro h
    refine ⟨fun p hp => h p (List.mem_append_left _ hp), ?_⟩
    have := h ((x : Int), (y : Int)) (by simp)
    simp only [Int.toNat_natCast] at this
    rw [show ((y : Int) + 1).toNat = y + 1 by omega] at this
    exact this
  · rintro ⟨h1, h2⟩ p hp
    rcases List.mem_append.mp hp with hp | hp
    · exact h1 p hp
    · rw [List.mem_singleton] at hp
      subst hp
      simp only [Int.toNat_natCast]
      rw [show ((y : Int) + 1).toNat = y + 1 by omega]
      exact h2
theorem long_gaps {ns : List Int} {t : Int} : ∀ k, gapsP ns t (longS ns t k)
  | 0 => fun p hp => by unfold longS at hp; simp at hp
  | k + 1 => by
    obtain ⟨r0, z0, e0, hz0, _⟩ := longS_snoc ns t k
    have ih := long_gaps (ns := ns) (t := t) k
    rw [longS_step e0]
    rw [e0] at ih
    by_cases g : t < spanI (seg ns z0 (k + 2))
    · rw [if_pos g]
      exact gaps_snoc.mpr ⟨ih, g⟩
    · rw [if_neg g]
      exact ih
theorem marks_long {ns : List Int} {t : Int} : ∀ k, k < ns.length → ∀ (c : List Int) (y : Nat), (c ++ [(y : Int)]) ∈ cutsK k → gapsP ns t (c ++ [(y : Int)]) →
    ∀ (r : List Int) (z : Nat), longS ns t k = r ++ [(z : Int)] → c.length ≤ r.length ∧ (r.length = c.length → z ≤ y)
  | 0, _, c, y, h, _, r, z, e => by
    unfold cutsK at h
    rw [List.mem_singleton] at h
    obtain ⟨h1, h2⟩ := snoc_inj (y' := 0) (c' := []) h
    have e' : ([] : List Int) ++ [((0 : Nat) : Int)] = r ++ [(z : Int)] := e
    obtain ⟨f1, f2⟩ := snoc_inj e'
    rw [h1, h2, ← f1, ← f2]
    simp
  | k + 1, hk, c, y, h, hg, r, z, e => by
    obtain ⟨r0, z0, e0, hz0, _⟩ := longS_snoc ns t k
    rw [longS_step e0] at e
    unfold cutsK at h
    rcases List.mem_append.mp h with h | h
    · obtain ⟨i1, i2⟩ := marks_long k (by omega) c y h hg r0 z0 e0
      by_cases g : t < spanI (seg ns z0 (k + 2))
      · rw [if_pos g] at e
        obtain ⟨rfl, rfl⟩ := snoc_inj e.symm
        simp only [List.length_append, List.length_singleton]
        exact ⟨by omega, fun q => by omega⟩
      · rw [if_neg g] at e
        obtain ⟨rfl, rfl⟩ := snoc_inj e.symm
        exact ⟨i1, i2⟩
    · obtain ⟨c', hc', ec⟩ := List.mem_map.mp h
      obtain ⟨rfl, rfl⟩ := snoc_inj ec.symm
      obtain ⟨c2, y2, rfl, hy2, _⟩ := cutsK_snoc k _ hc'
      obtain ⟨o1, o2⟩ := gaps_snoc.mp hg
      obtain ⟨i1, i2⟩ := marks_long k (by omega) c2 y2 hc' o1 r0 z0 e0
      have o2 : t < spanI (seg ns y2 (k + 2)) := o2
      simp only [List.length_append, List.length_singleton]
      by_cases g : t < spanI (seg ns z0 (k + 2))
      · rw [if_pos g] at e
        obtain ⟨rfl, rfl⟩ := snoc_inj e.symm
        simp only [List.length_append, List.length_singleton]
        exact ⟨by omega, fun _ => Nat.le_refl _⟩
      · rw [if_neg g] at e
        obtain ⟨rfl, rfl⟩ := snoc_inj e.symm
        have ne : r.length ≠ c2.length := fun q => by
          have := span_mono (ns := ns) (i2 q) (Nat.le_refl (k + 2)) (seg_ne (by omega) (by omega))
          omega
        exact ⟨by omega, fun _ => by omega⟩
end K2
namespace K2
open PySem PySem.Spec PyProof.Rows L2 BK
theorem snoc_of {c : List Int} (h : c ≠ []) : ∃ (r : List Int) (y : Int), c = r ++ [y] := ⟨c.dropLast, c.getLast h, (List.dropLast_concat_getLast h).symm⟩
theorem ord_snoc {c : List Int} {x y : Int} : ordB ((c ++ [x]) ++ [y]) = (ordB (c ++ [x]) && decide (x < y)) := by
  unfold ordB
  rw [zip_snoc, List.all_append]
  simp
theorem ord_last : ∀ (n : Nat) (c : List Int) (y : Int), c.length = n → ordB (c ++ [y]) = true → ∀ x ∈ c, x < y
  | 0, c, y, hn, _, x, hx => by
    rw [List.length_eq_zero_iff.mp hn] at hx
    cases hx
  | n + 1, c, y, hn, h, x, hx => by
    obtain ⟨r, z, rfl⟩ := snoc_of (c := c) (fun e => by rw [e] at hn; cases hn)
    rw [ord_snoc, Bool.and_eq_true, decide_eq_true_eq] at h
    rw [List.length_append] at hn
    rcases List.mem_append.mp hx with hx | hx
    · have := ord_last n r z (by simpa using hn) h.1 x hx
      omega
    · rw [List.mem_singleton] at hx
      omega
theorem all_inB {cs : List Int} {lo hi : Int} : cs.all (inB lo hi) = true ↔ ∀ x ∈ cs, lo ≤ x ∧ x ≤ hi := by
  rw [List.all_eq_true]
  exact forall_congr' fun x => imp_congr_right fun _ => by unfold inB; simp
theorem cutsB_iff {cs : List Int} {wd : Int} : cutsB cs wd = true ↔ (∀ x ∈ cs, 0 ≤ x ∧ x ≤ wd - 1) ∧ ordB cs = true ∧ cs.head? = some 0 := by
  constructor
  · intro h
    obtain ⟨h1, h2, h3, h4⟩ := cuts_parts h
    exact ⟨all_inB.mp h1, h2, h4⟩
  · rintro ⟨h1, h2, h3⟩
    unfold cutsB ascB
    rw [all_inB.mpr h1, h2, h3]
    have : cs ≠ [] := fun e => by rw [e] at h3; cases h3
    simp [List.length_pos_iff.mpr this]
theorem mem_cutsK : ∀ k (cs : List Int), cs ∈ cutsK k ↔ cutsB cs ((k + 1 : Nat) : Int) = true
  | 0, cs => by
    unfold cutsK
    rw [List.mem_singleton, cutsB_iff]
    constructor
    · rintro rfl
      refine ⟨fun x hx => ?_, rfl, rfl⟩
      rw [List.mem_singleton] at hx
      omega
    · rintro ⟨h1, h2, h3⟩
      cases cs with
      | nil => cases h3
      | cons a r =>
        cases r with
        | nil => simp at h3; rw [h3]
        | cons b r =>
          unfold ordB at h2
          simp at h2
          have := h1 a (by simp)
          have := h1 b (by simp)
          omega
  | k + 1, cs => by
    have ih := mem_cutsK k
    unfold cutsK
    rw [List.mem_append, List.mem_map, cutsB_iff]
    constructor
    · rintro (h | ⟨c, h, rfl⟩)
      · obtain ⟨h1, h2, h3⟩ := cutsB_iff.mp ((ih cs).mp h)
        exact ⟨fun x hx => by have := h1 x hx; omega, h2, h3⟩
      · obtain ⟨h1, h2, h3⟩ := cutsB_iff.mp ((ih c).mp h)
        have ne : c ≠ [] := fun e => by rw [e] at h3; cases h3
        obtain ⟨r, z, rfl⟩ := snoc_of ne
        refine ⟨fun x hx => ?_, ?_, ?_⟩
        · rcases List.mem_append.mp hx with hx | hx
          · have := h1 x hx; omega
          · rw [List.mem_singleton] at hx; omega
        · rw [ord_snoc, h2]
          have := h1 z (by simp)
          simp
          omega
        · rw [List.head?_append, h3]
          rfl
    · rintro ⟨h1, h2, h3⟩
      have ne : cs ≠ [] := fun e => by rw [e] at h3; cases h3
      obtain ⟨c, y, rfl⟩ := snoc_of ne
      have hl := ord_last _ c y rfl h2
      have hy := h1 y (by simp)
      by_cases e : y = ((k + 1 : Nat) : Int)
      · right
        have nc : c ≠ [] := fun q => by rw [q] at h3; simp at h3; omega
        refine ⟨c, (ih c).mpr (cutsB_iff.mpr ⟨fun x hx => ?_, ?_, ?_⟩), by rw [e]⟩
        · have := h1 x (List.mem_append_left _ hx)
          have := hl x hx
          omega
        · obtain ⟨r, z, rfl⟩ := snoc_of nc
          rw [ord_snoc, Bool.and_eq_true] at h2
          exact h2.1
        · rw [List.head?_append] at h3
          cases c with
          | nil => exact absurd rfl nc
          | cons a r => simpa using h3
      · left
        refine (ih _).mpr (cutsB_iff.mpr ⟨fun x hx => ?_, h2, h3⟩)
        have := h1 x hx
        rcases List.mem_append.mp hx with hx | hx
        · have := hl x hx; omega
        · rw [List.mem_singleton] at hx; omega
theorem mem_allCuts {n : Nat} (h : 1 ≤ n) {cs : List Int} : cs ∈ allCuts n ↔ cutsB cs (n : Int) = true := by
  unfold allCuts
  rw [mem_cutsK, show n - 1 + 1 = n by omega]
theorem spans_ne {ns cs : List Int} (h : cs ≠ []) : spansL ns cs ≠ [] := fun e => by
  have := List.length_pos_iff.mpr h
  have h2 : (spansL ns cs).length = 0 := by rw [e]; rfl
  unfold spansL at h2
  rw [List.length_map, pairs_len cs h] at h2
  omega
theorem gspan_le {ns cs : List Int} {s : Int} (h : cs ≠ []) : gspan ns cs ≤ s ↔ okS ns s cs ns.length := by
  unfold gspan okS
  constructor
  · intro g p hp
    have : spanI (seg ns p.1.toNat p.2.toNat) ∈ spansL ns cs := List.mem_map.mpr ⟨p, hp, rfl⟩
    have := le_maxI this
    omega
  · intro g
    obtain ⟨p, hp, e⟩ := List.mem_map.mp (maxI_mem (spans_ne (ns := ns) h))
    have e' : spanI (seg ns p.1.toNat p.2.toNat) = maxI (spansL ns cs) := e
    rw [← e']
    exact g p hp
theorem long_few {ns cs : List Int} {s : Int} (hn : 1 ≤ ns.length) (h : cutsB cs ns.length = true) (g : gspan ns cs ≤ s) : (longL ns s).length ≤ cs.length := by
  have hm := (mem_allCuts hn).mpr h
  unfold allCuts at hm
  obtain ⟨c, y, rfl, hy, _⟩ := cutsK_snoc _ _ hm
  have ok := (gspan_le (by simp)).mp g
  obtain ⟨o1, o2⟩ := okS_snoc.mp ok
  obtain ⟨r, z, e, _, _⟩ := longS_snoc ns s (ns.length - 1)
  obtain ⟨i1, i2⟩ := ahead (ns.length - 1) (by omega) c y hm o1 (by rw [show ns.length - 1 + 1 = ns.length by omega]; exact o2) r z e
  unfold longL
  rw [e]
  simp only [List.length_append, List.length_singleton]
  omega
theorem long_cuts {ns : List Int} (s : Int) (hn : 1 ≤ ns.length) : cutsB (longL ns s) ns.length = true := (mem_allCuts hn).mp (long_mem ns s _)
theorem long_ne (ns : List Int) (s : Int) : longL ns s ≠ [] := fun e => by
  have := (longS_len ns s (ns.length - 1)).1
  unfold longL at e
  rw [e] at this
  simp at this
theorem long_span {ns : List Int} {s : Int} (hn : 1 ≤ ns.length) (h0 : 0 ≤ s) : gspan ns (longL ns s) ≤ s := by
  rw [gspan_le (long_ne ns s)]
  obtain ⟨r, z, e, _, _⟩ := longS_snoc ns s (ns.length - 1)
  unfold longL
  rw [e, okS_snoc]
  have := long_ok h0 (ns.length - 1) (by omega) r z e
  rw [show ns.length - 1 + 1 = ns.length by omega] at this
  exact this
theorem gspan_nonneg {ns cs : List Int} (hn : 1 ≤ ns.length) (h : cutsB cs ns.length = true) : 0 ≤ gspan ns cs := by
  obtain ⟨h1, h2, h3, h4⟩ := cuts_parts h
  obtain ⟨p, hp, e⟩ := List.mem_map.mp (maxI_mem (spans_ne (ns := ns) h3))
  obtain ⟨k, hk⟩ := List.mem_iff_getElem?.mp hp
  obtain ⟨b1, b2, b3⟩ := pairs_asc h hk
  have e' : spanI (seg ns p.1.toNat p.2.toNat) = maxI (spansL ns cs) := e
  unfold gspan
  rw [← e']
  exact span_nonneg (seg_ne (by omega) (by omega))
theorem gspan_le9 {ns cs : List Int} (hg : Good ns) (h : cutsB cs ns.length = true) : gspan ns cs ≤ 9 := by
  obtain ⟨h1, h2, h3, h4⟩ := cuts_parts h
  obtain ⟨p, hp, e⟩ := List.mem_map.mp (maxI_mem (spans_ne (ns := ns) h3))
  obtain ⟨k, hk⟩ := List.mem_iff_getElem?.mp hp
  obtain ⟨b1, b2, b3⟩ := pairs_asc h hk
  have e' : spanI (seg ns p.1.toNat p.2.toNat) = maxI (spansL ns cs) := e
  unfold gspan
  rw [← e']
  exact span_le9 hg.2.2 (seg_ne (by omega) (by omega))
theorem least_spec {ns : List Int} {b : Int} (hg : Good ns) (hb : 1 ≤ b) : ∃ s : Nat, leastI ns b = s ∧ s < 10 ∧ ((longL ns (s : Int)).length : Int) ≤ b ∧ ∀ t : Nat, t < s → b < ((longL ns (t : Int)).length : Int) := by
  have go : ∀ (m : Nat) (t : Nat), m = 9 - t → t < 10 → (∀ u : Nat, u < t → b < ((longL ns (u : Int)).length : Int)) → ∃ s : Nat, s < 10 ∧ ((longL ns (s : Int)).length : Int) ≤ b ∧ ∀ t : Nat, t < s → b < ((longL ns (t : Int)).length : Int) := by
    intro m
    induction m with
    | zero =>
      intro t hm ht hu
      have e : t = 9 := by omega
      subst e
      refine ⟨9, by decide, ?_, hu⟩
      have h9 : longL ns ((9 : Nat) : Int) = [0] := long9 hg.2.2 (ns.length - 1) (by have := hg.1; omega)
      rw [h9]
      simp
      omega
    | succ m ih =>
      intro t hm ht hu
      by_cases z : ((longL ns (t : Int)).length : Int) ≤ b
      · exact ⟨t, ht, z, hu⟩
      · refine ih (t + 1) (by omega) (by omega) fun u h => ?_
        by_cases e : u = t
        · rw [e]; omega
        · exact hu u (by omega)
  obtain ⟨s, h1, h2, h3⟩ := go 9 0 rfl (by decide) fun u h => by omega
  exact ⟨s, least_is h1 h2 h3, h1, h2, h3⟩
theorem least_le {ns cs : List Int} {b : Int} (hg : Good ns) (hb : 1 ≤ b) (h : cutsB cs ns.length = true) (hl : (cs.length : Int) ≤ b) : leastI ns b ≤ gspan ns cs := by
  obtain ⟨s, e, h1, h2, h3⟩ := least_spec hg hb
  rw [e]
  have h0 := gspan_nonneg hg.1 h
  by_cases z : (s : Int) ≤ gspan ns cs
  · exact z
  · exfalso
    obtain ⟨t, ht⟩ : ∃ t : Nat, gspan ns cs = t := ⟨(gspan ns cs).toNat, by omega⟩
    have f := h3 t (by omega)
    have := long_few (s := (t : Int)) hg.1 h (by omega)
    omega
theorem least_span {ns : List Int} {b : Int} (hg : Good ns) (hb : 1 ≤ b) : gspan ns (longL ns (leastI ns b)) = leastI ns b := by
  obtain ⟨s, e, h1, h2, h3⟩ := least_spec hg hb
  have u := long_span (ns := ns) (s := leastI ns b) hg.1 (by omega)
  have l := least_le hg hb (long_cuts (leastI ns b) hg.1) (by rw [e]; exact h2)
  omega
/-- marks show that no fewer span is enough -/
theorem marks_few {ns ms : List Int} {b g t : Int} (hn : 1 ≤ ns.length) (hA : ms.all (inB 0 ((ns.length : Int) - 1)) = true) (hO : ordB ms = true) (hl : (ms.length : Int) = b + 1) (hb : 1 ≤ b) (hg : ∀ p ∈ ms.zip (ms.drop 1), g ≤ spanI (seg ns p.1.toNat (p.2 + 1).toNat)) (ht : t < g) :
    b < ((longL ns t).length : Int) := by
  have hm := all_inB.mp hA
  cases ms with
  | nil => simp at hl; omega
  | cons a r =>
    cases r with
    | nil => simp at hl; omega
    | cons c r =>
      have ha := hm a (by simp)
      have hc := hm c (by simp)
      have hac : a < c := by unfold ordB at hO; simp at hO; exact hO.1
      -- the first mark is moved to 0
      have hv : cutsB (0 :: c :: r) ns.length = true := by
        rw [cutsB_iff]
        refine ⟨fun x hx => ?_, ?_, rfl⟩
        · rcases List.mem_cons.mp hx with rfl | hx
          · omega
          · exact hm x (List.mem_cons_of_mem _ hx)
        · unfold ordB at hO ⊢
          simp at hO ⊢
          exact ⟨by omega, hO.2⟩
      have hgaps : gapsP ns t (0 :: c :: r) := by
        intro p hp
        simp only [List.drop_succ_cons, List.drop_zero, List.zip_cons_cons, List.mem_cons] at hp
        rcases hp with rfl | hp
        · have g1 : g ≤ spanI (seg ns a.toNat (c + 1).toNat) := hg (a, c) (by simp)
          have := span_mono (ns := ns) (a := a.toNat) (b := (c + 1).toNat) (a' := 0) (b' := (c + 1).toNat) (Nat.zero_le _) (Nat.le_refl _) (seg_ne (by omega) (by omega))
          simp only [Int.toNat_zero]
          omega
        · have := hg p (by simp only [List.drop_succ_cons, List.drop_zero, List.zip_cons_cons, List.mem_cons]; exact .inr hp)
          omega
      have hmem := (mem_allCuts hn).mpr hv
      unfold allCuts at hmem
      obtain ⟨c0, y, e0, hy, _⟩ := cutsK_snoc _ _ hmem
      obtain ⟨r1, z, e, _, _⟩ := longS_snoc ns t (ns.length - 1)
      have hlen : (c0 ++ [(y : Int)]).length = (a :: c :: r).length := by rw [← e0]; rfl
      rw [e0] at hmem hgaps
      have := (marks_long (ns.length - 1) (by omega) c0 y hmem hgaps r1 z e).1
      unfold longL
      rw [e]
      simp only [List.length_append, List.length_singleton] at hlen ⊢
      omega
/-- what a reader of marks finds, given valid cuts -/
def lawM (ns ms : List Int) (b g : Int) : Bool := if g = 0 then decide (ms = []) else (decide ((ms.length : Int) = b + 1) && ms.all (inB 0 ((ns.length : Int) - 1))) && (ms.zip (ms.drop 1)).all fun p => decide (p.1 < p.2) && gapB ns g p
theorem law_eq {ns cs ms : List Int} {b : Int} (hg : Good ns) (hb : 1 ≤ b) (h : cutsB cs ns.length = true) (hl : (cs.length : Int) ≤ b) : lawM ns ms b (gspan ns cs) = (decide (gspan ns cs = leastI ns b) && marksB ns ms b (leastI ns b)) := by
  have l := least_le hg hb h hl
  obtain ⟨s, e, h1, h2, h3⟩ := least_spec hg hb
  have hz : ∀ g : Int, (ms.zip (ms.drop 1)).all (fun p => decide (p.1 < p.2) && gapB ns g p) = (ordB ms && (ms.zip (ms.drop 1)).all (gapB ns g)) := fun g => by
    unfold ordB
    induction ms.zip (ms.drop 1) with
    | nil => rfl
    | cons p r ih =>
      simp only [List.all_cons, ih]
      cases decide (p.1 < p.2) <;> cases gapB ns g p <;> simp
  by_cases q : gspan ns cs = leastI ns b
  · rw [q, decide_eq_true rfl, Bool.true_and]
    unfold lawM marksB ascB
    split
    · rfl
    · rw [hz]
      cases decide ((ms.length : Int) = b + 1) <;> cases ms.all (inB 0 ((ns.length : Int) - 1)) <;> cases ordB ms <;> simp
  · rw [decide_eq_false q, Bool.false_and]
    unfold lawM
    rw [if_neg (by omega), hz]
    cases f1 : decide ((ms.length : Int) = b + 1) with
    | false => rfl
    | true =>
      cases f2 : ms.all (inB 0 ((ns.length : Int) - 1)) with
      | false => rfl
      | true =>
        cases f3 : ordB ms with
        | false => rfl
        | true =>
          cases f4 : (ms.zip (ms.drop 1)).all (gapB ns (gspan ns cs)) with
          | false => rfl
          | true =>
            exfalso
            have := marks_few (ns := ns) (ms := ms) (b := b) (g := gspan ns cs) (t := leastI ns b) hg.1 f2 f3 (by simpa using f1) hb (fun p hp => by
              have := List.all_eq_true.mp f4 p hp
              unfold gapB at this
              simpa using this) (by omega)
            rw [e] at this
            omega
theorem zip_take {ms : List Int} {k : Nat} {p : Int × Int} (h : p ∈ (ms.take k).zip ((ms.take k).drop 1)) : p ∈ ms.zip (ms.drop 1) := by
  obtain ⟨i, hi⟩ := List.mem_iff_getElem?.mp h
  rw [List.getElem?_zip_eq_some, List.getElem?_drop, List.getElem?_take, List.getElem?_take] at hi
  obtain ⟨h1, h2⟩ := hi
  split at h1
  · split at h2
    · refine List.mem_iff_getElem?.mpr ⟨i, ?_⟩
      rw [List.getElem?_zip_eq_some, List.getElem?_drop]
      exact ⟨h1, h2⟩
    · cases h2
  · cases h1
/-- what best_spans gives shows -/
theorem best_shows {ns : List Int} {b : Int} (hg : Good ns) (hb : 1 ≤ b) : showsB ns b (longL ns (leastI ns b)) (marksL ns b) = true := by
  obtain ⟨s, e, h1, h2, h3⟩ := least_spec hg hb
  unfold showsB
  rw [long_cuts _ hg.1, least_span hg hb, decide_eq_true rfl]
  have f : decide (((longL ns (leastI ns b)).length : Int) ≤ b) = true := decide_eq_true (by rw [e]; exact h2)
  rw [f]
  show marksB ns (marksL ns b) b (leastI ns b) = true
  unfold marksB marksL
  by_cases z : 0 < leastI ns b
  · rw [if_neg (by omega), if_pos z]
    have h4 := h3 (s - 1) (by omega)
    rw [show ((s - 1 : Nat) : Int) = leastI ns b - 1 by omega] at h4
    have hc := long_cuts (leastI ns b - 1) hg.1
    obtain ⟨c1, c2, c3, c4⟩ := cuts_parts hc
    generalize hL : longL ns (leastI ns b - 1) = L at *
    have k1 : (L.take (b + 1).toNat).all (inB 0 ((ns.length : Int) - 1)) = true := List.all_eq_true.mpr fun x hx => List.all_eq_true.mp c1 x (List.mem_of_mem_take hx)
    have k2 : ordB (L.take (b + 1).toNat) = true := List.all_eq_true.mpr fun p hp => List.all_eq_true.mp c2 p (zip_take hp)
    have k3 : ((L.take (b + 1).toNat).length : Int) = b + 1 := by rw [List.length_take]; omega
    have k4 : ((L.take (b + 1).toNat).zip ((L.take (b + 1).toNat).drop 1)).all (gapB ns (leastI ns b)) = true := List.all_eq_true.mpr fun p hp => by
      have := long_gaps (ns := ns) (t := leastI ns b - 1) (ns.length - 1)
      rw [show longS ns (leastI ns b - 1) (ns.length - 1) = L from hL] at this
      have := this p (zip_take hp)
      unfold gapB
      simp
      omega
    unfold ascB
    rw [k1, k2, decide_eq_true k3, k4]
    rfl
  · rw [if_pos (by omega), if_neg z]
    rfl
end K2
namespace K2
open PySem PySem.Spec PyProof.Rows L2 BK
abbrev sNum : Stmt := topS 35
abbrev sCounts : Stmt := topS 36
abbrev sAll : Stmt := topS 37
abbrev sBuck : Stmt := topS 38
abbrev sLSp : Stmt := topS 39
abbrev sLSh : Stmt := topS 40
/-! promises -/
def spNum (K : PySem.W.Frag) : Sp := fun vs H Q _ => ∃ (a : Addr) (ns : List Int) (n : Nat), vs = [.ref a, .int n] ∧ SqL K H a (ns.map V.int) ∧ n < 1000 ∧ ∀ i H', Same H H' → Q (.int i) H'
def spCounts (K : PySem.W.Frag) : Sp := fun vs H Q _ => ∃ (a : Addr) (sc : List Int) (n : Nat) (m : Int), vs = [.ref a, .int n, .int m] ∧ SqL K H a (sc.map V.int) ∧ n < 900 ∧ 0 < m ∧ m ≤ 12 ∧
  ∀ l (ns : List Int) H', H l = none → Same H H' → H' l = some (.lst (ns.map V.int)) → 1 ≤ ns.length → (ns.length : Int) ≤ m → ns.all (inB 0 9) = true → Q (.ref l) H'
/-- a list of rows of ints: tuples, or lists -/
def RowsAt (o : List V → HO) (H : Hp) (q : Addr) (L : List (List Int)) : Prop := ∃ ps : List Addr, H q = some (.lst (ps.map V.ref)) ∧ ps.length = L.length ∧ ∀ (k : Nat) (p : Addr) (cs : List Int), ps[k]? = some p → L[k]? = some cs → H p = some (o (cs.map V.int))
abbrev CutsAt := RowsAt HO.tup
abbrev LstsAt := RowsAt HO.lst
def spAll : Sp := fun vs H Q _ => ∃ n : Nat, vs = [.int n] ∧ 1 ≤ n ∧ n ≤ 9 ∧ ∀ l H', H l = none → Same H H' → CutsAt H' l (allCuts n) → Q (.ref l) H'
def bucksL (ns cs : List Int) : List (List Int) := (pairsL cs ns.length).map fun p => seg ns p.1.toNat p.2.toNat
def spBuck : Sp := fun vs H Q _ => ∃ (c t : Addr) (ns cs : List Int), vs = [.ref c, .ref t] ∧ H c = some (.lst (ns.map V.int)) ∧ H t = some (.tup (cs.map V.int)) ∧ cs.length ≤ 900 ∧ cutsB cs ns.length = true ∧ ∀ l H', H l = none → Same H H' → LstsAt H' l (bucksL ns cs) → Q (.ref l) H'
def spLSp : Sp := fun vs H Q _ => ∃ (c t : Addr) (ns cs : List Int), vs = [.ref c, .ref t] ∧ H c = some (.lst (ns.map V.int)) ∧ H t = some (.tup (cs.map V.int)) ∧ cs.length ≤ 900 ∧ cutsB cs ns.length = true ∧ ∀ H', Same H H' → Q (.int (gspan ns cs)) H'
def spLSh : Sp := fun vs H Q _ => ∃ (c t m : Addr) (ns cs ms : List Int) (b : Int), vs = [.ref c, .int b, .ref t, .ref m] ∧ H c = some (.lst (ns.map V.int)) ∧ Good ns ∧ ns.length ≤ 9 ∧ H t = some (.tup (cs.map V.int)) ∧ H m = some (.tup (ms.map V.int)) ∧ cs.length ≤ 900 ∧ ms.length ≤ 900 ∧ 1 ≤ b ∧ ∀ H', Same H H' → Q (.bl (showsB ns b cs ms)) H'
structure LD (K : PySem.W.Frag) (mg : Str → Option Value) (f1 f2 f3 f4 f5 f6 : Addr) (t1 t2 t3 t4 t5 t6 : FuncData) : Prop where
  any : mg "any" = none
  F1 : Fun K "_law_number" "_law_number" sNum f1 t1
  F2 : Fun K "_law_counts" "_law_counts" sCounts f2 t2
  F3 : Fun K "_law_cuts" "_law_cuts" sAll f3 t3
  F4 : Fun K "_law_buckets" "_law_buckets" sBuck f4 t4
  F5 : Fun K "_law_span" "_law_span" sLSp f5 t5
  F6 : Fun K "_law_is_shown" "_law_is_shown" sLSh f6 t6
  g1 : mg "_law_number" = some (.ref f1)
  g2 : mg "_law_counts" = some (.ref f2)
  g3 : mg "_law_cuts" = some (.ref f3)
  g4 : mg "_law_buckets" = some (.ref f4)
  g5 : mg "_law_span" = some (.ref f5)
  g6 : mg "_law_is_shown" = some (.ref f6)
  b1 : Binds K t1 ["script", "at"] []
  b2 : Binds K t2 ["script", "at", "most"] []
  b3 : Binds K t3 ["values"] []
  b4 : Binds K t4 ["counts", "cuts"] []
  b5 : Binds K t5 ["counts", "cuts"] []
  b6 : Binds K t6 ["counts", "buckets", "cuts", "marks"] []
section
variable {P : Program} {w : World} {K : PySem.W.Frag} {mg : Str → Option Value} {base : Heap} {fW fB fA C fL : Addr} {dW dB dA dL : FuncData} {g1 g2 g3 g4 g5 g6 g7 g8 : Addr} {d1 d2 d3 d4 d5 d6 d7 d8 : FuncData}
  {h1 h2 h3 : Addr} {e1 e2 e3 : FuncData} {f1 f2 f3 f4 f5 f6 : Addr} {t1 t2 t3 t4 t5 t6 : FuncData}
theorem scNum : FnScope ["script", "at", "cells", "cell", "mixed"] ["script", "at"] (defScope sNum) := ⟨rfl, rfl, rfl, by decide +kernel, rfl, by decide +kernel, by decide +kernel⟩
theorem cut_ints (ns : List Int) (k : Nat) : cutV (ns.map V.int) none (some (k : Int)) = (ns.take k).map V.int := by
  unfold cutV
  rw [HT.sIx_nat, HT.sIx_none, List.drop_zero, List.map_take, Nat.sub_zero]
  rcases Nat.le_total k (ns.map V.int).length with h | h
  · rw [Nat.min_eq_left h]
  · rw [Nat.min_eq_right h, List.take_of_length_le (Nat.le_refl _), List.take_of_length_le h]
theorem ok_num (D : LD K mg f1 f2 f3 f4 f5 f6 t1 t2 t3 t4 t5 t6) (Ch : Chk K mg fW fB fA dW dB dA) (T : CT K mg C) : FnOk P w K mg base CX0 1 f1 t1 ["script", "at"] (spNum K) := by
  refine D.F1.ok scNum (fun vs H Q E h => ?_) (fun cdv A outer s H vs Q E hr h => ?_)
  · obtain ⟨a, ns, n, rfl, _⟩ := h
    rfl
  · obtain ⟨a, ns, n, rfl, hS, hn, q⟩ := h
    refine ⟨_, C8.pss_cut (ps_set (i := 2) scNum.nd rfl (.inl rfl) (pe_ifExp (pt_cmpR (op_neD hr.units) (pv 0) (pe_lst pa_nil) (nomark _)) (pe_slice sl_list (pv 0) po_none (po_some pe_int)) (pe_lst (pa_cons pe_int pa_nil))))
      (pss_cons (ps_set (i := 3) scNum.nd rfl (.inl rfl) (pe_op op_add (pe_ix ix_list (pv 2) (pe_op op_mod (pv 1) (pe_callB call_len_seq (by rfl) T.len PySem.boot_len (pa_cons (pv 2) pa_nil))) (fun _ _ => rfl))
          (pe_op op_mul pe_int (pe_op op_fdiv (pv 1) (pe_callB call_len_seq (by rfl) T.len PySem.boot_len (pa_cons (pv 2) pa_nil))))))
      (pss_cons (ps_set (i := 4) scNum.nd rfl (.inl rfl) (pe_op op_add (pe_op op_mul (pe_op op_add (pe_op op_add (pe_op op_mod (pe_callTy call_int1 (by rfl) Ch.int (by decide +kernel) (pa_cons (pv 3) pa_nil)) pe_int) (pe_op op_mul pe_int (pv 1))) pe_int) pe_int)
          (pe_op op_mod (pe_callTy call_int1 (by rfl) Ch.int (by decide +kernel) (pa_cons (pe_op op_fdiv (pv 3) pe_int) pa_nil)) pe_int)))
      (pss_one (ps_ret (pe_op op_mod (pe_op op_mul (pe_op op_mod (pv 4) pe_int) pe_int) pe_int))))), ?_⟩
    refine ⟨fun σ H1 => ∃ l cs, σ = [some (.ref a), some (.int n), some (.ref l), none, none] ∧ Same H H1 ∧ H1 l = some (.lst ((cs : List Int).map V.int)) ∧ cs ≠ [] ∧ cs.length ≤ 60, ?_, ?_⟩
    · refine ⟨_, rfl, by show 0 ≤ sizeLine; decide, fun e ne => ?_⟩
      have s1 : Same H (upd H e (.lst [])) := same_upd ne
      refine ⟨_, _, .lst (s1.seq hS) (dp_ints ns), .lst (sqL upd_same) (dp_ints []), PySem.W.ke_shaped_ints _, PySem.W.ke_shaped_ints _, _, rfl, ?_⟩
      rw [eqv_lst]
      by_cases hns : ns = []
      · rw [decide_eq_true hns]
        refine iteF ⟨by show 1 ≤ sizeLine; decide, fun l nl => ?_⟩
        exact ⟨l, [7], rfl, s1.trans (same_upd nl), upd_same, by simp, by decide⟩
      · rw [decide_eq_false hns]
        refine iteT ⟨_, rfl, ((60 : Nat) : Int), rfl, a, _, rfl, s1.seq hS, fun l nl => ?_⟩
        refine ⟨l, ns.take 60, rfl, s1.trans (same_upd nl), by rw [upd_same, cut_ints], ?_, by rw [List.length_take]; omega⟩
        intro z
        exact hns (by simpa using z)
    · rintro σ H1 ⟨l, cs, rfl, s1, hl, hne, h63⟩
      have hlen : (cs.map V.int).length = cs.length := List.length_map ..
      have h0 : 0 < cs.length := List.length_pos_iff.mpr hne
      obtain ⟨j, hj⟩ : ∃ j : Nat, (n : Int) % ((cs.map V.int).length : Int) = j := ⟨((n : Int) % ((cs.map V.int).length : Int)).toNat, by have := Int.emod_nonneg (n : Int) (show ((cs.map V.int).length : Int) ≠ 0 by omega); omega⟩
      have hjl : j < cs.length := by have := Int.emod_lt_of_pos (n : Int) (show (0 : Int) < ((cs.map V.int).length : Int) by omega); omega
      have hg : (cs.map V.int)[j]? = some (.int cs[j]) := by rw [List.getElem?_map, List.getElem?_eq_getElem hjl]; rfl
      refine ⟨_, rfl, _, rfl, _, rfl, l, _, rfl, .inl (sqL hl), _, _, rfl, rfl, by rw [hlen]; omega, ?_⟩
      refine ⟨l, _, (j : Int), _, rfl, congrArg V.int hj, sqL hl, atI_nat hg, ?_⟩
      refine ⟨_, rfl, _, rfl, l, _, rfl, .inl (sqL hl), _, _, rfl, rfl, ⟨by rw [hlen]; omega, by rw [hlen]; omega⟩, _, _, rfl, rfl, .inl ⟨by decide, by decide⟩, _, _, rfl, rfl, ?_⟩
      refine ⟨_, rfl, .inl ⟨_, rfl, _, _, rfl, rfl, (by show (0 : Int) < 1000003; decide), ?_⟩⟩
      refine ⟨_, rfl, _, _, rfl, rfl, .inl ⟨by decide, by decide⟩, _, _, rfl, rfl, _, _, rfl, rfl, _, _, rfl, rfl, .inr ⟨by decide, by decide⟩, ?_⟩
      refine ⟨_, rfl, _, _, rfl, rfl, ⟨by decide, by decide⟩, .inl ⟨_, rfl, _, _, rfl, rfl, (by show (0 : Int) < 999983; decide), _, _, rfl, rfl, ?_⟩⟩
      exact ⟨_, rfl, _, _, rfl, rfl, (by show (0 : Int) < 2147483647; decide), _, _, rfl, rfl, .inr ⟨by decide, by decide⟩, _, _, rfl, rfl, (by show (0 : Int) < 4294967291; decide), q _ H1 s1⟩
theorem all_snoc {ns : List Int} {v : Int} (h : ns.all (inB 0 9) = true) (h0 : 0 ≤ v) (h9 : v ≤ 9) : (ns ++ [v]).all (inB 0 9) = true := by
  rw [List.all_append, h]
  simp [inB, h0, h9]
theorem scCounts : FnScope ["script", "at", "most", "found", "value", "drawn"] ["script", "at", "most"] (defScope sCounts) := ⟨rfl, rfl, rfl, by decide +kernel, rfl, by decide +kernel, by decide +kernel⟩
theorem ok_counts (D : LD K mg f1 f2 f3 f4 f5 f6 t1 t2 t3 t4 t5 t6) (Ch : Chk K mg fW fB fA dW dB dA) (T : CT K mg C) (U : GU K mg h1 h2 h3 e1 e2 e3) : FnOk P w K mg base CX0 2 f2 t2 ["script", "at", "most"] (spCounts K) := by
  have GN : FnOk P w K mg base CX0 1 f1 t1 ["script", "at"] (spNum K) := ok_num D Ch T
  refine D.F2.ok scCounts (fun vs H Q E h => ?_) (fun cdv A outer s H vs Q E hr h => ?_)
  · obtain ⟨a, sc, n, m, rfl, _⟩ := h
    rfl
  · obtain ⟨a, sc, n, m, rfl, hS, hn, hm, hm2, q⟩ := h
    refine ⟨_, pss_cons (ps_set (i := 3) scCounts.nd rfl (.inl rfl) (pe_lst pa_nil))
      (pss_cons (ps_for PassesOwn.never rfl (pi_range1 rfl U.range (pa_cons (pe_op op_add pe_int (pe_op op_mod (pe_callTy call_int1 (by rfl) Ch.int (by decide +kernel) (pa_cons (pe_call GN hr (by rfl) D.g1 D.F1.kp D.b1 .nil pass0 (pa_cons (pv 0) (pa_cons (pv 1) pa_nil))) pa_nil)) (pv 2))) pa_nil)) (pg_name (i := 4) scCounts.nd rfl (.inl rfl))
        (pss_cons (ps_set (i := 5) scCounts.nd rfl (.inl rfl) (pe_callTy call_int1 (by rfl) Ch.int (by decide +kernel) (pa_cons (pe_call GN hr (by rfl) D.g1 D.F1.kp D.b1 .nil pass0 (pa_cons (pv 0) (pa_cons (pe_op op_add (pe_op op_add (pv 1) pe_int) (pv 4)) pa_nil))) pa_nil)))
          (pss_one (ps_expr (pe_bm PySem.F.plainAttrs_list PySem.F.slot_list_append PySem.F.type_list_append mt_append (pv 3) (pa_cons
            (pe_ifExp (PW.pt (pw_and (pt_cmpR (op_neD hr.units) (pv 3) (pe_lst pa_nil) (nomark _)) (pw_and1 (pt_cmpR op_eq (pe_op op_mod (pv 5) pe_int) pe_int (nomark _)))))
              (pe_ix ix_list (pv 3) (pe_un un_neg pe_int) (fun _ _ => rfl)) (pe_op op_mod (pe_op op_fdiv (pv 5) pe_int) pe_int)) pa_nil))))))
      (pss_one (ps_ret (pv 3)))), ?_⟩
    refine ⟨by show 0 ≤ sizeLine; decide, fun l nl => ?_⟩
    have s0 : Same H (upd H l (.lst [])) := same_upd nl
    refine ⟨_, rfl, _, rfl, a, sc, n, rfl, s0.seq hS, by omega, fun i H2 s2 => .inl ⟨_, rfl, _, rfl, _, _, rfl, rfl, hm, ?_⟩⟩
    have i0 := Int.emod_nonneg i (show m ≠ 0 by omega)
    have i1 := Int.emod_lt_of_pos i hm
    refine ⟨_, _, rfl, rfl, 1 + i % m, rfl, by omega, by omega, ?_⟩
    have e2 : H2 l = some (.lst (([] : List Int).map V.int)) := s2 _ _ upd_same
    refine for_range (lo := 0) (n := (1 + i % m).toNat) (fun k σ H3 => ∃ v c ns, σ = [some (.ref a), some (.int n), some (.int m), some (.ref l), v, c] ∧ Same H H3 ∧ H3 l = some (.lst ((ns : List Int).map V.int)) ∧ ns.length = k ∧ ns.all (inB 0 9) = true)
      ⟨none, none, [], rfl, s0.trans s2, e2, rfl, rfl⟩ ?_ ?_
    · rintro k σ H3 hk ⟨v, c, ns, rfl, s3, e3, hl3, ha3⟩
      refine ⟨_, rfl, _, rfl, _, _, rfl, rfl, _, rfl, _, _, rfl, rfl, a, sc, n + 1 + k, ?_, s3.seq hS, by omega, fun j H4 s4 => .inl ⟨_, rfl, ?_⟩⟩
      · rw [show ((n + 1 + k : Nat) : Int) = (n : Int) + 1 + (0 + (k : Int)) by omega]
        rfl
      have e4 := s4 _ _ e3
      have s4' := s3.trans s4
      have fin : ∀ (y : Int) (H5 : Hp), Same H H5 → H5 l = some (.lst (ns.map V.int)) → 0 ≤ y → y ≤ 9 →
          rAppend (V.ref l) [V.int y] H5 (fun _ H6 => ∃ (v2 c2 : Option V) (ms : List Int), [some (V.ref a), some (V.int n), some (V.int m), some (V.ref l), some (V.int (0 + (k : Int))), some (V.int j)] = [some (V.ref a), some (V.int n), some (V.int m), some (V.ref l), v2, c2] ∧ Same H H6 ∧ H6 l = some (.lst (ms.map V.int)) ∧ ms.length = k + 1 ∧ ms.all (inB 0 9) = true) := by
        intro y H5 s5 e5 y0 y9
        refine ⟨l, _, _, rfl, rfl, e5, by rw [List.length_map]; exact small1000 (by omega), ?_⟩
        exact ⟨_, _, ns ++ [y], rfl, same_set nl s5, by rw [upd_same, List.map_append]; rfl, by rw [List.length_append, hl3]; rfl, all_snoc ha3 y0 y9⟩
      refine ⟨_, rfl, .inl ⟨rfl, _, sqL e4⟩, _, rfl, by show 0 ≤ sizeLine; decide, fun e ne => ?_⟩
      have s5 : Same H (upd H4 e (.lst [])) := s4'.trans (same_upd ne)
      have nle : l ≠ e := fun q => by rw [← q, e4] at ne; cases ne
      have e5 : (upd H4 e (.lst [])) l = some (.lst (ns.map V.int)) := by rw [upd_ne nle]; exact e4
      refine ⟨_, _, .lst (sqL e5) (dp_ints ns), .lst (sqL upd_same) (dp_ints []), PySem.W.ke_shaped_ints _, PySem.W.ke_shaped_ints _, _, rfl, ?_⟩
      rw [eqv_lst]
      have d0 := Int.emod_nonneg (j / 3) (show (10 : Int) ≠ 0 by decide)
      have d1 := Int.emod_lt_of_pos (j / 3) (show (0 : Int) < 10 by decide)
      by_cases hns : ns = []
      · rw [decide_eq_true hns]
        exact iteF (iteF ⟨_, rfl, _, _, rfl, rfl, ⟨by decide, by decide⟩, _, _, rfl, rfl, (by show (0 : Int) < 10; decide), fin _ _ s5 e5 d0 (by omega)⟩)
      · rw [decide_eq_false hns]
        refine iteT ⟨_, rfl, _, _, rfl, rfl, (by show (0 : Int) < 3; decide), rfl, _, rfl, ite2 (fun _ => ?_) (fun _ => ?_)⟩
        · obtain ⟨r, y, er⟩ := snoc_of hns
          have by' : 0 ≤ y ∧ y ≤ 9 := inB_mem ha3 (by rw [er]; simp)
          exact ⟨_, rfl, _, rfl, l, _, _, _, rfl, rfl, sqL e5, by rw [er, List.map_append]; exact atI_last _ _, fin y _ s5 e5 by'.1 by'.2⟩
        · exact ⟨_, rfl, _, _, rfl, rfl, ⟨by decide, by decide⟩, _, _, rfl, rfl, (by show (0 : Int) < 10; decide), fin _ _ s5 e5 d0 (by omega)⟩
    · rintro σ H3 ⟨v, c, ns, rfl, s3, e3, hl3, ha3⟩
      exact ⟨_, rfl, q l ns H3 nl s3 e3 (by omega) (by omega) ha3⟩
end
end K2
namespace K2
open PySem PySem.Spec PyProof.Rows L2 BK
theorem RowsAt.same {o : List V → HO} {H H' : Hp} {q : Addr} {L : List (List Int)} (h : RowsAt o H q L) (s : Same H H') : RowsAt o H' q L :=
  let ⟨ps, h1, h2, h3⟩ := h; ⟨ps, s _ _ h1, h2, fun k p cs a b => s _ _ (h3 k p cs a b)⟩
theorem apart_tup (cs : List Int) (ps : List Addr) (_ : ps ≠ []) : HO.tup (cs.map V.int) ≠ .lst (ps.map V.ref) := fun z => by cases z
theorem apart_lst (cs : List Int) (ps : List Addr) (h : ps ≠ []) : HO.lst (cs.map V.int) ≠ .lst (ps.map V.ref) := fun z => by
  cases ps with
  | nil => exact h rfl
  | cons p r =>
    cases cs with
    | nil => simp at z
    | cons c t => simp at z
theorem RowsAt.snoc {o : List V → HO} (apart : ∀ (cs : List Int) (ps : List Addr), ps ≠ [] → o (cs.map V.int) ≠ .lst (ps.map V.ref)) {H : Hp} {q t : Addr} {L : List (List Int)} {cs : List Int} (h : RowsAt o H q L) (ht : H t = some (o (cs.map V.int))) (ne : t ≠ q) :
    ∃ acc, H q = some (.lst acc) ∧ acc.length = L.length ∧ RowsAt o (upd H q (.lst (acc ++ [V.ref t]))) q (L ++ [cs]) := by
  obtain ⟨ps, h1, h2, h3⟩ := h
  refine ⟨_, h1, by rw [List.length_map, h2], ps ++ [t], by rw [upd_same, List.map_append]; rfl, by simp [h2], fun k p c hk hc => ?_⟩
  by_cases hk2 : k < ps.length
  · rw [List.getElem?_append_left hk2] at hk
    rw [List.getElem?_append_left (by omega)] at hc
    have e := h3 k p c hk hc
    have n : p ≠ q := fun z => by
      rw [z, h1] at e
      exact apart c ps (fun z => by rw [z] at hk2; simp at hk2) (Option.some.inj e).symm
    rw [upd_ne n]
    exact e
  · rw [List.getElem?_append_right (by omega)] at hk hc
    have hk3 : k - ps.length = 0 := by
      have := (List.getElem?_eq_some_iff.mp hk).1
      simp at this
      omega
    rw [hk3] at hk
    rw [← h2, hk3] at hc
    have e1 : t = p := by simpa using hk
    have e2 : cs = c := by simpa using hc
    rw [← e1, ← e2, upd_ne ne]
    exact ht
theorem catA_read {K : PySem.W.Frag} {H : Hp} {a b : Addr} {xs ys : List V} {Q : VK} (ha : H a = some (.tup xs)) (hb : H b = some (.tup ys)) (hl : xs.length + ys.length < 1000)
    (q : ∀ p H', Same H H' → H' p = some (.tup (xs ++ ys)) → Q (.ref p) H') : rCatA K (.ref a) (.ref b) H Q := by
  refine ⟨a, b, xs, ys, rfl, rfl, sqT ha, sqT hb, Nat.le_of_lt (small1000 (Nat.le_of_lt hl)), fun z => ?_, fun _ z => ?_, fun _ _ p np => ?_⟩
  · exact q b H (Same.refl _) (by rw [z]; exact hb)
  · exact q a H (Same.refl _) (by rw [z, List.append_nil]; exact ha)
  · exact q p _ (same_upd np) upd_same
theorem slT_readLo {K : PySem.W.Frag} {H : Hp} {t : Addr} {ns : List Int} {Q : VK} (ht : H t = some (.tup (ns.map V.int)))
    (q : ∀ p H', Same H H' → H' p = some (.tup ((ns.drop 1).map V.int)) → Q (.ref p) H') : rSlA K (.ref t) (some 1) none H Q := by
  have hl : (ns.map V.int).length = ns.length := List.length_map ..
  refine ⟨t, _, rfl, sqT ht, fun z => ?_, fun _ p np => ?_⟩
  · refine q t H (Same.refl _) ?_
    rw [show HT.sIx (ns.map V.int).length 0 (some 1) = min 1 (ns.map V.int).length from HT.sIx_nat _ 0 1, hl] at z
    have e : ns = [] := List.length_eq_zero_iff.mp (by omega)
    rw [e] at ht ⊢
    exact ht
  · refine q p _ (same_upd np) ?_
    rw [upd_same, cut1]
section
variable {P : Program} {w : World} {K : PySem.W.Frag} {mg : Str → Option Value} {base : Heap} {fW fB fA C fL : Addr} {dW dB dA dL : FuncData} {g1 g2 g3 g4 g5 g6 g7 g8 : Addr} {d1 d2 d3 d4 d5 d6 d7 d8 : FuncData}
  {h1 h2 h3 : Addr} {e1 e2 e3 : FuncData} {f1 f2 f3 f4 f5 f6 : Addr} {t1 t2 t3 t4 t5 t6 : FuncData}
theorem scAll : FnScope ["values", "found", "value", "cuts"] ["values"] (defScope sAll) := ⟨rfl, rfl, rfl, by decide +kernel, rfl, by decide +kernel, by decide +kernel⟩
theorem ok_all (D : LD K mg f1 f2 f3 f4 f5 f6 t1 t2 t3 t4 t5 t6) (T : CT K mg C) (U : GU K mg h1 h2 h3 e1 e2 e3) : FnOk P w K mg base CX0 1 f3 t3 ["values"] spAll := by
  refine D.F3.ok scAll (fun vs H Q E h => ?_) (fun cdv A outer s H vs Q E hr h => ?_)
  · obtain ⟨n, rfl, _⟩ := h
    rfl
  · obtain ⟨n, rfl, hn1, hn2, q⟩ := h
    refine ⟨_, pss_cons (ps_set (i := 1) scAll.nd rfl (.inl rfl) (pe_lst (pa_cons (pe_tup (pa_cons pe_int pa_nil)) pa_nil)))
      (pss_cons (ps_for PassesOwn.never rfl (pi_range2 rfl U.range (pa_cons pe_int (pa_cons (pv 0) pa_nil))) (pg_name (i := 2) scAll.nd rfl (.inr rfl))
        (pss_one (ps_set (i := 1) scAll.nd rfl (.inl rfl) (pe_op op_cat (pv 1) (pe_lc (own := [("cuts", 3)]) (g := gName 3) (tt := tYes) (te := tOp (rCatA K) (tVar 3) (tTup (tCons (tVar 2) tNil))) rfl scAll.nd (pi_list (pv 1)) (blkOk_by (N := ["values", "found", "value", "cuts"]) (sc := defScope sAll) (by decide +kernel))
          (fun _ _ _ _ _ => pg_name (i := 3) scAll.nd rfl (Or.inl rfl)) (fun _ _ _ _ _ => pts_nil) (fun _ _ _ _ _ => pe_op op_catA (pv 3) (pe_tup (pa_cons (pv 2) pa_nil))))))))
      (pss_one (ps_ret (pv 1)))), ?_⟩
    refine ⟨by show 1 ≤ sizeLine; decide, fun t0 nt0 => ⟨by show 1 ≤ sizeLine; decide, fun l nl => ?_⟩⟩
    have s0 : Same H (upd (upd H t0 (.tup [V.int 0])) l (.lst [V.ref t0])) := (same_upd nt0).trans (same_upd nl)
    have nl0 : H l = none := (same_upd nt0).free nl
    have et : t0 ≠ l := fun z => by rw [← z, upd_same] at nl; cases nl
    refine ⟨_, rfl, 1, (n : Int), rfl, ⟨by decide, by decide, by omega, by omega⟩, ?_⟩
    refine for_range (lo := 1) (n := ((n : Int) - 1).toNat) (fun k σ H1 => ∃ f v c, σ = [some (.int n), some (.ref f), v, c] ∧ H f = none ∧ Same H H1 ∧ CutsAt H1 f (cutsK k))
      ⟨l, none, none, rfl, nl0, s0, [t0], by rw [upd_same]; rfl, rfl, fun k p cs a b => ?_⟩ ?_ ?_
    · cases k with
      | zero =>
        have e1 : t0 = p := by simpa using a
        have e2 : [0] = cs := by simpa [cutsK] using b
        rw [← e1, ← e2, upd_ne et, upd_same]
        rfl
      | succ k => simp at a
    · rintro k σ H1 hk ⟨f, v, c, rfl, nf, s1, hC⟩
      obtain ⟨ps, c1, c2, c3⟩ := id hC
      have hlen := cutsK_len k
      have hp : 2 ^ k ≤ 2 ^ 8 := Nat.pow_le_pow_right (by decide) (by omega)
      refine ⟨_, rfl, _, rfl, f, rfl, ⟨_, sqL c1⟩, fun D nD => ?_⟩
      have rl := fun (cs : List Int) (h : cs ∈ cutsK k) => cutsK_snoc k cs h
      refine lc_list (K := K) (a := f) (xs := ps.map V.ref) (fun i H2 => Same H1 H2 ∧ CutsAt H2 D (((cutsK k).map (· ++ [((k + 1 : Nat) : Int)])).take i)) ⟨same_upd nD, [], by rw [upd_same]; rfl, rfl, fun k p cs a => by simp at a⟩ (fun i H2 _ h => sqL (h.1 _ _ c1)) (fun i x H2 hx h => ?_) (fun H2 h => ?_)
      · obtain ⟨s2, hR⟩ := h
        rw [List.getElem?_map] at hx
        cases ep : ps[i]? with
        | none => rw [ep] at hx; cases hx
        | some p =>
          rw [ep] at hx
          cases hx
          have hi : i < (cutsK k).length := by rw [← c2]; exact (List.getElem?_eq_some_iff.mp ep).1
          have ei := List.getElem?_eq_getElem hi
          have hpt := c3 i p _ ep ei
          obtain ⟨c0, y0, ec, hy, hcl⟩ := rl _ (List.getElem_mem hi)
          have hcl2 : ((cutsK k)[i]).length ≤ k + 1 := by rw [ec, List.length_append]; simp; omega
          have nt : ((cutsK k).map (· ++ [((k + 1 : Nat) : Int)]))[i]? = some ((cutsK k)[i] ++ [((k + 1 : Nat) : Int)]) := by rw [List.getElem?_map, ei]; rfl
          generalize (cutsK k)[i] = cs at *
          refine ⟨rfl, _, rfl, _, rfl, by show 1 ≤ sizeLine; decide, fun u nu => ?_⟩
          refine catA_read (same_upd nu _ _ (s2 _ _ hpt)) upd_same (by rw [List.length_map]; show _ + 1 < 1000; omega) fun r H4 s4 hr4 => ?_
          have s24 := (same_upd (o := .tup [V.int (1 + (k : Int))]) nu).trans s4
          have hR4 := hR.same s24
          have hr4' : H4 r = some (.tup ((cs ++ [((k + 1 : Nat) : Int)]).map V.int)) := by
            rw [hr4, List.map_append]
            rw [show 1 + (k : Int) = ((k + 1 : Nat) : Int) by omega]
            rfl
          have nr : r ≠ D := fun z => by
            obtain ⟨ps', g1, _⟩ := hR4
            rw [z, g1] at hr4'
            cases hr4'
          obtain ⟨acc, a1, a2, a3⟩ := hR4.snoc apart_tup hr4' nr
          refine ⟨acc, a1, ?_, same_set nD (s2.trans s24), ?_⟩
          · rw [a2, List.length_take]
            exact small1000 (by rw [List.length_map, hlen]; omega)
          · rw [List.take_succ, nt]
            exact a3
      · obtain ⟨s2, ps2, k1, k2, k3⟩ := h
        rw [List.take_of_length_le (by rw [List.length_map, List.length_map, c2]; exact Nat.le_refl _)] at k2 k3
        rw [List.length_map, hlen] at k2
        refine ⟨f, D, _, _, rfl, rfl, s2 _ _ c1, k1, ?_, fun r nr => ?_⟩
        · rw [List.length_map, List.length_map, c2, k2, hlen]
          exact Nat.le_of_lt (small1000 (by omega))
        · have s3 := s2.trans (same_upd (o := .lst (ps.map V.ref ++ ps2.map V.ref)) nr)
          refine ⟨r, _, _, rfl, (s1.trans s2).free nr, s1.trans s3, ps ++ ps2, by rw [upd_same, List.map_append], ?_, fun j p cs a b => ?_⟩
          · rw [List.length_append, c2, k2, hlen, cutsK_len, Nat.pow_succ]
            omega
          · have b : (cutsK k ++ (cutsK k).map (· ++ [((k + 1 : Nat) : Int)]))[j]? = some cs := b
            by_cases hj : j < ps.length
            · rw [List.getElem?_append_left hj] at a
              rw [List.getElem?_append_left (by omega)] at b
              exact s3 _ _ (c3 j p cs a b)
            · rw [List.getElem?_append_right (by omega)] at a b
              rw [← c2] at b
              exact same_upd nr _ _ (k3 _ p cs a b)
    · rintro σ H1 ⟨f, v, c, rfl, nf, s1, hC⟩
      refine ⟨_, rfl, q f H1 nf s1 ?_⟩
      unfold allCuts
      rw [show n - 1 = ((n : Int) - 1).toNat by omega]
      exact hC
theorem scBuck : FnScope ["counts", "cuts", "first", "past"] ["counts", "cuts"] (defScope sBuck) := ⟨rfl, rfl, rfl, by decide +kernel, rfl, by decide +kernel, by decide +kernel⟩
theorem ok_buck (D : LD K mg f1 f2 f3 f4 f5 f6 t1 t2 t3 t4 t5 t6) (T : CT K mg C) : FnOk P w K mg base CX0 1 f4 t4 ["counts", "cuts"] spBuck := by
  refine D.F4.ok scBuck (fun vs H Q E h => ?_) (fun cdv A outer s H vs Q E hr h => ?_)
  · obtain ⟨c, t, ns, cs, rfl, _⟩ := h
    rfl
  · obtain ⟨c, t, ns, cs, rfl, hc, ht, hl, hcb, q⟩ := h
    obtain ⟨k1, k2, k3, k4⟩ := cuts_parts hcb
    refine ⟨_, pss_one (ps_ret (pe_lc (own := [("first", 2), ("past", 3)]) (g := gTup K 2 (gCons (gName 2) (gCons (gName 3) gNil))) (tt := tYes) (te := tSl (rSlL K) (tVar 0) (tPart (tVar 2)) (tPart (tVar 3))) rfl scBuck.nd
      (RZ.pi_zipA (by rfl) T.zip (pa_cons (pv 1) (pa_cons (pe_op op_catA (pe_slice sl_tupA (pv 1) (po_some pe_int) po_none) (pe_tup (pa_cons (pe_callB call_len_seq (by rfl) T.len PySem.boot_len (pa_cons (pv 0) pa_nil)) pa_nil))) pa_nil)))
      (blkOk_by (N := ["counts", "cuts", "first", "past"]) (sc := defScope sBuck) (by decide +kernel))
      (fun _ _ _ _ _ => pg_tup rfl (pgs_cons (pg_name (i := 2) scBuck.nd rfl (Or.inl rfl)) (pgs_cons (pg_name (i := 3) scBuck.nd rfl (Or.inl rfl)) pgs_nil))) (fun _ _ _ _ _ => pts_nil)
      (fun _ _ _ _ _ => pe_slice sl_list (pv 0) (po_some (pv 2)) (po_some (pv 3))))), ?_⟩
    have hcl : (cs.map V.int).length = cs.length := List.length_map ..
    have h0 : 0 < cs.length := List.length_pos_iff.mpr k3
    refine ⟨_, rfl, _, rfl, 1, rfl, ?_⟩
    dsimp only [tNoPart]
    refine slT_readLo ht fun b H1 s1 hb => ?_
    refine ⟨_, rfl, c, _, rfl, .inl (sqL (s1 _ _ hc)), by show 1 ≤ sizeLine; decide, fun u nu => ?_⟩
    refine catA_read (same_upd nu _ _ hb) upd_same (by rw [List.length_map, List.length_drop]; show _ + 1 < 1000; omega) fun r H3 s3 hr3 => ?_
    have s13 := (s1.trans (same_upd nu)).trans s3
    have hr3' : H3 r = some (.tup ((cs.drop 1 ++ [(ns.length : Int)]).map V.int)) := by rw [hr3, List.map_append, List.length_map]; rfl
    have zl : ((cs.drop 1 ++ [(ns.length : Int)]).map V.int).length = cs.length := by rw [List.length_map, List.length_append, List.length_drop]; simp; omega
    refine ⟨t, r, _, _, rfl, .inr ⟨sqT (s13 _ _ ht), sqT hr3', fun D nD => ?_⟩⟩
    have hpl := pairs_len cs k3 ns.length
    refine lc_it (walk_zipT (K := K) (a := t) (b := r) (n := cs.length) (xs := cs.map V.int) (ys := (cs.drop 1 ++ [(ns.length : Int)]).map V.int) (by rw [zl, hcl, Nat.min_self]))
      (fun i H4 => Same H3 H4 ∧ LstsAt H4 D ((bucksL ns cs).take i)) ⟨same_upd nD, [], by rw [upd_same]; rfl, rfl, fun k p cs a => by simp at a⟩ (fun i H4 _ h => ⟨sqT (h.1 _ _ (s13 _ _ ht)), sqT (h.1 _ _ hr3')⟩) ?_ ?_
    · rintro i x H4 H5 hi ⟨s4, hR⟩ ⟨T0, x1, y1, rfl, nT, rfl, ex, ey⟩
      obtain ⟨u', rfl, hu⟩ := map_get ex
      obtain ⟨v', rfl, hv⟩ := map_get ey
      have eab : (pairsL cs ns.length)[i]? = some (u', v') := by unfold pairsL; rw [List.getElem?_zip_eq_some]; exact ⟨hu, hv⟩
      obtain ⟨b1, b2, b3⟩ := pairs_asc hcb eab
      dsimp at b1 b2 b3
      obtain ⟨u', rfl⟩ : ∃ k : Nat, u' = k := ⟨u'.toNat, by omega⟩
      obtain ⟨v', rfl⟩ : ∃ k : Nat, v' = k := ⟨v'.toNat, by omega⟩
      have eb : (bucksL ns cs)[i]? = some (seg ns u' v') := by unfold bucksL; rw [List.getElem?_map, eab]; rfl
      have s5 : Same H3 (upd H4 T0 (.tup [V.int (u' : Int), V.int (v' : Int)])) := s4.trans (same_upd nT)
      refine ⟨T0, _, rfl, sqT upd_same, rfl, _, _, rfl, _, _, rfl, rfl, rfl, _, rfl, _, rfl, _, rfl, _, rfl, _, rfl, c, _, rfl, sqL (s5 _ _ (s13 _ _ hc)), fun z nz => ?_⟩
      rw [cut2]
      have hR5 := (hR.same (same_upd (o := .tup [V.int (u' : Int), V.int (v' : Int)]) nT)).same (same_upd (o := .lst ((seg ns u' v').map V.int)) nz)
      have nzD : z ≠ D := fun e => by
        obtain ⟨ps', k1, _⟩ := hR.same (same_upd (o := .tup [V.int (u' : Int), V.int (v' : Int)]) nT)
        rw [e, k1] at nz
        cases nz
      obtain ⟨acc, a1, a2, a3⟩ := hR5.snoc apart_lst upd_same nzD
      refine ⟨acc, a1, ?_, same_set nD (s5.trans (same_upd nz)), ?_⟩
      · rw [a2, List.length_take]
        exact small1000 (by omega)
      · rw [List.take_succ, eb]
        exact a3
    · rintro H4 ⟨s4, hR⟩
      rw [List.take_of_length_le (by unfold bucksL; rw [List.length_map, hpl]; exact Nat.le_refl _)] at hR
      exact q D H4 (s13.free nD) (s13.trans s4) hR
theorem scLSp : FnScope ["counts", "cuts", "bucket"] ["counts", "cuts"] (defScope sLSp) := ⟨rfl, rfl, rfl, by decide +kernel, rfl, by decide +kernel, by decide +kernel⟩
theorem ok_lsp (G : GT K mg g1 g2 g3 g4 g5 g6 g7 g8 d1 d2 d3 d4 d5 d6 d7 d8) (D : LD K mg f1 f2 f3 f4 f5 f6 t1 t2 t3 t4 t5 t6) (T : CT K mg C) : FnOk P w K mg base CX0 2 f5 t5 ["counts", "cuts"] spLSp := by
  have GB : FnOk P w K mg base CX0 1 f4 t4 ["counts", "cuts"] spBuck := ok_buck D T
  refine D.F5.ok scLSp (fun vs H Q E h => ?_) (fun cdv A outer s H vs Q E hr h => ?_)
  · obtain ⟨c, t, ns, cs, rfl, _⟩ := h
    rfl
  · obtain ⟨c, t, ns, cs, rfl, hc, ht, hl, hcb, q⟩ := h
    obtain ⟨k1, k2, k3, k4⟩ := cuts_parts hcb
    refine ⟨_, pss_one (ps_ret (pe_callB (cr_maxT rfl) (by rfl) G.max (by decide +kernel) (pa_cons (pe_lc (own := [("bucket", 2)]) (g := gName 2) (tt := tYes) (te := tOp (rI0 fun i j => .int (i - j)) (tCB (rMaxT K) (tCons (tVar 2) tNil)) (tCB (rMinT K) (tCons (tVar 2) tNil))) rfl scLSp.nd
      (pi_list (pe_call GB hr (by rfl) D.g4 D.F4.kp D.b4 .nil pass0 (pa_cons (pv 0) (pa_cons (pv 1) pa_nil)))) (blkOk_by (N := ["counts", "cuts", "bucket"]) (sc := defScope sLSp) (by decide +kernel))
      (fun _ _ _ _ _ => pg_name (i := 2) scLSp.nd rfl (Or.inl rfl)) (fun _ _ _ _ _ => pts_nil)
      (fun _ _ _ _ _ => pe_op op_sub (pe_callB (cr_maxT rfl) (by rfl) G.max (by decide +kernel) (pa_cons (pv 2) pa_nil)) (pe_callB (cr_minT rfl) (by rfl) G.min (by decide +kernel) (pa_cons (pv 2) pa_nil)))) pa_nil))), ?_⟩
    have hpl := pairs_len cs k3 ns.length
    refine ⟨_, rfl, _, rfl, c, t, ns, cs, rfl, hc, ht, hl, hcb, fun l H1 nl s1 hR => ?_⟩
    obtain ⟨ps, r1, r2, r3⟩ := hR
    have hbl : (bucksL ns cs).length = cs.length := by unfold bucksL; rw [List.length_map, hpl]
    have hsl : (spansL ns cs).length = cs.length := by unfold spansL; rw [List.length_map, hpl]
    refine ⟨l, rfl, ⟨_, sqL r1⟩, fun D nD => ?_⟩
    refine lc_list (K := K) (a := l) (xs := ps.map V.ref) (fun i H3 => Same H1 H3 ∧ H3 D = some (.lst (((spansL ns cs).take i).map V.int))) ⟨same_upd nD, by rw [upd_same]; rfl⟩ (fun i H3 _ h => sqL (h.1 _ _ r1)) (fun i x H3 hx h => ?_) (fun H3 h => ?_)
    · obtain ⟨s3, e3⟩ := h
      rw [List.getElem?_map] at hx
      cases ep : ps[i]? with
      | none => rw [ep] at hx; cases hx
      | some pr =>
        rw [ep] at hx
        cases hx
        have hi : i < (pairsL cs ns.length).length := by rw [hpl, ← hbl, ← r2]; exact (List.getElem?_eq_some_iff.mp ep).1
        have eab := List.getElem?_eq_getElem hi
        obtain ⟨b1, b2, b3⟩ := pairs_asc hcb eab
        have ebk : (bucksL ns cs)[i]? = some (seg ns (pairsL cs ns.length)[i].1.toNat (pairsL cs ns.length)[i].2.toNat) := by unfold bucksL; rw [List.getElem?_map, eab]; rfl
        have esp : (spansL ns cs)[i]? = some (spanI (seg ns (pairsL cs ns.length)[i].1.toNat (pairsL cs ns.length)[i].2.toNat)) := by unfold spansL; rw [List.getElem?_map, eab]; rfl
        have hpt := s3 _ _ (r3 i pr _ ep ebk)
        have hne : seg ns (pairsL cs ns.length)[i].1.toNat (pairsL cs ns.length)[i].2.toNat ≠ [] := seg_ne (by omega) (by omega)
        generalize seg ns (pairsL cs ns.length)[i].1.toNat (pairsL cs ns.length)[i].2.toNat = bk at *
        have h0 : 0 < bk.length := List.length_pos_iff.mpr hne
        refine ⟨rfl, _, rfl, pr, bk, rfl, .inl (sqL hpt), h0, fun m m1 m2 => ⟨_, rfl, pr, bk, rfl, .inl (sqL hpt), h0, fun m' m3 m4 => ⟨_, _, rfl, rfl, ?_⟩⟩⟩
        rw [maxI_of m1 m2, minI_of m3 m4]
        refine ⟨_, e3, by rw [List.length_map, List.length_take]; exact small1000 (by omega), same_set nD s3, ?_⟩
        rw [upd_same, List.take_succ, esp, List.map_append]
        rfl
    · obtain ⟨s3, e3⟩ := h
      rw [List.take_of_length_le (by rw [hsl, List.length_map, r2, hbl]; exact Nat.le_refl _)] at e3
      refine ⟨D, spansL ns cs, rfl, .inl (sqL e3), by rw [hsl]; exact List.length_pos_iff.mpr k3, fun m m1 m2 => ?_⟩
      rw [maxI_of m1 m2]
      exact q H3 (s1.trans s3)
end
end K2
namespace K2
open PySem PySem.Spec PyProof.Rows L2 BK
def tupD (cs : List Int) : PyData := .tuple (cs.map PyData.int)
theorem dp_rows {K : PySem.W.Frag} {H : Hp} : ∀ (ps : List Addr) (L : List (List Int)), ps.length = L.length → (∀ (k : Nat) (p : Addr) (cs : List Int), ps[k]? = some p → L[k]? = some cs → H p = some (.tup (cs.map V.int))) → DpAll K H (ps.map V.ref) (L.map tupD)
  | [], [], _, _ => .nil
  | p :: ps, cs :: L, h, g => .cons (.tup (sqT (g 0 p cs rfl rfl)) (dp_ints cs)) (dp_rows ps L (by simpa using h) fun k p' c' a b => g (k + 1) p' c' (by simpa using a) (by simpa using b))
  | [], _ :: _, h, _ => by simp at h
  | _ :: _, [], h, _ => by simp at h
theorem lay_tupD (cs : List Int) : (tupD cs).canLay0 = true := by
  have h := SeqAt.canLay_of_shaped (shaped_tup cs)
  exact h
theorem depth_tupD (cs : List Int) : (tupD cs).depth ≤ 1 := by
  unfold tupD
  simp [PyData.depth, PySem.W.ke_depthAll]
theorem lay_rows : ∀ L : List (List Int), PyData.canLayAll0 (L.map tupD) = true
  | [] => by simp [PyData.canLayAll0]
  | cs :: L => by simp [PyData.canLayAll0, lay_tupD cs, lay_rows L]
theorem depth_rows : ∀ L : List (List Int), PyData.depthAll (L.map tupD) ≤ 2
  | [] => by simp [PyData.depthAll]
  | cs :: L => by
    have h1 := depth_rows L
    have h2 := depth_tupD cs
    simp only [List.map_cons, PyData.depthAll]
    omega
theorem shaped_rows (L : List (List Int)) : SeqAt.shaped (.list (L.map tupD)) = true := by
  have h1 := depth_rows L
  have h2 : PyData.depth (.list (L.map tupD)) ≤ 64 := by
    simp only [PyData.depth]
    omega
  show (PyData.canLay0 (.list (L.map tupD)) && decide (PyData.depth (.list (L.map tupD)) ≤ 64)) = true
  rw [Bool.and_eq_true]
  exact ⟨by simp only [PyData.canLay0]; exact lay_rows L, decide_eq_true h2⟩
theorem any_rows (L : List (List Int)) (cs : List Int) : (L.map tupD).any (fun z => PyData.eqv z (tupD cs)) = decide (cs ∈ L) := by
  induction L with
  | nil => simp
  | cons x L ih =>
    rw [List.map_cons, List.any_cons, ih]
    have e : PyData.eqv (tupD x) (tupD cs) = decide (x = cs) := eqv_tup x cs
    rw [e]
    by_cases h : x = cs
    · simp [h]
    · simp [h, Ne.symm h]
theorem slT_readLoN {K : PySem.W.Frag} {H : Hp} {t : Addr} {ns : List Int} {Q : VK} {σ : L2.St} (ht : H t = some (.tup (ns.map V.int)))
    (q : ∀ p H', Same H H' → H' p = some (.tup ((ns.drop 1).map V.int)) → Q (.ref p) H') : tNoPart σ H (fun u H3 => rSlA K (.ref t) (some 1) u H3 Q) := slT_readLo ht q
section
variable {P : Program} {w : World} {K : PySem.W.Frag} {mg : Str → Option Value} {base : Heap} {fW fB fA C fL : Addr} {dW dB dA dL : FuncData} {g1 g2 g3 g4 g5 g6 g7 g8 : Addr} {d1 d2 d3 d4 d5 d6 d7 d8 : FuncData}
  {h1 h2 h3 : Addr} {e1 e2 e3 : FuncData} {f1 f2 f3 f4 f5 f6 : Addr} {t1 t2 t3 t4 t5 t6 : FuncData}
abbrev NSh : List Str := ["counts", "buckets", "cuts", "marks", "span", "mark", "one", "other", "some"]
theorem scLSh : FnScope NSh ["counts", "buckets", "cuts", "marks"] (defScope sLSh) := ⟨rfl, rfl, rfl, by decide +kernel, rfl, by decide +kernel, by decide +kernel⟩
def pairB (ns : List Int) (g : Int) (p : Int × Int) : Bool := decide (p.1 < p.2) && gapB ns g p
theorem ok_lsh (G : GT K mg g1 g2 g3 g4 g5 g6 g7 g8 d1 d2 d3 d4 d5 d6 d7 d8) (D : LD K mg f1 f2 f3 f4 f5 f6 t1 t2 t3 t4 t5 t6) (T : CT K mg C) (U : GU K mg h1 h2 h3 e1 e2 e3) : FnOk P w K mg base CX0 3 f6 t6 ["counts", "buckets", "cuts", "marks"] spLSh := by
  have GA : FnOk P w K mg base CX0 1 f3 t3 ["values"] spAll := ok_all D T U
  have GS : FnOk P w K mg base CX0 2 f5 t5 ["counts", "cuts"] spLSp := ok_lsp G D T
  refine D.F6.ok scLSh (fun vs H Q E h => ?_) (fun cdv A outer s H vs Q E hr h => ?_)
  · obtain ⟨c, t, m, ns, cs, ms, b, rfl, _⟩ := h
    rfl
  · obtain ⟨c, t, m, ns, cs, ms, b, rfl, hc, hg, hn9, ht, hm, hlc, hlm, hb, q⟩ := h
    have hu : (A.deeper (envOfC "_law_is_shown" (defScope sLSh) s.heap.objs.size f6 cdv)).units + 65 < cLine := by have := hr.un; omega
    refine ⟨_, pss_cons (ps_if (PW.pt (pw_or (pt_cmpR (op_notInD hu) (pv 2) (pe_call GA (hr.mono (by decide)) (by rfl) D.g3 D.F3.kp D.b3 .nil pass0 (pa_cons (pe_callB call_len_seq (by rfl) T.len PySem.boot_len (pa_cons (pv 0) pa_nil)) pa_nil)) (by rfl))
        (pw_or1 (pt_cmpR op_gt (pe_callB call_len_seq (by rfl) T.len PySem.boot_len (pa_cons (pv 2) pa_nil)) (pv 1) (nomark _))))) (pss_one (ps_ret pe_bl)) pss_nil)
      (pss_cons (ps_set (i := 4) scLSh.nd rfl (.inl rfl) (pe_call GS hr (by rfl) D.g5 D.F5.kp D.b5 .nil pass0 (pa_cons (pv 0) (pa_cons (pv 2) pa_nil))))
      (pss_cons (ps_if (pt_cmpR op_eq (pv 4) pe_int (nomark _)) (pss_one (ps_ret (pe_cmpR (op_eqD hr.units) (pv 3) (pe_tup pa_nil) (nomark _)))) pss_nil)
      (pss_cons (ps_if (PW.pt (pw_or (pt_cmpR op_ne (pe_callB call_len_seq (by rfl) T.len PySem.boot_len (pa_cons (pv 3) pa_nil)) (pe_op op_add (pv 1) pe_int) (nomark _))
        (pw_or1 (pt_val (pe_callB (cr_any rfl) (by rfl) D.any (by decide +kernel) (pa_cons (pe_lc (own := [("mark", 5)]) (g := gName 5) (tt := tYes)
          (te := tNotV (tChain (rI0 fun i j => .bl (decide (i ≤ j))) (rI0 fun i j => .bl (decide (i < j))) (tC (.int 0)) (tVar 5) (tCB (fun xs H Q => ∃ p ys, xs = [V.ref p] ∧ (SqL K H p ys ∨ SqT K H p ys) ∧ Q (.int ys.length) H) (tCons (tVar 0) tNil))))
          rfl scLSh.nd (pi_tup (pv 3)) (blkOk_by (N := NSh) (sc := defScope sLSh) (by decide +kernel)) (fun _ _ _ _ _ => pg_name (i := 5) scLSh.nd rfl (Or.inl rfl)) (fun _ _ _ _ _ => pts_nil)
          (fun _ _ _ _ _ => pe_not (pe_chain op_le op_lt pe_int (pv 5) (pe_callB call_len_seq (by rfl) T.len PySem.boot_len (pa_cons (pv 0) pa_nil))))) pa_nil)))))) (pss_one (ps_ret pe_bl)) pss_nil)
      (pss_cons (ps_for PassesOwn.never rfl (RZ.pi_zipA (by rfl) T.zip (pa_cons (pv 3) (pa_cons (pe_slice sl_tupA (pv 3) (po_some pe_int) po_none) pa_nil))) (pg_tup rfl (pgs_cons (pg_name (i := 6) scLSh.nd rfl (Or.inl rfl)) (pgs_cons (pg_name (i := 7) scLSh.nd rfl (Or.inl rfl)) pgs_nil)))
        (pss_cons (ps_set (i := 8) scLSh.nd rfl (.inl rfl) (pe_slice sl_list (pv 0) (po_some (pv 6)) (po_some (pe_op op_add (pv 7) pe_int))))
        (pss_one (ps_if (PW.pt (pw_or (pt_cmpR op_ge (pv 6) (pv 7) (nomark _)) (pw_or1 (pt_cmpR op_lt (pe_op op_sub (pe_callB (cr_maxT rfl) (by rfl) G.max (by decide +kernel) (pa_cons (pv 8) pa_nil)) (pe_callB (cr_minT rfl) (by rfl) G.min (by decide +kernel) (pa_cons (pv 8) pa_nil))) (pv 4) (nomark _))))) (pss_one (ps_ret pe_bl)) pss_nil))))
      (pss_one (ps_ret pe_bl)))))), ?_⟩
    have hml : (ms.map V.int).length = ms.length := List.length_map ..
    refine ⟨_, rfl, _, rfl, c, _, rfl, .inl (sqL hc), ns.length, by rw [List.length_map]; rfl, hg.1, hn9, fun l H1 nl s1 hC => ?_⟩
    obtain ⟨ps, r1, r2, r3⟩ := hC
    refine ⟨tupD cs, (allCuts ns.length).map tupD, .tup (sqT (s1 _ _ ht)) (dp_ints cs), .lst (sqL r1) (dp_rows ps _ r2 r3), shaped_tup cs, shaped_rows _, _, rfl, ?_⟩
    rw [any_rows]
    have hmc := mem_allCuts (n := ns.length) hg.1 (cs := cs)
    cases hcb : cutsB cs ns.length with
    | false =>
      rw [decide_eq_false (fun z => by rw [hmc.mp z] at hcb; cases hcb)]
      refine iteT ?_
      have := q H1 s1
      unfold showsB at this
      rw [hcb] at this
      exact this
    | true =>
      rw [decide_eq_true (hmc.mpr hcb)]
      refine iteF ⟨_, rfl, t, _, rfl, .inr (sqT (s1 _ _ ht)), _, rfl, _, _, rfl, rfl, _, rfl, ?_⟩
      rw [List.length_map]
      by_cases hle : (cs.length : Int) ≤ b
      · rw [decide_eq_false (by omega)]
        have hsb : showsB ns b cs ms = lawM ns ms b (gspan ns cs) := by
          rw [law_eq hg hb hcb hle]
          unfold showsB
          rw [hcb, decide_eq_true hle]
          rfl
        rw [hsb] at q
        refine iteF ⟨_, rfl, _, rfl, c, t, ns, cs, rfl, s1 _ _ hc, s1 _ _ ht, hlc, hcb, fun H2 s2 => ?_⟩
        have s12 := s1.trans s2
        have hc2 := s12 _ _ hc
        have hm2 := s12 _ _ hm
        refine ⟨_, rfl, rfl, _, rfl, ite2 (fun z => ?_) (fun z => ?_)⟩
        · have z : gspan ns cs = 0 := by simpa using z
          refine ⟨_, rfl, by show 0 ≤ sizeLine; decide, fun e ne => ?_⟩
          refine ⟨_, _, .tup (sqT (same_upd ne _ _ hm2)) (dp_ints ms), .tup (sqT upd_same) (dp_ints []), shaped_tup ms, shaped_tup [], ?_⟩
          rw [eqv_tup]
          have := q _ (s12.trans (same_upd (o := .tup []) ne))
          unfold lawM at this
          rw [if_pos z] at this
          exact this
        · have z : gspan ns cs ≠ 0 := by simpa using z
          have hlm2 : lawM ns ms b (gspan ns cs) = ((decide ((ms.length : Int) = b + 1) && ms.all (inB 0 ((ns.length : Int) - 1))) && (ms.zip (ms.drop 1)).all (pairB ns (gspan ns cs))) := by unfold lawM; rw [if_neg z]; rfl
          rw [hlm2] at q
          refine ⟨_, rfl, m, _, rfl, .inr (sqT hm2), _, rfl, _, _, rfl, rfl, rfl, _, rfl, ?_⟩
          rw [hml]
          by_cases hb2 : (ms.length : Int) = b + 1
          · rw [hb2, decide_eq_true rfl]
            refine iteF ⟨_, rfl, m, rfl, ⟨_, sqT hm2⟩, fun D nD => ?_⟩
            refine lc_tup (K := K) (a := m) (xs := ms.map V.int) (fun i H3 => Same H2 H3 ∧ H3 D = some (.lst (((ms.take i).map fun x => V.bl (!inB 0 ((ns.length : Int) - 1) x))))) ⟨same_upd nD, by rw [upd_same]; rfl⟩ (fun i H3 _ h => sqT (h.1 _ _ hm2)) (fun i x H3 hx h => ?_) (fun H3 h => ?_)
            · obtain ⟨v, rfl, hv⟩ := map_get hx
              obtain ⟨s3, e3⟩ := h
              have fin : ∀ k : Bool, k = (!inB 0 ((ns.length : Int) - 1) v) → ∃ acc, H3 D = some (.lst acc) ∧ acc.length < sizeLine ∧ (Same H2 (upd H3 D (.lst (acc ++ [V.bl k]))) ∧ (upd H3 D (.lst (acc ++ [V.bl k]))) D = some (.lst (((ms.take (i + 1)).map fun x => V.bl (!inB 0 ((ns.length : Int) - 1) x))))) := by
                rintro k rfl
                refine ⟨_, e3, by rw [List.length_map, List.length_take]; exact small1000 (by omega), same_set nD s3, ?_⟩
                rw [upd_same, List.take_succ, hv, List.map_append]
                rfl
              refine ⟨rfl, _, rfl, _, _, rfl, rfl, _, rfl, ?_⟩
              by_cases v0 : 0 ≤ v
              · rw [decide_eq_true v0]
                refine iteT ⟨_, rfl, c, _, rfl, .inl (sqL (s3 _ _ hc2)), _, _, rfl, rfl, _, rfl, fin _ ?_⟩
                rw [List.length_map]
                unfold inB
                congr 1
                by_cases v1 : v < (ns.length : Int)
                · rw [decide_eq_true v1]
                  exact (decide_eq_true ⟨v0, by omega⟩).symm
                · rw [decide_eq_false v1]
                  exact (decide_eq_false (by omega)).symm
              · rw [decide_eq_false v0]
                refine iteF ⟨_, rfl, fin _ ?_⟩
                unfold inB
                congr 1
                exact (decide_eq_false (by omega)).symm
            · obtain ⟨s3, e3⟩ := h
              rw [hml, List.take_length] at e3
              refine ⟨D, ms.map (fun x => !inB 0 ((ns.length : Int) - 1) x), rfl, sqL (by rw [e3, List.map_map]; rfl), _, rfl, ?_⟩
              have ea : (ms.map (fun x => !inB 0 ((ns.length : Int) - 1) x)).any id = !ms.all (inB 0 ((ns.length : Int) - 1)) := by
                rw [List.any_map, List.not_all_eq_any_not]
                rfl
              rw [ea]
              cases ha : ms.all (inB 0 ((ns.length : Int) - 1)) with
              | false =>
                refine iteT ?_
                have := q H3 (s12.trans s3)
                rw [ha, Bool.and_false, Bool.false_and] at this
                exact this
              | true =>
                refine iteF ⟨_, rfl, _, rfl, 1, rfl, ?_⟩
                rw [ha, decide_eq_true hb2, Bool.and_self, Bool.true_and] at q
                have hA := fun {x : Int} (h : x ∈ ms) => inB_mem ha h
                refine slT_readLoN (s3 _ _ hm2) fun r H4 s4 hr4 => ?_
                have s14 := (s12.trans s3).trans s4
                refine ⟨m, r, _, _, rfl, .inr ⟨sqT (s14 _ _ hm), sqT hr4, ?_⟩⟩
                have zl : (ms.zip (ms.drop 1)).length = ms.length - 1 := by rw [List.length_zip, List.length_drop]; omega
                refine for_it (walk_zipT (K := K) (a := m) (b := r) (n := ms.length - 1) (xs := ms.map V.int) (ys := (ms.drop 1).map V.int) (by rw [hml, List.length_map, List.length_drop]; omega))
                  (fun i σ H5 => ∃ x6 x7 x8, σ = [some (.ref c), some (.int b), some (.ref t), some (.ref m), some (.int (gspan ns cs)), none, x6, x7, x8] ∧ Same H4 H5 ∧ ((ms.zip (ms.drop 1)).take i).all (pairB ns (gspan ns cs)) = true)
                  ⟨none, none, none, rfl, Same.refl _, rfl⟩ (fun i σ H5 _ h => ⟨sqT ((s14.trans h.choose_spec.choose_spec.choose_spec.2.1) _ _ hm), sqT (h.choose_spec.choose_spec.choose_spec.2.1 _ _ hr4)⟩) ?_ ?_
                · rintro i x σ H5 H6 hi ⟨x6, x7, x8, rfl, s5, hall⟩ ⟨T0, x1, y1, rfl, nT, rfl, ex, ey⟩
                  obtain ⟨u', rfl, hu'⟩ := map_get ex
                  obtain ⟨v', rfl, hv'⟩ := map_get ey
                  have ez : (ms.zip (ms.drop 1))[i]? = some (u', v') := by rw [List.getElem?_zip_eq_some]; exact ⟨hu', hv'⟩
                  have hu2 := hA (List.mem_of_getElem? hu')
                  have hv2 := hA (List.mem_of_mem_drop (List.mem_of_getElem? hv'))
                  have hmem := List.mem_of_getElem? ez
                  obtain ⟨u', rfl⟩ : ∃ k : Nat, u' = k := ⟨u'.toNat, by omega⟩
                  obtain ⟨v', rfl⟩ : ∃ k : Nat, v' = k := ⟨v'.toNat, by omega⟩
                  have s6 : Same H4 (upd H5 T0 (.tup [V.int (u' : Int), V.int (v' : Int)])) := s5.trans (same_upd nT)
                  have bad : pairB ns (gspan ns cs) ((u' : Int), (v' : Int)) = false → ∀ H', Same H H' → Q (.bl false) H' := fun hb H' s' => by
                    have : (ms.zip (ms.drop 1)).all (pairB ns (gspan ns cs)) = false := by
                      rw [List.all_eq_false]
                      exact ⟨_, hmem, by rw [hb]; decide⟩
                    have q' := q H' s'
                    rw [this] at q'
                    exact q'
                  refine ⟨T0, _, rfl, sqT upd_same, rfl, _, _, rfl, _, _, rfl, rfl, _, rfl, _, rfl, _, rfl, _, rfl, _, _, rfl, rfl, (((v' + 1 : Nat) : Int)), rfl, c, _, rfl, sqL ((s14.trans s6) _ _ hc), fun z nz => ?_⟩
                  rw [cut2]
                  have s7 := s6.trans (same_upd (o := .lst ((seg ns u' (v' + 1)).map V.int)) nz)
                  refine ⟨_, rfl, _, rfl, _, _, rfl, rfl, _, rfl, ?_⟩
                  have eg : gapB ns (gspan ns cs) ((u' : Int), (v' : Int)) = decide (spanI (seg ns u' (v' + 1)) ≥ gspan ns cs) := by
                    unfold gapB
                    simp only [Int.toNat_natCast]
                    rw [show ((v' : Int) + 1).toNat = v' + 1 by omega]
                  by_cases huv : (u' : Int) < (v' : Int)
                  · rw [decide_eq_false (by omega)]
                    have hne : seg ns u' (v' + 1) ≠ [] := seg_ne (by omega) (by omega)
                    have hsq := sqL (K := K) (upd_same (H := upd H5 T0 (.tup [V.int (u' : Int), V.int (v' : Int)])) (a := z) (o := .lst ((seg ns u' (v' + 1)).map V.int)))
                    have h0 : 0 < (seg ns u' (v' + 1)).length := List.length_pos_iff.mpr hne
                    refine iteF ⟨_, rfl, z, _, rfl, .inl hsq, h0, fun m1 a1 a2 => ⟨_, rfl, z, _, rfl, .inl hsq, h0, fun m2 a3 a4 => ⟨_, _, rfl, rfl, _, rfl, _, _, rfl, rfl, _, rfl, ?_⟩⟩⟩
                    rw [maxI_of a1 a2, minI_of a3 a4]
                    refine ite2 (fun z1 => ?_) (fun z1 => ?_)
                    · have z1 : spanI (seg ns u' (v' + 1)) < gspan ns cs := of_decide_eq_true z1
                      refine bad ?_ _ (s14.trans s7)
                      unfold pairB
                      rw [eg, decide_eq_true huv, decide_eq_false (by omega)]
                      rfl
                    · have z1 : ¬ spanI (seg ns u' (v' + 1)) < gspan ns cs := fun h => z1 (decide_eq_true h)
                      refine ⟨_, _, _, rfl, s7, ?_⟩
                      rw [List.take_succ, ez, List.all_append, hall]
                      have : pairB ns (gspan ns cs) ((u' : Int), (v' : Int)) = true := by
                        unfold pairB
                        rw [eg, decide_eq_true huv, decide_eq_true (by omega)]
                        rfl
                      simp [this]
                  · rw [decide_eq_true (by omega)]
                    refine iteT (bad ?_ _ (s14.trans s7))
                    unfold pairB
                    rw [decide_eq_false huv]
                    rfl
                · rintro σ H5 ⟨x6, x7, x8, rfl, s5, hall⟩
                  rw [List.take_of_length_le (by rw [zl]; exact Nat.le_refl _)] at hall
                  have := q H5 (s14.trans s5)
                  rw [hall] at this
                  exact this
          · rw [decide_eq_false (by simpa using hb2)]
            refine iteT ?_
            have := q H2 s12
            rw [decide_eq_false hb2] at this
            exact this
      · rw [decide_eq_true (by omega)]
        refine iteT ?_
        have := q H1 s1
        unfold showsB at this
        rw [hcb, decide_eq_false hle] at this
        exact this
end
end K2
namespace K2
open PySem PySem.Spec PyProof.Rows L2 BK
abbrev sLaw : Stmt := topS 41
abbrev st (i : Nat) : Stmt := (defBody sLaw).getD i (.Pass ⟨0, 0, 0, 0⟩)
abbrev NL : List Str := ["script", "counts", "column", "every", "buckets", "drawn", "spans", "many", "span", "found", "marks", "pairs", "cuts", "some", "value"]
theorem scLaw : FnScope NL ["script"] (defScope sLaw) := ⟨rfl, rfl, rfl, by decide +kernel, rfl, by decide +kernel, by decide +kernel⟩
/-! a statement from what holds ahead to what holds behind -/
def Hoare {ι : Type} (X : Cx) (st : Stmt) (A B : ι → L2.St → Hp → Prop) : Prop := ∃ t, PS X st t ∧ ∀ i D σ H, A i σ H → (∀ σ' H', B i σ' H' → D.nx σ' H') → t D σ H
/-- statements that end with a return of True -/
def HoareR {ι : Type} (X : Cx) (sts : List Stmt) (A : ι → L2.St → Hp → Prop) : Prop := ∃ t, PSs X sts t ∧ ∀ i D σ H, A i σ H → (∀ H', D.rt (.bl true) H') → t D σ H
theorem HoareR.cons {ι : Type} {X : Cx} {s : Stmt} {r : List Stmt} {A B : ι → L2.St → Hp → Prop} (h : Hoare X s A B) (g : HoareR X r B) : HoareR X (s :: r) A := by
  obtain ⟨t, p, q⟩ := h
  obtain ⟨u, p2, q2⟩ := g
  exact ⟨_, pss_cons p p2, fun i D σ H a n => q i _ σ H a fun σ' H' b => q2 i D σ' H' b n⟩
/-- what the statement's own facts are -/
structure LT (K : PySem.W.Frag) (mg : Str → Option Value) (C fI S i7 i8 : Addr) (dI : FuncData) : Prop where
  maker : Mk K C fI
  FI : Fun K "__init__" "Column.__init__" sInit fI dI
  bI : Binds K dI ["self", "counts"] []
  eE : PySem.W.findIn K (.ref S) "__eq__" = some (some (.ref i7))
  iE : PySem.W.isFn K (.ref i7) = true
  mS : Meth K S "shows" i8
section
variable {P : Program} {w : World} {K : PySem.W.Frag} {mg : Str → Option Value} {base : Heap} {fW fB fA C fL fI : Addr} {dW dB dA dL dI : FuncData} {g1 g2 g3 g4 g5 g6 g7 g8 : Addr} {d1 d2 d3 d4 d5 d6 d7 d8 : FuncData}
  {h1 h2 h3 : Addr} {e1 e2 e3 : FuncData} {S i1 i2 i3 i4 i5 i6 i7 i8 : Addr} {q1 q2 q3 q4 q5 q6 q7 q8 : FuncData} {f1 f2 f3 f4 f5 f6 : Addr} {t1 t2 t3 t4 t5 t6 : FuncData}
variable {f : Addr} {cdv : Value} {A : Around} {outer : List Env} {s : Shared} {H0 : Hp} {E : XK}
abbrev XL (P : Program) (w : World) (K : PySem.W.Frag) (mg : Str → Option Value) (base : Heap) (f : Addr) (cdv : Value) (A : Around) (outer : List Env) (s : Shared) (H : Hp) (E : XK) : Cx :=
  (cxOf CX0 P w K mg base NL "law" (defScope sLaw) f cdv A outer s H E).nox
abbrev Ix : Type := Addr × List Int
structure Bx (K : PySem.W.Frag) (C : Addr) (H : Hp) (i : Ix) (c p e : Addr) (ns : List Int) : Prop where
  sc : SqL K H i.1 (i.2.map V.int)
  cl : H c = some (.lst (ns.map V.int))
  col : ColAt C H p ns
  ev : CutsAt H e (allCuts ns.length)
  gd : Good ns
  n9 : ns.length ≤ 9
theorem Bx.same {K : PySem.W.Frag} {C : Addr} {H H' : Hp} {i : Ix} {c p e : Addr} {ns : List Int} (b : Bx K C H i c p e ns) (s : Same H H') : Bx K C H' i c p e ns := ⟨s.seq b.sc, s _ _ b.cl, b.col.same s, b.ev.same s, b.gd, b.n9⟩
def A0 (K : PySem.W.Frag) : Ix → L2.St → Hp → Prop := fun i σ H => ∃ x1 x2 x3 x4 x5 x6 x7 x8 x9 x10 x11 x12 x13 x14, σ = [some (V.ref i.1), x1, x2, x3, x4, x5, x6, x7, x8, x9, x10, x11, x12, x13, x14] ∧ SqL K H i.1 (i.2.map V.int)
def A1 (K : PySem.W.Frag) : Ix → L2.St → Hp → Prop := fun i σ H => ∃ c x2 x3 x4 x5 x6 x7 x8 x9 x10 x11 x12 x13 x14 ns, σ = [some (V.ref i.1), some (V.ref c), x2, x3, x4, x5, x6, x7, x8, x9, x10, x11, x12, x13, x14] ∧ SqL K H i.1 (i.2.map V.int) ∧ H c = some (.lst ((ns : List Int).map V.int)) ∧ Good ns ∧ ns.length ≤ 9
def A2 (K : PySem.W.Frag) (C : Addr) : Ix → L2.St → Hp → Prop := fun i σ H => ∃ c p e x4 x5 x6 x7 x8 x9 x10 x11 x12 x13 x14 ns, σ = [some (V.ref i.1), some (V.ref c), some (V.ref p), some (V.ref e), x4, x5, x6, x7, x8, x9, x10, x11, x12, x13, x14] ∧ Bx K C H i c p e ns
def A3 (K : PySem.W.Frag) (C : Addr) : Ix → L2.St → Hp → Prop := fun i σ H => ∃ c p e b x5 x6 x7 x8 x9 x10 x11 x12 x13 x14 ns, σ = [some (V.ref i.1), some (V.ref c), some (V.ref p), some (V.ref e), some (V.int b), x5, x6, x7, x8, x9, x10, x11, x12, x13, x14] ∧ Bx K C H i c p e ns ∧ 1 ≤ b ∧ b ≤ (ns.length : Int)
def A4 (K : PySem.W.Frag) (C : Addr) : Ix → L2.St → Hp → Prop := fun i σ H => ∃ c p e b d x6 x7 x8 x9 x10 x11 x12 x13 x14 ns cs, σ = [some (V.ref i.1), some (V.ref c), some (V.ref p), some (V.ref e), some (V.int b), some (V.ref d), x6, x7, x8, x9, x10, x11, x12, x13, x14] ∧ Bx K C H i c p e ns ∧ 1 ≤ b ∧ b ≤ (ns.length : Int) ∧ H d = some (.tup ((cs : List Int).map V.int)) ∧ cs ∈ allCuts ns.length
def A5 (K : PySem.W.Frag) (C : Addr) : Ix → L2.St → Hp → Prop := fun i σ H => ∃ c p e b d t x7 x8 x9 x10 x11 x12 x13 x14 ns cs H1, σ = [some (V.ref i.1), some (V.ref c), some (V.ref p), some (V.ref e), some (V.int b), some (V.ref d), some (V.ref t), x7, x8, x9, x10, x11, x12, x13, x14] ∧ Bx K C H1 i c p e ns ∧ 1 ≤ b ∧ b ≤ (ns.length : Int) ∧ H1 d = some (.tup ((cs : List Int).map V.int)) ∧ cs ∈ allCuts ns.length ∧ H1 t = none ∧ Same H1 H ∧ H t = some (.lst [])
def A6 (K : PySem.W.Frag) (C : Addr) : Ix → L2.St → Hp → Prop := fun i σ H => ∃ c p e b d t x7 x8 x9 x10 x11 x12 x13 x14 ns cs, σ = [some (V.ref i.1), some (V.ref c), some (V.ref p), some (V.ref e), some (V.int b), some (V.ref d), some (V.ref t), x7, x8, x9, x10, x11, x12, x13, x14] ∧ Bx K C H i c p e ns ∧ 1 ≤ b ∧ b ≤ (ns.length : Int) ∧ H d = some (.tup ((cs : List Int).map V.int)) ∧ cs ∈ allCuts ns.length ∧ H t = some (.lst ((profL ns ns.length).map V.int))
theorem cuts_len {n : Nat} {cs : List Int} (h : cs ∈ allCuts n) (hn : n ≤ 9) : cs.length ≤ 9 := by
  obtain ⟨c, y, e, h1, h2⟩ := cutsK_snoc _ _ h
  rw [e, List.length_append]
  simp
  omega
theorem y0 (D : LD K mg f1 f2 f3 f4 f5 f6 t1 t2 t3 t4 t5 t6) (Ch : Chk K mg fW fB fA dW dB dA) (T : CT K mg C) (U : GU K mg h1 h2 h3 e1 e2 e3) (hr : Room 8 (A.deeper (envOfC "law" (defScope sLaw) s.heap.objs.size f cdv))) :
    Hoare (XL P w K mg base f cdv A outer s H0 E) (st 0) (A0 K) (A1 K) := by
  have GC : FnOk P w K mg base CX0 2 f2 t2 ["script", "at", "most"] (spCounts K) := ok_counts D Ch T U
  refine ⟨_, ps_set (i := 1) scLaw.nd rfl (.inr rfl) (pe_call GC (hr.mono (by decide)) (by rfl) D.g2 D.F2.kp D.b2 .nil pass0 (pa_cons (pv 0) (pa_cons pe_int (pa_cons pe_int pa_nil)))), ?_⟩
  rintro i D0 σ H ⟨x1, x2, x3, x4, x5, x6, x7, x8, x9, x10, x11, x12, x13, x14, rfl, hS⟩ nx
  refine ⟨_, rfl, i.1, i.2, 0, 9, rfl, hS, by decide, by decide, by decide, fun l ns H' nl s1 e h1 h2 h3 => nx _ _ ?_⟩
  exact ⟨l, x2, x3, x4, x5, x6, x7, x8, x9, x10, x11, x12, x13, x14, ns, rfl, s1.seq hS, e, ⟨h1, by omega, h3⟩, by omega⟩
theorem y1 (D : LD K mg f1 f2 f3 f4 f5 f6 t1 t2 t3 t4 t5 t6) (Ch : Chk K mg fW fB fA dW dB dA) (T : CT K mg C) (U : GU K mg h1 h2 h3 e1 e2 e3) (L : LT K mg C fI S i7 i8 dI) (hr : Room 8 (A.deeper (envOfC "law" (defScope sLaw) s.heap.objs.size f cdv))) :
    Hoare (XL P w K mg base f cdv A outer s H0 E) (st 1) (A1 K) (A2 K C) := by
  have GI : FnOk P w K mg base CX0 4 fI dI ["self", "counts"] (spInit C) := ok_init L.FI Ch T
  have GA : FnOk P w K mg base CX0 1 f3 t3 ["values"] spAll := ok_all D T U
  refine ⟨_, ps_par (i := 2) (j := 3) (by rfl) scLaw.nd rfl rfl (by decide) rfl rfl (pa_cons (pe_make L.maker GI (hr.mono (by decide)) rfl T.mgC L.bI .nil pass0 (pa_cons (pv 1) pa_nil)) (pa_cons (pe_call GA (hr.mono (by decide)) (by rfl) D.g3 D.F3.kp D.b3 .nil pass0 (pa_cons (pe_callB call_len_seq (by rfl) T.len PySem.boot_len (pa_cons (pv 1) pa_nil)) pa_nil)) pa_nil)) (by rfl), ?_⟩
  rintro i D0 σ H ⟨c, x2, x3, x4, x5, x6, x7, x8, x9, x10, x11, x12, x13, x14, ns, rfl, hS, hc, hg, h9⟩ nx
  refine ⟨_, rfl, fun x dx nwx ndx nex => ?_⟩
  have mm : Same H (upd (upd H dx (.own x)) x (.ins C dx [])) := fun b o e => by
    rw [upd_ne (ne_of_none e nwx), upd_ne (ne_of_none e ndx)]
    exact e
  refine ⟨x, dx, c, ns, rfl, upd_same, Same.sq mm (.inl hc), hg, fun H2 col kp => ⟨rfl, ?_⟩⟩
  have sm : Same H H2 := fun b o e => kp b o (ne_of_none e nwx) (mm b o e)
  have hc2 := sm _ _ hc
  refine ⟨_, rfl, c, _, rfl, .inl (sqL hc2), ns.length, by rw [List.length_map]; rfl, hg.1, h9, fun l H3 nl s3 hC => ⟨_, _, rfl, nx _ _ ?_⟩⟩
  have s5 := sm.trans s3
  exact ⟨c, x, l, x4, x5, x6, x7, x8, x9, x10, x11, x12, x13, x14, ns, rfl, s5.seq hS, s5 _ _ hc, col.same s3, hC, hg, h9⟩
theorem y2 (D : LD K mg f1 f2 f3 f4 f5 f6 t1 t2 t3 t4 t5 t6) (Ch : Chk K mg fW fB fA dW dB dA) (T : CT K mg C) (hr : Room 8 (A.deeper (envOfC "law" (defScope sLaw) s.heap.objs.size f cdv))) :
    Hoare (XL P w K mg base f cdv A outer s H0 E) (st 2) (A2 K C) (A3 K C) := by
  have GN : FnOk P w K mg base CX0 1 f1 t1 ["script", "at"] (spNum K) := ok_num D Ch T
  refine ⟨_, ps_set (i := 4) scLaw.nd rfl (.inl rfl) (pe_op op_add pe_int (pe_op op_mod (pe_callTy call_int1 (by rfl) Ch.int (by decide +kernel) (pa_cons (pe_call GN (hr.mono (by decide)) (by rfl) D.g1 D.F1.kp D.b1 .nil pass0 (pa_cons (pv 0) (pa_cons pe_int pa_nil))) pa_nil)) (pe_callB call_len_seq (by rfl) T.len PySem.boot_len (pa_cons (pv 1) pa_nil)))), ?_⟩
  rintro i D0 σ H ⟨c, p, e, x4, x5, x6, x7, x8, x9, x10, x11, x12, x13, x14, ns, rfl, b⟩ nx
  refine ⟨_, rfl, i.1, i.2, 80, rfl, b.sc, by decide, fun k H1 s1 => .inl ⟨_, rfl, _, rfl, c, _, rfl, .inl (sqL (s1 _ _ b.cl)), ?_⟩⟩
  have hn := b.gd.1
  rw [List.length_map]
  refine ⟨_, _, rfl, rfl, by omega, _, _, rfl, rfl, nx _ _ ?_⟩
  have i0 := Int.emod_nonneg k (show (ns.length : Int) ≠ 0 by omega)
  have i1 := Int.emod_lt_of_pos k (show (0 : Int) < (ns.length : Int) by omega)
  exact ⟨c, p, e, _, x5, x6, x7, x8, x9, x10, x11, x12, x13, x14, ns, rfl, b.same s1, by omega, by omega⟩
theorem y3 (D : LD K mg f1 f2 f3 f4 f5 f6 t1 t2 t3 t4 t5 t6) (Ch : Chk K mg fW fB fA dW dB dA) (T : CT K mg C) (hr : Room 8 (A.deeper (envOfC "law" (defScope sLaw) s.heap.objs.size f cdv))) :
    Hoare (XL P w K mg base f cdv A outer s H0 E) (st 3) (A3 K C) (A4 K C) := by
  have GN : FnOk P w K mg base CX0 1 f1 t1 ["script", "at"] (spNum K) := ok_num D Ch T
  refine ⟨_, ps_set (i := 5) scLaw.nd rfl (.inl rfl) (pe_ix ix_list (pv 3) (pe_op op_mod (pe_callTy call_int1 (by rfl) Ch.int (by decide +kernel) (pa_cons (pe_call GN (hr.mono (by decide)) (by rfl) D.g1 D.F1.kp D.b1 .nil pass0 (pa_cons (pv 0) (pa_cons pe_int pa_nil))) pa_nil)) (pe_callB call_len_seq (by rfl) T.len PySem.boot_len (pa_cons (pv 3) pa_nil))) (fun _ _ => rfl)), ?_⟩
  rintro i D0 σ H ⟨c, p, e, b, x5, x6, x7, x8, x9, x10, x11, x12, x13, x14, ns, rfl, bx, b1, b2⟩ nx
  refine ⟨_, rfl, _, rfl, i.1, i.2, 81, rfl, bx.sc, by decide, fun k H1 s1 => ?_⟩
  obtain ⟨ps, r1, r2, r3⟩ := bx.ev.same s1
  have hl := cutsK_len (ns.length - 1)
  have hp : 0 < 2 ^ (ns.length - 1) := Nat.pow_pos (by decide)
  have hps : ps.length = 2 ^ (ns.length - 1) := by rw [r2]; exact hl
  refine .inl ⟨_, rfl, _, rfl, e, _, rfl, .inl (sqL r1), ?_⟩
  rw [List.length_map]
  have i0 := Int.emod_nonneg k (show (ps.length : Int) ≠ 0 by omega)
  have i1 := Int.emod_lt_of_pos k (show (0 : Int) < (ps.length : Int) by omega)
  obtain ⟨j, hj⟩ : ∃ j : Nat, k % (ps.length : Int) = j := ⟨(k % (ps.length : Int)).toNat, by omega⟩
  have hjl : j < ps.length := by omega
  have hg : (ps.map V.ref)[j]? = some (.ref ps[j]) := by rw [List.getElem?_map, List.getElem?_eq_getElem hjl]; rfl
  have hcj := List.getElem?_eq_getElem (l := allCuts ns.length) (i := j) (by omega)
  refine ⟨_, _, rfl, rfl, by omega, e, _, (j : Int), _, rfl, congrArg V.int hj, sqL r1, atI_nat hg, nx _ _ ?_⟩
  exact ⟨c, p, e, b, ps[j], x6, x7, x8, x9, x10, x11, x12, x13, x14, ns, _, rfl, bx.same s1, b1, b2, r3 j _ _ (List.getElem?_eq_getElem hjl) hcj, List.getElem_mem _⟩
theorem y4 (G : GT K mg g1 g2 g3 g4 g5 g6 g7 g8 d1 d2 d3 d4 d5 d6 d7 d8) (D : LD K mg f1 f2 f3 f4 f5 f6 t1 t2 t3 t4 t5 t6) (Ch : Chk K mg fW fB fA dW dB dA) (T : CT K mg C) (Ln : LnT K C fL dL) (W : GV K mg S i1 i2 i3 i4 i5 i6 i7 i8 q1 q2 q3 q4 q5 q6 q7 q8) (hr : Room 8 (A.deeper (envOfC "law" (defScope sLaw) s.heap.objs.size f cdv))) :
    Hoare (XL P w K mg base f cdv A outer s H0 E) (st 4) (A4 K C) (A4 K C) := by
  have GG : FnOk P w K mg base CX0 7 i1 q1 ["column", "cuts"] (spGreat C) := ok_great G Ch T Ln W
  have GS : FnOk P w K mg base CX0 2 f5 t5 ["counts", "cuts"] spLSp := ok_lsp G D T
  refine ⟨_, ps_if (pt_cmpR op_ne (pe_call GG (hr.mono (by decide)) (by rfl) W.g1 W.F1.kp W.b1 .nil pass0 (pa_cons (pv 2) (pa_cons (pv 5) pa_nil))) (pe_call GS (hr.mono (by decide)) (by rfl) D.g5 D.F5.kp D.b5 .nil pass0 (pa_cons (pv 1) (pa_cons (pv 5) pa_nil))) (nomark _)) (pss_one ps_never) pss_nil, ?_⟩
  rintro i D0 σ H ⟨c, p, e, b, d, x6, x7, x8, x9, x10, x11, x12, x13, x14, ns, cs, rfl, bx, b1, b2, hd, hm⟩ nx
  have hl := cuts_len hm bx.n9
  have hcb := (mem_allCuts bx.gd.1).mp hm
  refine ⟨_, rfl, _, rfl, p, d, cs, ns, rfl, bx.col, bx.gd, hd, by omega, hcb, fun H1 s1 => ⟨_, rfl, _, rfl, c, d, ns, cs, rfl, s1 _ _ bx.cl, s1 _ _ hd, by omega, hcb, fun H2 s2 => ⟨rfl, _, rfl, ?_⟩⟩⟩
  have s3 := s1.trans s2
  exact iteNS rfl (nx _ _ ⟨c, p, e, b, d, x6, x7, x8, x9, x10, x11, x12, x13, x14, ns, cs, rfl, bx.same s3, b1, b2, s3 _ _ hd, hm⟩)
theorem y5 : Hoare (XL P w K mg base f cdv A outer s H0 E) (st 5) (A4 K C) (A5 K C) := by
  refine ⟨_, ps_set (i := 6) scLaw.nd rfl (.inl rfl) (pe_lst pa_nil), ?_⟩
  rintro i D0 σ H ⟨c, p, e, b, d, x6, x7, x8, x9, x10, x11, x12, x13, x14, ns, cs, rfl, bx, b1, b2, hd, hm⟩ nx
  refine ⟨by show 0 ≤ sizeLine; decide, fun l nl => nx _ _ ?_⟩
  exact ⟨c, p, e, b, d, l, x7, x8, x9, x10, x11, x12, x13, x14, ns, cs, H, rfl, bx, b1, b2, hd, hm, nl, same_upd nl, upd_same⟩
end
end K2
namespace K2
open PySem PySem.Spec PyProof.Rows L2 BK
theorem filt_succ {α : Type} {xs : List α} {i : Nat} {v : α} (p : α → Bool) (h : xs[i]? = some v) : (xs.take (i + 1)).filter p = if p v = true then (xs.take i).filter p ++ [v] else (xs.take i).filter p := by
  rw [List.take_succ, h, List.filter_append]
  by_cases e : p v = true
  · rw [if_pos e]
    simp [List.filter, e]
  · rw [if_neg e]
    simp [List.filter, e]
theorem filt_len {α : Type} (xs : List α) (p : α → Bool) (i : Nat) : ((xs.take i).filter p).length ≤ xs.length :=
  Nat.le_trans (List.length_filter_le _ _) (by rw [List.length_take]; exact Nat.min_le_right _ _)
def spanF (ns : List Int) (b : Int) : List Int := ((allCuts ns.length).filter fun cs => decide ((cs.length : Int) ≤ b)).map (gspan ns)
def fewF (ns : List Int) (s : Int) : List Int := ((allCuts ns.length).filter fun cs => decide (gspan ns cs ≤ s)).map fun cs => (cs.length : Int)
theorem spanF_mem {ns : List Int} {b : Int} (hg : Good ns) (hb : 1 ≤ b) : leastI ns b ∈ spanF ns b := by
  obtain ⟨s, e, h1, h2, h3⟩ := least_spec hg hb
  refine List.mem_map.mpr ⟨longL ns (leastI ns b), List.mem_filter.mpr ⟨(mem_allCuts hg.1).mpr (long_cuts _ hg.1), decide_eq_true ?_⟩, least_span hg hb⟩
  rw [e]
  exact h2
theorem spanF_is {ns : List Int} {b m : Int} (hg : Good ns) (hb : 1 ≤ b) (h1 : m ∈ spanF ns b) (h2 : ∀ y ∈ spanF ns b, m ≤ y) : m = leastI ns b := by
  refine Int.le_antisymm (h2 _ (spanF_mem hg hb)) ?_
  obtain ⟨cs, hc, rfl⟩ := List.mem_map.mp h1
  obtain ⟨hc1, hc2⟩ := List.mem_filter.mp hc
  exact least_le hg hb ((mem_allCuts hg.1).mp hc1) (by simpa using hc2)
theorem fewF_mem {ns : List Int} {s : Int} (hg : Good ns) (hs : 0 ≤ s) : ((longL ns s).length : Int) ∈ fewF ns s :=
  List.mem_map.mpr ⟨longL ns s, List.mem_filter.mpr ⟨(mem_allCuts hg.1).mpr (long_cuts _ hg.1), decide_eq_true (long_span hg.1 hs)⟩, rfl⟩
theorem fewF_is {ns : List Int} {s m : Int} (hg : Good ns) (hs : 0 ≤ s) (h1 : m ∈ fewF ns s) (h2 : ∀ y ∈ fewF ns s, m ≤ y) : m = ((longL ns s).length : Int) := by
  refine Int.le_antisymm (h2 _ (fewF_mem hg hs)) ?_
  obtain ⟨cs, hc, rfl⟩ := List.mem_map.mp h1
  obtain ⟨hc1, hc2⟩ := List.mem_filter.mp hc
  have := long_few hg.1 ((mem_allCuts hg.1).mp hc1) (s := s) (by simpa using hc2)
  omega
theorem prof_len (ns : List Int) (k : Nat) : (profL ns k).length = k := by unfold profL; rw [List.length_map, List.length_range]
theorem prof_succ (ns : List Int) (k : Nat) : profL ns (k + 1) = profL ns k ++ [leastI ns ((k + 1 : Nat) : Int)] := by
  unfold profL
  rw [List.range_succ, List.map_append]
  rfl
theorem prof_get {ns : List Int} {k j : Nat} (h : j < k) : (profL ns k)[j]? = some (leastI ns ((j + 1 : Nat) : Int)) := by
  unfold profL
  rw [List.getElem?_map, List.getElem?_range h]
  rfl
section
variable {P : Program} {w : World} {K : PySem.W.Frag} {mg : Str → Option Value} {base : Heap} {fW fB fA C fL fI : Addr} {dW dB dA dL dI : FuncData} {g1 g2 g3 g4 g5 g6 g7 g8 : Addr} {d1 d2 d3 d4 d5 d6 d7 d8 : FuncData}
  {h1 h2 h3 : Addr} {e1 e2 e3 : FuncData} {S i1 i2 i3 i4 i5 i6 i7 i8 : Addr} {q1 q2 q3 q4 q5 q6 q7 q8 : FuncData} {f1 f2 f3 f4 f5 f6 : Addr} {t1 t2 t3 t4 t5 t6 : FuncData}
variable {f : Addr} {cdv : Value} {A : Around} {outer : List Env} {s : Shared} {H0 : Hp} {E : XK}
abbrev lenR (K : PySem.W.Frag) : List V → Hp → VK → Prop := fun xs H Q => ∃ p ys, xs = [V.ref p] ∧ (SqL K H p ys ∨ SqT K H p ys) ∧ Q (.int ys.length) H
theorem y6 (G : GT K mg g1 g2 g3 g4 g5 g6 g7 g8 d1 d2 d3 d4 d5 d6 d7 d8) (D : LD K mg f1 f2 f3 f4 f5 f6 t1 t2 t3 t4 t5 t6) (T : CT K mg C) (U : GU K mg h1 h2 h3 e1 e2 e3) (hr : Room 8 (A.deeper (envOfC "law" (defScope sLaw) s.heap.objs.size f cdv))) :
    Hoare (XL P w K mg base f cdv A outer s H0 E) (st 6) (A5 K C) (A6 K C) := by
  have GS : FnOk P w K mg base CX0 2 f5 t5 ["counts", "cuts"] spLSp := ok_lsp G D T
  refine ⟨_, ps_for PassesOwn.never rfl (pi_range2 rfl U.range (pa_cons pe_int (pa_cons (pe_op op_add (pe_callB call_len_seq (by rfl) T.len PySem.boot_len (pa_cons (pv 1) pa_nil)) pe_int) pa_nil))) (pg_name (i := 7) scLaw.nd rfl (.inr rfl))
    (pss_one (ps_expr (pe_bm PySem.F.plainAttrs_list PySem.F.slot_list_append PySem.F.type_list_append mt_append (pv 6) (pa_cons (pe_callB (cr_minT rfl) (by rfl) G.min (by decide +kernel) (pa_cons
      (pe_lc (own := [("cuts", 12)]) (g := gName 12) (tt := tTest (tOp (rI0 fun i j => .bl (decide (i ≤ j))) (tCB (lenR K) (tCons (tVar 12) tNil)) (tVar 7))) (te := tCall spLSp [] _ (tCons (tVar 1) (tCons (tVar 12) tNil))) rfl scLaw.nd (pi_list (pv 3)) (blkOk_by (N := NL) (sc := defScope sLaw) (by decide +kernel))
        (fun _ _ _ _ _ => pg_name (i := 12) scLaw.nd rfl (Or.inl rfl)) (fun _ _ _ _ _ => pts_one (pt_cmpR op_le (pe_callB call_len_seq (by rfl) T.len PySem.boot_len (pa_cons (pv 12) pa_nil)) (pv 7) (nomark _)))
        (fun _ _ _ _ _ => pe_call GS (hr.mono (by decide)) (by rfl) D.g5 D.F5.kp D.b5 .nil pass0 (pa_cons (pv 1) (pa_cons (pv 12) pa_nil)))) pa_nil)) pa_nil)))), ?_⟩
  rintro i D0 σ Hz ⟨c, p, e, b, d, t, x7, x8, x9, x10, x11, x12, x13, x14, ns, cs, H, rfl, bx, b1, b2, hd, hm, nt, sz, ht⟩ nx
  have n9 := bx.n9
  refine ⟨_, rfl, c, _, rfl, .inl (sqL (sz _ _ bx.cl)), _, _, rfl, rfl, _, _, rfl, ⟨by decide, by decide, by rw [List.length_map]; omega, by rw [List.length_map]; omega⟩, ?_⟩
  refine for_range (lo := 1) (n := (((ns.map V.int).length : Int) + 1 - 1).toNat) (fun k σ H1 => ∃ x7, σ = [some (V.ref i.1), some (V.ref c), some (V.ref p), some (V.ref e), some (V.int b), some (V.ref d), some (V.ref t), x7, x8, x9, x10, x11, x12, x13, x14] ∧ Same H H1 ∧ H1 t = some (.lst ((profL ns k).map V.int)))
    ⟨x7, rfl, sz, ht⟩ ?_ ?_
  · rintro k σ H1 hk ⟨x7, rfl, s1, ht1⟩
    rw [List.length_map] at hk
    have bx1 := bx.same s1
    obtain ⟨ps, r1, r2, r3⟩ := bx1.ev
    have hl := cutsK_len (ns.length - 1)
    have hp : 2 ^ (ns.length - 1) ≤ 2 ^ 8 := Nat.pow_le_pow_right (by decide) (by omega)
    have hal : (allCuts ns.length).length ≤ 256 := by unfold allCuts; omega
    refine ⟨_, rfl, .inl ⟨rfl, _, sqL ht1⟩, _, rfl, e, rfl, ⟨_, sqL r1⟩, fun D1 nD => ?_⟩
    refine lc_list (K := K) (a := e) (xs := ps.map V.ref) (fun j H2 => Same H1 H2 ∧ H2 D1 = some (.lst (((((allCuts ns.length).take j).filter fun cs => decide ((cs.length : Int) ≤ 1 + (k : Int))).map (gspan ns)).map V.int)))
      ⟨same_upd nD, by rw [upd_same]; rfl⟩ (fun j H2 _ h => sqL (h.1 _ _ r1)) (fun j x H2 hx h => ?_) (fun H2 h => ?_)
    · obtain ⟨s2, e2⟩ := h
      rw [List.getElem?_map] at hx
      cases ep : ps[j]? with
      | none => rw [ep] at hx; cases hx
      | some pr =>
        rw [ep] at hx
        cases hx
        have hj : j < (allCuts ns.length).length := by rw [← r2]; exact (List.getElem?_eq_some_iff.mp ep).1
        have ec := List.getElem?_eq_getElem hj
        have hpt := s2 _ _ (r3 j pr _ ep ec)
        have hmem := List.getElem_mem hj
        generalize (allCuts ns.length)[j] = cj at *
        have fs := filt_succ (fun cs : List Int => decide ((cs.length : Int) ≤ 1 + (k : Int))) ec
        have fl := filt_len (allCuts ns.length) (fun cs : List Int => decide ((cs.length : Int) ≤ 1 + (k : Int))) j
        refine ⟨rfl, _, rfl, pr, _, rfl, .inr (sqT hpt), _, rfl, _, _, rfl, rfl, _, rfl, ?_⟩
        rw [List.length_map]
        refine ite2 (fun q => ?_) (fun q => ?_)
        · rw [if_pos q] at fs
          refine ⟨_, rfl, _, rfl, c, pr, ns, cj, rfl, s2 _ _ bx1.cl, hpt, by have := cuts_len hmem n9; omega, (mem_allCuts bx1.gd.1).mp hmem, fun H5 s5 => ?_⟩
          refine ⟨_, s5 _ _ e2, by rw [List.length_map, List.length_map]; exact small1000 (by omega), same_set nD (s2.trans s5), ?_⟩
          rw [upd_same, fs, List.map_append, List.map_append]
          rfl
        · rw [if_neg q] at fs
          rw [fs]
          exact ⟨s2, e2⟩
    · obtain ⟨s2, e2⟩ := h
      rw [List.length_map, r2, List.take_length] at e2
      refine ⟨D1, spanF ns (1 + (k : Int)), rfl, .inl (sqL e2), List.length_pos_iff.mpr (List.ne_nil_of_mem (spanF_mem bx1.gd (by omega))), fun m m1 m2 => ?_⟩
      rw [spanF_is bx1.gd (by omega) m1 m2]
      refine ⟨t, _, _, rfl, rfl, s2 _ _ ht1, by rw [List.length_map, prof_len]; exact small1000 (by omega), _, rfl, same_set nt (s1.trans s2), ?_⟩
      rw [upd_same, prof_succ, List.map_append, show 1 + (k : Int) = ((k + 1 : Nat) : Int) by omega]
      rfl
  · rintro σ H1 ⟨x7, rfl, s1, ht1⟩
    rw [show (((ns.map V.int).length : Int) + 1 - 1).toNat = ns.length by rw [List.length_map]; omega] at ht1
    exact nx _ _ ⟨c, p, e, b, d, t, x7, x8, x9, x10, x11, x12, x13, x14, ns, cs, rfl, bx.same s1, b1, b2, s1 _ _ hd, hm, ht1⟩
end
end K2
namespace K2
open PySem PySem.Spec PyProof.Rows L2 BK
theorem lkS (a b : Addr) : List.lookup ("shows" : Str) ([("cuts", V.ref a), ("marks", V.ref b)] : List (Str × V)) = none := by
  have h1 : (("shows" : Str) == ("cuts" : Str)) = false := by decide +kernel
  have h2 : (("shows" : Str) == ("marks" : Str)) = false := by decide +kernel
  simp [List.lookup, h1, h2]
theorem long_len9 {ns : List Int} (s : Int) (h : ns.length ≤ 9) : (longL ns s).length ≤ 9 := by
  have := (longS_len ns s (ns.length - 1)).2
  unfold longL
  rcases Nat.eq_zero_or_pos ns.length with e | e
  · rw [e] at this ⊢
    simp at this ⊢
    omega
  · omega
theorem marks_len9 {ns : List Int} (b : Int) (h : ns.length ≤ 9) : (marksL ns b).length ≤ 9 := by
  unfold marksL
  split
  · rw [List.length_take]
    have := long_len9 (ns := ns) (leastI ns b - 1) h
    omega
  · simp
section
variable {P : Program} {w : World} {K : PySem.W.Frag} {mg : Str → Option Value} {base : Heap} {fW fB fA C fL fI : Addr} {dW dB dA dL dI : FuncData} {g1 g2 g3 g4 g5 g6 g7 g8 : Addr} {d1 d2 d3 d4 d5 d6 d7 d8 : FuncData}
  {h1 h2 h3 : Addr} {e1 e2 e3 : FuncData} {S i1 i2 i3 i4 i5 i6 i7 i8 : Addr} {q1 q2 q3 q4 q5 q6 q7 q8 : FuncData} {f1 f2 f3 f4 f5 f6 : Addr} {t1 t2 t3 t4 t5 t6 : FuncData}
variable {f : Addr} {cdv : Value} {A : Around} {outer : List Env} {s : Shared} {H0 : Hp} {E : XK}
theorem y7 (G : GT K mg g1 g2 g3 g4 g5 g6 g7 g8 d1 d2 d3 d4 d5 d6 d7 d8) (Ch : Chk K mg fW fB fA dW dB dA) (T : CT K mg C) (Ln : LnT K C fL dL) (U : GU K mg h1 h2 h3 e1 e2 e3) (W : GV K mg S i1 i2 i3 i4 i5 i6 i7 i8 q1 q2 q3 q4 q5 q6 q7 q8) (hr : Room 8 (A.deeper (envOfC "law" (defScope sLaw) s.heap.objs.size f cdv))) :
    Hoare (XL P w K mg base f cdv A outer s H0 E) (st 7) (A6 K C) (A6 K C) := by
  have GP : FnOk P w K mg base CX0 4 i5 q5 ["column"] (spProf C) := ok_prof G Ch T Ln U W
  have GL : FnOk P w K mg base CX0 5 i3 q3 ["column", "buckets"] (spLeastS C) := ok_leastS G Ch T Ln U W
  refine ⟨_, ps_if (PW.pt (pw_or (pt_cmpR (op_neD hr.units) (pe_call GP (hr.mono (by decide)) (by rfl) W.g5 W.F5.kp W.b5 .nil pass0 (pa_cons (pv 2) pa_nil)) (pv 6) (nomark _))
    (pw_or1 (pt_cmpR op_ne (pe_call GL (hr.mono (by decide)) (by rfl) W.g3 W.F3.kp W.b3 .nil pass0 (pa_cons (pv 2) (pa_cons (pv 4) pa_nil))) (pe_ix ix_list (pv 6) (pe_op op_sub (pv 4) pe_int) (fun _ _ => rfl)) (nomark _))))) (pss_one ps_never) pss_nil, ?_⟩
  rintro i D0 σ H ⟨c, p, e, b, d, t, x7, x8, x9, x10, x11, x12, x13, x14, ns, cs, rfl, bx, b1, b2, hd, hm, ht⟩ nx
  refine ⟨_, rfl, p, ns, rfl, bx.col, bx.gd, fun r H1 s1 nr hr1 => ⟨_, rfl, ?_⟩⟩
  refine ⟨_, _, .lst (sqL hr1) (dp_ints _), .lst (sqL (s1 _ _ ht)) (dp_ints _), PySem.W.ke_shaped_ints _, PySem.W.ke_shaped_ints _, _, rfl, ?_⟩
  rw [eqv_lst, decide_eq_true rfl]
  obtain ⟨j, hj⟩ : ∃ j : Nat, b - 1 = j := ⟨(b - 1).toNat, by omega⟩
  have hg : ((profL ns ns.length).map V.int)[j]? = some (.int (leastI ns b)) := by
    rw [List.getElem?_map, prof_get (by omega), show ((j + 1 : Nat) : Int) = b by omega]
    rfl
  refine iteF ⟨_, rfl, _, rfl, p, ns, b, rfl, bx.col.same s1, bx.gd, b1, b2, fun H2 s2 => ⟨_, rfl, _, rfl, _, _, rfl, rfl, t, _, (j : Int), _, rfl, congrArg V.int hj, sqL ((s1.trans s2) _ _ ht), atI_nat hg, rfl, _, rfl, ?_⟩⟩
  have s3 := s1.trans s2
  exact iteNS rfl (nx _ _ ⟨c, p, e, b, d, t, x7, x8, x9, x10, x11, x12, x13, x14, ns, cs, rfl, bx.same s3, b1, b2, s3 _ _ hd, hm, s3 _ _ ht⟩)
theorem y8 (G : GT K mg g1 g2 g3 g4 g5 g6 g7 g8 d1 d2 d3 d4 d5 d6 d7 d8) (D : LD K mg f1 f2 f3 f4 f5 f6 t1 t2 t3 t4 t5 t6) (Ch : Chk K mg fW fB fA dW dB dA) (T : CT K mg C) (U : GU K mg h1 h2 h3 e1 e2 e3) (W : GV K mg S i1 i2 i3 i4 i5 i6 i7 i8 q1 q2 q3 q4 q5 q6 q7 q8) (hr : Room 8 (A.deeper (envOfC "law" (defScope sLaw) s.heap.objs.size f cdv))) :
    Hoare (XL P w K mg base f cdv A outer s H0 E) (st 8) (A6 K C) (A6 K C) := by
  have GS : FnOk P w K mg base CX0 2 f5 t5 ["counts", "cuts"] spLSp := ok_lsp G D T
  have GF : FnOk P w K mg base CX0 4 i4 q4 ["column", "span"] (spFew C) := ok_few G Ch T U W
  refine ⟨_, ps_for PassesOwn.never rfl (pi_range1 rfl U.range (pa_cons pe_int pa_nil)) (pg_name (i := 8) scLaw.nd rfl (.inr rfl))
    (pss_one (ps_if (pt_cmpR op_ne (pe_call GF (hr.mono (by decide)) (by rfl) W.g4 W.F4.kp W.b4 .nil pass0 (pa_cons (pv 2) (pa_cons (pv 8) pa_nil))) (pe_callB (cr_minT rfl) (by rfl) G.min (by decide +kernel) (pa_cons
      (pe_lc (own := [("cuts", 12)]) (g := gName 12) (tt := tTest (tOp (rI0 fun i j => .bl (decide (i ≤ j))) (tCall spLSp [] _ (tCons (tVar 1) (tCons (tVar 12) tNil))) (tVar 8))) (te := tCB (lenR K) (tCons (tVar 12) tNil)) rfl scLaw.nd (pi_list (pv 3)) (blkOk_by (N := NL) (sc := defScope sLaw) (by decide +kernel))
        (fun _ _ _ _ _ => pg_name (i := 12) scLaw.nd rfl (Or.inl rfl)) (fun _ _ _ _ _ => pts_one (pt_cmpR op_le (pe_call GS (hr.mono (by decide)) (by rfl) D.g5 D.F5.kp D.b5 .nil pass0 (pa_cons (pv 1) (pa_cons (pv 12) pa_nil))) (pv 8) (nomark _)))
        (fun _ _ _ _ _ => pe_callB call_len_seq (by rfl) T.len PySem.boot_len (pa_cons (pv 12) pa_nil))) pa_nil)) (nomark _)) (pss_one ps_never) pss_nil)), ?_⟩
  rintro i D0 σ H ⟨c, p, e, b, d, t, x7, x8, x9, x10, x11, x12, x13, x14, ns, cs, rfl, bx, b1, b2, hd, hm, ht⟩ nx
  have n9 := bx.n9
  refine ⟨10, rfl, by decide, by decide, for_range (lo := 0) (n := 10) (fun k σ H1 => ∃ x8, σ = [some (V.ref i.1), some (V.ref c), some (V.ref p), some (V.ref e), some (V.int b), some (V.ref d), some (V.ref t), x7, x8, x9, x10, x11, x12, x13, x14] ∧ Same H H1)
    ⟨x8, rfl, Same.refl _⟩ ?_ ?_⟩
  · rintro k σ Hk hk ⟨x8, rfl, sk⟩
    have bx0 := bx.same sk
    refine ⟨_, rfl, _, rfl, p, ns, 0 + (k : Int), rfl, bx0.col, bx.gd, by omega, by omega, fun H1 s1 => ?_⟩
    have bx1 := bx0.same s1
    obtain ⟨ps, r1, r2, r3⟩ := bx1.ev
    have hl := cutsK_len (ns.length - 1)
    have hp : 2 ^ (ns.length - 1) ≤ 2 ^ 8 := Nat.pow_le_pow_right (by decide) (by omega)
    have hal : (allCuts ns.length).length ≤ 256 := by unfold allCuts; omega
    refine ⟨_, rfl, e, rfl, ⟨_, sqL r1⟩, fun D1 nD => ?_⟩
    refine lc_list (K := K) (a := e) (xs := ps.map V.ref) (fun j H2 => Same H1 H2 ∧ H2 D1 = some (.lst (((((allCuts ns.length).take j).filter fun cs => decide (gspan ns cs ≤ 0 + (k : Int))).map fun cs => (cs.length : Int)).map V.int)))
      ⟨same_upd nD, by rw [upd_same]; rfl⟩ (fun j H2 _ h => sqL (h.1 _ _ r1)) (fun j x H2 hx h => ?_) (fun H2 h => ?_)
    · obtain ⟨s2, e2⟩ := h
      rw [List.getElem?_map] at hx
      cases ep : ps[j]? with
      | none => rw [ep] at hx; cases hx
      | some pr =>
        rw [ep] at hx
        cases hx
        have hj : j < (allCuts ns.length).length := by rw [← r2]; exact (List.getElem?_eq_some_iff.mp ep).1
        have ec := List.getElem?_eq_getElem hj
        have hpt := s2 _ _ (r3 j pr _ ep ec)
        have hmem := List.getElem_mem hj
        generalize (allCuts ns.length)[j] = cj at *
        have fs := filt_succ (fun cs : List Int => decide (gspan ns cs ≤ 0 + (k : Int))) ec
        have fl := filt_len (allCuts ns.length) (fun cs : List Int => decide (gspan ns cs ≤ 0 + (k : Int))) j
        refine ⟨rfl, _, rfl, _, rfl, c, pr, ns, cj, rfl, s2 _ _ bx1.cl, hpt, by have := cuts_len hmem n9; omega, (mem_allCuts bx1.gd.1).mp hmem, fun H5 s5 => ⟨_, rfl, _, _, rfl, rfl, _, rfl, ?_⟩⟩
        refine ite2 (fun q => ?_) (fun q => ?_)
        · rw [if_pos q] at fs
          refine ⟨_, rfl, pr, _, rfl, .inr (sqT (s5 _ _ hpt)), ?_⟩
          rw [List.length_map]
          refine ⟨_, s5 _ _ e2, by rw [List.length_map, List.length_map]; exact small1000 (by omega), same_set nD (s2.trans s5), ?_⟩
          rw [upd_same, fs, List.map_append, List.map_append]
          rfl
        · rw [if_neg q] at fs
          rw [fs]
          exact ⟨s2.trans s5, s5 _ _ e2⟩
    · obtain ⟨s2, e2⟩ := h
      rw [List.length_map, r2, List.take_length] at e2
      refine ⟨D1, fewF ns (0 + (k : Int)), rfl, .inl (sqL e2), List.length_pos_iff.mpr (List.ne_nil_of_mem (fewF_mem bx1.gd (by omega))), fun m m1 m2 => ?_⟩
      rw [fewF_is bx1.gd (by omega) m1 m2]
      exact ⟨rfl, _, rfl, iteNS rfl ⟨_, rfl, (sk.trans s1).trans s2⟩⟩
  · rintro σ H1 ⟨x8, rfl, s1⟩
    exact nx _ _ ⟨c, p, e, b, d, t, x7, x8, x9, x10, x11, x12, x13, x14, ns, cs, rfl, bx.same s1, b1, b2, s1 _ _ hd, hm, s1 _ _ ht⟩
/-- behind best_spans -/
def A9 (K : PySem.W.Frag) (C S : Addr) : Ix → L2.St → Hp → Prop := fun i σ H => ∃ c p e b d t x7 x8 o x10 x11 x12 x13 x14 ns cs, σ = [some (V.ref i.1), some (V.ref c), some (V.ref p), some (V.ref e), some (V.int b), some (V.ref d), some (V.ref t), x7, x8, some (V.ref o), x10, x11, x12, x13, x14] ∧ Bx K C H i c p e ns ∧ 1 ≤ b ∧ b ≤ (ns.length : Int) ∧ H d = some (.tup ((cs : List Int).map V.int)) ∧ cs ∈ allCuts ns.length ∧ H t = some (.lst ((profL ns ns.length).map V.int)) ∧ SpAt S H o (longL ns (leastI ns b)) (marksL ns b)
theorem y9 (G : GT K mg g1 g2 g3 g4 g5 g6 g7 g8 d1 d2 d3 d4 d5 d6 d7 d8) (Ch : Chk K mg fW fB fA dW dB dA) (T : CT K mg C) (Ln : LnT K C fL dL) (U : GU K mg h1 h2 h3 e1 e2 e3) (W : GV K mg S i1 i2 i3 i4 i5 i6 i7 i8 q1 q2 q3 q4 q5 q6 q7 q8) (hr : Room 8 (A.deeper (envOfC "law" (defScope sLaw) s.heap.objs.size f cdv))) :
    Hoare (XL P w K mg base f cdv A outer s H0 E) (st 9) (A6 K C) (A9 K C S) := by
  have GB : FnOk P w K mg base CX0 5 i2 q2 ["column", "buckets"] (spBest S C) := ok_best G Ch T Ln U W
  refine ⟨_, ps_set (i := 9) scLaw.nd rfl (.inl rfl) (pe_call GB (hr.mono (by decide)) (by rfl) W.g2 W.F2.kp W.b2 .nil pass0 (pa_cons (pv 2) (pa_cons (pv 4) pa_nil))), ?_⟩
  rintro i D0 σ H ⟨c, p, e, b, d, t, x7, x8, x9, x10, x11, x12, x13, x14, ns, cs, rfl, bx, b1, b2, hd, hm, ht⟩ nx
  refine ⟨_, rfl, _, rfl, p, ns, b, rfl, bx.col, bx.gd, b1, b2, fun o H1 s1 ho => nx _ _ ?_⟩
  exact ⟨c, p, e, b, d, t, x7, x8, o, x10, x11, x12, x13, x14, ns, cs, rfl, bx.same s1, b1, b2, s1 _ _ hd, hm, s1 _ _ ht, ho⟩
theorem y10 (G : GT K mg g1 g2 g3 g4 g5 g6 g7 g8 d1 d2 d3 d4 d5 d6 d7 d8) (D : LD K mg f1 f2 f3 f4 f5 f6 t1 t2 t3 t4 t5 t6) (Ch : Chk K mg fW fB fA dW dB dA) (T : CT K mg C) (Ln : LnT K C fL dL) (U : GU K mg h1 h2 h3 e1 e2 e3) (W : GV K mg S i1 i2 i3 i4 i5 i6 i7 i8 q1 q2 q3 q4 q5 q6 q7 q8) (L : LT K mg C fI S i7 i8 dI) (hr : Room 8 (A.deeper (envOfC "law" (defScope sLaw) s.heap.objs.size f cdv))) :
    Hoare (XL P w K mg base f cdv A outer s H0 E) (st 10) (A9 K C S) (A9 K C S) := by
  have GH : FnOk P w K mg base CX0 3 f6 t6 ["counts", "buckets", "cuts", "marks"] spLSh := ok_lsh G D T U
  have GW : FnOk P w K mg base CX0 8 i8 q8 ["self", "column", "buckets"] (spShow S C) := ok_show G Ch T Ln U W
  refine ⟨_, ps_if (PW.pt (pw_or (pt_not (pt_val (pe_call GH (hr.mono (by decide)) (by rfl) D.g6 D.F6.kp D.b6 .nil pass0 (pa_cons (pv 1) (pa_cons (pv 4) (pa_cons (pe_fld (pv 9) rfl) (pa_cons (pe_fld (pv 9) rfl) pa_nil)))))))
    (pw_or1 (pt_not (pt_val (pe_meth (pv 9) W.cl L.mS GW hr W.b8 .nil pass0 (pa_cons (pv 2) (pa_cons (pv 4) pa_nil)))))))) (pss_one ps_never) pss_nil, ?_⟩
  rintro i D0 σ H ⟨c, p, e, b, d, t, x7, x8, o, x10, x11, x12, x13, x14, ns, cs, rfl, bx, b1, b2, hd, hm, ht, ho⟩ nx
  obtain ⟨dx, u, v, k1, k2, k3⟩ := id ho
  have hsh := best_shows bx.gd b1
  have l1 := long_len9 (leastI ns b) bx.n9
  have l2 := marks_len9 b bx.n9
  refine ⟨_, rfl, _, rfl, _, rfl, o, S, dx, _, _, rfl, k1, W.cl, W.nc, lkc u v, _, rfl, o, S, dx, _, _, rfl, k1, W.cl, W.nm, lkm u v, c, u, v, ns, _, _, b, rfl, bx.cl, bx.gd, bx.n9, k2, k3, by omega, by omega, b1, fun H1 s1 => ⟨_, rfl, ?_⟩⟩
  rw [hsh]
  refine iteF ⟨_, rfl, o, dx, _, rfl, s1 _ _ k1, lkS u v, _, rfl, _, rfl, o, p, _, _, ns, b, rfl, ho.same s1, bx.col.same s1, bx.gd, b1, b2, by omega, by omega, fun H2 s2 => ⟨_, rfl, ?_⟩⟩
  rw [hsh]
  have s3 := s1.trans s2
  exact iteF (nx _ _ ⟨c, p, e, b, d, t, x7, x8, o, x10, x11, x12, x13, x14, ns, cs, rfl, bx.same s3, b1, b2, s3 _ _ hd, hm, s3 _ _ ht, ho.same s3⟩)
theorem y11 (G : GT K mg g1 g2 g3 g4 g5 g6 g7 g8 d1 d2 d3 d4 d5 d6 d7 d8) (D : LD K mg f1 f2 f3 f4 f5 f6 t1 t2 t3 t4 t5 t6) (T : CT K mg C) (W : GV K mg S i1 i2 i3 i4 i5 i6 i7 i8 q1 q2 q3 q4 q5 q6 q7 q8) (hr : Room 8 (A.deeper (envOfC "law" (defScope sLaw) s.heap.objs.size f cdv))) :
    Hoare (XL P w K mg base f cdv A outer s H0 E) (st 11) (A9 K C S) (A9 K C S) := by
  have GS : FnOk P w K mg base CX0 2 f5 t5 ["counts", "cuts"] spLSp := ok_lsp G D T
  refine ⟨_, ps_if (pt_cmpR op_ne (pe_call GS (hr.mono (by decide)) (by rfl) D.g5 D.F5.kp D.b5 .nil pass0 (pa_cons (pv 1) (pa_cons (pe_fld (pv 9) rfl) pa_nil))) (pe_ix ix_list (pv 6) (pe_op op_sub (pv 4) pe_int) (fun _ _ => rfl)) (nomark _)) (pss_one ps_never) pss_nil, ?_⟩
  rintro i D0 σ H ⟨c, p, e, b, d, t, x7, x8, o, x10, x11, x12, x13, x14, ns, cs, rfl, bx, b1, b2, hd, hm, ht, ho⟩ nx
  obtain ⟨dx, u, v, k1, k2, k3⟩ := id ho
  have l1 := long_len9 (leastI ns b) bx.n9
  obtain ⟨j, hj⟩ : ∃ j : Nat, b - 1 = j := ⟨(b - 1).toNat, by omega⟩
  have hg : ((profL ns ns.length).map V.int)[j]? = some (.int (leastI ns b)) := by
    rw [List.getElem?_map, prof_get (by omega), show ((j + 1 : Nat) : Int) = b by omega]
    rfl
  refine ⟨_, rfl, _, rfl, o, S, dx, _, _, rfl, k1, W.cl, W.nc, lkc u v, c, u, ns, _, rfl, bx.cl, k2, by omega, long_cuts _ bx.gd.1, fun H1 s1 => ?_⟩
  rw [least_span bx.gd b1]
  refine ⟨_, rfl, _, rfl, _, _, rfl, rfl, t, _, (j : Int), _, rfl, congrArg V.int hj, sqL (s1 _ _ ht), atI_nat hg, rfl, _, rfl, ?_⟩
  exact iteNS rfl (nx _ _ ⟨c, p, e, b, d, t, x7, x8, o, x10, x11, x12, x13, x14, ns, cs, rfl, bx.same s1, b1, b2, s1 _ _ hd, hm, s1 _ _ ht, ho.same s1⟩)
end
end K2
namespace K2
open PySem PySem.Spec PyProof.Rows L2 BK
def PairAt (H : Hp) (p : Addr) : Prop := ∃ (x y : Addr) (cs ms : List Int), H p = some (.tup [.ref x, .ref y]) ∧ H x = some (.tup (cs.map V.int)) ∧ H y = some (.tup (ms.map V.int)) ∧ cs.length ≤ 900 ∧ ms.length ≤ 900
theorem PairAt.same {H H' : Hp} {p : Addr} (h : PairAt H p) (s : Same H H') : PairAt H' p :=
  let ⟨x, y, cs, ms, a, b, c, d, e⟩ := h; ⟨x, y, cs, ms, s _ _ a, s _ _ b, s _ _ c, d, e⟩
theorem pair_new {H : Hp} {t x y : Addr} {cs ms : List Int} (nt : H t = none) (hx : H x = some (.tup (cs.map V.int))) (hy : H y = some (.tup (ms.map V.int))) (l1 : cs.length ≤ 900) (l2 : ms.length ≤ 900) : PairAt (upd H t (.tup [.ref x, .ref y])) t :=
  ⟨x, y, cs, ms, upd_same, same_upd nt _ _ hx, same_upd nt _ _ hy, l1, l2⟩
def PrsAt (n : Nat) (H : Hp) (l : Addr) : Prop := ∃ ps : List Addr, H l = some (.lst (ps.map V.ref)) ∧ ps.length ≤ n ∧ ∀ p ∈ ps, PairAt H p
def A10 (K : PySem.W.Frag) (C S : Addr) : Ix → L2.St → Hp → Prop := fun i σ H => ∃ c p e b d t x7 x8 o m x11 x12 x13 x14 ns cs ms, σ = [some (V.ref i.1), some (V.ref c), some (V.ref p), some (V.ref e), some (V.int b), some (V.ref d), some (V.ref t), x7, x8, some (V.ref o), some (V.ref m), x11, x12, x13, x14] ∧ Bx K C H i c p e ns ∧ 1 ≤ b ∧ b ≤ (ns.length : Int) ∧ H d = some (.tup ((cs : List Int).map V.int)) ∧ cs ∈ allCuts ns.length ∧ SpAt S H o (longL ns (leastI ns b)) (marksL ns b) ∧ H m = some (.tup ((ms : List Int).map V.int)) ∧ ms.length ≤ 900
def A11 (n : Nat) (K : PySem.W.Frag) (C S : Addr) : Ix → L2.St → Hp → Prop := fun i σ H => ∃ c p e b x5 x6 x7 x8 o x10 l x12 x13 x14 ns, σ = [some (V.ref i.1), some (V.ref c), some (V.ref p), some (V.ref e), some (V.int b), x5, x6, x7, x8, some (V.ref o), x10, some (V.ref l), x12, x13, x14] ∧ Bx K C H i c p e ns ∧ 1 ≤ b ∧ b ≤ (ns.length : Int) ∧ SpAt S H o (longL ns (leastI ns b)) (marksL ns b) ∧ PrsAt n H l
section
variable {P : Program} {w : World} {K : PySem.W.Frag} {mg : Str → Option Value} {base : Heap} {fW fB fA C fL fI : Addr} {dW dB dA dL dI : FuncData} {g1 g2 g3 g4 g5 g6 g7 g8 : Addr} {d1 d2 d3 d4 d5 d6 d7 d8 : FuncData}
  {h1 h2 h3 : Addr} {e1 e2 e3 : FuncData} {S i1 i2 i3 i4 i5 i6 i7 i8 : Addr} {q1 q2 q3 q4 q5 q6 q7 q8 : FuncData} {f1 f2 f3 f4 f5 f6 : Addr} {t1 t2 t3 t4 t5 t6 : FuncData}
variable {f : Addr} {cdv : Value} {A : Around} {outer : List Env} {s : Shared} {H0 : Hp} {E : XK}
theorem y12 (D : LD K mg f1 f2 f3 f4 f5 f6 t1 t2 t3 t4 t5 t6) (Ch : Chk K mg fW fB fA dW dB dA) (T : CT K mg C) (U : GU K mg h1 h2 h3 e1 e2 e3) (hr : Room 8 (A.deeper (envOfC "law" (defScope sLaw) s.heap.objs.size f cdv))) :
    Hoare (XL P w K mg base f cdv A outer s H0 E) (st 12) (A9 K C S) (A10 K C S) := by
  have GN : FnOk P w K mg base CX0 1 f1 t1 ["script", "at"] (spNum K) := ok_num D Ch T
  refine ⟨_, ps_set (i := 10) scLaw.nd rfl (.inl rfl) (pe_callTy call_tuple_of (by rfl) T.tuple (by decide +kernel) (pa_cons (pe_lc (own := [("value", 14)]) (g := gName 14) rfl scLaw.nd (pi_range1 rfl U.range (pa_cons (pe_callB call_len_seq (by rfl) T.len PySem.boot_len (pa_cons (pv 1) pa_nil)) pa_nil)) (blkOk_by (N := NL) (sc := defScope sLaw) (by decide +kernel))
        (fun _ _ _ _ _ => pg_name (i := 14) scLaw.nd rfl (Or.inl rfl)) (fun _ _ _ _ _ => pts_one (pt_cmpR op_eq (pe_op op_mod (pe_callTy call_int1 (by rfl) Ch.int (by decide +kernel) (pa_cons (pe_call GN (hr.mono (by decide)) (by rfl) D.g1 D.F1.kp D.b1 .nil pass0 (pa_cons (pv 0) (pa_cons (pe_op op_add pe_int (pv 14)) pa_nil))) pa_nil)) pe_int) pe_int (nomark _))) (fun _ _ _ _ _ => pv 14)) pa_nil)), ?_⟩
  rintro i D0 σ H ⟨c, p, e, b, d, t, x7, x8, o, x10, x11, x12, x13, x14, ns, cs, rfl, bx, b1, b2, hd, hm, ht, ho⟩ nx
  have n9 := bx.n9
  refine ⟨_, rfl, c, _, rfl, .inl (sqL bx.cl), _, rfl, by rw [List.length_map]; omega, by rw [List.length_map]; omega, fun D1 nD => ?_⟩
  refine lc_range (lo := 0) (n := ((ns.map V.int).length : Int).toNat) (fun k H1 => Same H H1 ∧ ∃ ms : List Int, H1 D1 = some (.lst (ms.map V.int)) ∧ ms.length ≤ k) ⟨same_upd nD, [], by rw [upd_same]; rfl, Nat.le_refl _⟩ (fun k H1 hk h => ?_) (fun H1 h => ?_)
  · obtain ⟨s1, ms, em, hl⟩ := h
    rw [List.length_map] at hk
    refine ⟨rfl, _, rfl, _, rfl, _, _, rfl, rfl, i.1, i.2, 90 + k, ?_, s1.seq bx.sc, by omega, fun j H2 s2 => .inl ⟨_, rfl, _, _, rfl, rfl, (by show (0 : Int) < 2; decide), rfl, _, rfl, ite2 (fun _ => ?_) (fun _ => ?_)⟩⟩
    · rw [show ((90 + k : Nat) : Int) = 90 + (0 + (k : Int)) by omega]
      rfl
    · refine ⟨_, rfl, _, s2 _ _ em, by rw [List.length_map]; exact small1000 (by omega), same_set nD (s1.trans s2), ms ++ [0 + (k : Int)], by rw [upd_same, List.map_append]; rfl, by rw [List.length_append]; simp; omega⟩
    · exact ⟨s1.trans s2, ms, s2 _ _ em, by omega⟩
  · obtain ⟨s1, ms, em, hl⟩ := h
    rw [List.length_map] at hl
    refine ⟨D1, _, rfl, .inl ⟨sqL em, fun r nr => nx _ _ ?_⟩⟩
    have s3 := s1.trans (same_upd (o := .tup (ms.map V.int)) nr)
    exact ⟨c, p, e, b, d, t, x7, x8, o, r, x11, x12, x13, x14, ns, cs, ms, rfl, bx.same s3, b1, b2, s3 _ _ hd, hm, ho.same s3, upd_same, by omega⟩
theorem y13 (W : GV K mg S i1 i2 i3 i4 i5 i6 i7 i8 q1 q2 q3 q4 q5 q6 q7 q8) :
    Hoare (XL P w K mg base f cdv A outer s H0 E) (st 13) (A10 K C S) (A11 5 K C S) := by
  refine ⟨_, ps_set (i := 11) scLaw.nd rfl (.inl rfl) (pe_lst (pa_cons (pe_tup (pa_cons (pv 5) (pa_cons (pe_fld (pv 9) rfl) pa_nil))) (pa_cons (pe_tup (pa_cons (pe_fld (pv 9) rfl) (pa_cons (pv 10) pa_nil))) (pa_cons (pe_tup (pa_cons (pv 5) (pa_cons (pv 10) pa_nil)))
    (pa_cons (pe_tup (pa_cons (pe_fld (pv 9) rfl) (pa_cons (pe_tup pa_nil) pa_nil))) (pa_cons (pe_tup (pa_cons (pe_slice sl_tupA (pe_fld (pv 9) rfl) (po_some pe_int) po_none) (pa_cons (pe_fld (pv 9) rfl) pa_nil))) pa_nil)))))), ?_⟩
  rintro i D0 σ H ⟨c, p, e, b, d, t, x7, x8, o, m, x11, x12, x13, x14, ns, cs, ms, rfl, bx, b1, b2, hd, hm, ho, em, lm⟩ nx
  have n9 := bx.n9
  obtain ⟨dx, u, v, k1, k2, k3⟩ := id ho
  have l1 := long_len9 (leastI ns b) n9
  have l2 := marks_len9 b n9
  have l3 := cuts_len hm n9
  refine ⟨_, rfl, _, rfl, o, S, dx, _, _, rfl, k1, W.cl, W.nm, lkm u v, by show 2 ≤ sizeLine; decide, fun r1 n1 => ?_⟩
  have p1 := pair_new n1 hd k3 (by omega) (by omega)
  have s1 := same_upd (o := .tup [.ref d, .ref v]) n1
  refine ⟨_, rfl, o, S, dx, _, _, rfl, s1 _ _ k1, W.cl, W.nc, lkc u v, _, rfl, by show 2 ≤ sizeLine; decide, fun r2 n2 => ?_⟩
  have p2 := pair_new n2 (s1 _ _ k2) (s1 _ _ em) (by omega) (by omega)
  have s2 := same_upd (o := .tup [.ref u, .ref m]) n2
  have s12 := s1.trans s2
  refine ⟨_, rfl, _, rfl, by show 2 ≤ sizeLine; decide, fun r3 n3 => ?_⟩
  have p3 := pair_new n3 (s12 _ _ hd) (s12 _ _ em) (by omega) (by omega)
  have s3 := same_upd (o := .tup [.ref d, .ref m]) n3
  have s13 := s12.trans s3
  refine ⟨_, rfl, o, S, dx, _, _, rfl, s13 _ _ k1, W.cl, W.nc, lkc u v, by show 0 ≤ sizeLine; decide, fun z nz => ⟨by show 2 ≤ sizeLine; decide, fun r4 n4 => ?_⟩⟩
  have sz := same_upd (o := .tup []) nz
  have p4 := pair_new (cs := longL ns (leastI ns b)) (ms := []) n4 ((s13.trans sz) _ _ k2) upd_same (by omega) (by simp)
  have s4 := sz.trans (same_upd (o := .tup [.ref u, .ref z]) n4)
  have s14 := s13.trans s4
  refine ⟨_, rfl, o, S, dx, _, _, rfl, s14 _ _ k1, W.cl, W.nc, lkc u v, 1, rfl, slT_readLoN (s14 _ _ k2) fun y Hy sy hy => ?_⟩
  have s1y := s14.trans sy
  refine ⟨_, rfl, o, S, dx, _, _, rfl, s1y _ _ k1, W.cl, W.nm, lkm u v, by show 2 ≤ sizeLine; decide, fun r5 n5 => ⟨by show 5 ≤ sizeLine; decide, fun l nl => nx _ _ ?_⟩⟩
  have p5 := pair_new n5 hy (s1y _ _ k3) (by rw [List.length_drop]; omega) (by omega)
  have s5 := sy.trans (same_upd (o := .tup [.ref y, .ref v]) n5)
  have sl := same_upd (o := .lst [.ref r1, .ref r2, .ref r3, .ref r4, .ref r5]) nl
  have sF := (s14.trans s5).trans sl
  refine ⟨c, p, e, b, _, _, x7, x8, o, _, l, x12, x13, x14, ns, rfl, bx.same sF, b1, b2, ho.same sF, [r1, r2, r3, r4, r5], upd_same, by simp, fun q hq => ?_⟩
  simp only [List.mem_cons, List.not_mem_nil, or_false] at hq
  rcases hq with rfl | rfl | rfl | rfl | rfl
  · exact p1.same ((((s2.trans s3).trans s4).trans s5).trans sl)
  · exact p2.same (((s3.trans s4).trans s5).trans sl)
  · exact p3.same ((s4.trans s5).trans sl)
  · exact p4.same (s5.trans sl)
  · exact p5.same sl
theorem y14 (T : CT K mg C) (W : GV K mg S i1 i2 i3 i4 i5 i6 i7 i8 q1 q2 q3 q4 q5 q6 q7 q8) :
    Hoare (XL P w K mg base f cdv A outer s H0 E) (st 14) (A11 5 K C S) (A11 8 K C S) := by
  refine ⟨_, ps_set (i := 11) scLaw.nd rfl (.inl rfl) (pe_op op_cat (pv 11) (pe_lst (pa_cons (pe_tup (pa_cons (pe_fld (pv 9) rfl) (pa_cons (pe_op op_catA (pe_fld (pv 9) rfl) (pe_tup (pa_cons (pe_callB call_len_seq (by rfl) T.len PySem.boot_len (pa_cons (pv 1) pa_nil)) pa_nil))) pa_nil)))
    (pa_cons (pe_tup (pa_cons (pe_op op_catA (pe_fld (pv 9) rfl) (pe_tup (pa_cons pe_int pa_nil))) (pa_cons (pe_fld (pv 9) rfl) pa_nil))) (pa_cons (pe_tup (pa_cons (pe_tup pa_nil) (pa_cons (pe_fld (pv 9) rfl) pa_nil))) pa_nil))))), ?_⟩
  rintro i D0 σ H ⟨c, p, e, b, x5, x6, x7, x8, o, x10, l, x12, x13, x14, ns, rfl, bx, b1, b2, ho, ps, pl, pn, pa⟩ nx
  have n9 := bx.n9
  obtain ⟨dx, u, v, k1, k2, k3⟩ := id ho
  have l1 := long_len9 (leastI ns b) n9
  have l2 := marks_len9 b n9
  have m1 : ((longL ns (leastI ns b)).map V.int).length ≤ 9 := by rw [List.length_map]; exact l1
  have m2 : ((marksL ns b).map V.int).length ≤ 9 := by rw [List.length_map]; exact l2
  refine ⟨_, rfl, _, rfl, o, S, dx, _, _, rfl, k1, W.cl, W.nc, lkc u v, _, rfl, o, S, dx, _, _, rfl, k1, W.cl, W.nm, lkm u v, _, rfl, c, _, rfl, .inl (sqL bx.cl), by show 1 ≤ sizeLine; decide, fun z1 nz1 => ?_⟩
  have a1 := same_upd (o := .tup [.int ((ns.map V.int).length : Int)]) nz1
  refine catA_read (a1 _ _ k3) upd_same (by show _ + 1 < 1000; omega) fun y1 Hy1 sy1 hy1 => ⟨by show 2 ≤ sizeLine; decide, fun r1 nr1 => ?_⟩
  have s1 := a1.trans sy1
  have p1 := pair_new (ms := marksL ns b ++ [((ns.map V.int).length : Int)]) nr1 (s1 _ _ k2) (by rw [hy1, List.map_append]; rfl) (by omega) (by rw [List.length_append]; simp; omega)
  have b1' := same_upd (o := .tup [.ref u, .ref y1]) nr1
  have s2 := s1.trans b1'
  refine ⟨_, rfl, o, S, dx, _, _, rfl, s2 _ _ k1, W.cl, W.nc, lkc u v, by show 1 ≤ sizeLine; decide, fun z2 nz2 => ?_⟩
  have a2 := same_upd (o := .tup [.int 0]) nz2
  refine catA_read ((s2.trans a2) _ _ k2) upd_same (by show _ + 1 < 1000; omega) fun y2 Hy2 sy2 hy2 => ?_
  have s3 := (s2.trans a2).trans sy2
  refine ⟨_, rfl, o, S, dx, _, _, rfl, s3 _ _ k1, W.cl, W.nm, lkm u v, by show 2 ≤ sizeLine; decide, fun r2 nr2 => ?_⟩
  have p2 := pair_new (cs := longL ns (leastI ns b) ++ [0]) nr2 (by rw [hy2, List.map_append]; rfl) (s3 _ _ k3) (by rw [List.length_append]; simp; omega) (by omega)
  have b2' := same_upd (o := .tup [.ref y2, .ref v]) nr2
  have s4 := s3.trans b2'
  refine ⟨by show 0 ≤ sizeLine; decide, fun z3 nz3 => ?_⟩
  have a3 := same_upd (o := .tup []) nz3
  have s5 := s4.trans a3
  refine ⟨_, rfl, o, S, dx, _, _, rfl, s5 _ _ k1, W.cl, W.nm, lkm u v, by show 2 ≤ sizeLine; decide, fun r3 nr3 => ?_⟩
  have p3 := pair_new (cs := []) (ms := marksL ns b) nr3 upd_same (s5 _ _ k3) (by simp) (by omega)
  have b3' := same_upd (o := .tup [.ref z3, .ref v]) nr3
  have s6 := s5.trans b3'
  refine ⟨by show 3 ≤ sizeLine; decide, fun l2 nl2 => ?_⟩
  have c1 := same_upd (o := .lst [.ref r1, .ref r2, .ref r3]) nl2
  have s7 := s6.trans c1
  refine ⟨l, l2, _, _, rfl, rfl, s7 _ _ pl, upd_same, by rw [List.length_map]; exact Nat.le_of_lt (small1000 (by show _ + 3 ≤ 1000; omega)), fun l3 nl3 => nx _ _ ?_⟩
  have c2 := same_upd (o := .lst (ps.map V.ref ++ [.ref r1, .ref r2, .ref r3])) nl3
  have sF := s7.trans c2
  refine ⟨c, p, e, b, _, _, x7, x8, o, _, l3, x12, x13, x14, ns, rfl, bx.same sF, b1, b2, ho.same sF, ps ++ [r1, r2, r3], by rw [upd_same, List.map_append]; rfl, by simp; omega, fun q hq => ?_⟩
  rcases List.mem_append.mp hq with hq | hq
  · exact (pa q hq).same sF
  · simp only [List.mem_cons, List.not_mem_nil, or_false] at hq
    rcases hq with rfl | rfl | rfl
    · exact p1.same ((((((((a2.trans sy2).trans b2').trans a3).trans b3').trans c1).trans c2)))
    · exact p2.same (((a3.trans b3').trans c1).trans c2)
    · exact p3.same (c1.trans c2)
end
end K2
namespace K2
open PySem PySem.Spec PyProof.Rows L2 BK
/-- Spans(a, b): the new one -/
theorem mk_sp {S x dx a b : Addr} {cs ms : List Int} {H1 : Hp} {Q : Hp → Prop} (nwx : H1 x = none) (ndx : H1 dx = none) (ha : Sq H1 a cs) (hb : Sq H1 b ms) (k : ∀ H2, Same H1 H2 → SpAt S H2 x cs ms → Q H2) :
    spSIni S [V.ref x, V.ref a, V.ref b] (upd (upd H1 dx (.own x)) x (.ins S dx [])) (fun v H2 => v = .non ∧ Q H2) E0 := by
  have mm : Same H1 (upd (upd H1 dx (.own x)) x (.ins S dx [])) := fun b o e => by
    rw [upd_ne (ne_of_none e nwx), upd_ne (ne_of_none e ndx)]
    exact e
  exact ⟨x, dx, a, b, cs, ms, rfl, upd_same, Same.sq mm ha, Same.sq mm hb, fun H2 cl kp => ⟨rfl, k H2 (fun b o e => kp b o (ne_of_none e nwx) (mm b o e)) cl⟩⟩
theorem marks_99 {ns : List Int} {b : Int} (hg : Good ns) (hb : 1 ≤ b) : [99] ≠ marksL ns b := fun z => by
  obtain ⟨s, e, h1, h2, h3⟩ := least_spec hg hb
  unfold marksL at z
  split at z
  · have hl := congrArg List.length z
    rw [List.length_take] at hl
    have h4 := h3 (s - 1) (by omega)
    rw [show ((s - 1 : Nat) : Int) = leastI ns b - 1 by omega] at h4
    simp at hl
    omega
  · cases z
section
variable {P : Program} {w : World} {K : PySem.W.Frag} {mg : Str → Option Value} {base : Heap} {fW fB fA C fL fI : Addr} {dW dB dA dL dI : FuncData} {g1 g2 g3 g4 g5 g6 g7 g8 : Addr} {d1 d2 d3 d4 d5 d6 d7 d8 : FuncData}
  {h1 h2 h3 : Addr} {e1 e2 e3 : FuncData} {S i1 i2 i3 i4 i5 i6 i7 i8 : Addr} {q1 q2 q3 q4 q5 q6 q7 q8 : FuncData} {f1 f2 f3 f4 f5 f6 : Addr} {t1 t2 t3 t4 t5 t6 : FuncData}
variable {f : Addr} {cdv : Value} {A : Around} {outer : List Env} {s : Shared} {H0 : Hp} {E : XK}
theorem y15 (G : GT K mg g1 g2 g3 g4 g5 g6 g7 g8 d1 d2 d3 d4 d5 d6 d7 d8) (D : LD K mg f1 f2 f3 f4 f5 f6 t1 t2 t3 t4 t5 t6) (Ch : Chk K mg fW fB fA dW dB dA) (T : CT K mg C) (Ln : LnT K C fL dL) (U : GU K mg h1 h2 h3 e1 e2 e3) (W : GV K mg S i1 i2 i3 i4 i5 i6 i7 i8 q1 q2 q3 q4 q5 q6 q7 q8) (L : LT K mg C fI S i7 i8 dI) (hr : Room 8 (A.deeper (envOfC "law" (defScope sLaw) s.heap.objs.size f cdv))) :
    Hoare (XL P w K mg base f cdv A outer s H0 E) (st 15) (A11 8 K C S) (A11 8 K C S) := by
  have GH : FnOk P w K mg base CX0 3 f6 t6 ["counts", "buckets", "cuts", "marks"] spLSh := ok_lsh G D T U
  have GW : FnOk P w K mg base CX0 8 i8 q8 ["self", "column", "buckets"] (spShow S C) := ok_show G Ch T Ln U W
  have GI : FnOk P w K mg base CX0 1 i6 q6 ["self", "cuts", "marks"] (spSIni S) := ok_sini T W
  refine ⟨_, ps_for PassesOwn.never rfl (pi_list (pv 11)) (pg_tup rfl (pgs_cons (pg_name (i := 12) scLaw.nd rfl (Or.inl rfl)) (pgs_cons (pg_name (i := 13) scLaw.nd rfl (Or.inl rfl)) pgs_nil)))
    (pss_one (ps_if (pt_cmpR op_ne (pe_meth (pe_make W.maker GI (hr.mono (by decide)) rfl W.mgS W.b6 .nil pass0 (pa_cons (pv 12) (pa_cons (pv 13) pa_nil))) W.cl L.mS GW hr W.b8 .nil pass0 (pa_cons (pv 2) (pa_cons (pv 4) pa_nil)))
      (pe_call GH (hr.mono (by decide)) (by rfl) D.g6 D.F6.kp D.b6 .nil pass0 (pa_cons (pv 1) (pa_cons (pv 4) (pa_cons (pv 12) (pa_cons (pv 13) pa_nil))))) (nomark _)) (pss_one ps_never) pss_nil)), ?_⟩
  rintro i D0 σ H ⟨c, p, e, b, x5, x6, x7, x8, o, x10, l, x12, x13, x14, ns, rfl, bx, b1, b2, ho, ps, pl, pn, pa⟩ nx
  refine ⟨_, rfl, l, rfl, ⟨_, sqL pl⟩, for_list (K := K) (a := l) (xs := ps.map V.ref) (fun k σ H1 => ∃ x12 x13, σ = [some (V.ref i.1), some (V.ref c), some (V.ref p), some (V.ref e), some (V.int b), x5, x6, x7, x8, some (V.ref o), x10, some (V.ref l), x12, x13, x14] ∧ Same H H1)
    ⟨x12, x13, rfl, Same.refl _⟩ (fun k σ H1 _ h => sqL (h.choose_spec.choose_spec.2 _ _ pl)) ?_ ?_⟩
  · rintro k x σ H1 hx ⟨x12, x13, rfl, s1⟩
    rw [List.getElem?_map] at hx
    cases ep : ps[k]? with
    | none => rw [ep] at hx; cases hx
    | some pr =>
      rw [ep] at hx
      cases hx
      obtain ⟨y, z, cs, ms, k1, k2, k3, l1, l2⟩ := (pa pr (List.mem_of_getElem? ep)).same s1
      have bx1 := bx.same s1
      refine ⟨pr, _, rfl, sqT k1, rfl, _, _, rfl, _, _, rfl, rfl, ?_⟩
      refine ⟨_, rfl, _, rfl, fun x dx nwx ndx nex => ?_⟩
      refine mk_sp nwx ndx (.inr k2) (.inr k3) fun H2 s2 hs => ?_
      obtain ⟨dx2, u, v, m1, m2, m3⟩ := id hs
      have s12 := s1.trans s2
      refine ⟨x, dx2, _, rfl, m1, lkS u v, _, rfl, _, rfl, x, p, cs, ms, ns, b, rfl, hs, bx1.col.same s2, bx.gd, b1, b2, l1, l2, fun H3 s3 => ?_⟩
      have s13 := s12.trans s3
      refine ⟨_, rfl, _, rfl, _, rfl, _, rfl, c, y, z, ns, cs, ms, b, rfl, s13 _ _ bx.cl, bx.gd, bx.n9, (s2.trans s3) _ _ k2, (s2.trans s3) _ _ k3, l1, l2, b1, fun H4 s4 => ⟨rfl, _, rfl, iteNS rfl ?_⟩⟩
      exact ⟨_, _, rfl, s13.trans s4⟩
  · rintro σ H1 ⟨x12, x13, rfl, s1⟩
    exact nx _ _ ⟨c, p, e, b, x5, x6, x7, x8, o, x10, l, x12, x13, x14, ns, rfl, bx.same s1, b1, b2, ho.same s1, ps, s1 _ _ pl, pn, fun q hq => (pa q hq).same s1⟩
theorem y16 (Ch : Chk K mg fW fB fA dW dB dA) (T : CT K mg C) (W : GV K mg S i1 i2 i3 i4 i5 i6 i7 i8 q1 q2 q3 q4 q5 q6 q7 q8) (L : LT K mg C fI S i7 i8 dI) (hr : Room 8 (A.deeper (envOfC "law" (defScope sLaw) s.heap.objs.size f cdv))) :
    Hoare (XL P w K mg base f cdv A outer s H0 E) (st 16) (A11 8 K C S) (A11 8 K C S) := by
  have GI : FnOk P w K mg base CX0 1 i6 q6 ["self", "cuts", "marks"] (spSIni S) := ok_sini T W
  have GE : FnOk P w K mg base CX0 1 i7 q7 ["self", "other"] (spSEq S) := ok_seq Ch W
  refine ⟨_, ps_if (PW.pt (pw_or (pt_cmpR (op_eqOwn GE (hr.mono (by decide)) L.eE L.iE W.b7 pass0) (pe_make W.maker GI (hr.mono (by decide)) rfl W.mgS W.b6 .nil pass0 (pa_cons (pe_tup pa_nil) (pa_cons (pe_fld (pv 9) rfl) pa_nil))) (pv 9) (nomark _))
    (pw_or1 (pt_cmpR (op_eqOwn GE (hr.mono (by decide)) L.eE L.iE W.b7 pass0) (pe_make W.maker GI (hr.mono (by decide)) rfl W.mgS W.b6 .nil pass0 (pa_cons (pe_fld (pv 9) rfl) (pa_cons (pe_tup (pa_cons pe_int pa_nil)) pa_nil))) (pv 9) (nomark _))))) (pss_one ps_never) pss_nil, ?_⟩
  rintro i D0 σ H ⟨c, p, e, b, x5, x6, x7, x8, o, x10, l, x12, x13, x14, ns, rfl, bx, b1, b2, ho, hp⟩ nx
  obtain ⟨dx, u, v, k1, k2, k3⟩ := id ho
  refine ⟨by show 0 ≤ sizeLine; decide, fun z1 nz1 => ?_⟩
  have a1 := same_upd (o := .tup []) nz1
  refine ⟨_, rfl, o, S, dx, _, _, rfl, a1 _ _ k1, W.cl, W.nm, lkm u v, fun x dx nwx ndx nex => ?_⟩
  refine mk_sp (cs := []) (ms := marksL ns b) nwx ndx (.inr upd_same) (.inr (a1 _ _ k3)) fun H2 s2 hs => ?_
  have s12 := a1.trans s2
  obtain ⟨dx2, u2, v2, m1, m2, m3⟩ := id hs
  refine ⟨_, rfl, x, o, dx2, _, _, _, rfl, rfl, m1, s12 _ _ k1, x, o, _, _, _, _, rfl, hs, ho.same s12, _, rfl, _, rfl, ?_⟩
  rw [decide_eq_false (Ne.symm (long_ne ns _)), Bool.false_and]
  refine iteF ⟨_, rfl, o, S, _, _, _, rfl, s12 _ _ k1, W.cl, W.nc, lkc u v, by show 1 ≤ sizeLine; decide, fun z2 nz2 => ?_⟩
  have a2 := same_upd (o := .tup [.int 99]) nz2
  refine fun x' dx' nwx' ndx' nex' => ?_
  refine mk_sp (cs := longL ns (leastI ns b)) (ms := [99]) nwx' ndx' (.inr ((s12.trans a2) _ _ k2)) (.inr upd_same) fun H3 s3 hs' => ?_
  have s13 := (s12.trans a2).trans s3
  obtain ⟨dx3, u3, v3, j1, j2, j3⟩ := id hs'
  refine ⟨_, rfl, x', o, dx3, _, _, _, rfl, rfl, j1, s13 _ _ k1, x', o, _, _, _, _, rfl, hs', ho.same s13, _, rfl, _, rfl, ?_⟩
  rw [decide_eq_false (marks_99 bx.gd b1), Bool.and_false]
  obtain ⟨ps, pl, pn, pa⟩ := hp
  exact iteF (nx _ _ ⟨c, p, e, b, x5, x6, x7, x8, o, x10, l, x12, x13, x14, ns, rfl, bx.same s13, b1, b2, ho.same s13, ps, s13 _ _ pl, pn, fun q hq => (pa q hq).same s13⟩)
theorem y17 (Ch : Chk K mg fW fB fA dW dB dA) (T : CT K mg C) (W : GV K mg S i1 i2 i3 i4 i5 i6 i7 i8 q1 q2 q3 q4 q5 q6 q7 q8) (L : LT K mg C fI S i7 i8 dI) (hr : Room 8 (A.deeper (envOfC "law" (defScope sLaw) s.heap.objs.size f cdv))) :
    HoareR (XL P w K mg base f cdv A outer s H0 E) [st 17] (A11 8 K C S) := by
  have GI : FnOk P w K mg base CX0 1 i6 q6 ["self", "cuts", "marks"] (spSIni S) := ok_sini T W
  have GE : FnOk P w K mg base CX0 1 i7 q7 ["self", "other"] (spSEq S) := ok_seq Ch W
  refine ⟨_, pss_one (ps_ret (pe_cmpR (op_eqOwn GE (hr.mono (by decide)) L.eE L.iE W.b7 pass0) (pe_make W.maker GI (hr.mono (by decide)) rfl W.mgS W.b6 .nil pass0 (pa_cons (pe_callTy call_list_of (by rfl) T.list (by decide +kernel) (pa_cons (pe_fld (pv 9) rfl) pa_nil)) (pa_cons (pe_callTy call_list_of (by rfl) T.list (by decide +kernel) (pa_cons (pe_fld (pv 9) rfl) pa_nil)) pa_nil))) (pv 9) (nomark _))), ?_⟩
  rintro i D0 σ H ⟨c, p, e, b, x5, x6, x7, x8, o, x10, l, x12, x13, x14, ns, rfl, bx, b1, b2, ho, hp⟩ fin
  obtain ⟨dx, u, v, k1, k2, k3⟩ := id ho
  refine ⟨_, rfl, o, S, dx, _, _, rfl, k1, W.cl, W.nc, lkc u v, u, _, rfl, .inr (sqT k2), fun z1 nz1 => ?_⟩
  have a1 := same_upd (o := .lst ((longL ns (leastI ns b)).map V.int)) nz1
  refine ⟨_, rfl, o, S, dx, _, _, rfl, a1 _ _ k1, W.cl, W.nm, lkm u v, v, _, rfl, .inr (sqT (a1 _ _ k3)), fun z2 nz2 => ?_⟩
  have a2 := same_upd (o := .lst ((marksL ns b).map V.int)) nz2
  refine fun x dx nwx ndx nex => ?_
  refine mk_sp (cs := longL ns (leastI ns b)) (ms := marksL ns b) nwx ndx (.inl (a2 _ _ upd_same)) (.inl upd_same) fun H2 s2 hs => ?_
  have s12 := (a1.trans a2).trans s2
  obtain ⟨dx2, u2, v2, m1, m2, m3⟩ := id hs
  refine ⟨_, rfl, x, o, dx2, _, _, _, rfl, rfl, m1, s12 _ _ k1, x, o, _, _, _, _, rfl, hs, ho.same s12, _, rfl, ?_⟩
  rw [decide_eq_true rfl, decide_eq_true rfl]
  exact fin H2
def spLaw (K : PySem.W.Frag) : Sp := fun vs H Q _ => ∃ (a : Addr) (ns : List Int), vs = [.ref a] ∧ SqL K H a (ns.map V.int) ∧ ∀ H', Q (.bl true) H'
theorem ok_law {fd : FuncData} (Fl : Fun K "law" "law" sLaw f fd) (G : GT K mg g1 g2 g3 g4 g5 g6 g7 g8 d1 d2 d3 d4 d5 d6 d7 d8) (D : LD K mg f1 f2 f3 f4 f5 f6 t1 t2 t3 t4 t5 t6) (Ch : Chk K mg fW fB fA dW dB dA) (T : CT K mg C) (Ln : LnT K C fL dL) (U : GU K mg h1 h2 h3 e1 e2 e3) (W : GV K mg S i1 i2 i3 i4 i5 i6 i7 i8 q1 q2 q3 q4 q5 q6 q7 q8) (L : LT K mg C fI S i7 i8 dI) :
    FnOk P w K mg base CX0 9 f fd ["script"] (spLaw K) := by
  refine Fl.ok scLaw (fun vs H Q E h => ?_) (fun cdv A outer s H vs Q E hr h => ?_)
  · obtain ⟨a, ns, rfl, _⟩ := h
    rfl
  · obtain ⟨a, ns, rfl, hS, q⟩ := h
    have all : HoareR (XL P w K mg base f cdv A outer s H E) [st 0, st 1, st 2, st 3, st 4, st 5, st 6, st 7, st 8, st 9, st 10, st 11, st 12, st 13, st 14, st 15, st 16, st 17] (A0 K) :=
      HoareR.cons (y0 D Ch T U hr) <| HoareR.cons (y1 D Ch T U L hr) <| HoareR.cons (y2 D Ch T hr) <| HoareR.cons (y3 D Ch T hr) <| HoareR.cons (y4 G D Ch T Ln W hr) <| HoareR.cons y5 <| HoareR.cons (y6 G D T U hr) <| HoareR.cons (y7 G Ch T Ln U W hr) <| HoareR.cons (y8 G D Ch T U W hr) <| HoareR.cons (y9 G Ch T Ln U W hr) <|
        HoareR.cons (y10 G D Ch T Ln U W L hr) <| HoareR.cons (y11 G D T W hr) <| HoareR.cons (y12 D Ch T U hr) <| HoareR.cons (y13 W) <| HoareR.cons (y14 T W) <| HoareR.cons (y15 G D Ch T Ln U W L hr) <| HoareR.cons (y16 Ch T W L hr) <| y17 Ch T W L hr
    obtain ⟨t, pt, rt⟩ := all
    refine ⟨_, pt, rt (a, ns) _ _ _ ⟨_, _, _, _, _, _, _, _, _, _, _, _, _, _, rfl, hS⟩ fun H' => q H'⟩
end
end K2
namespace K2
open PySem PySem.Spec PyProof.Rows L2 BK
theorem all_mk {l : PySem.W.OpenLaw} {w : World} {K : PySem.W.Frag} {h : Heap} {mg : Str → Option Value} {fa C S fW fB fA fg1 fg2 fg3 fg4 fg5 fg6 fg7 fg8 fh1 fh2 fh3 fi1 fi2 fi3 fi4 fi5 f1 f2 f3 f4 f5 f6 fL fI fN fi6 fi7 fi8 : Addr} (X : K.In h) (G : h.Ns mainGlobals mg) (hfa : mg "law" = some (.ref fa))
    {odW anW odB anB odA anA odg1 ang1 odg2 ang2 odg3 ang3 odg4 ang4 odg5 ang5 odg6 ang6 odg7 ang7 odg8 ang8 odh1 anh1 odh2 anh2 odh3 anh3 odi1 ani1 odi2 ani2 odi3 ani3 odi4 ani4 odi5 ani5 od1 an1 od2 an2 od3 an3 od4 an4 od5 an5 od6 an6 odL anL odI anI odN anN odi6 ani6 odi7 ani7 odi8 ani8 : Option Addr} {slW slB slA slg1 slg2 slg3 slg4 slg5 slg6 slg7 slg8 slh1 slh2 slh3 sli1 sli2 sli3 sli4 sli5 sl1 sl2 sl3 sl4 sl5 sl6 slL slI slN sli6 sli7 sli8 : Array (Option Value)} {ocW kVW dcW pmW cdW ctW ocB kVB dcB pmB cdB ctB ocA kVA dcA pmA cdA ctA ocg1 kVg1 dcg1 pmg1 cdg1 ctg1 ocg2 kVg2 dcg2 pmg2 cdg2 ctg2 ocg3 kVg3 dcg3 pmg3 cdg3 ctg3 ocg4 kVg4 dcg4 pmg4 cdg4 ctg4 ocg5 kVg5 dcg5 pmg5 cdg5 ctg5 ocg6 kVg6 dcg6 pmg6 cdg6 ctg6 ocg7 kVg7 dcg7 pmg7 cdg7 ctg7 ocg8 kVg8 dcg8 pmg8 cdg8 ctg8 och1 kVh1 dch1 pmh1 cdh1 cth1 och2 kVh2 dch2 pmh2 cdh2 cth2 och3 kVh3 dch3 pmh3 cdh3 cth3 oci1 kVi1 dci1 pmi1 cdi1 cti1 oci2 kVi2 dci2 pmi2 cdi2 cti2 oci3 kVi3 dci3 pmi3 cdi3 cti3 oci4 kVi4 dci4 pmi4 cdi4 cti4 oci5 kVi5 dci5 pmi5 cdi5 cti5 oc1 kV1 dc1 pm1 cd1 ct1 oc2 kV2 dc2 pm2 cd2 ct2 oc3 kV3 dc3 pm3 cd3 ct3 oc4 kV4 dc4 pm4 cd4 ct4 oc5 kV5 dc5 pm5 cd5 ct5 oc6 kV6 dc6 pm6 cd6 ct6 ocL kVL dcL pmL cdL ctL ocI kVI dcI pmI cdI ctI ocN kVN dcN pmN cdN ctN oci6 kVi6 dci6 pmi6 cdi6 cti6 oci7 kVi7 dci7 pmi7 cdi7 cti7 oci8 kVi8 dci8 pmi8 cdi8 cti8 : Value} {tv tc : Tok}
    (a_C : PySem.W.nsIn K mainGlobals "Column" = some (some (.ref C)))
    (a_S : PySem.W.nsIn K mainGlobals "Spans" = some (some (.ref S)))
    (a_W : PySem.W.nsIn K mainGlobals "is_whole" = some (some (.ref fW)))
    (l_W : K.lookup fW = some ⟨ocW, odW, .func (PySem.W.fnOf "is_whole" "is_whole" (defArgs sWhole) (defBody sWhole) (defScope sWhole) .none kVW dcW pmW anW cdW ctW), slW⟩)
    (c_W : PySem.W.codeIn K cdW "is_whole" = true)
    (k_W : PySem.W.keepIn K (.ref fW) = true)
    (a_B : PySem.W.nsIn K mainGlobals "is_between" = some (some (.ref fB)))
    (l_B : K.lookup fB = some ⟨ocB, odB, .func (PySem.W.fnOf "is_between" "is_between" (defArgs sBetween) (defBody sBetween) (defScope sBetween) .none kVB dcB pmB anB cdB ctB), slB⟩)
    (c_B : PySem.W.codeIn K cdB "is_between" = true)
    (k_B : PySem.W.keepIn K (.ref fB) = true)
    (a_A : PySem.W.nsIn K mainGlobals "are_between" = some (some (.ref fA)))
    (l_A : K.lookup fA = some ⟨ocA, odA, .func (PySem.W.fnOf "are_between" "are_between" (defArgs sAre) (defBody sAre) (defScope sAre) .none kVA dcA pmA anA cdA ctA), slA⟩)
    (c_A : PySem.W.codeIn K cdA "are_between" = true)
    (k_A : PySem.W.keepIn K (.ref fA) = true)
    (a_g1 : PySem.W.nsIn K mainGlobals "are_ascending" = some (some (.ref fg1)))
    (l_g1 : K.lookup fg1 = some ⟨ocg1, odg1, .func (PySem.W.fnOf "are_ascending" "are_ascending" (defArgs sAsc) (defBody sAsc) (defScope sAsc) .none kVg1 dcg1 pmg1 ang1 cdg1 ctg1), slg1⟩)
    (c_g1 : PySem.W.codeIn K cdg1 "are_ascending" = true)
    (k_g1 : PySem.W.keepIn K (.ref fg1) = true)
    (a_g2 : PySem.W.nsIn K mainGlobals "are_cuts" = some (some (.ref fg2)))
    (l_g2 : K.lookup fg2 = some ⟨ocg2, odg2, .func (PySem.W.fnOf "are_cuts" "are_cuts" (defArgs sCuts) (defBody sCuts) (defScope sCuts) .none kVg2 dcg2 pmg2 ang2 cdg2 ctg2), slg2⟩)
    (c_g2 : PySem.W.codeIn K cdg2 "are_cuts" = true)
    (k_g2 : PySem.W.keepIn K (.ref fg2) = true)
    (a_g3 : PySem.W.nsIn K mainGlobals "check_number" = some (some (.ref fg3)))
    (l_g3 : K.lookup fg3 = some ⟨ocg3, odg3, .func (PySem.W.fnOf "check_number" "check_number" (defArgs sNumb) (defBody sNumb) (defScope sNumb) .none kVg3 dcg3 pmg3 ang3 cdg3 ctg3), slg3⟩)
    (c_g3 : PySem.W.codeIn K cdg3 "check_number" = true)
    (k_g3 : PySem.W.keepIn K (.ref fg3) = true)
    (a_g4 : PySem.W.nsIn K mainGlobals "check_cuts" = some (some (.ref fg4)))
    (l_g4 : K.lookup fg4 = some ⟨ocg4, odg4, .func (PySem.W.fnOf "check_cuts" "check_cuts" (defArgs sCCuts) (defBody sCCuts) (defScope sCCuts) .none kVg4 dcg4 pmg4 ang4 cdg4 ctg4), slg4⟩)
    (c_g4 : PySem.W.codeIn K cdg4 "check_cuts" = true)
    (k_g4 : PySem.W.keepIn K (.ref fg4) = true)
    (a_g5 : PySem.W.nsIn K mainGlobals "bucket_pairs" = some (some (.ref fg5)))
    (l_g5 : K.lookup fg5 = some ⟨ocg5, odg5, .func (PySem.W.fnOf "bucket_pairs" "bucket_pairs" (defArgs sPairs) (defBody sPairs) (defScope sPairs) .none kVg5 dcg5 pmg5 ang5 cdg5 ctg5), slg5⟩)
    (c_g5 : PySem.W.codeIn K cdg5 "bucket_pairs" = true)
    (k_g5 : PySem.W.keepIn K (.ref fg5) = true)
    (a_g6 : PySem.W.nsIn K mainGlobals "check_column" = some (some (.ref fg6)))
    (l_g6 : K.lookup fg6 = some ⟨ocg6, odg6, .func (PySem.W.fnOf "check_column" "check_column" (defArgs sCCol) (defBody sCCol) (defScope sCCol) .none kVg6 dcg6 pmg6 ang6 cdg6 ctg6), slg6⟩)
    (c_g6 : PySem.W.codeIn K cdg6 "check_column" = true)
    (k_g6 : PySem.W.keepIn K (.ref fg6) = true)
    (a_g7 : PySem.W.nsIn K mainGlobals "_check_arguments" = some (some (.ref fg7)))
    (l_g7 : K.lookup fg7 = some ⟨ocg7, odg7, .func (PySem.W.fnOf "_check_arguments" "_check_arguments" (defArgs sArgs) (defBody sArgs) (defScope sArgs) .none kVg7 dcg7 pmg7 ang7 cdg7 ctg7), slg7⟩)
    (c_g7 : PySem.W.codeIn K cdg7 "_check_arguments" = true)
    (k_g7 : PySem.W.keepIn K (.ref fg7) = true)
    (a_g8 : PySem.W.nsIn K mainGlobals "_span" = some (some (.ref fg8)))
    (l_g8 : K.lookup fg8 = some ⟨ocg8, odg8, .func (PySem.W.fnOf "_span" "_span" (defArgs sSpan) (defBody sSpan) (defScope sSpan) .none kVg8 dcg8 pmg8 ang8 cdg8 ctg8), slg8⟩)
    (c_g8 : PySem.W.codeIn K cdg8 "_span" = true)
    (k_g8 : PySem.W.keepIn K (.ref fg8) = true)
    (a_h1 : PySem.W.nsIn K mainGlobals "_are_marks" = some (some (.ref fh1)))
    (l_h1 : K.lookup fh1 = some ⟨och1, odh1, .func (PySem.W.fnOf "_are_marks" "_are_marks" (defArgs sMarks) (defBody sMarks) (defScope sMarks) .none kVh1 dch1 pmh1 anh1 cdh1 cth1), slh1⟩)
    (c_h1 : PySem.W.codeIn K cdh1 "_are_marks" = true)
    (k_h1 : PySem.W.keepIn K (.ref fh1) = true)
    (a_h2 : PySem.W.nsIn K mainGlobals "_longest" = some (some (.ref fh2)))
    (l_h2 : K.lookup fh2 = some ⟨och2, odh2, .func (PySem.W.fnOf "_longest" "_longest" (defArgs sLong) (defBody sLong) (defScope sLong) .none kVh2 dch2 pmh2 anh2 cdh2 cth2), slh2⟩)
    (c_h2 : PySem.W.codeIn K cdh2 "_longest" = true)
    (k_h2 : PySem.W.keepIn K (.ref fh2) = true)
    (a_h3 : PySem.W.nsIn K mainGlobals "_least" = some (some (.ref fh3)))
    (l_h3 : K.lookup fh3 = some ⟨och3, odh3, .func (PySem.W.fnOf "_least" "_least" (defArgs sLeast) (defBody sLeast) (defScope sLeast) .none kVh3 dch3 pmh3 anh3 cdh3 cth3), slh3⟩)
    (c_h3 : PySem.W.codeIn K cdh3 "_least" = true)
    (k_h3 : PySem.W.keepIn K (.ref fh3) = true)
    (a_i1 : PySem.W.nsIn K mainGlobals "greatest_span" = some (some (.ref fi1)))
    (l_i1 : K.lookup fi1 = some ⟨oci1, odi1, .func (PySem.W.fnOf "greatest_span" "greatest_span" (defArgs sGreat) (defBody sGreat) (defScope sGreat) .none kVi1 dci1 pmi1 ani1 cdi1 cti1), sli1⟩)
    (c_i1 : PySem.W.codeIn K cdi1 "greatest_span" = true)
    (k_i1 : PySem.W.keepIn K (.ref fi1) = true)
    (a_i2 : PySem.W.nsIn K mainGlobals "best_spans" = some (some (.ref fi2)))
    (l_i2 : K.lookup fi2 = some ⟨oci2, odi2, .func (PySem.W.fnOf "best_spans" "best_spans" (defArgs sBest) (defBody sBest) (defScope sBest) .none kVi2 dci2 pmi2 ani2 cdi2 cti2), sli2⟩)
    (c_i2 : PySem.W.codeIn K cdi2 "best_spans" = true)
    (k_i2 : PySem.W.keepIn K (.ref fi2) = true)
    (a_i3 : PySem.W.nsIn K mainGlobals "least_span" = some (some (.ref fi3)))
    (l_i3 : K.lookup fi3 = some ⟨oci3, odi3, .func (PySem.W.fnOf "least_span" "least_span" (defArgs sLeastS) (defBody sLeastS) (defScope sLeastS) .none kVi3 dci3 pmi3 ani3 cdi3 cti3), sli3⟩)
    (c_i3 : PySem.W.codeIn K cdi3 "least_span" = true)
    (k_i3 : PySem.W.keepIn K (.ref fi3) = true)
    (a_i4 : PySem.W.nsIn K mainGlobals "fewest_within" = some (some (.ref fi4)))
    (l_i4 : K.lookup fi4 = some ⟨oci4, odi4, .func (PySem.W.fnOf "fewest_within" "fewest_within" (defArgs sFew) (defBody sFew) (defScope sFew) .none kVi4 dci4 pmi4 ani4 cdi4 cti4), sli4⟩)
    (c_i4 : PySem.W.codeIn K cdi4 "fewest_within" = true)
    (k_i4 : PySem.W.keepIn K (.ref fi4) = true)
    (a_i5 : PySem.W.nsIn K mainGlobals "span_profile" = some (some (.ref fi5)))
    (l_i5 : K.lookup fi5 = some ⟨oci5, odi5, .func (PySem.W.fnOf "span_profile" "span_profile" (defArgs sProf) (defBody sProf) (defScope sProf) .none kVi5 dci5 pmi5 ani5 cdi5 cti5), sli5⟩)
    (c_i5 : PySem.W.codeIn K cdi5 "span_profile" = true)
    (k_i5 : PySem.W.keepIn K (.ref fi5) = true)
    (a_1 : PySem.W.nsIn K mainGlobals "_law_number" = some (some (.ref f1)))
    (l_1 : K.lookup f1 = some ⟨oc1, od1, .func (PySem.W.fnOf "_law_number" "_law_number" (defArgs sNum) (defBody sNum) (defScope sNum) .none kV1 dc1 pm1 an1 cd1 ct1), sl1⟩)
    (c_1 : PySem.W.codeIn K cd1 "_law_number" = true)
    (k_1 : PySem.W.keepIn K (.ref f1) = true)
    (a_2 : PySem.W.nsIn K mainGlobals "_law_counts" = some (some (.ref f2)))
    (l_2 : K.lookup f2 = some ⟨oc2, od2, .func (PySem.W.fnOf "_law_counts" "_law_counts" (defArgs sCounts) (defBody sCounts) (defScope sCounts) .none kV2 dc2 pm2 an2 cd2 ct2), sl2⟩)
    (c_2 : PySem.W.codeIn K cd2 "_law_counts" = true)
    (k_2 : PySem.W.keepIn K (.ref f2) = true)
    (a_3 : PySem.W.nsIn K mainGlobals "_law_cuts" = some (some (.ref f3)))
    (l_3 : K.lookup f3 = some ⟨oc3, od3, .func (PySem.W.fnOf "_law_cuts" "_law_cuts" (defArgs sAll) (defBody sAll) (defScope sAll) .none kV3 dc3 pm3 an3 cd3 ct3), sl3⟩)
    (c_3 : PySem.W.codeIn K cd3 "_law_cuts" = true)
    (k_3 : PySem.W.keepIn K (.ref f3) = true)
    (a_4 : PySem.W.nsIn K mainGlobals "_law_buckets" = some (some (.ref f4)))
    (l_4 : K.lookup f4 = some ⟨oc4, od4, .func (PySem.W.fnOf "_law_buckets" "_law_buckets" (defArgs sBuck) (defBody sBuck) (defScope sBuck) .none kV4 dc4 pm4 an4 cd4 ct4), sl4⟩)
    (c_4 : PySem.W.codeIn K cd4 "_law_buckets" = true)
    (k_4 : PySem.W.keepIn K (.ref f4) = true)
    (a_5 : PySem.W.nsIn K mainGlobals "_law_span" = some (some (.ref f5)))
    (l_5 : K.lookup f5 = some ⟨oc5, od5, .func (PySem.W.fnOf "_law_span" "_law_span" (defArgs sLSp) (defBody sLSp) (defScope sLSp) .none kV5 dc5 pm5 an5 cd5 ct5), sl5⟩)
    (c_5 : PySem.W.codeIn K cd5 "_law_span" = true)
    (k_5 : PySem.W.keepIn K (.ref f5) = true)
    (a_6 : PySem.W.nsIn K mainGlobals "_law_is_shown" = some (some (.ref f6)))
    (l_6 : K.lookup f6 = some ⟨oc6, od6, .func (PySem.W.fnOf "_law_is_shown" "_law_is_shown" (defArgs sLSh) (defBody sLSh) (defScope sLSh) .none kV6 dc6 pm6 an6 cd6 ct6), sl6⟩)
    (c_6 : PySem.W.codeIn K cd6 "_law_is_shown" = true)
    (k_6 : PySem.W.keepIn K (.ref f6) = true)
    (a_L : PySem.W.nsIn K mainGlobals "law" = some (some (.ref fL)))
    (l_L : K.lookup fL = some ⟨ocL, odL, .func (PySem.W.fnOf "law" "law" (defArgs sLaw) (defBody sLaw) (defScope sLaw) .none kVL dcL pmL anL cdL ctL), slL⟩)
    (c_L : PySem.W.codeIn K cdL "law" = true)
    (k_L : PySem.W.keepIn K (.ref fL) = true)
    (a_I : PySem.W.findIn K (.ref C) "__init__" = some (some (.ref fI)))
    (i_I : PySem.W.isFn K (.ref fI) = true)
    (l_I : K.lookup fI = some ⟨ocI, odI, .func (PySem.W.fnOf "__init__" "Column.__init__" (defArgs sInit) (defBody sInit) (defScope sInit) .none kVI dcI pmI anI cdI ctI), slI⟩)
    (c_I : PySem.W.codeIn K cdI "Column.__init__" = true)
    (k_I : PySem.W.keepIn K (.ref fI) = true)
    (a_N : PySem.W.findIn K (.ref C) "__len__" = some (some (.ref fN)))
    (i_N : PySem.W.isFn K (.ref fN) = true)
    (l_N : K.lookup fN = some ⟨ocN, odN, .func (PySem.W.fnOf "__len__" "Column.__len__" (defArgs sLen) (defBody sLen) (defScope sLen) .none kVN dcN pmN anN cdN ctN), slN⟩)
    (c_N : PySem.W.codeIn K cdN "Column.__len__" = true)
    (k_N : PySem.W.keepIn K (.ref fN) = true)
    (a_i6 : PySem.W.findIn K (.ref S) "__init__" = some (some (.ref fi6)))
    (i_i6 : PySem.W.isFn K (.ref fi6) = true)
    (l_i6 : K.lookup fi6 = some ⟨oci6, odi6, .func (PySem.W.fnOf "__init__" "Spans.__init__" (defArgs sSIni) (defBody sSIni) (defScope sSIni) .none kVi6 dci6 pmi6 ani6 cdi6 cti6), sli6⟩)
    (c_i6 : PySem.W.codeIn K cdi6 "Spans.__init__" = true)
    (k_i6 : PySem.W.keepIn K (.ref fi6) = true)
    (a_i7 : PySem.W.findIn K (.ref S) "__eq__" = some (some (.ref fi7)))
    (i_i7 : PySem.W.isFn K (.ref fi7) = true)
    (l_i7 : K.lookup fi7 = some ⟨oci7, odi7, .func (PySem.W.fnOf "__eq__" "Spans.__eq__" (defArgs sSEq) (defBody sSEq) (defScope sSEq) .none kVi7 dci7 pmi7 ani7 cdi7 cti7), sli7⟩)
    (c_i7 : PySem.W.codeIn K cdi7 "Spans.__eq__" = true)
    (k_i7 : PySem.W.keepIn K (.ref fi7) = true)
    (a_i8 : PySem.W.findIn K (.ref S) "shows" = some (some (.ref fi8)))
    (i_i8 : PySem.W.isFn K (.ref fi8) = true)
    (l_i8 : K.lookup fi8 = some ⟨oci8, odi8, .func (PySem.W.fnOf "shows" "Spans.shows" (defArgs sSShow) (defBody sSShow) (defScope sSShow) .none kVi8 dci8 pmi8 ani8 cdi8 cti8), sli8⟩)
    (c_i8 : PySem.W.codeIn K cdi8 "Spans.shows" = true)
    (k_i8 : PySem.W.keepIn K (.ref fi8) = true)
    (z_isinstance : PySem.W.nsIn K mainGlobals "isinstance" = some none)
    (z_int : PySem.W.nsIn K mainGlobals "int" = some none)
    (z_bool : PySem.W.nsIn K mainGlobals "bool" = some none)
    (z_all : PySem.W.nsIn K mainGlobals "all" = some none)
    (z_any : PySem.W.nsIn K mainGlobals "any" = some none)
    (z_list : PySem.W.nsIn K mainGlobals "list" = some none)
    (z_tuple : PySem.W.nsIn K mainGlobals "tuple" = some none)
    (z_len : PySem.W.nsIn K mainGlobals "len" = some none)
    (z_sum : PySem.W.nsIn K mainGlobals "sum" = some none)
    (z_enumerate : PySem.W.nsIn K mainGlobals "enumerate" = some none)
    (z_zip : PySem.W.nsIn K mainGlobals "zip" = some none)
    (z_range : PySem.W.nsIn K mainGlobals "range" = some none)
    (z_max : PySem.W.nsIn K mainGlobals "max" = some none)
    (z_min : PySem.W.nsIn K mainGlobals "min" = some none)
    (zmv : PySem.W.nsIn K mainGlobals "MOST_VALUES" = some (some (.int 12 tv)))
    (zmc : PySem.W.nsIn K mainGlobals "MOST_COUNT" = some (some (.int 9 tc)))
    (pgC : PySem.W.plainGet K C Str.empty = true)
    (hdC : PySem.W.hasDictIn K C = true)
    (poC : PySem.W.plainOver K C = true)
    (saC : PySem.W.findIn K (.ref C) "__setattr__" = some (some (.builtin "object.__setattr__")))
    (mkC : PySem.W.makesIn K C = true)
    (kcC : PySem.W.keepIn K (.ref C) = true)
    (ihaC : PySem.W.findIn K (.ref C) "__class__" = some (some (.builtin "object.__class__")))
    (ihmC : PySem.W.mroIn K C (.type "object") = some true)
    (pgS : PySem.W.plainGet K S Str.empty = true)
    (hdS : PySem.W.hasDictIn K S = true)
    (poS : PySem.W.plainOver K S = true)
    (saS : PySem.W.findIn K (.ref S) "__setattr__" = some (some (.builtin "object.__setattr__")))
    (mkS : PySem.W.makesIn K S = true)
    (kcS : PySem.W.keepIn K (.ref S) = true)
    (ihaS : PySem.W.findIn K (.ref S) "__class__" = some (some (.builtin "object.__class__")))
    (ihmS : PySem.W.mroIn K S (.type "object") = some true)
    (nC : PySem.W.findIn K (.ref C) "counts" = some none)
    (nSc : PySem.W.findIn K (.ref S) "cuts" = some none)
    (nSm : PySem.W.findIn K (.ref S) "marks" = some none)
    (ihn : PySem.W.specialIn K (.builtin "object.__class__") "__get__" = some (some (.builtin "getset_descriptor.__get__")))
    (iht : PySem.W.takesIn K (.builtin "object.__class__") = some true) :
    ∃ fd : FuncData, (∀ (s : Shared) (v : Value), BindsTo s fd ⟨[v], []⟩ [("script", v)]) ∧ ∀ base : Heap, K.In base → base.Ns mainGlobals mg → FnOk l.prog w K mg base CX0 9 fa fd ["script"] (spLaw K) := by
  have e := hfa.symm.trans (PySem.W.mg_of X G a_L)
  cases e
  have F_W := fun_mk (st := sWhole) l_W c_W k_W
  have B_W := F_W.binds (ps := ["item"]) fun _ _ _ _ _ _ us hl => match us, hl with | [_], _ => rfl
  have F_B := fun_mk (st := sBetween) l_B c_B k_B
  have B_B := F_B.binds (ps := ["item", "least", "most"]) fun _ _ _ _ _ _ us hl => match us, hl with | [_, _, _], _ => rfl
  have F_A := fun_mk (st := sAre) l_A c_A k_A
  have B_A := F_A.binds (ps := ["items", "least", "most"]) fun _ _ _ _ _ _ us hl => match us, hl with | [_, _, _], _ => rfl
  have F_g1 := fun_mk (st := sAsc) l_g1 c_g1 k_g1
  have B_g1 := F_g1.binds (ps := ["items", "past"]) fun _ _ _ _ _ _ us hl => match us, hl with | [_, _], _ => rfl
  have F_g2 := fun_mk (st := sCuts) l_g2 c_g2 k_g2
  have B_g2 := F_g2.binds (ps := ["cuts", "width"]) fun _ _ _ _ _ _ us hl => match us, hl with | [_, _], _ => rfl
  have F_g3 := fun_mk (st := sNumb) l_g3 c_g3 k_g3
  have B_g3 := F_g3.binds (ps := ["number", "least", "most"]) fun _ _ _ _ _ _ us hl => match us, hl with | [_, _, _], _ => rfl
  have F_g4 := fun_mk (st := sCCuts) l_g4 c_g4 k_g4
  have B_g4 := F_g4.binds (ps := ["cuts", "width"]) fun _ _ _ _ _ _ us hl => match us, hl with | [_, _], _ => rfl
  have F_g5 := fun_mk (st := sPairs) l_g5 c_g5 k_g5
  have B_g5 := F_g5.binds (ps := ["cuts", "width"]) fun _ _ _ _ _ _ us hl => match us, hl with | [_, _], _ => rfl
  have F_g6 := fun_mk (st := sCCol) l_g6 c_g6 k_g6
  have B_g6 := F_g6.binds (ps := ["column"]) fun _ _ _ _ _ _ us hl => match us, hl with | [_], _ => rfl
  have F_g7 := fun_mk (st := sArgs) l_g7 c_g7 k_g7
  have B_g7 := F_g7.binds (ps := ["column", "buckets"]) fun _ _ _ _ _ _ us hl => match us, hl with | [_, _], _ => rfl
  have F_g8 := fun_mk (st := sSpan) l_g8 c_g8 k_g8
  have B_g8 := F_g8.binds (ps := ["counts"]) fun _ _ _ _ _ _ us hl => match us, hl with | [_], _ => rfl
  have F_h1 := fun_mk (st := sMarks) l_h1 c_h1 k_h1
  have B_h1 := F_h1.binds (ps := ["marks", "counts", "buckets", "span"]) fun _ _ _ _ _ _ us hl => match us, hl with | [_, _, _, _], _ => rfl
  have F_h2 := fun_mk (st := sLong) l_h2 c_h2 k_h2
  have B_h2 := F_h2.binds (ps := ["counts", "span"]) fun _ _ _ _ _ _ us hl => match us, hl with | [_, _], _ => rfl
  have F_h3 := fun_mk (st := sLeast) l_h3 c_h3 k_h3
  have B_h3 := F_h3.binds (ps := ["counts", "buckets"]) fun _ _ _ _ _ _ us hl => match us, hl with | [_, _], _ => rfl
  have F_i1 := fun_mk (st := sGreat) l_i1 c_i1 k_i1
  have B_i1 := F_i1.binds (ps := ["column", "cuts"]) fun _ _ _ _ _ _ us hl => match us, hl with | [_, _], _ => rfl
  have F_i2 := fun_mk (st := sBest) l_i2 c_i2 k_i2
  have B_i2 := F_i2.binds (ps := ["column", "buckets"]) fun _ _ _ _ _ _ us hl => match us, hl with | [_, _], _ => rfl
  have F_i3 := fun_mk (st := sLeastS) l_i3 c_i3 k_i3
  have B_i3 := F_i3.binds (ps := ["column", "buckets"]) fun _ _ _ _ _ _ us hl => match us, hl with | [_, _], _ => rfl
  have F_i4 := fun_mk (st := sFew) l_i4 c_i4 k_i4
  have B_i4 := F_i4.binds (ps := ["column", "span"]) fun _ _ _ _ _ _ us hl => match us, hl with | [_, _], _ => rfl
  have F_i5 := fun_mk (st := sProf) l_i5 c_i5 k_i5
  have B_i5 := F_i5.binds (ps := ["column"]) fun _ _ _ _ _ _ us hl => match us, hl with | [_], _ => rfl
  have F_1 := fun_mk (st := sNum) l_1 c_1 k_1
  have B_1 := F_1.binds (ps := ["script", "at"]) fun _ _ _ _ _ _ us hl => match us, hl with | [_, _], _ => rfl
  have F_2 := fun_mk (st := sCounts) l_2 c_2 k_2
  have B_2 := F_2.binds (ps := ["script", "at", "most"]) fun _ _ _ _ _ _ us hl => match us, hl with | [_, _, _], _ => rfl
  have F_3 := fun_mk (st := sAll) l_3 c_3 k_3
  have B_3 := F_3.binds (ps := ["values"]) fun _ _ _ _ _ _ us hl => match us, hl with | [_], _ => rfl
  have F_4 := fun_mk (st := sBuck) l_4 c_4 k_4
  have B_4 := F_4.binds (ps := ["counts", "cuts"]) fun _ _ _ _ _ _ us hl => match us, hl with | [_, _], _ => rfl
  have F_5 := fun_mk (st := sLSp) l_5 c_5 k_5
  have B_5 := F_5.binds (ps := ["counts", "cuts"]) fun _ _ _ _ _ _ us hl => match us, hl with | [_, _], _ => rfl
  have F_6 := fun_mk (st := sLSh) l_6 c_6 k_6
  have B_6 := F_6.binds (ps := ["counts", "buckets", "cuts", "marks"]) fun _ _ _ _ _ _ us hl => match us, hl with | [_, _, _, _], _ => rfl
  have F_L := fun_mk (st := sLaw) l_L c_L k_L
  have F_I := fun_mk (st := sInit) l_I c_I k_I
  have B_I := F_I.binds (ps := ["self", "counts"]) fun _ _ _ _ _ _ us hl => match us, hl with | [_, _], _ => rfl
  have F_N := fun_mk (st := sLen) l_N c_N k_N
  have B_N := F_N.binds (ps := ["self"]) fun _ _ _ _ _ _ us hl => match us, hl with | [_], _ => rfl
  have F_i6 := fun_mk (st := sSIni) l_i6 c_i6 k_i6
  have B_i6 := F_i6.binds (ps := ["self", "cuts", "marks"]) fun _ _ _ _ _ _ us hl => match us, hl with | [_, _, _], _ => rfl
  have F_i7 := fun_mk (st := sSEq) l_i7 c_i7 k_i7
  have B_i7 := F_i7.binds (ps := ["self", "other"]) fun _ _ _ _ _ _ us hl => match us, hl with | [_, _], _ => rfl
  have F_i8 := fun_mk (st := sSShow) l_i8 c_i8 k_i8
  have B_i8 := F_i8.binds (ps := ["self", "column", "buckets"]) fun _ _ _ _ _ _ us hl => match us, hl with | [_, _, _], _ => rfl
  have Ch : Chk K mg fW fB fA _ _ _ := ⟨(PySem.W.mg_none_of X G z_isinstance), (PySem.W.mg_none_of X G z_int), (PySem.W.mg_none_of X G z_bool), (PySem.W.mg_none_of X G z_all), F_W, F_B, F_A, (PySem.W.mg_of X G a_W), (PySem.W.mg_of X G a_B), (PySem.W.mg_of X G a_A), B_W, B_B, B_A⟩
  have T : CT K mg C := ⟨⟨pgC, hdC, poC, saC⟩, nC, (PySem.W.mg_of X G a_C), ⟨⟨pgC, hdC, poC, saC⟩, ihaC, ihn, iht, ihmC, by unfold PySem.W.kitOne; simp⟩, (PySem.W.mg_none_of X G z_list), (PySem.W.mg_none_of X G z_tuple), (PySem.W.mg_none_of X G z_len), (PySem.W.mg_none_of X G z_sum), (PySem.W.mg_none_of X G z_enumerate), (PySem.W.mg_none_of X G z_zip), ⟨tv, PySem.W.mg_of X G zmv⟩, ⟨tc, PySem.W.mg_of X G zmc⟩⟩
  have Gt : GT K mg fg1 fg2 fg3 fg4 fg5 fg6 fg7 fg8 _ _ _ _ _ _ _ _ := ⟨(PySem.W.mg_none_of X G z_max), (PySem.W.mg_none_of X G z_min), F_g1, F_g2, F_g3, F_g4, F_g5, F_g6, F_g7, F_g8, (PySem.W.mg_of X G a_g1), (PySem.W.mg_of X G a_g2), (PySem.W.mg_of X G a_g3), (PySem.W.mg_of X G a_g4), (PySem.W.mg_of X G a_g5), (PySem.W.mg_of X G a_g6), (PySem.W.mg_of X G a_g7), (PySem.W.mg_of X G a_g8), B_g1, B_g2, B_g3, B_g4, B_g5, B_g6, B_g7, B_g8⟩
  have U : GU K mg fh1 fh2 fh3 _ _ _ := ⟨(PySem.W.mg_none_of X G z_range), F_h1, F_h2, F_h3, (PySem.W.mg_of X G a_h1), (PySem.W.mg_of X G a_h2), (PySem.W.mg_of X G a_h3), B_h1, B_h2, B_h3⟩
  have W : GV K mg S fi1 fi2 fi3 fi4 fi5 fi6 fi7 fi8 _ _ _ _ _ _ _ _ := ⟨⟨pgS, hdS, poS, saS⟩, nSc, nSm, (PySem.W.mg_of X G a_S), ⟨⟨pgS, hdS, poS, saS⟩, ihaS, ihn, iht, ihmS, by unfold PySem.W.kitOne; simp⟩, ⟨mkS, a_i6, i_i6, kcS⟩, F_i1, F_i2, F_i3, F_i4, F_i5, F_i6, F_i7, F_i8, (PySem.W.mg_of X G a_i1), (PySem.W.mg_of X G a_i2), (PySem.W.mg_of X G a_i3), (PySem.W.mg_of X G a_i4), (PySem.W.mg_of X G a_i5), B_i1, B_i2, B_i3, B_i4, B_i5, B_i6, B_i7, B_i8, ⟨tc, PySem.W.mg_of X G zmc⟩⟩
  have Ln : LnT K C fN _ := ⟨F_N, B_N, a_N, i_N⟩
  have D : LD K mg f1 f2 f3 f4 f5 f6 _ _ _ _ _ _ := ⟨(PySem.W.mg_none_of X G z_any), F_1, F_2, F_3, F_4, F_5, F_6, (PySem.W.mg_of X G a_1), (PySem.W.mg_of X G a_2), (PySem.W.mg_of X G a_3), (PySem.W.mg_of X G a_4), (PySem.W.mg_of X G a_5), (PySem.W.mg_of X G a_6), B_1, B_2, B_3, B_4, B_5, B_6⟩
  have Lt : LT K mg C fI S fi7 fi8 _ := ⟨⟨mkC, a_I, i_I, kcC⟩, F_I, B_I, a_i7, i_i7, ⟨a_i8, i_i8, k_i8⟩⟩
  exact ⟨PySem.W.fnOf "law" "law" (defArgs sLaw) (defBody sLaw) (defScope sLaw) .none kVL dcL pmL anL cdL ctL, fun s v => .of_eq rfl, fun base _ _ => ok_law F_L Gt D Ch T Ln U W Lt⟩
theorem walk {l : PySem.W.OpenLaw} {q : Program} {loose : List Str} {XP : (Str → Option Value) → Heap → Prop} {YP : World → Heap → Prop} {d : DefRec} {K : Params → PySem.W.Frag} (hn : l.most = some 63) (hdf : d.params.defaults = [])
    (hY : ∀ (w : World) (h : Heap), YP w h → (K w.params).In h)
    (F : ∀ (w : World) (mg : Str → Option Value) (fa : Addr) (h : Heap), (K w.params).In h → h.Ns mainGlobals mg → mg d.name = some (.ref fa) →
      ∃ fd : FuncData, (∀ (s : Shared) (u : Value), BindsTo s fd ⟨[u], []⟩ [("script", u)]) ∧ ∀ base : Heap, (K w.params).In base → base.Ns mainGlobals mg → FnOk l.prog w (K w.params) mg base CX0 9 fa fd ["script"] (spLaw (K w.params))) :
    PySem.W.WalkO q loose XP YP l.row.toRowW d [] (fun f vs => PySem.call f vs) :=
  L2.walk_of (n := 63) (k := 9) (x := "script") (CX := fun _ => CX0) (sp := fun w => spLaw (K w.params)) hn (by decide) hdf ⟨rfl, by decide, by decide⟩ hY F (fun _ _ a ns hl _ hS => ⟨a, ns, rfl, hS, fun _ => rfl⟩) fun _ _ _ _ _ z => z
end K2
open PySem PySem.W PyProof.Rows
set_option maxRecDepth 100000 in
set_option maxHeartbeats 0 in
theorem PySem.Challenge.cw_bucketsums_k22_whole_spans_holds : PySem.Challenge.rw_bucketsums_k22_whole_spans.Holds := by
  w_on; o_law; k_head; (case hw => w_witness2)
  k_fill
  refine K2.walk (l := PySem.Challenge.rw_bucketsums_k22_whole_spans) rfl rfl (fun w h Y => PySem.W.kIn_of Y) ?F
  case F =>
    intro w mg fa h KX G hmg
    refine' K2.all_mk KX G hmg ?a_C ?a_S ?a_W ?l_W ?c_W ?k_W ?a_B ?l_B ?c_B ?k_B ?a_A ?l_A ?c_A ?k_A ?a_g1 ?l_g1 ?c_g1 ?k_g1 ?a_g2 ?l_g2 ?c_g2 ?k_g2 ?a_g3 ?l_g3 ?c_g3 ?k_g3 ?a_g4 ?l_g4 ?c_g4 ?k_g4 ?a_g5 ?l_g5 ?c_g5 ?k_g5 ?a_g6 ?l_g6 ?c_g6 ?k_g6 ?a_g7 ?l_g7 ?c_g7 ?k_g7 ?a_g8 ?l_g8 ?c_g8 ?k_g8 ?a_h1 ?l_h1 ?c_h1 ?k_h1 ?a_h2 ?l_h2 ?c_h2 ?k_h2 ?a_h3 ?l_h3 ?c_h3 ?k_h3 ?a_i1 ?l_i1 ?c_i1 ?k_i1 ?a_i2 ?l_i2 ?c_i2 ?k_i2 ?a_i3 ?l_i3 ?c_i3 ?k_i3 ?a_i4 ?l_i4 ?c_i4 ?k_i4 ?a_i5 ?l_i5 ?c_i5 ?k_i5 ?a_1 ?l_1 ?c_1 ?k_1 ?a_2 ?l_2 ?c_2 ?k_2 ?a_3 ?l_3 ?c_3 ?k_3 ?a_4 ?l_4 ?c_4 ?k_4 ?a_5 ?l_5 ?c_5 ?k_5 ?a_6 ?l_6 ?c_6 ?k_6 ?a_L ?l_L ?c_L ?k_L ?a_I ?i_I ?l_I ?c_I ?k_I ?a_N ?i_N ?l_N ?c_N ?k_N ?a_i6 ?i_i6 ?l_i6 ?c_i6 ?k_i6 ?a_i7 ?i_i7 ?l_i7 ?c_i7 ?k_i7 ?a_i8 ?i_i8 ?l_i8 ?c_i8 ?k_i8 ?z_isinstance ?z_int ?z_bool ?z_all ?z_any ?z_list ?z_tuple ?z_len ?z_sum ?z_enumerate ?z_zip ?z_range ?z_max ?z_min ?zmv ?zmc ?pgC ?hdC ?poC ?saC ?mkC ?kcC ?ihaC ?ihmC ?pgS ?hdS ?poS ?saS ?mkS ?kcS ?ihaS ?ihmS ?nC ?nSc ?nSm ?ihn ?iht
    (case a_C => k_is)
    (case a_S => k_is)
    (case a_W => k_is)
    (case l_W => k_is)
    (case c_W => k_is)
    (case k_W => k_is)
    (case a_B => k_is)
    (case l_B => k_is)
    (case c_B => k_is)
    (case k_B => k_is)
    (case a_A => k_is)
    (case l_A => k_is)
    (case c_A => k_is)
    (case k_A => k_is)
    (case a_g1 => k_is)
    (case l_g1 => k_is)
    (case c_g1 => k_is)
    (case k_g1 => k_is)
    (case a_g2 => k_is)
    (case l_g2 => k_is)
    (case c_g2 => k_is)
    (case k_g2 => k_is)
    (case a_g3 => k_is)
    (case l_g3 => k_is)
    (case c_g3 => k_is)
    (case k_g3 => k_is)
    (case a_g4 => k_is)
    (case l_g4 => k_is)
    (case c_g4 => k_is)
    (case k_g4 => k_is)
    (case a_g5 => k_is)
    (case l_g5 => k_is)
    (case c_g5 => k_is)
    (case k_g5 => k_is)
    (case a_g6 => k_is)
    (case l_g6 => k_is)
    (case c_g6 => k_is)
    (case k_g6 => k_is)
    (case a_g7 => k_is)
    (case l_g7 => k_is)
    (case c_g7 => k_is)
    (case k_g7 => k_is)
    (case a_g8 => k_is)
    (case l_g8 => k_is)
    (case c_g8 => k_is)
    (case k_g8 => k_is)
    (case a_h1 => k_is)
    (case l_h1 => k_is)
    (case c_h1 => k_is)
    (case k_h1 => k_is)
    (case a_h2 => k_is)
    (case l_h2 => k_is)
    (case c_h2 => k_is)
    (case k_h2 => k_is)
    (case a_h3 => k_is)
    (case l_h3 => k_is)
    (case c_h3 => k_is)
    (case k_h3 => k_is)
    (case a_i1 => k_is)
    (case l_i1 => k_is)
    (case c_i1 => k_is)
    (case k_i1 => k_is)
    (case a_i2 => k_is)
    (case l_i2 => k_is)
    (case c_i2 => k_is)
    (case k_i2 => k_is)
    (case a_i3 => k_is)
    (case l_i3 => k_is)
    (case c_i3 => k_is)
    (case k_i3 => k_is)
    (case a_i4 => k_is)
    (case l_i4 => k_is)
    (case c_i4 => k_is)
    (case k_i4 => k_is)
    (case a_i5 => k_is)
    (case l_i5 => k_is)
    (case c_i5 => k_is)
    (case k_i5 => k_is)
    (case a_1 => k_is)
    (case l_1 => k_is)
    (case c_1 => k_is)
    (case k_1 => k_is)
    (case a_2 => k_is)
    (case l_2 => k_is)
    (case c_2 => k_is)
    (case k_2 => k_is)
    (case a_3 => k_is)
    (case l_3 => k_is)
    (case c_3 => k_is)
    (case k_3 => k_is)
    (case a_4 => k_is)
    (case l_4 => k_is)
    (case c_4 => k_is)
    (case k_4 => k_is)
    (case a_5 => k_is)
    (case l_5 => k_is)
    (case c_5 => k_is)
    (case k_5 => k_is)
    (case a_6 => k_is)
    (case l_6 => k_is)
    (case c_6 => k_is)
    (case k_6 => k_is)
    (case a_L => k_is)
    (case l_L => k_is)
    (case c_L => k_is)
    (case k_L => k_is)
    (case a_I => k_is)
    (case i_I => k_is)
    (case l_I => k_is)
    (case c_I => k_is)
    (case k_I => k_is)
    (case a_N => k_is)
    (case i_N => k_is)
    (case l_N => k_is)
    (case c_N => k_is)
    (case k_N => k_is)
    (case a_i6 => k_is)
    (case i_i6 => k_is)
    (case l_i6 => k_is)
    (case c_i6 => k_is)
    (case k_i6 => k_is)
    (case a_i7 => k_is)
    (case i_i7 => k_is)
    (case l_i7 => k_is)
    (case c_i7 => k_is)
    (case k_i7 => k_is)
    (case a_i8 => k_is)
    (case i_i8 => k_is)
    (case l_i8 => k_is)
    (case c_i8 => k_is)
    (case k_i8 => k_is)
    (case z_isinstance => k_is)
    (case z_int => k_is)
    (case z_bool => k_is)
    (case z_all => k_is)
    (case z_any => k_is)
    (case z_list => k_is)
    (case z_tuple => k_is)
    (case z_len => k_is)
    (case z_sum => k_is)
    (case z_enumerate => k_is)
    (case z_zip => k_is)
    (case z_range => k_is)
    (case z_max => k_is)
    (case z_min => k_is)
    (case zmv => k_is)
    (case zmc => k_is)
    (case pgC => k_is)
    (case hdC => k_is)
    (case poC => k_is)
    (case saC => k_is)
    (case mkC => k_is)
    (case kcC => k_is)
    (case ihaC => k_is)
    (case ihmC => k_is)
    (case pgS => k_is)
    (case hdS => k_is)
    (case poS => k_is)
    (case saS => k_is)
    (case mkS => k_is)
    (case kcS => k_is)
    (case ihaS => k_is)
    (case ihmS => k_is)
    (case nC => k_is)
    (case nSc => k_is)
    (case nSm => k_is)
    (case ihn => k_is)
    (case iht => k_is)
