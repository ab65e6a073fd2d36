import PyProof.Rows.All
import Wide.All
import OpenK.AllK
import Wide.FinOn
import HandS.ForMost
import HandS.IsInst
import HandS.Walk
import HandS.Zip
import HandS.OwnEq
import HandS.Conv
import HandS.More
import HandS.OwnIter
import PyProof.InstNe
import KE.GoesEnum
import KE.GoesMore
import HandS.TupAny
import HandS.Small
import HandS.Codes
import KE.KEqDeep
import KE.KEqSeq
import HandS.Style
import HandS.Flow
import HandS.SortInts
import PySem.Challenge.RW_bucketsums_k01_whole_columns
set_option Elab.async false
set_option linter.all false
set_option maxRecDepth 100000
set_option maxHeartbeats 4000000
namespace BK
open PySem PySem.Spec PyProof.Rows L2
section
variable {X : Cx} {CX : CXT} {n : Nat} {f C : Addr} {fd : FuncData} {ps : List Str} {sp : Sp} {E : XK} {A : Around} {pins : List (Addr × Obj)} {σ : L2.St} {H : Hp} {s : Shared}
/-- a def's promise, called from somewhere below the running body -/
theorem run_at {Q : VK} {us : List Value} {vs : List V} (sb : Sub X n A) (F : FnOk X.prog X.w X.K X.mg X.base CX n f fd ps sp) (hb : Binds X.K fd ps []) (hx : Passes CX X E)
    (I : Inv X pins σ H s) (r : Vals vs us) (h : sp vs H Q E) : wpAny (model X.prog X.w) A (call (.ref f) us) (EP X pins σ Q) X.xe s := by
  have e0 : Env0 X.prog X.w X.K X.mg X.base A X.stack s H := by
    have e := I.env0
    exact ⟨by rw [sb.fr]; exact e.frames, e.mod, e.bs, e.bsz, e.funs, e.frf, e.hok, e.bare⟩
  have hl := F.len _ _ _ _ h
  refine wpAny_call (codeAny_mono (F.run A X.stack s H ⟨us, []⟩ us vs Q E sb.room e0 (by
    have := hb s us I.kIn (by rw [List.append_nil, ← r.length]; exact hl)
    rwa [List.append_nil] at this) r h) fun r s' hq => ?_)
  cases r with
  | error e => exact hx pins σ H s e s' I hq
  | ok fl =>
    cases fl with
    | ret u => exact I.after hq
    | next => exact False.elim hq
    | brk => exact False.elim hq
    | cont => exact False.elim hq

/-- len(o), o of an own class with __len__ -/
def rLenOwn (C : Addr) (sp : Sp) (E : XK) : List V → Hp → VK → Prop := fun xs H Q => ∃ a dx fs, xs = [.ref a] ∧ H a = some (.ins C dx fs) ∧
  sp [.ref a] H (fun v H' => ∃ k : Int, v = .int k ∧ 0 ≤ k ∧ k < 2 ^ 63 ∧ Q (.int k) H') E
theorem call_lenOwn (F : FnOk X.prog X.w X.K X.mg X.base CX n f fd ps sp) (hr : Room (n + 1) X.A) (hs : PySem.W.findIn X.K (.ref C) "__len__" = some (some (.ref f))) (hf : PySem.W.isFn X.K (.ref f) = true)
    (hb : Binds X.K fd ps []) (hx : Passes CX X E) : CallR X (.builtin "len") (rLenOwn C sp E) := by
  intro pins s σ H xs us Q I r h
  obtain ⟨a, dx, fs, rfl, ha, hsp⟩ := h
  obtain ⟨u, rfl, ru⟩ := vals1 r
  cases ru
  obtain ⟨mA, J, _⟩ := ins_get I.hok ha
  obtain ⟨od, J, _⟩ := J.look
  obtain ⟨m, hF⟩ := I.fr
  refine PySem.W.len_K hF I.ok.mod.kin J hs hf ?_
  refine wpAny_mono (run_at (vs := [.ref a]) ⟨hr.in1, rfl⟩ F hb hx I (.cons rfl .nil) hsp) (fun u s' q => ?_) fun _ _ x => x
  obtain ⟨v, H', I', rv, k, rfl, h0, h1, q⟩ := q
  obtain ⟨t, rfl⟩ := rv
  exact ⟨⟨h0, h1⟩, .int k, H', I'.tok _, ⟨_, rfl⟩, q⟩

/-- a == b by an own __eq__ that gives a bool -/
def rEqOwn (C : Addr) (sp : Sp) (E : XK) : R2 := fun x y H Q => ∃ a b dx dy fs gs, x = .ref a ∧ y = .ref b ∧ H a = some (.ins C dx fs) ∧ H b = some (.ins C dy gs) ∧
  sp [.ref a, .ref b] H (fun v H' => ∃ k, v = .bl k ∧ Q (.bl k) H') E
theorem op_eqOwn (F : FnOk X.prog X.w X.K X.mg X.base CX n f fd ps sp) (hr : Room n X.A) (hs : PySem.W.findIn X.K (.ref C) "__eq__" = some (some (.ref f))) (hf : PySem.W.isFn X.K (.ref f) = true)
    (hb : Binds X.K fd ps []) (hx : Passes CX X E) : OpR X (compareOp .Eq) (rEqOwn C sp E) := by
  intro pins s σ H x y v u Q I rx ry hq
  obtain ⟨a, b, dx, dy, fs, gs, rfl, rfl, ha, hb', hsp⟩ := hq
  cases rx
  cases ry
  obtain ⟨mA, J, _⟩ := ins_get I.hok ha
  obtain ⟨mB, J', _⟩ := ins_get I.hok hb'
  obtain ⟨od, J, _⟩ := J.look
  obtain ⟨od', J', _⟩ := J'.look
  obtain ⟨m, hF⟩ := I.fr
  show wpAny (model X.prog X.w) X.A (richCompare .Eq (.ref a) (.ref b)) (EP X pins σ Q) X.xe s
  refine PySem.W.cmp_K (op := .Eq) (tb := .ref C) hr.units0 hF I.ok.mod.kin J J'.type (by simp [PySem.W.notFirst]) hs hf ?_
  refine wpAny_mono (run_at (vs := [.ref a, .ref b]) ⟨hr, rfl⟩ F hb hx I (.cons rfl (.cons rfl .nil)) hsp) (fun u s' q => ?_) fun _ _ x => x
  obtain ⟨v, H', I', rv, k, rfl, q⟩ := q
  cases rv
  exact ⟨.bl k, H', I', rfl, q⟩
end
section
variable {prog : Program} {w : World} {A : Around} {E : Value → Shared → Prop} {s : Shared} {K : PySem.W.Frag} {x C L f : Addr} {h₀ : Heap} {m : Str → Option Value} {ox : Obj} {od : Option Obj} {b tb : Value}
  {nm q : Str} {N : Addr} {bs bm : List Value} {hdct : Bool} {sn : List Str} {sub : List Value} {ab : Bool} {col : Option Bool} {dd : Option Addr} {k0 k1 k2 k3 k5 : Option Value} {newId : String}
open PySem.W
theorem ifBoundB_K {M : Model} {name : Str} {id : String} {args : List Value} {Q : Option Value → Shared → Prop} (X : K.In s.heap) (I : InstAt s.heap x ox C od) (hs : findIn K (.ref C) name = some (some (.builtin id))) (S : Slot "object" name id)
    (h : wpAny M A (call (.builtin id) (.ref x :: args)) (fun v => Q (some v)) E s) : wpAny M A (callSpecialIfBound? (.ref x) name args) Q E s := by
  simp only [callSpecialIfBound?, bindSpecialIfBound?]
  refine wpAny_holding (wpAny_bind (wpAny_bind (wpAny_bind (I.type.here ((looks_findIn X hs).here ?_)))))
  simp only [S.bind]
  refine wpAny_bind (wpAny_askSetting (wpAny_ite ?_))
  have fin : wpAny M A (call (.builtin id) ([.ref x] ++ args) >>= fun v => pure (some v)) Q E s := wpAny_bind (wpAny_mono h (fun v s' h' => wpAny_pure h') fun _ _ h' => h')
  split
  · exact wpAny_bind (wpAny_pure (wpAny_pure (by exact fin)))
  · exact wpAny_tryCatch (wpAny_bind (wpAny_pure (wpAny_pure (by exact fin))))
theorem objNe_K {Q : Fin → Shared → Prop} (hu : A.units < cLine) (X : K.In s.heap) (I : InstAt s.heap x ox C od) (he : findIn K (.ref C) "__eq__" = some (some (.ref f))) (hf : isFn K (.ref f) = true)
    (h : wpAny (model prog w) A (call (.ref f) [.ref x, b]) (fun v s' => ∃ k, v = .bool k ∧ Q (.done (.ret (.bool (!k)))) s') E s) : wpAny (model prog w) A (Builtin.«object.__ne__» ⟨[.ref x, b], []⟩) Q E s := by
  obtain ⟨hh, g, d, t, os⟩ := s
  unfold Builtin.«object.__ne__»
  repeat (first
    | with_reducible refine wpAny_cRoomFor hu ?_
    | (refine wpAny_bind (m := callSpecialIfBound? (.ref x) (Str.ofString "__eq__") [b])
        (ifBound_K X I he hf (wpAny_mono h (fun r s' hr => by
          obtain ⟨k, rfl, hq⟩ := hr
          repeat (first | exact hq | exact wpAny_pure hq | exact wpAny_truthy_bool hq | (refine wpAny_bind (m := truthy (.bool _)) (wpAny_truthy_bool ?_)) | wp_step)) fun _ _ e => e)))
    | wp_step)
theorem try_ne_K {Q : Option Value → Shared → Prop} (hu : A.units + 1 < cLine) (X : K.In s.heap) (I : InstAt s.heap x ox C od)
    (hs : findIn K (.ref C) "__ne__" = some (some (.builtin "object.__ne__"))) (he : findIn K (.ref C) "__eq__" = some (some (.ref f))) (hf : isFn K (.ref f) = true)
    (hC : K.lookup C = some (excClassObj nm q C N bs bm hdct sn sub ab col dd k0 k1 k2 k3 k5 newId)) (hob : bm.contains (.type "object") = true)
    (h : wpAny (model prog w) A.in1 (call (.ref f) [.ref x, b]) (fun v s' => ∃ k, v = .bool k ∧ Q (some (.bool (!k))) s') E s) : wpAny (model prog w) A (tryCompare (.ref x) "__ne__" b) Q E s := by
  obtain ⟨hh, g, d, t, os⟩ := s
  simp only [tryCompare]
  refine wpAny_bind (ifBoundB_K X I hs PySem.F.cmp_object.ne (wpAny_call (codeAny_call_builtin PySem.F.cmp_object.ne.plain PySem.F.cmpEntry_ne
    (wpAny_check_slot_inst PySem.F.cmpKind_ne PySem.F.cmpSplit_ne (PySem.F.cmpArgs_ne _ _) hob I.at_ I.cls (X _ _ hC)
      (objNe_K (A := A.in1) hu X I he hf (wpAny_mono h (fun v s' hv => ?_) fun _ _ e => e))))))
  obtain ⟨k, rfl, hq⟩ := hv
  first | exact ⟨k, rfl, wpAny_pure hq⟩ | exact ⟨k, rfl, wpAny_pure (wpAny_pure hq)⟩ | exact ⟨k, rfl, hq⟩
theorem ne_K {Q : Value → Shared → Prop} (hu : A.units + 1 < cLine) (F : Fr h₀ L s.heap m) (X₀ : K.In h₀) (I : InstAt s.heap x ox C od) (hb : Looks (model prog w) s.heap (typeOf b) (.ref C))
    (hs : findIn K (.ref C) "__ne__" = some (some (.builtin "object.__ne__"))) (he : findIn K (.ref C) "__eq__" = some (some (.ref f))) (hf : isFn K (.ref f) = true)
    (hC : K.lookup C = some (excClassObj nm q C N bs bm hdct sn sub ab col dd k0 k1 k2 k3 k5 newId)) (hob : bm.contains (.type "object") = true)
    (h : wpAny (model prog w) A.in1 (call (.ref f) [.ref x, b]) (fun v s' => ∃ k, v = .bool k ∧ Q (.bool (!k)) s') E s) : wpAny (model prog w) A (richCompare .NotEq (.ref x) b) Q E s := by
  have X := X₀.keeps F.keep
  unfold richCompare
  simp only [oneThing_ref]
  refine wpAny_holding (wpAny_bind (wpAny_cRoomFor (Nat.lt_of_succ_lt hu) ?_))
  rw [cmpInfo_NotEq]
  dsimp only
  refine wpAny_bind (I.type.here (wpAny_bind (hb.here ?_)))
  rw [show (Value.ref C != Value.ref C) = false from by simp]
  simp only [Bool.false_eq_true, if_false]
  refine wpAny_bind (wpAny_pure ?_)
  simp only [Bool.false_eq_true, if_false]
  refine wpAny_bind (try_ne_K hu X I hs he hf hC hob (wpAny_mono h (fun v s' hv => ?_) fun _ _ e => e))
  obtain ⟨b, rfl, hq⟩ := hv
  first | exact ⟨b, rfl, wpAny_pure hq⟩ | exact ⟨b, rfl, wpAny_pure (wpAny_pure hq)⟩
end
section
variable {X : Cx} {CX : CXT} {n : Nat} {f C : Addr} {fd : FuncData} {ps : List Str} {sp : Sp} {E : XK} {A : Around} {pins : List (Addr × Obj)} {σ : L2.St} {H : Hp} {s : Shared}
  {nm q : Str} {N : Addr} {bs bm : List Value} {hdct : Bool} {sn : List Str} {sub : List Value} {ab : Bool} {col : Option Bool} {dd : Option Addr} {k0 k1 k2 k3 k5 : Option Value} {newId : String}
/-- a != b by an own __eq__ that gives a bool -/
def rNeOwn (C : Addr) (sp : Sp) (E : XK) : R2 := fun x y H Q => ∃ a b dx dy fs gs, x = .ref a ∧ y = .ref b ∧ H a = some (.ins C dx fs) ∧ H b = some (.ins C dy gs) ∧
  sp [.ref a, .ref b] H (fun v H' => ∃ k, v = .bl k ∧ Q (.bl (!k)) H') E
theorem op_neOwn (F : FnOk X.prog X.w X.K X.mg X.base CX n f fd ps sp) (hr : Room (n + 1) X.A) (hs : PySem.W.findIn X.K (.ref C) "__ne__" = some (some (.builtin "object.__ne__"))) (he : PySem.W.findIn X.K (.ref C) "__eq__" = some (some (.ref f))) (hf : PySem.W.isFn X.K (.ref f) = true)
    (hC : X.K.lookup C = some (excClassObj nm q C N bs bm hdct sn sub ab col dd k0 k1 k2 k3 k5 newId)) (hob : bm.contains (.type "object") = true)
    (hb : Binds X.K fd ps []) (hx : Passes CX X E) : OpR X (compareOp .NotEq) (rNeOwn C sp E) := by
  intro pins s σ H x y v u Q I rx ry hq
  obtain ⟨a, b, dx, dy, fs, gs, rfl, rfl, ha, hb', hsp⟩ := hq
  cases rx
  cases ry
  obtain ⟨mA, J, _⟩ := ins_get I.hok ha
  obtain ⟨mB, J', _⟩ := ins_get I.hok hb'
  obtain ⟨od, J, _⟩ := J.look
  obtain ⟨od', J', _⟩ := J'.look
  obtain ⟨m, hF⟩ := I.fr
  show wpAny (model X.prog X.w) X.A (richCompare .NotEq (.ref a) (.ref b)) (EP X pins σ Q) X.xe s
  refine ne_K (by have := hr.units; omega) hF I.ok.mod.kin J J'.type hs he hf hC hob ?_
  refine wpAny_mono (run_at (vs := [.ref a, .ref b]) ⟨hr.in1, rfl⟩ F hb hx I (.cons rfl (.cons rfl .nil)) hsp) (fun u s' q => ?_) fun _ _ x => x
  obtain ⟨v, H', I', rv, k, rfl, q⟩ := q
  cases rv
  exact ⟨k, rfl, .bl (!k), H', I', rfl, q⟩

/-- o[i] by an own __getitem__ -/
def rIxOwn (C : Addr) (sp : Sp) (E : XK) : R2 := fun x y H Q => ∃ a dx fs, x = .ref a ∧ H a = some (.ins C dx fs) ∧ sp [.ref a, y] H Q E
theorem pe_ixOwn {a b : Expr} {ta tb : TE} {pos : Pos} (F : FnOk X.prog X.w X.K X.mg X.base CX n f fd ps sp) (hr : Room (n + 1) X.A) (hs : PySem.W.findIn X.K (.ref C) "__getitem__" = some (some (.ref f))) (hfn : PySem.W.fnIn X.K f = true) (hf : PySem.W.isFn X.K (.ref f) = true)
    (hb : Binds X.K fd ps []) (hx : Passes CX X E) (ha : PE X a ta) (hbb : PE X b tb)
    (hsl : ∀ x i, subscripted b true (.ref x) i = runValue (.builtin "lifetime.subscript" ⟨[.ref x, i], []⟩) := by intro _ _; rfl) : PE X (.Subscript a b pos) (tOp (rIxOwn C sp E) ta tb) := by
  refine ⟨fun pins s σ H Q I h => ?_⟩
  refine Subscript_ (binT ha hbb I h fun v u s2 x y H2 I2 rx ry q => ?_)
  obtain ⟨p, dx, fs, rfl, hp, hsp⟩ := q
  cases rx
  obtain ⟨mA, J, _⟩ := ins_get I2.hok hp
  obtain ⟨od, J, _⟩ := J.look
  obtain ⟨m, hF⟩ := I2.fr
  exact PySem.W.sub_K hF I2.ok.mod.kin J hs hfn hf (run_at (vs := [.ref p, y]) ⟨hr.in1, rfl⟩ F hb hx I2 (.cons rfl (.cons ry .nil)) hsp) (hsl _ _)

/-- all or some of a list or tuple of ints; sum of a tuple of ints -/
theorem PI.or {tg it : Expr} {w1 w2 : TI} (h1 : PI X tg it w1) (h2 : PI X tg it w2) : PI X tg it (fun σ H R => w1 σ H R ∨ w2 σ H R) :=
  ⟨fun pins s σ H R I h => h.elim (h1.run pins s σ H R I) (h2.run pins s σ H R I)⟩
end
end BK
namespace BK
open PySem PySem.Spec PyProof.Rows L2 RZ
section
variable {prog : Program} {w : World} {A : Around} {E : Value → Shared → Prop} {s : Shared} {l : Addr} {xs : Array (Int × Tok)} {its : List Value} {ns : List Int}
theorem sumT_raw {Q : Value → Shared → Prop} (hh : A.handled = none) (hl : s.heap.IsTuple l its.toArray) (hi : IntsAre its ns)
    (h : ∀ h' tk t', (∀ b o, s.heap.get? b = some o → h'.get? b = some o) → Q (.int ns.sum t') { s with heap := h', toks := tk }) : wpAny (model prog w) A (call (.builtin "sum") [.ref l]) Q E s := by
  obtain ⟨xs, e⟩ := hi.allInts.items
  have hn : numsOf (intItems xs).toList = ns := by rw [← e]; exact hi.numsOf
  rw [nums_intItems] at hn
  rw [e] at hl
  have hlt : l < s.heap.objs.size := by obtain ⟨_, e, _⟩ := hl; exact Heap.lt_size e
  refine call_sum_walkG (wpAny_pyIter_tuple hl ⟨_, _, _, _, _, _, numAt xs, rfl, Walks.tuple (A := A.in1) hh _ l (Nat.ne_of_lt hlt) (intItems xs), ⟨⟨_, Heap.get?_push_size _ rfl, rfl, rfl⟩, hl.push _⟩, (fun b hb => ?_), (fun _ _ => intItems_at), fun h' tk t' hk => ?_⟩)
  · show b < (s.heap.push _).objs.size
    rw [Heap.size_push]
    rcases List.mem_cons.mp hb with rfl | hb
    · exact Nat.lt_succ_self _
    · rcases List.mem_cons.mp hb with rfl | hb
      · exact Nat.lt_succ_of_lt hlt
      · cases hb
  · have := h h' tk t' fun b o q => hk b o (fun hm => by
      rcases List.mem_cons.mp hm with e1 | hm
      · exact absurd (e1 ▸ Heap.lt_size q) (Nat.lt_irrefl _)
      · cases hm) (Heap.get?_push_of_some _ q)
    rw [preSum_eq, List.take_of_length_le (by simp [intItems]), hn]
    exact this
set_option maxHeartbeats 8000000 in
theorem meets_enumerate_newT (l : Addr) (items : Array Value) :
    Meets (Builtin.«enumerate.__new__» ⟨[.type "enumerate", .ref l], []⟩) (fun _ R s => s.heap.IsTuple l items ∧
      R (.ok (.ret (.ref (s.heap.push { cls := .type "tuple_iterator", data := .fields #[.ref l, .int 0 0] }).objs.size)))
        { s with heap := (s.heap.push { cls := .type "tuple_iterator", data := .fields #[.ref l, .int 0 0] }).push { cls := .type "enumerate", data := .fields #[.none, .bool false, .ref s.heap.objs.size, rawInt 0, .none, .none] } }) :=
  .of_wp fun prog w A R s h => by
    obtain ⟨hp, g, d, tk, os⟩ := s; obtain ⟨hl, h⟩ := h
    have hsub := sub_enumerate
    have q1 : ∀ {A' : Around} {E : Value → Shared → Prop} {Q : Value → Shared → Prop}, Q (.ref hp.objs.size) ⟨hp.push { cls := .type "tuple_iterator", data := .fields #[.ref l, .int 0 0] }, g, d, tk, os⟩ → wpAny (model prog w) A' (pyIter (.ref l)) Q E ⟨hp, g, d, tk, os⟩ :=
      fun q => wpAny_pyIter_tuple (s := ⟨hp, g, d, tk, os⟩) hl q
    wp_walk using q1
    refine wpAny_stack_any fun st => wpAny_pure ?_
    split
    · rename_i c _ _ _ _ _
      cases (c == Value.type "enumerate")
      · wp_walk using q1
        exact ⟨_, rfl, h⟩
      · wp_walk using q1
        exact ⟨_, rfl, h⟩
    · wp_walk using q1
      exact ⟨_, rfl, h⟩
theorem call_enumerate_tuple {items : Array Value} {Q : Value → Shared → Prop} (hL : s.heap.IsTuple l items)
    (h : ∀ h', IsEnum h' (s.heap.objs.size + 1) s.heap.objs.size 0 .none → h'.IsTupleIter s.heap.objs.size l 0 → h'.objs.size = s.heap.objs.size + 2 →
      (∀ b o, s.heap.get? b = some o → h'.get? b = some o) → Q (.ref (s.heap.objs.size + 1)) { s with heap := h' }) :
    wpAny (model prog w) A (call (.type "enumerate") [.ref l]) Q E s := by
  refine callType_new F.called_enumerate (by decide) (F.typeCall_enumerate_1 _) (F.newCall_enumerate_1 _) (fun obj => F.args_object_init_2 obj _) F.entry_enumerate_new
    (meets_enumerate_newT l items) ⟨hL, ?_⟩
  have hz : (s.heap.push { cls := .type "tuple_iterator", data := .fields #[.ref l, .int 0 0] }).objs.size = s.heap.objs.size + 1 := Heap.size_push ..
  show _ ∧ _
  rw [hz]
  have he : IsEnum ((s.heap.push { cls := .type "tuple_iterator", data := .fields #[.ref l, .int 0 0] }).push
      { cls := .type "enumerate", data := .fields #[.none, .bool false, .ref s.heap.objs.size, rawInt 0, .none, .none] }) (s.heap.objs.size + 1) s.heap.objs.size 0 .none := by
    have := Heap.get?_push_size (s.heap.push { cls := .type "tuple_iterator", data := .fields #[.ref l, .int 0 0] })
      (o := { cls := .type "enumerate", data := .fields #[.none, .bool false, .ref s.heap.objs.size, rawInt 0, .none, .none] }) rfl
    rw [hz] at this; exact this
  refine ⟨⟨_, he, rfl⟩, h _ he ⟨_, Heap.get?_push_of_some _ (Heap.get?_push_size _ rfl), rfl, rfl⟩ (by rw [Heap.size_push, hz]) fun b o x => Heap.get?_push_of_some _ (Heap.get?_push_of_some _ x)⟩
theorem enumT_end {e it l : Addr} {i : Nat} {items : Array Value} {old : Value} {Q : Option Value → Shared → Prop} (hh : A.handled = none)
    (he : IsEnum s.heap e it i old) (hit : s.heap.IsTupleIter it l i) (hl : s.heap.IsTuple l items) (hx : items[i]? = none)
    (hQ : ∀ h', Heap.ExtBut it s.heap h' → Q none { s with heap := h' }) : wpAny (model prog w) A (pyNext (.ref e)) Q E s := by
  have hT : s.TypeIs (.ref e) "enumerate" := ⟨_, he, rfl⟩
  unfold pyNext
  refine wpAny_bind (wpAny_attempt (wpAny_callSpecial?_slot (name := Str.ofString "__next__") hT F.slot_enumerate_next
    (wpAny_call_entry F.slot_enumerate_next hT F.entry_enumerate_next ?_ (F.args_enumerate_next_1 _))))
  show wpAny _ _ (PySem.field (.ref e) 2 >>= _) _ _ _
  refine wpAny_bind (wpAny_field he rfl (x := .ref it) rfl ?_)
  refine wpAny_bind (wpAny_nextOf_tuple_end hh hit hl hx fun h' x he' hx' => ?_)
  obtain ⟨o, ho, hc⟩ := hx'
  refine wpAny_bind (wpAny_isInstance (T := "StopIteration") (b := true) ⟨o, ho, hc⟩ isSubtype_stop ?_)
  exact wpAny_pure (hQ _ he')
end
section
variable {X : Cx}
/-- sum(t) of a tuple of ints -/
def rSumT (K : PySem.W.Frag) : List V → Hp → VK → Prop := fun vs H Q => ∃ (a : Addr) (ns : List Int), vs = [V.ref a] ∧ SqT K H a (ns.map V.int) ∧ Q (.int ns.sum) H
theorem cr_sumT (hc : X.calm = true) : CallR X (.builtin "sum") (rSumT X.K) := by
  intro pins s σ H vs us Q I r h
  obtain ⟨a, ns, rfl, hs, q⟩ := h
  obtain ⟨its, rv, hl, _⟩ := I.tuple hs
  rw [Vals.ref1 r]
  exact sumT_raw (I.ok.hd hc) (show s.heap.IsTuple a its.toArray from hl) rv.ints fun h' tk t' hk => ⟨.int _, H, I.kept hk, ⟨_, rfl⟩, q⟩
/-- enumerate(tuple) -/
def IteT (K : PySem.W.Frag) (a : Addr) : It :=
  ⟨fun i H => ∃ (xs : List V) (x : V), SqT K H a xs ∧ xs[i]? = some x, fun i H v H' => ∃ T x, v = .ref T ∧ H T = none ∧ H' = upd H T (.tup [.int (i : Nat), x]) ∧ ∀ xs, SqT K H a xs → xs[i]? = some x, fun i H => ∃ xs : List V, SqT K H a xs ∧ xs.length ≤ i⟩
theorem turn_enumT {P : Program} {w : World} {K : PySem.W.Frag} {elts : List Expr} {kk : Nat} {tpos : Pos} (a e it : Addr) :
    Turn P w K (.Tuple elts kk tpos) (IteT K a) [e, it] e (fun i h => (∃ old, IsEnum h e it ((i : Nat) : Int) old) ∧ h.IsTupleIter it a i ∧ e ≠ it ∧ a ≠ it ∧ a ≠ e) where
  mem := by simp
  obj := fun i h st b hb => by
    obtain ⟨⟨old, he⟩, ⟨o, ho, hc, hd⟩, _⟩ := st
    have e' : b = e ∨ b = it := by simpa using hb
    rcases e' with z | z
    · rw [z]; exact ⟨_, he, fun v q => nomatch q⟩
    · rw [z]; exact ⟨o, ho, fun v q => by rw [hd] at q; cases q⟩
  keep := fun i h h' st k => let ⟨⟨old, he⟩, hi, hne⟩ := st; ⟨⟨old, k e (by simp) _ he⟩, hi.at fun o q => k it (by simp) o q, hne⟩
  item := by
    intro X hP hw hK hc i pins s σ H E I hf st hg
    subst hP hw hK
    obtain ⟨⟨old, he⟩, hit, hne, hai, hae⟩ := st
    obtain ⟨xs, x, hq, hx⟩ := hg
    obtain ⟨its, rv, p, hz⟩ := I.tuple hq
    obtain ⟨u, hu, ru⟩ := rv.get hx
    have hel : e < s.heap.objs.size := Heap.lt_size he
    have hil : it < s.heap.objs.size := by obtain ⟨_, q, _⟩ := hit; exact Heap.lt_size q
    have hlt : i < its.toArray.size := by
      have := (List.getElem?_eq_some_iff.mp hu).1
      simpa using this
    have p' : s.heap.IsTuple a its.toArray := p
    refine wpAny_pyNext_enum_itemC (n := its.toArray.size) (fp := [it, a]) (Draws.tuple (prog := X.prog) (w := X.w) (A := X.A.in1) (I.ok.hd hc) it a hai its.toArray) he ⟨hit, p'⟩ hlt hne (by simp [hne, Ne.symm hae]) fun u' h' tk hu' ho hit' hT hsz hk => ?_
    have eu : u' = u := by
      have h1 : its[i]? = some u' := by simpa using hu'
      rw [hu] at h1
      exact (Option.some.inj h1).symm
    subst eu
    refine ⟨_, rfl, wpAny_letOwnedTupleGo_enum (s := { s with heap := h', toks := tk + 1 }) ho fun h'' he' sb => ?_⟩
    have hT2 : h''.get? s.heap.objs.size = some { cls := .type "tuple", data := .seq #[.int i tk, u'] } := (sb.2 _ (Nat.ne_of_gt hel)).trans hT
    have new : ObjOk X.prog X.w (upd H s.heap.objs.size (.tup [.int (i : Nat), x])) h'' s.heap.objs.size (.tup [.int (i : Nat), x]) :=
      ⟨by show 2 ≤ sizeLine; decide, [.int i tk, u'], .cons ⟨_, rfl⟩ (.cons ru .nil), ⟨_, hT2, rfl, _, rfl⟩⟩
    have I1 : Inv X pins σ (upd H s.heap.objs.size (.tup [.int (i : Nat), x])) { s with heap := h'', toks := tk + 1 } :=
      I.turnedNew (ch := [e, it]) (fun b ob hb q => (sb.2 b (fun z => hb (by simp [z]))).trans (hk b ob (fun z => hb (by simp [z])) (fun z => hb (by simp [z])) q)) hf (Nat.le_refl _) new
    refine ⟨.ref s.heap.objs.size, _, I1, rfl, ⟨_, x, rfl, I.hok.fresh (Nat.le_refl _), rfl, fun ys hy => by rw [I.tuple_inj hy hq]; exact hx⟩, ⟨⟨u', ?_⟩, hit'.1.at fun o q => (sb.2 it (Ne.symm hne)).trans q, hne, hai, hae⟩, fun b hb => ?_⟩
    · have e1 : ((i + 1 : Nat) : Int) = (i : Int) + 1 := by omega
      rw [e1]; exact he'
    · have hb' : b < s.heap.objs.size := by
        have e' : b = e ∨ b = it := by simpa using hb
        rcases e' with z | z
        · rw [z]; exact hel
        · rw [z]; exact hil
      rw [upd_ne (Nat.ne_of_lt hb')]
      exact (hf b hb).1
  done := by
    intro X hP hw hK hc i pins s σ H E I hf st hg
    subst hP hw hK
    obtain ⟨⟨old, he⟩, hit, hne, hai, hae⟩ := st
    obtain ⟨xs, hq, hx⟩ := hg
    obtain ⟨its, rv, p, hz⟩ := I.tuple hq
    obtain ⟨f0, f1, f2, f3, f4, f5⟩ := hf it (by simp)
    have hl := rv.length
    have hx' : its.toArray[i]? = none := by simp; omega
    exact enumT_end (I.ok.hd hc) he hit (show s.heap.IsTuple a its.toArray from p) hx' fun h' eb => ⟨rfl, I.turned (t' := s.toks) (fun b o hb q => eb b o hb q) f0 f1 f3 f4 f5⟩
  self := fun A i s Q E st h => let ⟨⟨_, he⟩, _⟩ := st; wpAny_pyIter_enum he h
def iEnumT (K : PySem.W.Frag) (ta : TA) : TI := fun σ H R => ta σ H fun vs H1 => ∃ a xs, vs = [.ref a] ∧ SqT K H1 a xs ∧ R (IteT K a) H1
theorem pi_enumT {X : Cx} {e : Expr} {ta : TA} {p pos tpos : Pos} {elts : List Expr} {kk : Nat} (hg : Gl X "enumerate") (hm : X.mg "enumerate" = none) (ha : PA X [e] ta) (hs : starEach [e] X.env = [(false, eval e X.env)] := by rfl) :
    PI X (.Tuple elts kk tpos) (.Call (.Name "enumerate" p) [e] [] pos) (iEnumT X.K ta) := by
  refine ⟨fun pins s σ H R I h => ?_⟩
  refine Call_ (ld_blt I hg hm boot_enumerate (PyProof.Rows.callWith_type1 (thn (ha.run pos pins s σ H _ I h) fun us s1 ⟨vs, H1, I1, r1, q1⟩ => ?_) hs rfl))
  obtain ⟨a, xs, ex, hq, q⟩ := q1
  subst ex
  cases r1 with
  | cons r rr =>
    cases rr
    cases r
    obtain ⟨its, rv, p', hz⟩ := I1.tuple hq
    have p2 : s1.heap.IsTuple a its.toArray := p'
    have hlt : a < s1.heap.objs.size := by obtain ⟨_, q, _⟩ := id p2; exact Heap.lt_size q
    refine call_enumerate_tuple p2 fun h' he hit hsz hk => wpAny_pyIter_enum he ?_
    have I2 : Inv X pins σ H1 { s1 with heap := h' } := I1.kept (t' := s1.toks) hk
    refine ⟨s1.heap.objs.size + 1, [s1.heap.objs.size + 1, s1.heap.objs.size], _, _, H1, rfl, I2, turn_enumT a (s1.heap.objs.size + 1) s1.heap.objs.size, ⟨⟨.none, he⟩, hit, Nat.succ_ne_self _, Nat.ne_of_lt hlt, Nat.ne_of_lt (Nat.lt_succ_of_lt hlt)⟩, fun b hb => ?_, q⟩
    have e' : b = s1.heap.objs.size + 1 ∨ b = s1.heap.objs.size := by simpa using hb
    have hle : s1.heap.objs.size ≤ b := by
      rcases e' with z | z
      · rw [z]; exact Nat.le_add_right _ _
      · rw [z]; exact Nat.le_refl _
    exact I1.fpOk hle (I1.hok.fresh hle)
theorem walk_enumT {K : PySem.W.Frag} {a : Addr} {xs : List V} : Walk (IteT K a) xs.length (fun H => SqT K H a xs) (YPair (fun i => some (.int (i : Nat))) (fun i => xs[i]?)) := by
  refine ⟨fun i _ hi q => ⟨xs, xs[i], q, by simp [hi]⟩, fun _ q => ⟨xs, q, Nat.le_refl _⟩, fun i H v H' _ q y => ?_⟩
  obtain ⟨T, x, h1, h2, h3, h4⟩ := y
  exact ⟨T, .int (i : Nat), x, h1, h2, h3, rfl, h4 xs q⟩
theorem walk_zipT {K : PySem.W.Frag} {a b : Addr} {xs ys : List V} {n : Nat} (hn : n = min xs.length ys.length) : Walk (ItzT K a b) n (fun H => SqT K H a xs ∧ SqT K H b ys) (YPair (fun i => xs[i]?) (fun i => ys[i]?)) := by
  subst hn
  refine ⟨fun i _ hi q => ?_, fun _ q => ⟨xs, ys, q.1, q.2, by omega⟩, fun i H v H' _ q y => ?_⟩
  · have h1 : i < xs.length := by omega
    have h2 : i < ys.length := by omega
    exact ⟨xs, ys, xs[i], ys[i], q.1, q.2, by simp [h1], by simp [h2]⟩
  · obtain ⟨T, x, z, h1, h2, h3, h4, h5⟩ := y
    exact ⟨T, x, z, h1, h2, h3, h4 xs q.1, h5 ys q.2⟩
end
end BK
namespace K1
open PySem PySem.Spec PyProof.Rows L2 BK
def topS (i : Nat) : Stmt := PySem.Challenge.pw_bucketsums_k01_whole_columns.main.body.getD i (.Pass ⟨0, 0, 0, 0⟩)
abbrev sWhole : Stmt := topS 8
abbrev sBetween : Stmt := topS 9
abbrev sAre : Stmt := topS 10
abbrev sRange : Stmt := topS 11
/-! what the promises say of -/
def inB (lo hi i : Int) : Bool := decide (lo ≤ i ∧ i ≤ hi)
def Sq (H : Hp) (a : Addr) (ns : List Int) : Prop := H a = some (.lst (ns.map V.int)) ∨ H a = some (.tup (ns.map V.int))
theorem sqL {K : PySem.W.Frag} {H : Hp} {a : Addr} {xs : List V} (h : H a = some (.lst xs)) : SqL K H a xs := .inl (.inl h)
theorem sqT {K : PySem.W.Frag} {H : Hp} {a : Addr} {xs : List V} (h : H a = some (.tup xs)) : SqT K H a xs := .inl (.inl h)
def spWhole : Sp := fun vs H Q _ => ∃ i, vs = [.int i] ∧ Q (.bl true) H
def spBetween : Sp := fun vs H Q _ => ∃ i lo hi, vs = [.int i, .int lo, .int hi] ∧ Q (.bl (inB lo hi i)) H
def spAre : Sp := fun vs H Q _ => ∃ a ns lo hi, vs = [.ref a, .int lo, .int hi] ∧ Sq H a ns ∧ ns.length ≤ 1000 ∧ ∀ H', Same H H' → Q (.bl (ns.all (inB lo hi))) H'
def spRange : Sp := fun vs H Q _ => ∃ f p w, vs = [.int f, .int p, .int w] ∧ 0 ≤ f ∧ f < p ∧ p ≤ w ∧ Q .non H
theorem same_upd {H : Hp} {p : Addr} {o : HO} (h : H p = none) : Same H (upd H p o) := fun b x e => by
  rw [upd_ne (ne_of_none e h)]
  exact e
theorem Same.seqT {K : PySem.W.Frag} {H H' : Hp} {a : Addr} {xs : List V} (e : Same H H') (h : SqT K H a xs) : SqT K H' a xs := SqT.ext h e
theorem Same.sq {H H' : Hp} {a : Addr} {ns : List Int} (e : Same H H') (h : Sq H a ns) : Sq H' a ns := h.imp (fun h => e _ _ h) fun h => e _ _ h
theorem same_set {H H1 : Hp} {D : Addr} {o : HO} (nD : H D = none) (s : Same H H1) : Same H (upd H1 D o) := fun b x e => by
  rw [upd_ne (ne_of_none e nD)]
  exact s b x e
section
variable {P : Program} {w : World} {K : PySem.W.Frag} {mg : Str → Option Value} {base : Heap}
theorem scWhole : FnScope ["item"] ["item"] (defScope sWhole) := ⟨rfl, rfl, rfl, by decide +kernel, rfl, by decide +kernel, by decide +kernel⟩
theorem ok_whole {f : Addr} {fd : FuncData} (F : Fun K "is_whole" "is_whole" sWhole f fd) (mi : mg "isinstance" = none) (mt : mg "int" = none) (mb : mg "bool" = none) : FnOk P w K mg base CX0 1 f fd ["item"] spWhole := by
  refine F.ok scWhole (fun vs H Q E h => ?_) (fun cdv A outer s H vs Q E hr h => ?_)
  · obtain ⟨i, rfl, _⟩ := h
    rfl
  · obtain ⟨i, rfl, q⟩ := h
    refine ⟨_, pss_one (ps_ret (pe_and (pe_callB call_isi (by rfl) mi (by decide +kernel) (pa_cons (pv 0) (pa_cons (pe_bltn (v := .ty "int") (by rfl) mt (by decide +kernel) rfl) pa_nil)))
      (pe_one (pe_not (pe_callB call_isi (by rfl) mi (by decide +kernel) (pa_cons (pv 0) (pa_cons (pe_bltn (v := .ty "bool") (by rfl) mb (by decide +kernel) rfl) pa_nil))))))), ?_⟩
    refine ⟨_, rfl, _, _, _, _, true, rfl, .ty _, .base (.int i), kit_ty (by decide +kernel), true, rfl, iteT ?_⟩
    exact ⟨_, rfl, _, _, _, _, false, rfl, .ty _, .base (.int i), kit_ty (by decide +kernel), false, rfl, q⟩
/-- the shared checks, as the top has written them -/
structure Chk (K : PySem.W.Frag) (mg : Str → Option Value) (fW fB fA fR : Addr) (dW dB dA dR : FuncData) : Prop where
  isi : mg "isinstance" = none
  int : mg "int" = none
  bool : mg "bool" = none
  all : mg "all" = none
  W : Fun K "is_whole" "is_whole" sWhole fW dW
  B : Fun K "is_between" "is_between" sBetween fB dB
  A : Fun K "are_between" "are_between" sAre fA dA
  R : Fun K "check_range" "check_range" sRange fR dR
  gW : mg "is_whole" = some (.ref fW)
  gB : mg "is_between" = some (.ref fB)
  gA : mg "are_between" = some (.ref fA)
  gR : mg "check_range" = some (.ref fR)
  bW : Binds K dW ["item"] []
  bB : Binds K dB ["item", "least", "most"] []
  bA : Binds K dA ["items", "least", "most"] []
  bR : Binds K dR ["first", "past", "width"] []
theorem scBetween : FnScope ["item", "least", "most"] ["item", "least", "most"] (defScope sBetween) := ⟨rfl, rfl, rfl, by decide +kernel, rfl, by decide +kernel, by decide +kernel⟩
variable {fW fB fA fR : Addr} {dW dB dA dR : FuncData}
theorem Chk.whole (C : Chk K mg fW fB fA fR dW dB dA dR) : FnOk P w K mg base CX0 1 fW dW ["item"] spWhole := ok_whole C.W C.isi C.int C.bool
theorem ok_between (C : Chk K mg fW fB fA fR dW dB dA dR) : FnOk P w K mg base CX0 2 fB dB ["item", "least", "most"] spBetween := by
  have GW : FnOk P w K mg base CX0 1 fW dW ["item"] spWhole := C.whole
  refine C.B.ok scBetween (fun vs H Q E h => ?_) (fun cdv A outer s H vs Q E hr h => ?_)
  · obtain ⟨i, lo, hi, rfl, _⟩ := h
    rfl
  · obtain ⟨i, lo, hi, rfl, q⟩ := h
    refine ⟨_, pss_one (ps_ret (pe_and (pe_call GW hr (by rfl) C.gW C.W.kp C.bW .nil pass0 (pa_cons (pv 0) pa_nil))
      (pe_one (pe_chain op_le op_le (pv 1) (pv 0) (pv 2))))), ?_⟩
    refine ⟨_, rfl, i, rfl, true, rfl, iteT ?_⟩
    refine ⟨_, rfl, _, rfl, _, _, rfl, rfl, _, rfl, ?_⟩
    by_cases h1 : lo ≤ i
    · rw [decide_eq_true h1]
      refine iteT ⟨_, rfl, _, _, rfl, rfl, ?_⟩
      have e : inB lo hi i = decide (i ≤ hi) := by unfold inB; simp [h1]
      rw [e] at q
      exact q
    · rw [decide_eq_false h1]
      refine iteF ?_
      have e : inB lo hi i = false := by unfold inB; simp [h1]
      rw [e] at q
      exact q
theorem scAre : FnScope ["items", "least", "most", "item"] ["items", "least", "most"] (defScope sAre) := ⟨rfl, rfl, rfl, by decide +kernel, rfl, by decide +kernel, by decide +kernel⟩
theorem ok_are (C : Chk K mg fW fB fA fR dW dB dA dR) : FnOk P w K mg base CX0 3 fA dA ["items", "least", "most"] spAre := by
  have GB : FnOk P w K mg base CX0 2 fB dB ["item", "least", "most"] spBetween := ok_between C
  refine C.A.ok scAre (fun vs H Q E h => ?_) (fun cdv A outer s H vs Q E hr h => ?_)
  · obtain ⟨a, ns, lo, hi, rfl, _⟩ := h
    rfl
  · obtain ⟨a, ns, lo, hi, rfl, hS, hl, q⟩ := h
    refine ⟨_, pss_one (ps_ret (pe_callB (cr_all rfl) (by rfl) C.all (by decide +kernel) (pa_cons
      (pe_lc (own := [("item", 3)]) (g := gName 3) (tt := tYes) rfl scAre.nd (PI.or (pi_list (pv 0)) (pi_tup (pv 0))) (blkOk_by (N := ["items", "least", "most", "item"]) (sc := defScope sAre) (by decide +kernel))
        (fun _ _ _ _ _ => pg_name (i := 3) scAre.nd rfl (Or.inl rfl)) (fun _ _ _ _ _ => pts_nil)
        (fun _ _ _ _ _ => pe_call GB hr (by rfl) C.gB C.B.kp C.bB .nil pass0 (pa_cons (pv 3) (pa_cons (pv 1) (pa_cons (pv 2) pa_nil))))) pa_nil))), ?_⟩
    have turn : ∀ (D : Addr) (nD : H D = none) (i : Nat) (x : V) (H1 : Hp), (ns.map V.int)[i]? = some x → (Same H H1 ∧ H1 D = some (.lst ((ns.take i).map fun j => V.bl (inB lo hi j)))) → ∃ j, x = .int j ∧ ns[i]? = some j ∧ (ns.take (i + 1)) = ns.take i ++ [j] := by
      intro D nD i x H1 hx _
      rw [List.getElem?_map] at hx
      cases e : ns[i]? with
      | none => rw [e] at hx; cases hx
      | some j =>
        rw [e] at hx
        refine ⟨j, (Option.some.inj hx).symm, rfl, ?_⟩
        rw [List.take_succ, e]
        rfl
    have fin : ∀ (D : Addr) (H1 : Hp), H D = none → (Same H H1 ∧ H1 D = some (.lst ((ns.take (ns.map V.int).length).map fun j => V.bl (inB lo hi j)))) → rAll K [.ref D] H1 Q := by
      intro D H1 nD ⟨sm, e⟩
      rw [List.length_map, List.take_length] at e
      refine ⟨D, ns.map (inB lo hi), rfl, .inl (.inl ?_), ?_⟩
      · rw [e, List.map_map]
        rfl
      · have e2 : (ns.map (inB lo hi)).all id = ns.all (inB lo hi) := by simp [List.all_map]
        rw [e2]
        exact q H1 sm
    rcases hS with hS | hS
    · have hS := sqL (K := K) hS
      refine .inl ⟨_, rfl, a, rfl, ⟨_, hS⟩, fun D nD => lc_list (K := K) (a := a) (xs := ns.map V.int) (fun i H1 => Same H H1 ∧ H1 D = some (.lst ((ns.take i).map fun j => V.bl (inB lo hi j)))) ⟨same_upd nD, by rw [upd_same]; rfl⟩ (fun i H1 _ h => h.1.seq hS) (fun i x H1 hx h => ?_) (fun H1 h => fin D H1 nD h)⟩
      obtain ⟨j, rfl, hj, ht⟩ := turn D nD i x H1 hx h
      exact ⟨rfl, _, rfl, _, rfl, _, rfl, j, lo, hi, rfl, _, h.2, by rw [List.length_map, List.length_take]; exact small1000 (by omega), same_set nD h.1, by rw [upd_same, ht, List.map_append]; rfl⟩
    · have hS := sqT (K := K) hS
      refine .inr ⟨_, rfl, a, rfl, ⟨_, hS⟩, fun D nD => lc_tup (K := K) (a := a) (xs := ns.map V.int) (fun i H1 => Same H H1 ∧ H1 D = some (.lst ((ns.take i).map fun j => V.bl (inB lo hi j)))) ⟨same_upd nD, by rw [upd_same]; rfl⟩ (fun i H1 _ h => Same.seqT h.1 hS) (fun i x H1 hx h => ?_) (fun H1 h => fin D H1 nD h)⟩
      obtain ⟨j, rfl, hj, ht⟩ := turn D nD i x H1 hx h
      exact ⟨rfl, _, rfl, _, rfl, _, rfl, j, lo, hi, rfl, _, h.2, by rw [List.length_map, List.length_take]; exact small1000 (by omega), same_set nD h.1, by rw [upd_same, ht, List.map_append]; rfl⟩
theorem scRange : FnScope ["first", "past", "width"] ["first", "past", "width"] (defScope sRange) := ⟨rfl, rfl, rfl, by decide +kernel, rfl, by decide +kernel, by decide +kernel⟩
theorem ok_range (C : Chk K mg fW fB fA fR dW dB dA dR) : FnOk P w K mg base CX0 3 fR dR ["first", "past", "width"] spRange := by
  have GB : FnOk P w K mg base CX0 2 fB dB ["item", "least", "most"] spBetween := ok_between C
  refine C.R.ok scRange (fun vs H Q E h => ?_) (fun cdv A outer s H vs Q E hr h => ?_)
  · obtain ⟨a, b, c, rfl, _⟩ := h
    rfl
  · obtain ⟨a, b, c, rfl, h1, h2, h3, q⟩ := h
    refine ⟨_, pss_one (ps_if (PW.pt (pw_or (pt_not (pt_val (pe_call GB hr (by rfl) C.gB C.B.kp C.bB .nil pass0 (pa_cons (pv 0) (pa_cons pe_int (pa_cons (pe_op op_sub (pv 2) pe_int) pa_nil))))))
      (pw_or1 (pt_not (pt_val (pe_call GB hr (by rfl) C.gB C.B.kp C.bB .nil pass0 (pa_cons (pv 1) (pa_cons (pe_op op_add (pv 0) pe_int) (pa_cons (pv 2) pa_nil))))))))) (pss_one ps_never) pss_nil), ?_⟩
    have e1 : inB 0 (c - 1) a = true := by unfold inB; simp; omega
    have e2 : inB (a + 1) c b = true := by unfold inB; simp; omega
    refine ⟨_, rfl, _, rfl, _, _, rfl, rfl, a, 0, c - 1, rfl, _, rfl, ?_⟩
    rw [e1]
    refine iteF ?_
    refine ⟨_, rfl, _, rfl, _, _, rfl, rfl, _, rfl, b, a + 1, c, rfl, _, rfl, ?_⟩
    rw [e2]
    exact iteF q
end
end K1
namespace K1
open PySem PySem.Spec PyProof.Rows L2 BK
abbrev sInit : Stmt := inClass (topS 13) 0
abbrev sEq : Stmt := inClass (topS 13) 1
abbrev sLen : Stmt := inClass (topS 13) 2
abbrev sItem : Stmt := inClass (topS 13) 3
abbrev sRows : Stmt := inClass (topS 13) 5
abbrev sPre : Stmt := inClass (topS 13) 6
abbrev sFilled : Stmt := inClass (topS 13) 7
abbrev sSteps : Stmt := inClass (topS 13) 8
abbrev sSorted : Stmt := inClass (topS 13) 9
abbrev sBtw : Stmt := inClass (topS 13) 10
/-- a column stands at p -/
def ColAt (C : Addr) (H : Hp) (p : Addr) (ns : List Int) : Prop := ∃ dx ct, H p = some (.ins C dx [("counts", .ref ct)]) ∧ H ct = some (.tup (ns.map V.int))
def Good (ns : List Int) : Prop := 1 ≤ ns.length ∧ ns.length ≤ 12 ∧ ns.all (inB 0 9) = true
theorem ColAt.same {C p : Addr} {H H' : Hp} {ns : List Int} (c : ColAt C H p ns) (s : Same H H') : ColAt C H' p ns :=
  let ⟨dx, ct, h1, h2⟩ := c; ⟨dx, ct, s _ _ h1, s _ _ h2⟩
theorem ty_list {K : PySem.W.Frag} {H : Hp} {a : Addr} {xs : List V} (h : SqL K H a xs) : TyX K H (.ref a) (.type "list") := by
  rcases h with (h | ⟨o, h⟩) | ⟨o, its, n, h, hc, _⟩
  · exact .base (.lst h)
  · exact .base (.frz h)
  · exact .kList h hc
theorem ty_tup {K : PySem.W.Frag} {H : Hp} {a : Addr} {xs : List V} (h : SqT K H a xs) : TyX K H (.ref a) (.type "tuple") := by
  rcases h with (h | ⟨o, h⟩) | ⟨o, its, n, h, hc, _⟩
  · exact .base (.tup h)
  · exact .fTuple h
  · exact .kTuple h hc
theorem dp_ints {K : PySem.W.Frag} {H : Hp} : ∀ ns : List Int, DpAll K H (ns.map V.int) (ns.map PyData.int)
  | [] => .nil
  | n :: r => .cons (.int n) (dp_ints r)
theorem shaped_tup (ns : List Int) : SeqAt.shaped (.tuple (ns.map PyData.int)) = true := by
  have h := PySem.W.ke_shaped_ints ns
  simpa [SeqAt.shaped, PyData.canLay0, PyData.depth] using h
theorem eqv_tup (ns ms : List Int) : PyData.eqv (.tuple (ns.map PyData.int)) (.tuple (ms.map PyData.int)) = decide (ns = ms) := by
  rw [← PySem.W.ked_eqvAll ns ms]
  simp [PyData.eqv]
theorem eqv_lst (ns ms : List Int) : PyData.eqv (.list (ns.map PyData.int)) (.list (ms.map PyData.int)) = decide (ns = ms) := by
  rw [← PySem.W.ked_eqvAll ns ms]
  simp [PyData.eqv]

/-! promises -/
def spInit (C : Addr) : Sp := fun vs H Q _ => ∃ (p dx a : Addr) (ns : List Int), vs = [.ref p, .ref a] ∧ H p = some (.ins C dx []) ∧ Sq H a ns ∧ Good ns ∧
  ∀ H', ColAt C H' p ns → (∀ b o, b ≠ p → H b = some o → H' b = some o) → Q .non H'
def spEq (C : Addr) : Sp := fun vs H Q _ => ∃ (p q : Addr) (ns ms : List Int), vs = [.ref p, .ref q] ∧ ColAt C H p ns ∧ ColAt C H q ms ∧ Q (.bl (decide (ns = ms))) H
def spLen (C : Addr) : Sp := fun vs H Q _ => ∃ (p : Addr) (ns : List Int), vs = [.ref p] ∧ ColAt C H p ns ∧ Q (.int ns.length) H
def spItem (C : Addr) : Sp := fun vs H Q _ => ∃ (p : Addr) (ns : List Int) (i : Nat) (v : Int), vs = [.ref p, .int i] ∧ ColAt C H p ns ∧ ns[i]? = some v ∧ Q (.int v) H
def spRows (C : Addr) : Sp := fun vs H Q _ => ∃ (p : Addr) (ns : List Int), vs = [.ref p] ∧ ColAt C H p ns ∧ Q (.int ns.sum) H
structure CT (K : PySem.W.Frag) (mg : Str → Option Value) (C : Addr) : Prop where
  cl : Cls K C
  nC : NoAttr K C "counts"
  mgC : mg "Column" = some (.ref C)
  isC : C8.InsC K C
  list : mg "list" = none
  tuple : mg "tuple" = none
  len : mg "len" = none
  sum : mg "sum" = none
  enum : mg "enumerate" = none
  zip : mg "zip" = none
  mv : ∃ t, mg "MOST_VALUES" = some (.int 12 t)
  mc : ∃ t, mg "MOST_COUNT" = some (.int 9 t)
theorem lk (ct : Addr) : List.lookup ("counts" : Str) ([("counts", V.ref ct)] : List (Str × V)) = some (.ref ct) := by simp [List.lookup]
section
variable {P : Program} {w : World} {K : PySem.W.Frag} {mg : Str → Option Value} {base : Heap} {fW fB fA fR C : Addr} {dW dB dA dR : FuncData}
theorem scInit : FnScope ["self", "counts"] ["self", "counts"] (defScope sInit) := ⟨rfl, rfl, rfl, by decide +kernel, rfl, by decide +kernel, by decide +kernel⟩
theorem ok_init {f : Addr} {fd : FuncData} (F : Fun K "__init__" "Column.__init__" sInit f fd) (Ch : Chk K mg fW fB fA fR dW dB dA dR) (T : CT K mg C) : FnOk P w K mg base CX0 4 f fd ["self", "counts"] (spInit C) := by
  have GA : FnOk P w K mg base CX0 3 fA dA ["items", "least", "most"] spAre := ok_are Ch
  obtain ⟨tv, gv⟩ := T.mv
  obtain ⟨tc, gc⟩ := T.mc
  refine F.ok scInit (fun vs H Q E h => ?_) (fun cdv A outer s H vs Q E hr h => ?_)
  · obtain ⟨p, dx, a, ns, rfl, _⟩ := h
    rfl
  · obtain ⟨p, dx, a, ns, rfl, hp, hS, ⟨g1, g2, g3⟩, q⟩ := h
    refine ⟨_, pss_cons (ps_if (PW.pt (pw_or (pt_not (pt_val (pe_callB call_isiT (by rfl) Ch.isi (by decide +kernel) (pa_cons (pv 1) (pa_cons (pe_tup (pa_cons (pe_bltn (v := .ty "list") (by rfl) T.list (by decide +kernel) rfl) (pa_cons (pe_bltn (v := .ty "tuple") (by rfl) T.tuple (by decide +kernel) rfl) pa_nil))) pa_nil)))))
        (pw_or1 (pt_not (pt_chain op_le op_le pe_int (pe_callB call_len_seq (by rfl) T.len PySem.boot_len (pa_cons (pv 1) pa_nil)) (pe_glob (v := .int 12) rfl gv ⟨_, rfl⟩)))))) (pss_one ps_never) pss_nil)
      (pss_cons (ps_if (pt_not (pt_val (pe_call GA hr (by rfl) Ch.gA Ch.A.kp Ch.bA .nil pass0 (pa_cons (pv 1) (pa_cons pe_int (pa_cons (pe_glob (v := .int 9) rfl gc ⟨_, rfl⟩) pa_nil)))))) (pss_one ps_never) pss_nil)
      (pss_one (ps_fld (pv 0) (pe_callTy call_tuple_of (by rfl) T.tuple (by decide +kernel) (pa_cons (pv 1) pa_nil)) rfl))), ?_⟩
    refine ⟨_, rfl, by show 2 ≤ sizeLine; decide, fun T0 nT => ?_⟩
    have s1 : Same H (upd H T0 (.tup [.ty "list", .ty "tuple"])) := same_upd nT
    have hS1 := Same.sq s1 hS
    have kany : ∃ t, TyX K (upd H T0 (.tup [.ty "list", .ty "tuple"])) (.ref a) t ∧ PySem.W.kitAny K t [.type "list", .type "tuple"] = some true := by
      rcases hS1 with h | h
      · exact ⟨_, ty_list (sqL h), kitAny_cons (kit_ty (r := true) (by decide +kernel)) (fun z => nomatch z) (fun _ => rfl)⟩
      · exact ⟨_, ty_tup (sqT h), kitAny_cons (kit_ty (r := false) (by decide +kernel)) (fun _ => kitAny_cons (kit_ty (r := true) (by decide +kernel)) (fun z => nomatch z) (fun _ => rfl)) (fun z => nomatch z)⟩
    obtain ⟨t, ty, ka⟩ := kany
    refine ⟨_, T0, _, t, _, true, rfl, upd_same, .cons (.ty _) (.cons (.ty _) .nil), ty, ka, _, rfl, iteF ?_⟩
    have hq : SqL K (upd H T0 (.tup [.ty "list", .ty "tuple"])) a (ns.map V.int) ∨ SqT K (upd H T0 (.tup [.ty "list", .ty "tuple"])) a (ns.map V.int) := hS1.imp sqL sqT
    refine ⟨_, rfl, a, _, rfl, hq, _, _, rfl, rfl, _, rfl, ?_⟩
    have e1 : decide ((1 : Int) ≤ ((ns.map V.int).length : Int)) = true := by rw [List.length_map]; exact decide_eq_true (by omega)
    have e2 : decide (((ns.map V.int).length : Int) ≤ 12) = true := by rw [List.length_map]; exact decide_eq_true (by omega)
    rw [e1]
    refine iteT ⟨_, _, rfl, rfl, _, rfl, ?_⟩
    rw [e2]
    refine iteF ?_
    refine ⟨_, rfl, a, ns, 0, 9, rfl, hS1, by omega, fun H2 s2 => ⟨_, rfl, ?_⟩⟩
    rw [g3]
    refine iteF ?_
    have s3 := s1.trans s2
    have hp2 := s2 _ _ (s1 _ _ hp)
    have hS2 := Same.sq s3 hS
    refine ⟨_, rfl, a, ns.map V.int, rfl, ?_⟩
    have key : ∀ (ct : Addr) (H3 : Hp), Same H2 H3 → H3 ct = some (.tup (ns.map V.int)) → (∃ (p' C' dx' : Addr) (fs : List (Str × V)), V.ref p = .ref p' ∧ H3 p' = some (.ins C' dx' fs) ∧ Cls K C' ∧ NoAttr K C' "counts" ∧ fs.length < 1000 ∧ Q .non (upd H3 p' (.ins C' dx' (putF "counts" (.ref ct) fs)))) := by
      intro ct H3 s4 hct
      have hp3 := s4 _ _ hp2
      have ne : ct ≠ p := fun z => by rw [z, hp3] at hct; cases hct
      refine ⟨p, C, dx, [], rfl, hp3, T.cl, T.nC, by show 0 < 1000; decide, ?_⟩
      refine q _ ⟨dx, ct, upd_same, by rw [upd_ne ne]; exact hct⟩ fun b o nb e => ?_
      rw [upd_ne nb]
      exact s4 _ _ (s3 _ _ e)
    rcases hS2 with h | h
    · refine .inl ⟨sqL h, fun l nl => ?_⟩
      exact ⟨_, rfl, key l _ (same_upd nl) upd_same⟩
    · refine .inr ⟨sqT h, ?_⟩
      exact ⟨_, rfl, key a H2 (Same.refl _) h⟩
theorem scEq : FnScope ["self", "other"] ["self", "other"] (defScope sEq) := ⟨rfl, rfl, rfl, by decide +kernel, rfl, by decide +kernel, by decide +kernel⟩
theorem ok_eq {f : Addr} {fd : FuncData} (F : Fun K "__eq__" "Column.__eq__" sEq f fd) (mi : mg "isinstance" = none) (T : CT K mg C) : FnOk P w K mg base CX0 1 f fd ["self", "other"] (spEq C) := by
  refine F.ok scEq (fun vs H Q E h => ?_) (fun cdv A outer s H vs Q E hr h => ?_)
  · obtain ⟨p, q, ns, ms, rfl, _⟩ := h
    rfl
  · obtain ⟨p, p2, ns, ms, rfl, ⟨dx, ct, h1, h2⟩, ⟨dy, cu, g1, g2⟩, q⟩ := h
    refine ⟨_, pss_one (ps_ret (pe_and (pe_callB (C8.call_isC T.isC) (by rfl) mi (by decide +kernel) (pa_cons (pv 1) (pa_cons (pe_glob (v := .ref C) rfl T.mgC rfl) pa_nil)))
      (pe_one (pe_cmpR (op_eqD hr.units) (pe_fld (pv 0) rfl) (pe_fld (pv 1) rfl) (nomark _))))), ?_⟩
    refine ⟨_, rfl, p2, dy, _, rfl, g1, true, rfl, iteT ?_⟩
    refine ⟨_, rfl, p, C, dx, _, _, rfl, h1, T.cl, T.nC, lk ct, ?_⟩
    refine ⟨_, rfl, p2, C, dy, _, _, rfl, g1, T.cl, T.nC, lk cu, ?_⟩
    refine ⟨_, _, .tup (sqT h2) (dp_ints ns), .tup (sqT g2) (dp_ints ms), shaped_tup ns, shaped_tup ms, ?_⟩
    rw [eqv_tup]
    exact q
theorem scLen : FnScope ["self"] ["self"] (defScope sLen) := ⟨rfl, rfl, rfl, by decide +kernel, rfl, by decide +kernel, by decide +kernel⟩
theorem ok_len {f : Addr} {fd : FuncData} (F : Fun K "__len__" "Column.__len__" sLen f fd) (T : CT K mg C) : FnOk P w K mg base CX0 1 f fd ["self"] (spLen C) := by
  refine F.ok scLen (fun vs H Q E h => ?_) (fun cdv A outer s H vs Q E hr h => ?_)
  · obtain ⟨p, ns, rfl, _⟩ := h
    rfl
  · obtain ⟨p, ns, rfl, ⟨dx, ct, h1, h2⟩, q⟩ := h
    refine ⟨_, pss_one (ps_ret (pe_callB call_len_seq (by rfl) T.len PySem.boot_len (pa_cons (pe_fld (pv 0) rfl) pa_nil))), ?_⟩
    refine ⟨_, rfl, p, C, dx, _, _, rfl, h1, T.cl, T.nC, lk ct, ct, _, rfl, .inr (sqT h2), ?_⟩
    rw [List.length_map]
    exact q
theorem scItem : FnScope ["self", "at"] ["self", "at"] (defScope sItem) := ⟨rfl, rfl, rfl, by decide +kernel, rfl, by decide +kernel, by decide +kernel⟩
theorem ok_item {f : Addr} {fd : FuncData} (F : Fun K "__getitem__" "Column.__getitem__" sItem f fd) (Ch : Chk K mg fW fB fA fR dW dB dA dR) (T : CT K mg C) : FnOk P w K mg base CX0 3 f fd ["self", "at"] (spItem C) := by
  have GB : FnOk P w K mg base CX0 2 fB dB ["item", "least", "most"] spBetween := ok_between Ch
  refine F.ok scItem (fun vs H Q E h => ?_) (fun cdv A outer s H vs Q E hr h => ?_)
  · obtain ⟨p, ns, i, v, rfl, _⟩ := h
    rfl
  · obtain ⟨p, ns, i, v, rfl, ⟨dx, ct, h1, h2⟩, hi, q⟩ := h
    have hlt : i < ns.length := (List.getElem?_eq_some_iff.mp hi).1
    refine ⟨_, pss_cons (ps_if (pt_not (pt_val (pe_call GB hr (by rfl) Ch.gB Ch.B.kp Ch.bB .nil pass0 (pa_cons (pv 1) (pa_cons pe_int (pa_cons (pe_op op_sub (pe_callB call_len_seq (by rfl) T.len PySem.boot_len (pa_cons (pe_fld (pv 0) rfl) pa_nil)) pe_int) pa_nil)))))) (pss_one ps_never) pss_nil)
      (pss_one (ps_ret (pe_ix ix_tup (pe_fld (pv 0) rfl) (pv 1) (fun _ _ => rfl)))), ?_⟩
    refine ⟨_, rfl, _, rfl, p, C, dx, _, _, rfl, h1, T.cl, T.nC, lk ct, ct, _, rfl, .inr (sqT h2), _, _, rfl, rfl, (i : Int), 0, ((ns.map V.int).length : Int) - 1, rfl, _, rfl, ?_⟩
    have e1 : inB 0 (((ns.map V.int).length : Int) - 1) (i : Int) = true := by rw [List.length_map]; unfold inB; simp; omega
    rw [e1]
    refine iteF ?_
    exact ⟨_, rfl, p, C, dx, _, _, rfl, h1, T.cl, T.nC, lk ct, ⟨_, rfl, ct, _, _, _, rfl, rfl, sqT h2, atI_nat (by rw [List.getElem?_map, hi]; rfl), q⟩⟩
theorem scRows : FnScope ["self"] ["self"] (defScope sRows) := ⟨rfl, rfl, rfl, by decide +kernel, rfl, by decide +kernel, by decide +kernel⟩
theorem ok_rows {f : Addr} {fd : FuncData} (F : Fun K "rows" "Column.rows" sRows f fd) (T : CT K mg C) : FnOk P w K mg base CX0 1 f fd ["self"] (spRows C) := by
  refine F.ok scRows (fun vs H Q E h => ?_) (fun cdv A outer s H vs Q E hr h => ?_)
  · obtain ⟨p, ns, rfl, _⟩ := h
    rfl
  · obtain ⟨p, ns, rfl, ⟨dx, ct, h1, h2⟩, q⟩ := h
    refine ⟨_, pss_one (ps_ret (pe_callB (cr_sumT rfl) (by rfl) T.sum (by decide +kernel) (pa_cons (pe_fld (pv 0) rfl) pa_nil))), ?_⟩
    exact ⟨_, rfl, p, C, dx, _, _, rfl, h1, T.cl, T.nC, lk ct, ct, ns, rfl, sqT h2, q⟩
end
end K1
namespace K1
open PySem PySem.Spec PyProof.Rows L2 BK
/-! the mathematics of the methods -/
def preL (ns : List Int) (i : Nat) : List Int := (List.range (i + 1)).map fun k => (ns.take k).sum
def filL (ns : List Int) (i : Nat) : List Int := ((List.range i).filter fun k => decide (0 < ns.getD k 0)).map fun k : Nat => (k : Int)
def stpN (ns : List Int) (i : Nat) : Nat := ((List.range i).filter fun k => decide (ns.getD k 0 ≠ ns.getD (k + 1) 0)).length
def srtL (ns : List Int) (i : Nat) : List Int := ((List.range i).map fun k : Nat => List.replicate (ns.getD k 0).toNat (k : Int)).flatten
theorem take_sum {ns : List Int} {i : Nat} {v : Int} (h : ns[i]? = some v) : (ns.take (i + 1)).sum = (ns.take i).sum + v := by
  rw [List.take_succ, h]
  simp
theorem preL_succ (ns : List Int) (i : Nat) : preL ns (i + 1) = preL ns i ++ [(ns.take (i + 1)).sum] := by
  unfold preL
  rw [List.range_succ, List.map_append]
  rfl
theorem preL_last (ns : List Int) (i : Nat) : ∃ r, preL ns i = r ++ [(ns.take i).sum] := ⟨(List.range i).map fun k => (ns.take k).sum, by
  unfold preL
  rw [List.range_succ, List.map_append]
  rfl⟩
theorem getD_of {ns : List Int} {i : Nat} {v : Int} (h : ns[i]? = some v) : ns.getD i 0 = v := by
  rw [List.getD_eq_getElem?_getD, h]
  rfl
theorem filL_succ {ns : List Int} {i : Nat} {v : Int} (h : ns[i]? = some v) : filL ns (i + 1) = if 0 < v then filL ns i ++ [(i : Int)] else filL ns i := by
  unfold filL
  rw [List.range_succ, List.filter_append, List.map_append]
  by_cases hv : 0 < v
  · rw [if_pos hv]
    have e := getD_of h
    rw [List.getD_eq_getElem?_getD] at e
    simp [List.filter, e, hv]
  · rw [if_neg hv]
    have e := getD_of h
    rw [List.getD_eq_getElem?_getD] at e
    simp [List.filter, e, hv]
theorem filL_len (ns : List Int) (i : Nat) : (filL ns i).length ≤ i := by
  unfold filL
  rw [List.length_map]
  exact Nat.le_trans (List.length_filter_le _ _) (by rw [List.length_range]; exact Nat.le_refl _)
theorem stpN_succ {ns : List Int} {i : Nat} {u v : Int} (h : ns[i]? = some u) (h2 : ns[i + 1]? = some v) : stpN ns (i + 1) = if u = v then stpN ns i else stpN ns i + 1 := by
  unfold stpN
  rw [List.range_succ, List.filter_append, List.length_append]
  by_cases hv : u = v
  · rw [if_pos hv]
    have e := getD_of h
    have e2 := getD_of h2
    rw [List.getD_eq_getElem?_getD] at e e2
    simp [List.filter, e, e2, hv]
  · rw [if_neg hv]
    have e := getD_of h
    have e2 := getD_of h2
    rw [List.getD_eq_getElem?_getD] at e e2
    simp [List.filter, e, e2, hv]
theorem stpN_le (ns : List Int) (i : Nat) : stpN ns i ≤ i := by
  unfold stpN
  exact Nat.le_trans (List.length_filter_le _ _) (by rw [List.length_range]; exact Nat.le_refl _)
theorem srtL_succ {ns : List Int} {i : Nat} {v : Int} (h : ns[i]? = some v) : srtL ns (i + 1) = srtL ns i ++ List.replicate v.toNat (i : Int) := by
  unfold srtL
  rw [List.range_succ, List.map_append, List.flatten_append]
  have e := getD_of h
  rw [List.getD_eq_getElem?_getD] at e
  simp [e]
theorem inB_of {ns : List Int} (h : ns.all (inB 0 9) = true) {i : Nat} {v : Int} (hi : ns[i]? = some v) : 0 ≤ v ∧ v ≤ 9 := by
  have hm := List.mem_of_getElem? hi
  have := List.all_eq_true.mp h v hm
  simpa [inB] using this
theorem srtL_len {ns : List Int} (h : ns.all (inB 0 9) = true) : ∀ i, i ≤ ns.length → (srtL ns i).length ≤ 9 * i
  | 0, _ => by simp [srtL]
  | i + 1, hi => by
    have hlt : i < ns.length := by omega
    have e := List.getElem?_eq_getElem hlt
    have b := inB_of h e
    have := srtL_len h i (by omega)
    rw [srtL_succ e, List.length_append, List.length_replicate]
    omega
/-! promises -/
def spPre (C : Addr) : Sp := fun vs H Q _ => ∃ (p : Addr) (ns : List Int), vs = [.ref p] ∧ ColAt C H p ns ∧ Good ns ∧ ∀ H' l, Same H H' → H l = none → H' l = some (.lst ((preL ns ns.length).map V.int)) → Q (.ref l) H'
def spFil (C : Addr) : Sp := fun vs H Q _ => ∃ (p : Addr) (ns : List Int), vs = [.ref p] ∧ ColAt C H p ns ∧ Good ns ∧ ∀ H' l, Same H H' → H l = none → H' l = some (.lst ((filL ns ns.length).map V.int)) → Q (.ref l) H'
def spStp (C : Addr) : Sp := fun vs H Q _ => ∃ (p : Addr) (ns : List Int), vs = [.ref p] ∧ ColAt C H p ns ∧ Good ns ∧ ∀ H', Same H H' → Q (.int (1 + (stpN ns (ns.length - 1) : Nat))) H'
def spSrt (C : Addr) : Sp := fun vs H Q _ => ∃ (p : Addr) (ns : List Int), vs = [.ref p] ∧ ColAt C H p ns ∧ Good ns ∧ ∀ H' l, Same H H' → H l = none → H' l = some (.lst ((srtL ns ns.length).map V.int)) → Q (.ref l) H'
def spBtw (C : Addr) : Sp := fun vs H Q _ => ∃ (p : Addr) (ns : List Int) (a b : Nat), vs = [.ref p, .int a, .int b] ∧ ColAt C H p ns ∧ Good ns ∧ a < b ∧ b ≤ ns.length ∧ ∀ H', Same H H' → Q (.int ((ns.drop a).take (b - a)).sum) H'
theorem map_get {ns : List Int} {i : Nat} {x : V} (h : (ns.map V.int)[i]? = some x) : ∃ v, x = .int v ∧ ns[i]? = some v := by
  rw [List.getElem?_map] at h
  cases e : ns[i]? with
  | none => rw [e] at h; cases h
  | some v =>
    rw [e] at h
    exact ⟨v, (Option.some.inj h).symm, rfl⟩
theorem lt_of_get {α : Type} {xs : List α} {i : Nat} {x : α} (h : xs[i]? = some x) : i < xs.length := (List.getElem?_eq_some_iff.mp h).1
section
variable {P : Program} {w : World} {K : PySem.W.Frag} {mg : Str → Option Value} {base : Heap} {fW fB fA fR C : Addr} {dW dB dA dR : FuncData}
theorem scPre : FnScope ["self", "below", "count"] ["self"] (defScope sPre) := ⟨rfl, rfl, rfl, by decide +kernel, rfl, by decide +kernel, by decide +kernel⟩
theorem ok_pre {f : Addr} {fd : FuncData} (F : Fun K "prefixes" "Column.prefixes" sPre f fd) (T : CT K mg C) : FnOk P w K mg base CX0 1 f fd ["self"] (spPre C) := by
  refine F.ok scPre (fun vs H Q E h => ?_) (fun cdv A outer s H vs Q E hr h => ?_)
  · obtain ⟨p, ns, rfl, _⟩ := h
    rfl
  · obtain ⟨p, ns, rfl, ⟨dx, ct, h1, h2⟩, ⟨g1, g2, g3⟩, q⟩ := h
    refine ⟨_, pss_cons (ps_set (i := 1) scPre.nd rfl (.inl rfl) (pe_lst (pa_cons pe_int pa_nil)))
      (pss_cons (ps_for PassesOwn.never rfl (pi_tup (pe_fld (pv 0) rfl)) (pg_name (i := 2) scPre.nd rfl (.inl rfl))
        (pss_one (ps_expr (pe_bm PySem.F.plainAttrs_list PySem.F.slot_list_append PySem.F.type_list_append mt_append (pv 1) (pa_cons (pe_op op_add (pe_ix ix_list (pv 1) (pe_un un_neg pe_int) (fun _ _ => rfl)) (pv 2)) pa_nil)))))
      (pss_one (ps_ret (pv 1)))), ?_⟩
    refine ⟨by show 1 ≤ sizeLine; decide, fun l nl => ?_⟩
    have s1 : Same H (upd H l (.lst [.int 0])) := same_upd nl
    refine ⟨_, rfl, p, C, dx, _, _, rfl, s1 _ _ h1, T.cl, T.nC, lk ct, ct, rfl, ⟨_, sqT (s1 _ _ h2)⟩, for_tup (K := K) (a := ct) (xs := ns.map V.int)
      (fun i σ H2 => ∃ y, σ = [some (.ref p), some (.ref l), y] ∧ Same H H2 ∧ H2 l = some (.lst ((preL ns i).map V.int))) ⟨none, rfl, s1, by rw [upd_same]; rfl⟩ (fun i σ H2 _ ⟨_, _, s2, _⟩ => sqT (s2 _ _ h2)) ?_ ?_⟩
    · rintro i x σ H2 hi ⟨y, rfl, s2, e2⟩
      obtain ⟨v, rfl, hv⟩ := map_get hi
      obtain ⟨r, er⟩ := preL_last ns i
      have hlt := lt_of_get hv
      refine ⟨_, rfl, .inl ⟨rfl, _, sqL e2⟩, _, rfl, _, rfl, _, _, _, _, rfl, rfl, sqL e2, by rw [er, List.map_append]; exact atI_last _ _, _, rfl, _, _, rfl, rfl, _, _, _, rfl, rfl, e2, by rw [List.length_map]; unfold preL; rw [List.length_map, List.length_range]; exact small1000 (by omega), ?_⟩
      refine ⟨_, rfl, same_set nl s2, ?_⟩
      rw [upd_same, preL_succ, List.map_append, take_sum hv]
      rfl
    · rintro σ H2 ⟨y, rfl, s2, e2⟩
      rw [List.length_map] at e2
      exact ⟨_, rfl, q H2 l s2 nl e2⟩
theorem scFil : FnScope ["self", "value", "count"] ["self"] (defScope sFilled) := ⟨rfl, rfl, rfl, by decide +kernel, rfl, by decide +kernel, by decide +kernel⟩
theorem ok_fil {f : Addr} {fd : FuncData} (F : Fun K "filled" "Column.filled" sFilled f fd) (T : CT K mg C) : FnOk P w K mg base CX0 1 f fd ["self"] (spFil C) := by
  refine F.ok scFil (fun vs H Q E h => ?_) (fun cdv A outer s H vs Q E hr h => ?_)
  · obtain ⟨p, ns, rfl, _⟩ := h
    rfl
  · obtain ⟨p, ns, rfl, ⟨dx, ct, h1, h2⟩, ⟨g1, g2, g3⟩, q⟩ := h
    refine ⟨_, pss_one (ps_ret (pe_lc (own := [("value", 1), ("count", 2)]) (g := gTup K 2 (gCons (gName 1) (gCons (gName 2) gNil))) (tt := tTest (tOp (rI0 fun i j => .bl (decide (j < i))) (tVar 2) (tC (.int 0)))) rfl scFil.nd (pi_enumT (by rfl) T.enum (pa_cons (pe_fld (pv 0) rfl) pa_nil)) (blkOk_by (N := ["self", "value", "count"]) (sc := defScope sFilled) (by decide +kernel))
        (fun _ _ _ _ _ => pg_tup rfl (pgs_cons (pg_name (i := 1) scFil.nd rfl (Or.inl rfl)) (pgs_cons (pg_name (i := 2) scFil.nd rfl (Or.inl rfl)) pgs_nil))) (fun _ _ _ _ _ => pts_one (pt_cmpR op_gt (pv 2) pe_int (nomark _)))
        (fun _ _ _ _ _ => pv 1))), ?_⟩
    refine ⟨_, rfl, p, C, dx, _, _, rfl, h1, T.cl, T.nC, lk ct, ct, _, rfl, sqT h2, fun D nD => lc_it (walk_enumT (K := K) (a := ct) (xs := ns.map V.int))
      (fun i H1 => Same H H1 ∧ H1 D = some (.lst ((filL ns i).map V.int))) ⟨same_upd nD, by rw [upd_same]; rfl⟩ (fun i H1 _ h => sqT (h.1 _ _ h2)) ?_ ?_⟩
    · rintro i x H1 H3 hi ⟨s2, e2⟩ ⟨T0, a1, b1, rfl, nT, rfl, ea, eb⟩
      obtain ⟨v, rfl, hv⟩ := map_get eb
      cases Option.some.inj ea
      have nTD : D ≠ T0 := fun z => by rw [← z, e2] at nT; cases nT
      have s3 : Same H (upd H1 T0 (.tup [.int (i : Nat), .int v])) := s2.trans (same_upd nT)
      have e3 : (upd H1 T0 (.tup [.int (i : Nat), .int v])) D = some (.lst ((filL ns i).map V.int)) := by rw [upd_ne nTD]; exact e2
      refine ⟨T0, _, rfl, sqT upd_same, rfl, _, _, rfl, _, _, rfl, ?_⟩
      refine ⟨rfl, rfl, _, rfl, _, _, rfl, rfl, _, rfl, ?_⟩
      have hs := filL_succ hv
      have hl := filL_len ns i
      rw [List.length_map] at hi
      refine ite2 (fun z => ?_) (fun z => ?_)
      · rw [decide_eq_true_iff] at z
        rw [if_pos z] at hs
        refine ⟨_, rfl, _, e3, by rw [List.length_map]; exact small1000 (by omega), same_set nD s3, ?_⟩
        rw [upd_same, hs, List.map_append]
        rfl
      · rw [decide_eq_true_iff] at z
        rw [if_neg z] at hs
        exact ⟨s3, by rw [e3, hs]⟩
    · rintro H1 ⟨s2, e2⟩
      rw [List.length_map] at e2
      exact q H1 D s2 nD e2
theorem scStp : FnScope ["self", "one", "other"] ["self"] (defScope sSteps) := ⟨rfl, rfl, rfl, by decide +kernel, rfl, by decide +kernel, by decide +kernel⟩
theorem cut1 {xs : List V} (h : 1 ≤ xs.length) : cutV xs (some 1) none = xs.drop 1 := by
  unfold cutV
  rw [show HT.sIx xs.length 0 (some 1) = min 1 xs.length from HT.sIx_nat xs.length 0 1, HT.sIx_none, Nat.min_eq_left h]
  exact List.take_of_length_le (by rw [List.length_drop]; exact Nat.le_refl _)
theorem ok_stp {f : Addr} {fd : FuncData} (F : Fun K "steps" "Column.steps" sSteps f fd) (T : CT K mg C) : FnOk P w K mg base CX0 1 f fd ["self"] (spStp C) := by
  refine F.ok scStp (fun vs H Q E h => ?_) (fun cdv A outer s H vs Q E hr h => ?_)
  · obtain ⟨p, ns, rfl, _⟩ := h
    rfl
  · obtain ⟨p, ns, rfl, ⟨dx, ct, h1, h2⟩, ⟨g1, g2, g3⟩, q⟩ := h
    refine ⟨_, pss_one (ps_ret (pe_op op_add pe_int (pe_callB call_len_seq (by rfl) T.len PySem.boot_len (pa_cons (pe_lc (own := [("one", 1), ("other", 2)]) (g := gTup K 2 (gCons (gName 1) (gCons (gName 2) gNil))) (tt := tTest (tOp rNe (tVar 1) (tVar 2))) rfl scStp.nd (RZ.pi_zipA (by rfl) T.zip (pa_cons (pe_fld (pv 0) rfl) (pa_cons (pe_slice sl_tupA (pe_fld (pv 0) rfl) (po_some pe_int) po_none) pa_nil))) (blkOk_by (N := ["self", "one", "other"]) (sc := defScope sSteps) (by decide +kernel))
        (fun _ _ _ _ _ => pg_tup rfl (pgs_cons (pg_name (i := 1) scStp.nd rfl (Or.inl rfl)) (pgs_cons (pg_name (i := 2) scStp.nd rfl (Or.inl rfl)) pgs_nil))) (fun _ _ _ _ _ => pts_one (pt_cmpR op_ne (pv 1) (pv 2) (nomark _)))
        (fun _ _ _ _ _ => pe_int)) pa_nil)))), ?_⟩
    have hl : (ns.map V.int).length = ns.length := List.length_map ..
    refine ⟨_, rfl, p, C, dx, _, _, rfl, h1, T.cl, T.nC, lk ct, _, rfl, p, C, dx, _, _, rfl, h1, T.cl, T.nC, lk ct, 1, rfl, ct, _, rfl, sqT h2, fun z => ?_, fun _ b nb => ?_⟩
    · rw [show HT.sIx (ns.map V.int).length 0 (some 1) = min 1 (ns.map V.int).length from HT.sIx_nat _ 0 1] at z
      omega
    rw [cut1 (by omega)]
    have s1 : Same H (upd H b (.tup ((ns.map V.int).drop 1))) := same_upd nb
    refine ⟨ct, b, _, _, rfl, .inr ⟨sqT (s1 _ _ h2), sqT upd_same, fun D nD => lc_it (walk_zipT (K := K) (a := ct) (b := b) (n := ns.length - 1) (xs := ns.map V.int) (ys := (ns.map V.int).drop 1) (by rw [List.length_drop, hl]; omega))
      (fun i H1 => Same (upd H b (.tup ((ns.map V.int).drop 1))) H1 ∧ H1 D = some (.lst (List.replicate (stpN ns i) (.int 1)))) ⟨same_upd nD, by rw [upd_same]; rfl⟩ (fun i H1 _ h => ⟨sqT (h.1 _ _ (s1 _ _ h2)), sqT (h.1 _ _ upd_same)⟩) ?_ ?_⟩⟩
    · rintro i x H1 H3 hi ⟨s2, e2⟩ ⟨T0, a1, b1, rfl, nT, rfl, ea, eb⟩
      obtain ⟨u, rfl, hu⟩ := map_get ea
      have eb' : (ns.map V.int)[i + 1]? = some b1 := by
        have := eb
        simp only [List.getElem?_drop] at this
        rw [Nat.add_comm] at this
        exact this
      obtain ⟨v, rfl, hv⟩ := map_get eb'
      have nTD : D ≠ T0 := fun z => by rw [← z, e2] at nT; cases nT
      have s3 : Same (upd H b (.tup ((ns.map V.int).drop 1))) (upd H1 T0 (.tup [.int u, .int v])) := s2.trans (same_upd nT)
      have e3 : (upd H1 T0 (.tup [.int u, .int v])) D = some (.lst (List.replicate (stpN ns i) (.int 1))) := by rw [upd_ne nTD]; exact e2
      have hs := stpN_succ hu hv
      have hle := stpN_le ns i
      refine ⟨T0, _, rfl, sqT upd_same, rfl, _, _, rfl, _, _, rfl, rfl, rfl, _, rfl, _, rfl, rfl, _, rfl, ?_⟩
      refine ite2 (fun z => ?_) (fun z => ?_)
      · have z' : ¬ u = v := fun e => by rw [e] at z; simp at z
        rw [if_neg z'] at hs
        refine ⟨_, e3, by rw [List.length_replicate]; exact small1000 (by omega), same_set nD s3, ?_⟩
        rw [upd_same, hs, List.replicate_succ']
      · have z' : u = v := by
          by_cases e : u = v
          · exact e
          · exact absurd (by simp [e]) z
        rw [if_pos z'] at hs
        exact ⟨s3, by rw [e3, hs]⟩
    · rintro H1 ⟨s2, e2⟩
      refine ⟨D, _, rfl, .inl (sqL e2), _, _, rfl, rfl, ?_⟩
      rw [List.length_replicate]
      exact q H1 (s1.trans s2)
theorem scSrt : FnScope ["self", "found", "value", "count"] ["self"] (defScope sSorted) := ⟨rfl, rfl, rfl, by decide +kernel, rfl, by decide +kernel, by decide +kernel⟩
theorem ok_srt {f : Addr} {fd : FuncData} (F : Fun K "sorted_rows" "Column.sorted_rows" sSorted f fd) (T : CT K mg C) : FnOk P w K mg base CX0 1 f fd ["self"] (spSrt C) := by
  refine F.ok scSrt (fun vs H Q E h => ?_) (fun cdv A outer s H vs Q E hr h => ?_)
  · obtain ⟨p, ns, rfl, _⟩ := h
    rfl
  · obtain ⟨p, ns, rfl, ⟨dx, ct, h1, h2⟩, ⟨g1, g2, g3⟩, q⟩ := h
    refine ⟨_, pss_cons (ps_set (i := 1) scSrt.nd rfl (.inl rfl) (pe_lst pa_nil))
      (pss_cons (ps_for PassesOwn.never rfl (pi_enumT (by rfl) T.enum (pa_cons (pe_fld (pv 0) rfl) pa_nil)) (pg_tup rfl (pgs_cons (pg_name (i := 2) scSrt.nd rfl (Or.inl rfl)) (pgs_cons (pg_name (i := 3) scSrt.nd rfl (Or.inl rfl)) pgs_nil)))
        (pss_one (ps_expr (pe_bm PySem.F.plainAttrs_list PySem.F.slot_list_extend PySem.F.type_list_extend mt_extend (pv 1) (pa_cons (pe_op op_rep (pe_lst (pa_cons (pv 2) pa_nil)) (pv 3)) pa_nil)))))
      (pss_one (ps_ret (pv 1)))), ?_⟩
    refine ⟨by show 0 ≤ sizeLine; decide, fun l nl => ?_⟩
    have s1 : Same H (upd H l (.lst [])) := same_upd nl
    have hl : (ns.map V.int).length = ns.length := List.length_map ..
    refine ⟨_, rfl, p, C, dx, _, _, rfl, s1 _ _ h1, T.cl, T.nC, lk ct, ct, _, rfl, sqT (s1 _ _ h2), for_it (walk_enumT (K := K) (a := ct) (xs := ns.map V.int))
      (fun i σ H2 => ∃ y z, σ = [some (.ref p), some (.ref l), y, z] ∧ Same H H2 ∧ H2 l = some (.lst ((srtL ns i).map V.int))) ⟨none, none, rfl, s1, by rw [upd_same]; rfl⟩ (fun i σ H2 _ ⟨_, _, _, s2, _⟩ => sqT (s2 _ _ h2)) ?_ ?_⟩
    · rintro i x σ H1 H3 hi ⟨y, z, rfl, s2, e2⟩ ⟨T0, a1, b1, rfl, nT, rfl, ea, eb⟩
      obtain ⟨v, rfl, hv⟩ := map_get eb
      cases Option.some.inj ea
      have nTD : l ≠ T0 := fun z => by rw [← z, e2] at nT; cases nT
      have s3 : Same H (upd H1 T0 (.tup [.int (i : Nat), .int v])) := s2.trans (same_upd nT)
      have e3 : (upd H1 T0 (.tup [.int (i : Nat), .int v])) l = some (.lst ((srtL ns i).map V.int)) := by rw [upd_ne nTD]; exact e2
      have b9 := inB_of g3 hv
      have hsl := srtL_len g3 i (by omega)
      refine ⟨T0, _, rfl, sqT upd_same, rfl, _, _, rfl, _, _, rfl, rfl, _, rfl, .inl ⟨rfl, _, sqL e3⟩, _, rfl, by show 1 ≤ sizeLine; decide, fun m nm => ?_⟩
      have nlm : l ≠ m := fun z => by rw [← z, e3] at nm; cases nm
      refine ⟨_, rfl, m, v, _, rfl, rfl, upd_same, by omega, by omega, Nat.le_of_lt (small1000 (by show 1 * v.toNat ≤ 1000; omega)), fun m2 nm2 => ?_⟩
      have nlm2 : l ≠ m2 := fun z => by rw [← z, upd_ne nlm, e3] at nm2; cases nm2
      refine ⟨l, m2, _, _, rfl, rfl, by rw [upd_ne nlm2, upd_ne nlm]; exact e3, upd_same, ?_, ?_⟩
      · have e9 : (List.replicate v.toNat [V.int (i : Nat)]).flatten.length = v.toNat := by simp
        rw [List.length_map, e9]
        exact Nat.le_of_lt (small1000 (by omega))
      refine ⟨_, _, rfl, same_set nl ((s3.trans (same_upd nm)).trans (same_upd nm2)), ?_⟩
      rw [upd_same, srtL_succ hv, List.map_append]
      congr 3
      simp
    · rintro σ H2 ⟨y, z, rfl, s2, e2⟩
      rw [hl] at e2
      exact ⟨_, rfl, q H2 l s2 nl e2⟩
theorem scBtw : FnScope ["self", "first", "past"] ["self", "first", "past"] (defScope sBtw) := ⟨rfl, rfl, rfl, by decide +kernel, rfl, by decide +kernel, by decide +kernel⟩
theorem ok_btw {f : Addr} {fd : FuncData} (F : Fun K "between" "Column.between" sBtw f fd) (Ch : Chk K mg fW fB fA fR dW dB dA dR) (T : CT K mg C) : FnOk P w K mg base CX0 4 f fd ["self", "first", "past"] (spBtw C) := by
  have GR : FnOk P w K mg base CX0 3 fR dR ["first", "past", "width"] spRange := ok_range Ch
  refine F.ok scBtw (fun vs H Q E h => ?_) (fun cdv A outer s H vs Q E hr h => ?_)
  · obtain ⟨p, ns, a, b, rfl, _⟩ := h
    rfl
  · obtain ⟨p, ns, a, b, rfl, ⟨dx, ct, h1, h2⟩, ⟨g1, g2, g3⟩, hab, hb, q⟩ := h
    refine ⟨_, pss_cons (ps_expr (pe_call GR hr (by rfl) Ch.gR Ch.R.kp Ch.bR .nil pass0 (pa_cons (pv 1) (pa_cons (pv 2) (pa_cons (pe_callB call_len_seq (by rfl) T.len PySem.boot_len (pa_cons (pe_fld (pv 0) rfl) pa_nil)) pa_nil)))))
      (pss_one (ps_ret (pe_callB (cr_sumT rfl) (by rfl) T.sum (by decide +kernel) (pa_cons (pe_slice sl_tupA (pe_fld (pv 0) rfl) (po_some (pv 1)) (po_some (pv 2))) pa_nil)))), ?_⟩
    have hl : (ns.map V.int).length = ns.length := List.length_map ..
    refine ⟨_, rfl, _, rfl, _, rfl, p, C, dx, _, _, rfl, h1, T.cl, T.nC, lk ct, ct, _, rfl, .inr (sqT h2), (a : Int), (b : Int), ((ns.map V.int).length : Int), rfl, by omega, by omega, by omega, ?_⟩
    have ec : cutV (ns.map V.int) (some (a : Int)) (some (b : Int)) = ((ns.drop a).take (b - a)).map V.int := by
      unfold cutV
      rw [HT.sIx_nat, HT.sIx_nat, hl, Nat.min_eq_left (by omega : a ≤ ns.length), Nat.min_eq_left hb, ← List.map_drop, ← List.map_take]
    refine ⟨_, rfl, p, C, dx, _, _, rfl, h1, T.cl, T.nC, lk ct, _, rfl, (a : Int), rfl, _, rfl, (b : Int), rfl, ct, _, rfl, sqT h2, fun z => ?_, fun z l nl => ?_⟩
    · rw [HT.sIx_nat, HT.sIx_nat, hl] at z
      have ea : a = 0 := by omega
      have eb : b = ns.length := by omega
      have e0 : (ns.drop a).take (b - a) = ns := by rw [ea, eb]; simp
      refine ⟨ct, ns, rfl, sqT h2, ?_⟩
      have := q H (Same.refl _)
      rw [e0] at this
      exact this
    · exact ⟨l, _, rfl, sqT (by rw [upd_same, ec]), q _ (same_upd nl)⟩
end
end K1
namespace K1
open PySem PySem.Spec PyProof.Rows L2 BK
abbrev sNum : Stmt := topS 15
abbrev sTake : Stmt := topS 16
abbrev sPick : Stmt := topS 17
abbrev sCounts : Stmt := topS 18
abbrev sGiven : Stmt := topS 19
/-- all but the drawing list stands as it stood -/
def Step (d : Addr) (H H' : Hp) : Prop := ∀ b o, b ≠ d → H b = some o → H' b = some o
theorem Step.refl (d : Addr) (H : Hp) : Step d H H := fun _ _ _ h => h
theorem Step.trans {d : Addr} {H H1 H2 : Hp} (a : Step d H H1) (b : Step d H1 H2) : Step d H H2 := fun c o n h => b c o n (a c o n h)
theorem Step.of {d : Addr} {H H' : Hp} (s : Same H H') : Step d H H' := fun b o _ h => s b o h
theorem sqL_upd {K : PySem.W.Frag} {H : Hp} {a d : Addr} {o : HO} {xs : List V} (h : SqL K H a xs) (n : a ≠ d) : SqL K (upd H d o) a xs := by
  rcases h with (h | ⟨u, h⟩) | h
  · exact .inl (.inl (by rw [upd_ne n]; exact h))
  · exact .inl (.inr ⟨u, by rw [upd_ne n]; exact h⟩)
  · exact .inr h
/-- where the script stands: tracked, or written -/
def Sc (K : PySem.W.Frag) (H : Hp) (a : Addr) (xs : List V) : Bool → Prop
  | true => Rd H a (.lst xs)
  | false => ∃ (o : Obj) (its : Array Value) (n : Nat), K.lookup a = some o ∧ o.cls = .type "list" ∧ o.dict = none ∧ o.data = .seq its n ∧ its.size ≤ sizeLine ∧ Vals xs its.toList
theorem Sc.sq {K : PySem.W.Frag} {H : Hp} {a : Addr} {xs : List V} : ∀ {b : Bool}, Sc K H a xs b → SqL K H a xs
  | true, h => .inl h
  | false, h => .inr h
theorem Sc.of {K : PySem.W.Frag} {H : Hp} {a : Addr} {xs : List V} (h : SqL K H a xs) : ∃ b, Sc K H a xs b := h.elim (fun h => ⟨true, h⟩) fun h => ⟨false, h⟩
theorem Sc.keep {K : PySem.W.Frag} {H H' : Hp} {a : Addr} {xs : List V} : ∀ {b : Bool}, Sc K H a xs b → (∀ o, H a = some o → H' a = some o) → Sc K H' a xs b
  | true, h, k => h.elim (fun h => .inl (k _ h)) fun ⟨o, h⟩ => .inr ⟨o, k _ h⟩
  | false, h, _ => h
theorem Sc.put {K : PySem.W.Frag} {H : Hp} {a d : Addr} {o : HO} {xs : List V} : ∀ {b : Bool}, Sc K H a xs b → (b = true → a ≠ d) → Sc K (L2.upd H d o) a xs b
  | true, h, n => h.keep fun u q => by rw [upd_ne (n rfl)]; exact q
  | false, h, _ => h
structure Src where
  a : Addr
  sc : List Int
  b : Bool
/-- the drawing list at d, and what it draws from -/
structure Dw (K : PySem.W.Frag) (H : Hp) (d : Addr) (z : Src) : Prop where
  at_ : ∃ n : Int, H d = some (.lst [.ref z.a, .int n])
  sc : Sc K H z.a (z.sc.map V.int) z.b
  ne : z.b = true → z.a ≠ d
def spNum (K : PySem.W.Frag) : Sp := fun vs H Q _ => ∃ (a : Addr) (ns : List Int) (n : Int), vs = [.ref a, .int n] ∧ SqL K H a (ns.map V.int) ∧ ∀ i H', Same H H' → Q (.int i) H'
def spTake (K : PySem.W.Frag) : Sp := fun vs H Q _ => ∃ (d : Addr) (m : Int) (z : Src), vs = [.ref d, .int m] ∧ Dw K H d z ∧ 0 < m ∧ ∀ i H', 0 ≤ i → i < m → Step d H H' → Dw K H' d z → Q (.int i) H'
def spPick (K : PySem.W.Frag) : Sp := fun vs H Q _ => ∃ (d t : Addr) (xs : List V) (z : Src), vs = [.ref d, .ref t] ∧ Dw K H d z ∧ H t = some (.lst xs) ∧ xs ≠ [] ∧ t ≠ d ∧ ∀ (j : Nat) v H', xs[j]? = some v → Step d H H' → Dw K H' d z → Q v H'
def spCounts (K : PySem.W.Frag) : Sp := fun vs H Q _ => ∃ (d : Addr) (m : Int) (z : Src), vs = [.ref d, .int m] ∧ Dw K H d z ∧ 0 < m ∧ m ≤ 12 ∧
  ∀ l (ns : List Int) H', H l = none → Step d H H' → Dw K H' d z → H' l = some (.lst (ns.map V.int)) → 1 ≤ ns.length → (ns.length : Int) ≤ m → ns.all (inB 0 9) = true → Q (.ref l) H'
def spGiven (K : PySem.W.Frag) : Sp := fun vs H Q _ => ∃ (d r : Addr) (ns : List Int) (z : Src), vs = [.ref d, .ref r] ∧ Dw K H d z ∧ H r = some (.lst (ns.map V.int)) ∧ r ≠ d ∧
  ∀ l H', H l = none → Step d H H' → Dw K H' d z → Sq H' l ns → Q (.ref l) H'
theorem Dw.same {K : PySem.W.Frag} {H H' : Hp} {d : Addr} {z : Src} (h : Dw K H d z) (s : Same H H') : Dw K H' d z :=
  let ⟨n, e⟩ := h.at_; ⟨⟨n, s _ _ e⟩, h.sc.keep (s _), h.ne⟩
theorem Dw.nd {K : PySem.W.Frag} {H : Hp} {d l : Addr} {z : Src} (h : Dw K H d z) (nl : H l = none) : l ≠ d := fun e => by
  obtain ⟨n, q⟩ := h.at_
  rw [e, q] at nl
  cases nl
/-- a store at a place that is new since H0 -/
theorem Dw.upd {K : PySem.W.Frag} {H0 H : Hp} {d l : Addr} {o : HO} {z : Src} (h0 : Dw K H0 d z) (h : Dw K H d z) (nl : H0 l = none) : Dw K (L2.upd H l o) d z := by
  obtain ⟨n, e⟩ := h.at_
  have nd := h0.nd nl
  refine ⟨⟨n, by rw [upd_ne (Ne.symm nd)]; exact e⟩, ?_, h.ne⟩
  have h1 := h0.sc
  have h2 := h.sc
  obtain ⟨a, sc, b⟩ := z
  cases b with
  | false => exact h2
  | true =>
    have na : a ≠ l := fun q => by
      subst q
      rcases h1 with h1 | ⟨o, h1⟩
      · rw [nl] at h1; cases h1
      · rw [nl] at h1; cases h1
    exact h2.keep fun u q => by rw [upd_ne na]; exact q
theorem Step.upd {d l : Addr} {H H1 : Hp} {o : HO} (s : Step d H H1) (nl : H l = none) : Step d H (L2.upd H1 l o) := fun b u n e => by
  rw [upd_ne (ne_of_none e nl)]
  exact s b u n e
theorem Step.free {d l : Addr} {H H1 : Hp} (s : Step d H H1) (n : l ≠ d) (h : H1 l = none) : H l = none := by
  cases e : H l with
  | none => rfl
  | some o => rw [s _ _ n e] at h; cases h
section
variable {P : Program} {w : World} {K : PySem.W.Frag} {mg : Str → Option Value} {base : Heap}
theorem scNum : FnScope ["script", "index", "cells", "cell", "low", "high", "total", "blend"] ["script", "index"] (defScope sNum) := ⟨rfl, rfl, rfl, by decide +kernel, rfl, by decide +kernel, by decide +kernel⟩
theorem len_cut (xs : List V) : (cutV xs none (some 63)).length = min 63 xs.length := by
  unfold cutV
  rw [show HT.sIx xs.length xs.length (some 63) = min 63 xs.length from HT.sIx_nat _ _ 63, HT.sIx_none, List.length_take, List.length_drop]
  omega
theorem cut_ints (ns : List Int) : cutV (ns.map V.int) none (some 63) = (ns.take 63).map V.int := by
  unfold cutV
  rw [show HT.sIx (ns.map V.int).length (ns.map V.int).length (some 63) = min 63 (ns.map V.int).length from HT.sIx_nat _ _ 63, HT.sIx_none, List.drop_zero, List.map_take, Nat.sub_zero]
  rcases Nat.le_total 63 (ns.map V.int).length with h | h
  · rw [Nat.min_eq_left h]
  · rw [Nat.min_eq_right h, List.take_of_length_le (Nat.le_refl _), List.take_of_length_le h]
theorem ok_num {f : Addr} {fd : FuncData} (F : Fun K "_law_number" "_law_number" sNum f fd) (mi : mg "int" = none) (ml : mg "len" = none) (ms : mg "sum" = none) : FnOk P w K mg base CX0 1 f fd ["script", "index"] (spNum K) := by
  refine F.ok scNum (fun vs H Q E h => ?_) (fun cdv A outer s H vs Q E hr h => ?_)
  · obtain ⟨a, ns, n, rfl, _⟩ := h
    rfl
  · obtain ⟨a, ns, n, rfl, hS, q⟩ := h
    refine ⟨_, C8.pss_cut (ps_set (i := 2) scNum.nd rfl (.inl rfl) (pe_ifExp (pt_cmpR (op_neD hr.units) (pv 0) (pe_lst pa_nil) (nomark _)) (pe_slice sl_list (pv 0) po_none (po_some pe_int)) (pe_lst (pa_cons pe_int pa_nil))))
      (pss_cons (ps_set (i := 3) scNum.nd rfl (.inl rfl) (pe_op op_add (pe_ix ix_list (pv 2) (pe_op op_mod (pe_callTy call_int1 (by rfl) mi (by decide +kernel) (pa_cons (pv 1) pa_nil)) (pe_callB call_len_seq (by rfl) ml PySem.boot_len (pa_cons (pv 2) pa_nil))) (fun _ _ => rfl))
          (pe_op op_mul pe_int (pe_op op_fdiv (pv 1) (pe_callB call_len_seq (by rfl) ml PySem.boot_len (pa_cons (pv 2) pa_nil))))))
      (pss_cons (ps_par (i := 4) (j := 5) (by rfl) scNum.nd rfl rfl (by decide) rfl rfl (pa_cons (pe_op op_mod (pe_callTy call_int1 (by rfl) mi (by decide +kernel) (pa_cons (pv 3) pa_nil)) pe_int)
          (pa_cons (pe_op op_mod (pe_callTy call_int1 (by rfl) mi (by decide +kernel) (pa_cons (pe_op op_fdiv (pv 3) pe_int) pa_nil)) pe_int) pa_nil)) (by rfl))
      (pss_cons (ps_set (i := 6) scNum.nd rfl (.inl rfl) (pe_op op_mod (pe_callTy call_int1 (by rfl) mi (by decide +kernel) (pa_cons (pe_callB (cr_sum rfl) (by rfl) ms (by decide +kernel) (pa_cons (pv 2) pa_nil)) pa_nil)) pe_int))
      (pss_cons (ps_set (i := 7) scNum.nd rfl (.inl rfl) (pe_op op_mod (pe_callTy call_int1 (by rfl) mi (by decide +kernel) (pa_cons (pe_op op_add (pe_op op_add (pe_op op_mul (pe_op op_add (pv 4) (pe_op op_mul pe_int (pv 1))) pe_int) (pe_op op_mul pe_int (pv 5))) (pv 6)) pa_nil)) pe_int))
      (pss_one (ps_ret (pe_op op_add (pe_op op_mul (pe_op op_mod (pe_callTy call_int1 (by rfl) mi (by decide +kernel) (pa_cons (pe_op op_mul (pv 7) (pe_op op_add (pe_op op_add (pv 7) (pe_op op_mul pe_int (pv 1))) pe_int)) pa_nil)) pe_int) pe_int) (pv 5)))))))), ?_⟩
    refine ⟨fun σ H1 => ∃ l cs, σ = [some (.ref a), some (.int n), some (.ref l), none, none, none, none, none] ∧ Same H H1 ∧ H1 l = some (.lst ((cs : List Int).map V.int)) ∧ cs ≠ [] ∧ cs.length ≤ 63, ?_, ?_⟩
    · refine ⟨_, rfl, by show 0 ≤ sizeLine; decide, fun e ne => ?_⟩
      have s1 : Same H (upd H e (.lst [])) := same_upd ne
      refine ⟨_, _, .lst (s1.seq hS) (dp_ints ns), .lst (sqL upd_same) (dp_ints []), PySem.W.ke_shaped_ints _, PySem.W.ke_shaped_ints _, _, rfl, ?_⟩
      rw [eqv_lst]
      by_cases hns : ns = []
      · rw [decide_eq_true hns]
        refine iteF ⟨by show 1 ≤ sizeLine; decide, fun l nl => ?_⟩
        exact ⟨l, [5], rfl, s1.trans (same_upd nl), upd_same, by simp, by decide⟩
      · rw [decide_eq_false hns]
        refine iteT ⟨_, rfl, 63, rfl, a, _, rfl, s1.seq hS, fun l nl => ?_⟩
        refine ⟨l, ns.take 63, rfl, s1.trans (same_upd nl), by rw [upd_same, cut_ints], ?_, by rw [List.length_take]; omega⟩
        intro z
        exact hns (by simpa using z)
    · rintro σ H1 ⟨l, cs, rfl, s1, hl, hne, h63⟩
      have hlen : (cs.map V.int).length = cs.length := List.length_map ..
      have h0 : 0 < cs.length := List.length_pos_iff.mpr hne
      obtain ⟨j, hj⟩ : ∃ j : Nat, n % ((cs.map V.int).length : Int) = j := ⟨(n % ((cs.map V.int).length : Int)).toNat, by have := Int.emod_nonneg n (show ((cs.map V.int).length : Int) ≠ 0 by omega); omega⟩
      have hjl : j < cs.length := by have := Int.emod_lt_of_pos n (show (0 : Int) < ((cs.map V.int).length : Int) by omega); omega
      have hg : (cs.map V.int)[j]? = some (.int cs[j]) := by rw [List.getElem?_map, List.getElem?_eq_getElem hjl]; rfl
      refine ⟨_, rfl, _, rfl, .inl ⟨_, rfl, _, rfl, l, _, rfl, .inl (sqL hl), _, _, rfl, rfl, by rw [hlen]; omega, ?_⟩⟩
      refine ⟨l, _, (j : Int), _, rfl, congrArg V.int hj, sqL hl, atI_nat hg, ?_⟩
      refine ⟨_, rfl, _, rfl, l, _, rfl, .inl (sqL hl), _, _, rfl, rfl, ⟨by rw [hlen]; omega, by rw [hlen]; omega⟩, _, _, rfl, rfl, .inl ⟨by decide, by decide⟩, _, _, rfl, rfl, ?_⟩
      refine ⟨_, rfl, .inl ⟨_, rfl, _, _, rfl, rfl, (by show (0 : Int) < 1000003; decide), ?_⟩⟩
      refine ⟨_, rfl, _, _, rfl, rfl, ⟨by decide, by decide⟩, .inl ⟨_, rfl, _, _, rfl, rfl, (by show (0 : Int) < 999983; decide), _, _, rfl, ?_⟩⟩
      refine ⟨_, rfl, l, cs, rfl, sqL hl, .inl ⟨_, rfl, _, _, rfl, rfl, (by show (0 : Int) < 65521; decide), ?_⟩⟩
      refine ⟨_, rfl, _, rfl, _, _, rfl, rfl, .inl ⟨by decide, by decide⟩, _, _, rfl, rfl, _, _, rfl, rfl, .inr ⟨by decide, by decide⟩, ?_⟩
      refine ⟨_, rfl, _, _, rfl, rfl, .inl ⟨by decide, by decide⟩, _, _, rfl, rfl, _, rfl, _, _, rfl, rfl, .inl ⟨_, rfl, _, _, rfl, rfl, (by show (0 : Int) < 2147483647; decide), ?_⟩⟩
      refine ⟨_, rfl, _, rfl, _, rfl, _, _, rfl, rfl, .inl ⟨by decide, by decide⟩, _, _, rfl, rfl, _, _, rfl, rfl, _, _, rfl, rfl, .inl ?_, .inl ⟨_, rfl, _, _, rfl, rfl, (by show (0 : Int) < 2147483629; decide), _, _, rfl, rfl, .inr ⟨by decide, by decide⟩, _, rfl, _, _, rfl, rfl, q _ H1 s1⟩⟩
      exact (fun x : Int => (by omega : -2 ^ 64 < x % 2147483647 ∧ x % 2147483647 < 2 ^ 64)) _
/-- the drawing defs, as the top has written them -/
structure DrT (K : PySem.W.Frag) (mg : Str → Option Value) (f1 f2 f3 f4 f5 : Addr) (d1 d2 d3 d4 d5 : FuncData) : Prop where
  int : mg "int" = none
  len : mg "len" = none
  sum : mg "sum" = none
  range : mg "range" = none
  list : mg "list" = none
  tuple : mg "tuple" = none
  F1 : Fun K "_law_number" "_law_number" sNum f1 d1
  F2 : Fun K "_law_take" "_law_take" sTake f2 d2
  F3 : Fun K "_law_pick" "_law_pick" sPick f3 d3
  F4 : Fun K "_law_counts" "_law_counts" sCounts f4 d4
  F5 : Fun K "_law_given" "_law_given" sGiven f5 d5
  g1 : mg "_law_number" = some (.ref f1)
  g2 : mg "_law_take" = some (.ref f2)
  g3 : mg "_law_pick" = some (.ref f3)
  g4 : mg "_law_counts" = some (.ref f4)
  g5 : mg "_law_given" = some (.ref f5)
  b1 : Binds K d1 ["script", "index"] []
  b2 : Binds K d2 ["draw", "many"] []
  b3 : Binds K d3 ["draw", "things"] []
  b4 : Binds K d4 ["draw", "most"] []
  b5 : Binds K d5 ["draw", "rows"] []
variable {f1 f2 f3 f4 f5 : Addr} {d1 d2 d3 d4 d5 : FuncData}
theorem scTake : FnScope ["draw", "many"] ["draw", "many"] (defScope sTake) := ⟨rfl, rfl, rfl, by decide +kernel, rfl, by decide +kernel, by decide +kernel⟩
theorem ok_take (D : DrT K mg f1 f2 f3 f4 f5 d1 d2 d3 d4 d5) : FnOk P w K mg base CX0 2 f2 d2 ["draw", "many"] (spTake K) := by
  have G1 : FnOk P w K mg base CX0 1 f1 d1 ["script", "index"] (spNum K) := ok_num D.F1 D.int D.len D.sum
  refine D.F2.ok scTake (fun vs H Q E h => ?_) (fun cdv A outer s H vs Q E hr h => ?_)
  · obtain ⟨d, m, z, rfl, _⟩ := h
    rfl
  · obtain ⟨d, m, z, rfl, ⟨⟨n, hd⟩, hs, ne⟩, hm, q⟩ := h
    refine ⟨_, pss_cons (ps_asg (pe_op op_add (pe_ix ix_list (pv 0) pe_int (fun _ _ => rfl)) pe_int) (pg_sub (pv 0) pe_int set_list))
      (pss_one (ps_ret (pe_op op_mod (pe_callTy call_int1 (by rfl) D.int (by decide +kernel) (pa_cons (pe_call G1 hr (by rfl) D.g1 D.F1.kp D.b1 .nil pass0 (pa_cons (pe_ix ix_list (pv 0) pe_int (fun _ _ => rfl)) (pa_cons (pe_callTy call_int1 (by rfl) D.int (by decide +kernel) (pa_cons (pe_ix ix_list (pv 0) pe_int (fun _ _ => rfl)) pa_nil)) pa_nil))) pa_nil)) (pv 1)))), ?_⟩
    refine ⟨_, rfl, d, _, 1, _, rfl, rfl, sqL hd, rfl, _, _, rfl, rfl, _, rfl, d, _, 1, 1, rfl, rfl, hd, rfl, ?_⟩
    have hd1 : (upd H d (.lst ([V.ref z.a, V.int n].set 1 (V.int (n + 1))))) d = some (.lst [V.ref z.a, V.int (n + 1)]) := upd_same
    have hs1 : Sc K (upd H d (.lst ([V.ref z.a, V.int n].set 1 (V.int (n + 1))))) z.a (z.sc.map V.int) z.b := Sc.put hs ne
    refine ⟨_, rfl, d, _, 0, _, rfl, rfl, sqL hd1, rfl, _, rfl, d, _, 1, _, rfl, rfl, sqL hd1, rfl, .inl ⟨_, rfl, z.a, z.sc, n + 1, rfl, hs1.sq, fun i H2 s2 => ?_⟩⟩
    refine .inl ⟨_, rfl, _, rfl, _, _, rfl, rfl, hm, ?_⟩
    refine q _ H2 (Int.emod_nonneg _ (by omega)) (Int.emod_lt_of_pos _ hm) (fun b o nb e => s2 _ _ (by rw [upd_ne nb]; exact e)) ⟨⟨n + 1, s2 _ _ hd1⟩, hs1.keep (s2 _), ne⟩
theorem scPick : FnScope ["draw", "things"] ["draw", "things"] (defScope sPick) := ⟨rfl, rfl, rfl, by decide +kernel, rfl, by decide +kernel, by decide +kernel⟩
theorem ok_pick (D : DrT K mg f1 f2 f3 f4 f5 d1 d2 d3 d4 d5) : FnOk P w K mg base CX0 3 f3 d3 ["draw", "things"] (spPick K) := by
  have G2 : FnOk P w K mg base CX0 2 f2 d2 ["draw", "many"] (spTake K) := ok_take D
  refine D.F3.ok scPick (fun vs H Q E h => ?_) (fun cdv A outer s H vs Q E hr h => ?_)
  · obtain ⟨d, t, xs, z, rfl, _⟩ := h
    rfl
  · obtain ⟨d, t, xs, z, rfl, hw, ht, hx, ne, q⟩ := h
    have h0 : 0 < xs.length := List.length_pos_iff.mpr hx
    refine ⟨_, pss_one (ps_ret (pe_ix ix_list (pv 1) (pe_call G2 hr (by rfl) D.g2 D.F2.kp D.b2 .nil pass0 (pa_cons (pv 0) (pa_cons (pe_callB call_len_seq (by rfl) D.len PySem.boot_len (pa_cons (pv 1) pa_nil)) pa_nil))) (fun _ _ => rfl))), ?_⟩
    refine ⟨_, rfl, _, rfl, _, rfl, t, xs, rfl, .inl (sqL ht), d, (xs.length : Int), z, rfl, hw, by omega, fun i H2 i0 i1 s2 hw2 => ?_⟩
    obtain ⟨j, rfl⟩ : ∃ j : Nat, i = j := ⟨i.toNat, by omega⟩
    have hj : j < xs.length := by omega
    exact ⟨t, xs, (j : Int), xs[j], rfl, rfl, sqL (s2 _ _ ne ht), atI_nat (List.getElem?_eq_getElem hj), q j _ H2 (List.getElem?_eq_getElem hj) s2 hw2⟩
theorem scGiven : FnScope ["draw", "rows"] ["draw", "rows"] (defScope sGiven) := ⟨rfl, rfl, rfl, by decide +kernel, rfl, by decide +kernel, by decide +kernel⟩
theorem ok_given (D : DrT K mg f1 f2 f3 f4 f5 d1 d2 d3 d4 d5) : FnOk P w K mg base CX0 3 f5 d5 ["draw", "rows"] (spGiven K) := by
  have G2 : FnOk P w K mg base CX0 2 f2 d2 ["draw", "many"] (spTake K) := ok_take D
  refine D.F5.ok scGiven (fun vs H Q E h => ?_) (fun cdv A outer s H vs Q E hr h => ?_)
  · obtain ⟨d, r, ns, z, rfl, _⟩ := h
    rfl
  · obtain ⟨d, r, ns, z, rfl, hw, ht, ne, q⟩ := h
    refine ⟨_, pss_one (ps_ret (pe_ifExp (pt_cmpR op_eq (pe_call G2 hr (by rfl) D.g2 D.F2.kp D.b2 .nil pass0 (pa_cons (pv 0) (pa_cons pe_int pa_nil))) pe_int (nomark _)) (pe_callTy call_list_of (by rfl) D.list (by decide +kernel) (pa_cons (pv 1) pa_nil)) (pe_callTy call_tuple_of (by rfl) D.tuple (by decide +kernel) (pa_cons (pv 1) pa_nil)))), ?_⟩
    refine ⟨_, rfl, d, 2, z, rfl, hw, by decide, fun i H2 i0 i1 s2 hw2 => ⟨rfl, _, rfl, ?_⟩⟩
    have ht2 := s2 _ _ ne ht
    have old : ∀ l, H2 l = none → l ≠ d → H l = none := fun l h nd => by
      cases e : H l with
      | none => rfl
      | some o => rw [s2 _ _ nd e] at h; cases h
    have nd : ∀ l, H2 l = none → l ≠ d := fun l h z => by
      obtain ⟨⟨n, e⟩, _, _⟩ := hw2
      rw [z, e] at h
      cases h
    refine ite2 (fun _ => ?_) (fun _ => ?_)
    · exact ⟨_, rfl, r, _, rfl, .inl (sqL ht2), fun l nl => q l _ (old l nl (nd l nl)) (s2.trans (Step.of (same_upd nl))) (hw2.same (same_upd nl)) (.inl upd_same)⟩
    · exact ⟨_, rfl, r, _, rfl, .inl ⟨sqL ht2, fun l nl => q l _ (old l nl (nd l nl)) (s2.trans (Step.of (same_upd nl))) (hw2.same (same_upd nl)) (.inr upd_same)⟩⟩
theorem all_snoc {ns : List Int} {v : Int} (h : ns.all (inB 0 9) = true) (h0 : 0 ≤ v) (h9 : v ≤ 9) : (ns ++ [v]).all (inB 0 9) = true := by
  rw [List.all_append, h]
  simp [inB, h0, h9]
theorem scCounts : FnScope ["draw", "most", "found", "value", "count"] ["draw", "most"] (defScope sCounts) := ⟨rfl, rfl, rfl, by decide +kernel, rfl, by decide +kernel, by decide +kernel⟩
theorem ok_counts (D : DrT K mg f1 f2 f3 f4 f5 d1 d2 d3 d4 d5) : FnOk P w K mg base CX0 3 f4 d4 ["draw", "most"] (spCounts K) := by
  have G2 : FnOk P w K mg base CX0 2 f2 d2 ["draw", "many"] (spTake K) := ok_take D
  refine D.F4.ok scCounts (fun vs H Q E h => ?_) (fun cdv A outer s H vs Q E hr h => ?_)
  · obtain ⟨d, m, z, rfl, _⟩ := h
    rfl
  · obtain ⟨d, m, z, rfl, hw, hm, hm2, q⟩ := h
    refine ⟨_, pss_cons (ps_set (i := 2) scCounts.nd rfl (.inl rfl) (pe_lst pa_nil))
      (pss_cons (ps_for PassesOwn.never rfl (pi_range1 rfl D.range (pa_cons (pe_op op_add pe_int (pe_call G2 hr (by rfl) D.g2 D.F2.kp D.b2 .nil pass0 (pa_cons (pv 0) (pa_cons (pv 1) pa_nil)))) pa_nil)) (pg_name (i := 3) scCounts.nd rfl (.inl rfl))
        (C8.pss_cut (ps_set (i := 4) scCounts.nd rfl (.inl rfl) (pe_ifExp (pt_cmpR op_eq (pe_call G2 hr (by rfl) D.g2 D.F2.kp D.b2 .nil pass0 (pa_cons (pv 0) (pa_cons pe_int pa_nil))) pe_int (nomark _))
            (pe_call G2 hr (by rfl) D.g2 D.F2.kp D.b2 .nil pass0 (pa_cons (pv 0) (pa_cons pe_int pa_nil))) (pe_call G2 hr (by rfl) D.g2 D.F2.kp D.b2 .nil pass0 (pa_cons (pv 0) (pa_cons pe_int pa_nil)))))
          (pss_one (ps_expr (pe_bm PySem.F.plainAttrs_list PySem.F.slot_list_append PySem.F.type_list_append mt_append (pv 2) (pa_cons
            (pe_ifExp (PW.pt (pw_and (pt_cmpR (op_neD hr.units) (pv 2) (pe_lst pa_nil) (nomark _)) (pw_and1 (pt_cmpR op_eq (pe_call G2 hr (by rfl) D.g2 D.F2.kp D.b2 .nil pass0 (pa_cons (pv 0) (pa_cons pe_int pa_nil))) pe_int (nomark _)))))
              (pe_ix ix_list (pv 2) (pe_un un_neg pe_int) (fun _ _ => rfl)) (pv 4)) pa_nil))))))
      (pss_one (ps_ret (pv 2)))), ?_⟩
    refine ⟨by show 0 ≤ sizeLine; decide, fun l nl => ?_⟩
    have nd := hw.nd nl
    have s0 : Step d H (upd H l (.lst [])) := Step.of (same_upd nl)
    refine ⟨_, rfl, _, rfl, d, m, z, rfl, hw.same (same_upd nl), hm, fun i H2 i0 i1 s2 hw2 => ⟨_, _, rfl, rfl, 1 + i, rfl, by omega, by omega, ?_⟩⟩
    have e2 : H2 l = some (.lst (([] : List Int).map V.int)) := s2 _ _ nd upd_same
    refine for_range (lo := 0) (n := (1 + i).toNat) (fun k σ H3 => ∃ v c ns, σ = [some (.ref d), some (.int m), some (.ref l), v, c] ∧ Step d H H3 ∧ Dw K H3 d z ∧ H3 l = some (.lst ((ns : List Int).map V.int)) ∧ ns.length = k ∧ ns.all (inB 0 9) = true)
      ⟨none, none, [], rfl, s0.trans s2, hw2, e2, rfl, rfl⟩ ?_ ?_
    · rintro k σ H3 hk ⟨v, c, ns, rfl, s3, hw3, e3, hl3, ha3⟩
      refine ⟨fun σ H4 => ∃ c, σ = [some (.ref d), some (.int m), some (.ref l), some (.int (0 + (k : Int))), some (.int c)] ∧ Step d H H4 ∧ Dw K H4 d z ∧ H4 l = some (.lst (ns.map V.int)) ∧ 0 ≤ c ∧ c ≤ 9, ?_, ?_⟩
      · refine ⟨_, rfl, d, 3, z, rfl, hw3, by decide, fun j H4 j0 j1 s4 hw4 => ⟨rfl, _, rfl, ?_⟩⟩
        refine ite2 (fun _ => ?_) (fun _ => ?_)
        · exact ⟨_, rfl, d, 10, z, rfl, hw4, by decide, fun c H5 c0 c1 s5 hw5 => ⟨c, rfl, (s3.trans s4).trans s5, hw5, s5 _ _ nd (s4 _ _ nd e3), c0, by omega⟩⟩
        · exact ⟨_, rfl, d, 4, z, rfl, hw4, by decide, fun c H5 c0 c1 s5 hw5 => ⟨c, rfl, (s3.trans s4).trans s5, hw5, s5 _ _ nd (s4 _ _ nd e3), c0, by omega⟩⟩
      · rintro σ H4 ⟨c, rfl, s4, hw4, e4, c0, c9⟩
        have fin : ∀ (y : Int) (H5 : Hp), Step d H H5 → Dw K H5 d z → H5 l = some (.lst (ns.map V.int)) → 0 ≤ y → y ≤ 9 →
            rAppend (V.ref l) [V.int y] H5 (fun _ H6 => ∃ (v2 c2 : Option V) (ms : List Int), [some (V.ref d), some (V.int m), some (V.ref l), some (V.int (0 + (k : Int))), some (V.int c)] = [some (V.ref d), some (V.int m), some (V.ref l), v2, c2] ∧ Step d H H6 ∧ Dw K H6 d z ∧ H6 l = some (.lst (ms.map V.int)) ∧ ms.length = k + 1 ∧ ms.all (inB 0 9) = true) := by
          intro y H5 s5 hw5 e5 y0 y9
          refine ⟨l, _, _, rfl, rfl, e5, by rw [List.length_map]; exact small1000 (by omega), ?_⟩
          refine ⟨_, _, ns ++ [y], rfl, s5.upd nl, hw.upd hw5 nl, by rw [upd_same, List.map_append]; rfl, by rw [List.length_append, hl3]; rfl, all_snoc ha3 y0 y9⟩
        refine ⟨_, rfl, .inl ⟨rfl, _, sqL e4⟩, _, rfl, by show 0 ≤ sizeLine; decide, fun e ne => ?_⟩
        have hw5 : Dw K (upd H4 e (.lst [])) d z := hw4.same (same_upd ne)
        have s5 : Step d H (upd H4 e (.lst [])) := s4.trans (Step.of (same_upd ne))
        have nle : l ≠ e := fun q => by rw [← q, e4] at ne; cases ne
        have e5 : (upd H4 e (.lst [])) l = some (.lst (ns.map V.int)) := by rw [upd_ne nle]; exact e4
        refine ⟨_, _, .lst (sqL e5) (dp_ints ns), .lst (sqL upd_same) (dp_ints []), PySem.W.ke_shaped_ints _, PySem.W.ke_shaped_ints _, _, rfl, ?_⟩
        rw [eqv_lst]
        by_cases hns : ns = []
        · rw [decide_eq_true hns]
          exact iteF (iteF ⟨_, rfl, fin c _ s5 hw5 e5 c0 c9⟩)
        · rw [decide_eq_false hns]
          refine iteT ⟨_, rfl, d, 4, z, rfl, hw5, by decide, fun j H6 j0 j1 s6 hw6 => ⟨rfl, _, rfl, ?_⟩⟩
          have e6 := s6 _ _ nd e5
          refine ite2 (fun _ => ?_) (fun _ => ?_)
          · obtain ⟨r, y, er⟩ : ∃ r y, ns = r ++ [y] := ⟨ns.dropLast, ns.getLast hns, (List.dropLast_concat_getLast hns).symm⟩
            have by' : 0 ≤ y ∧ y ≤ 9 := by
              have := List.all_eq_true.mp ha3 y (by rw [er]; simp)
              simpa [inB] using this
            exact ⟨_, rfl, _, rfl, l, _, _, _, rfl, rfl, sqL e6, by rw [er, List.map_append]; exact atI_last _ _, fin y _ (s5.trans s6) hw6 e6 by'.1 by'.2⟩
          · exact ⟨_, rfl, fin c _ (s5.trans s6) hw6 e6 c0 c9⟩
    · rintro σ H3 ⟨v, c, ns, rfl, s3, hw3, e3, hl3, ha3⟩
      exact ⟨_, rfl, q l ns H3 nl s3 hw3 e3 (by omega) (by omega) ha3⟩
end
end K1
namespace K1
open PySem PySem.Spec PyProof.Rows L2 BK
theorem srtL_zero (ns : List Int) : srtL ns 0 = [] := rfl
theorem take_zero_sum (ns : List Int) : (ns.take 0).sum = 0 := by simp
theorem filt_rep (p : Int → Bool) (c : Nat) (x : Int) : ((List.replicate c x).filter p).length = if p x = true then c else 0 := by
  rw [List.filter_replicate]
  split <;> simp
/-- how many of the sorted rows a test takes, by values below i -/
theorem srt_filter {ns : List Int} (h : ns.all (inB 0 9) = true) (p : Int → Bool) : ∀ i, i < ns.length → 
    (((srtL ns (i + 1)).filter p).length : Int) = ((srtL ns i).filter p).length + (if p (i : Int) = true then ns.getD i 0 else 0) := by
  intro i hi
  have e := List.getElem?_eq_getElem hi
  have b := inB_of h e
  rw [srtL_succ e, List.filter_append, List.length_append, filt_rep, getD_of e]
  split <;> omega
theorem srt_below {ns : List Int} (h : ns.all (inB 0 9) = true) (v : Nat) : ∀ i, i ≤ ns.length → (((srtL ns i).filter fun x => decide (x < (v : Int))).length : Int) = (ns.take (min v i)).sum
  | 0, _ => by simp [srtL]
  | i + 1, hi => by
    have hlt : i < ns.length := by omega
    have e := List.getElem?_eq_getElem hlt
    rw [srt_filter h _ i hlt, srt_below h v i (by omega), getD_of e]
    by_cases hv : i < v
    · rw [Nat.min_eq_right (by omega), Nat.min_eq_right (by omega), if_pos (by simpa using hv), take_sum e]
    · rw [Nat.min_eq_left (by omega), Nat.min_eq_left (by omega), if_neg (by simpa using hv)]
      omega
theorem srt_all {ns : List Int} (h : ns.all (inB 0 9) = true) : ((srtL ns ns.length).length : Int) = ns.sum := by
  have e := srt_below h ns.length ns.length (Nat.le_refl _)
  rw [Nat.min_self, List.take_length] at e
  rw [← e]
  congr 2
  symm
  rw [List.filter_eq_self]
  intro x hx
  unfold srtL at hx
  rw [List.mem_flatten] at hx
  obtain ⟨l, hl, hx⟩ := hx
  rw [List.mem_map] at hl
  obtain ⟨k, hk, rfl⟩ := hl
  rw [List.mem_range] at hk
  have := List.eq_of_mem_replicate hx
  rw [this]
  simpa using hk
theorem srt_between {ns : List Int} (h : ns.all (inB 0 9) = true) {a b : Nat} (hab : a ≤ b) : ∀ i, i ≤ ns.length → (((srtL ns i).filter fun x => decide ((a : Int) ≤ x) && decide (x < (b : Int))).length : Int) = (ns.take (min b i)).sum - (ns.take (min a i)).sum
  | 0, _ => by simp [srtL]
  | i + 1, hi => by
    have hlt : i < ns.length := by omega
    have e := List.getElem?_eq_getElem hlt
    rw [srt_filter h _ i hlt, srt_between h hab i (by omega), getD_of e]
    by_cases h1 : i < a
    · rw [Nat.min_eq_right (by omega), Nat.min_eq_right (by omega), Nat.min_eq_right (by omega), Nat.min_eq_right (by omega), if_neg (by simp; omega), take_sum e]
      omega
    · by_cases h2 : i < b
      · rw [show min b i = i by omega, show min b (i + 1) = i + 1 by omega, show min a i = a by omega, show min a (i + 1) = a by omega, if_pos (by simp; omega), take_sum e]
        omega
      · rw [show min b i = b by omega, show min b (i + 1) = b by omega, show min a i = a by omega, show min a (i + 1) = a by omega, if_neg (by simp; omega)]
        omega
theorem drop_take_sum (ns : List Int) (a b : Nat) (hab : a ≤ b) : ((ns.drop a).take (b - a)).sum = (ns.take b).sum - (ns.take a).sum := by
  have e : ns.take b = ns.take a ++ (ns.drop a).take (b - a) := by
    rw [← List.take_add]
    congr 1
    omega
  rw [e, List.sum_append]
  omega
def stqN (ns : List Int) (i : Nat) : Nat := ((List.range i).filter fun k => decide (k = 0) || !decide (ns.getD k 0 = ns.getD (k - 1) 0)).length
theorem stq_succ (ns : List Int) (i : Nat) : stqN ns (i + 1) = stqN ns i + (if (decide (i = 0) || !decide (ns.getD i 0 = ns.getD (i - 1) 0)) = true then 1 else 0) := by
  unfold stqN
  rw [List.range_succ, List.filter_append, List.length_append]
  congr 1
  simp only [List.filter]
  split <;> simp_all
theorem stq_stp (ns : List Int) : ∀ i, stqN ns (i + 1) = 1 + stpN ns i
  | 0 => rfl
  | i + 1 => by
    rw [stq_succ, stq_stp ns i]
    unfold stpN
    rw [List.range_succ, List.filter_append, List.length_append]
    simp only [Nat.add_sub_cancel]
    have : (if (decide (i + 1 = 0) || !decide (ns.getD (i + 1) 0 = ns.getD i 0)) = true then 1 else 0) = (List.filter (fun k => decide (ns.getD k 0 ≠ ns.getD (k + 1) 0)) [i]).length := by
      simp only [List.filter]
      generalize ns.getD (i + 1) 0 = u
      generalize ns.getD i 0 = v
      by_cases e : u = v
      · simp [e]
      · simp [e, Ne.symm e]
    omega
/-! dict([(one, 1) for one in line]) -/
def gK (k : Int) : Key × V := (Sum.inl k, V.int 1)
theorem any_g (l : List Int) (k : Int) : ((l.map gK).any fun kv => decide (kv.1 = (Sum.inl k : Key))) = decide (k ∈ l) := by
  induction l with
  | nil => simp
  | cons x r ih =>
    rw [List.map_cons, List.any_cons, ih]
    by_cases e : x = k
    · simp [gK, e]
    · have e' : ¬ k = x := fun z => e z.symm
      simp [gK, e, e']
theorem put_g (l : List Int) (k : Int) : putK (l.map gK) (Sum.inl k) (V.int 1) = if k ∈ l then l.map gK else (l ++ [k]).map gK := by
  unfold putK
  rw [any_g]
  by_cases h : k ∈ l
  · rw [if_pos h, if_pos (by simpa using h), List.map_map]
    refine List.map_congr_left fun x _ => ?_
    simp [Function.comp, gK]
  · rw [if_neg h, if_neg (by simpa using h), List.map_append]
    rfl
theorem fold_in (k : Int) : ∀ (c : Nat) (l : List Int), k ∈ l → ((List.replicate c k).map gK).foldl (fun acc kv => putK acc kv.1 kv.2) (l.map gK) = l.map gK
  | 0, _, _ => rfl
  | c + 1, l, h => by
    rw [List.replicate_succ, List.map_cons, List.foldl_cons]
    show List.foldl _ (putK (l.map gK) (Sum.inl k) (V.int 1)) _ = _
    rw [put_g, if_pos h]
    exact fold_in k c l h
theorem fold_new (k : Int) (c : Nat) (l : List Int) (h : k ∉ l) : ((List.replicate c k).map gK).foldl (fun acc kv => putK acc kv.1 kv.2) (l.map gK) = (if 0 < c then l ++ [k] else l).map gK := by
  cases c with
  | zero => rfl
  | succ c =>
    rw [List.replicate_succ, List.map_cons, List.foldl_cons]
    show List.foldl _ (putK (l.map gK) (Sum.inl k) (V.int 1)) _ = _
    rw [put_g, if_neg h, if_pos (Nat.succ_pos c)]
    exact fold_in k c _ (by simp)
theorem filL_lt (ns : List Int) (i : Nat) : ∀ x ∈ filL ns i, x < (i : Int) := by
  intro x hx
  unfold filL at hx
  rw [List.mem_map] at hx
  obtain ⟨k, hk, rfl⟩ := hx
  have := (List.mem_filter.mp hk).1
  rw [List.mem_range] at this
  omega
theorem merge_srt {ns : List Int} : ∀ i, i ≤ ns.length → mergeK [] ((srtL ns i).map gK) = (filL ns i).map gK
  | 0, _ => rfl
  | i + 1, hi => by
    have hlt : i < ns.length := by omega
    have e := List.getElem?_eq_getElem hlt
    have ih := merge_srt (ns := ns) i (by omega)
    unfold mergeK at ih ⊢
    rw [srtL_succ e, List.map_append, List.foldl_append, ih, fold_new _ _ _ (fun h => absurd (filL_lt ns i _ h) (by omega)), filL_succ e]
    by_cases h : 0 < ns[i]
    · rw [if_pos h, if_pos (by omega)]
    · rw [if_neg h, if_neg (by omega)]
theorem filL_sorted (ns : List Int) (i : Nat) : (filL ns i).Pairwise (· ≤ ·) := by
  unfold filL
  rw [List.pairwise_map]
  refine List.Pairwise.imp (fun {a b} (h : a < b) => by omega) ?_
  exact List.Pairwise.sublist List.filter_sublist List.pairwise_lt_range
theorem perm_sorted {xs ys : List Int} (p : xs.Perm ys) (h1 : xs.Pairwise (· ≤ ·)) (h2 : ys.Pairwise (· ≤ ·)) : xs = ys :=
  p.eq_of_pairwise (le := (· ≤ ·)) (fun a b _ _ h1 h2 => Int.le_antisymm h1 h2) h1 h2
end K1
namespace K1
open PySem PySem.Spec PyProof.Rows L2 BK
abbrev sLaw : Stmt := topS 20
def forBody (s : Stmt) : List Stmt := match s with
  | .For _ _ b _ _ => b
  | _ => []
abbrev sFor : Stmt := (defBody sLaw).getD 1 (.Pass ⟨0, 0, 0, 0⟩)
abbrev st (i : Nat) : Stmt := (forBody sFor).getD i (.Pass ⟨0, 0, 0, 0⟩)
abbrev NL : List Str := ["script", "draw", "turn", "counts", "column", "many", "value", "line", "first", "past", "other", "one"]
theorem scLaw : FnScope NL ["script"] (defScope sLaw) := ⟨rfl, rfl, rfl, by decide +kernel, rfl, by decide +kernel, by decide +kernel⟩
/-! a statement from what holds ahead to what holds behind -/
def Hoare {ι : Type} (X : Cx) (st : Stmt) (A B : ι → L2.St → Hp → Prop) : Prop := ∃ t, PS X st t ∧ ∀ i D σ H, A i σ H → (∀ σ' H', B i σ' H' → D.nx σ' H') → t D σ H
def Hoares {ι : Type} (X : Cx) (sts : List Stmt) (A B : ι → L2.St → Hp → Prop) : Prop := ∃ t, PSs X sts t ∧ ∀ i D σ H, A i σ H → (∀ σ' H', B i σ' H' → D.nx σ' H') → t D σ H
theorem Hoares.one {ι : Type} {X : Cx} {s : Stmt} {A B : ι → L2.St → Hp → Prop} (h : Hoare X s A B) : Hoares X [s] A B :=
  let ⟨t, p, q⟩ := h; ⟨_, pss_one p, fun i D σ H a n => q i D σ H a n⟩
theorem Hoares.cons {ι : Type} {X : Cx} {s : Stmt} {r : List Stmt} {A B C : ι → L2.St → Hp → Prop} (h : Hoare X s A B) (g : Hoares X r B C) : Hoares X (s :: r) A C := by
  obtain ⟨t, p, q⟩ := h
  obtain ⟨u, p2, q2⟩ := g
  exact ⟨_, pss_cons p p2, fun i D σ H a n => q i _ σ H a fun σ' H' b => q2 i D σ' H' b n⟩
structure LT (K : PySem.W.Frag) (mg : Str → Option Value) (C fI fE fL fG fRo fPr fFi fSt fSo fBt : Addr) (dI dE dL dG dRo dPr dFi dSt dSo dBt : FuncData) : Prop where
  sorted : mg "sorted" = none
  dict : mg "dict" = none
  maker : Mk K C fI
  FI : Fun K "__init__" "Column.__init__" sInit fI dI
  FE : Fun K "__eq__" "Column.__eq__" sEq fE dE
  FL : Fun K "__len__" "Column.__len__" sLen fL dL
  FG : Fun K "__getitem__" "Column.__getitem__" sItem fG dG
  FRo : Fun K "rows" "Column.rows" sRows fRo dRo
  FPr : Fun K "prefixes" "Column.prefixes" sPre fPr dPr
  FFi : Fun K "filled" "Column.filled" sFilled fFi dFi
  FSt : Fun K "steps" "Column.steps" sSteps fSt dSt
  FSo : Fun K "sorted_rows" "Column.sorted_rows" sSorted fSo dSo
  FBt : Fun K "between" "Column.between" sBtw fBt dBt
  bI : Binds K dI ["self", "counts"] []
  bE : Binds K dE ["self", "other"] []
  bL : Binds K dL ["self"] []
  bG : Binds K dG ["self", "at"] []
  bRo : Binds K dRo ["self"] []
  bPr : Binds K dPr ["self"] []
  bFi : Binds K dFi ["self"] []
  bSt : Binds K dSt ["self"] []
  bSo : Binds K dSo ["self"] []
  bBt : Binds K dBt ["self", "first", "past"] []
  mRo : Meth K C "rows" fRo
  mPr : Meth K C "prefixes" fPr
  mFi : Meth K C "filled" fFi
  mSt : Meth K C "steps" fSt
  mSo : Meth K C "sorted_rows" fSo
  mBt : Meth K C "between" fBt
  eE : PySem.W.findIn K (.ref C) "__eq__" = some (some (.ref fE))
  eN : PySem.W.findIn K (.ref C) "__ne__" = some (some (.builtin "object.__ne__"))
  eL : PySem.W.findIn K (.ref C) "__len__" = some (some (.ref fL))
  eG : PySem.W.findIn K (.ref C) "__getitem__" = some (some (.ref fG))
  iE : PySem.W.isFn K (.ref fE) = true
  iL : PySem.W.isFn K (.ref fL) = true
  iG : PySem.W.isFn K (.ref fG) = true
  nG : PySem.W.fnIn K fG = true
  xC : ∃ (nm q : Str) (N : Addr) (bs : List Value) (hdct : Bool) (sn : List Str) (sub : List Value) (ab : Bool) (col : Option Bool) (dd : Option Addr) (k0 k1 k2 k3 k5 : Option Value) (newId : String),
    K.lookup C = some (excClassObj nm q C N bs [.type "object"] hdct sn sub ab col dd k0 k1 k2 k3 k5 newId)
/-- what stands between two statements of a turn -/
structure Bx (K : PySem.W.Frag) (C : Addr) (H : Hp) (d : Addr) (z : Src) (c p : Addr) (ns : List Int) : Prop where
  dw : Dw K H d z
  cl : H c = some (.lst (ns.map V.int))
  col : ColAt C H p ns
  gd : Good ns
theorem ne_ints {K : PySem.W.Frag} {H : Hp} {d l : Addr} {z : Src} {ns : List Int} (h : Dw K H d z) (e : H l = some (.lst (ns.map V.int))) : l ≠ d := fun q => by
  obtain ⟨n, h⟩ := h.at_
  rw [q, h] at e
  cases ns <;> simp at e
theorem Bx.same {K : PySem.W.Frag} {C : Addr} {H H' : Hp} {d : Addr} {z : Src} {c p : Addr} {ns : List Int} (b : Bx K C H d z c p ns) (s : Same H H') : Bx K C H' d z c p ns := ⟨b.dw.same s, s _ _ b.cl, b.col.same s, b.gd⟩
theorem Bx.step {K : PySem.W.Frag} {C : Addr} {H H' : Hp} {d : Addr} {z : Src} {c p : Addr} {ns : List Int} (b : Bx K C H d z c p ns) (s : Step d H H') (w : Dw K H' d z) : Bx K C H' d z c p ns := by
  obtain ⟨n, e⟩ := b.dw.at_
  obtain ⟨dx, ct, h1, h2⟩ := b.col
  exact ⟨w, s _ _ (ne_ints b.dw b.cl) b.cl, ⟨dx, ct, s _ _ (fun q => by rw [q, e] at h1; cases h1) h1, s _ _ (fun q => by rw [q, e] at h2; cases h2) h2⟩, b.gd⟩
section
variable {P : Program} {w : World} {K : PySem.W.Frag} {mg : Str → Option Value} {base : Heap} {fW fB fA fR C : Addr} {dW dB dA dR : FuncData} {f1 f2 f3 f4 f5 : Addr} {d1 d2 d3 d4 d5 : FuncData}
  {fI fE fL fG fRo fPr fFi fSt fSo fBt : Addr} {dI dE dL dG dRo dPr dFi dSt dSo dBt : FuncData}
variable {f : Addr} {cdv : Value} {A : Around} {outer : List Env} {s : Shared} {H0 : Hp} {E : XK} {d : Addr} {z : Src}
abbrev XL (P : Program) (w : World) (K : PySem.W.Frag) (mg : Str → Option Value) (base : Heap) (f : Addr) (cdv : Value) (A : Around) (outer : List Env) (s : Shared) (H : Hp) (E : XK) : Cx :=
  (cxOf CX0 P w K mg base NL "law" (defScope sLaw) f cdv A outer s H E).nox
def A0 (K : PySem.W.Frag) (d : Addr) (z : Src) : L2.St → Hp → Prop := fun σ H => ∃ x0 x2 x3 x4 x5 x6 x7 x8 x9 x10 x11, σ = [x0, some (V.ref d), x2, x3, x4, x5, x6, x7, x8, x9, x10, x11] ∧ Dw K H d z
def A1 (K : PySem.W.Frag) (d : Addr) (z : Src) : L2.St → Hp → Prop := fun σ H => ∃ x0 x2 c x4 x5 x6 x7 x8 x9 x10 x11 ns, σ = [x0, some (V.ref d), x2, some (V.ref c), x4, x5, x6, x7, x8, x9, x10, x11] ∧ Dw K H d z ∧ H c = some (.lst ((ns : List Int).map V.int)) ∧ Good ns
def A2 (K : PySem.W.Frag) (C : Addr) (d : Addr) (z : Src) : L2.St → Hp → Prop := fun σ H => ∃ x0 x2 c p x6 x7 x8 x9 x10 x11 ns, σ = [x0, some (V.ref d), x2, some (V.ref c), some (V.ref p), some (V.int (ns.length : Int)), x6, x7, x8, x9, x10, x11] ∧ Bx K C H d z c p ns
def A5 (K : PySem.W.Frag) (C : Addr) (d : Addr) (z : Src) : L2.St → Hp → Prop := fun σ H => ∃ x0 x2 c p x6 l x8 x9 x10 x11 ns, σ = [x0, some (V.ref d), x2, some (V.ref c), some (V.ref p), some (V.int (ns.length : Int)), x6, some (V.ref l), x8, x9, x10, x11] ∧ Bx K C H d z c p ns ∧ H l = some (.lst ((srtL ns ns.length).map V.int))
theorem h0 (D : DrT K mg f1 f2 f3 f4 f5 d1 d2 d3 d4 d5) (hr : Room 7 (A.deeper (envOfC "law" (defScope sLaw) s.heap.objs.size f cdv))) : Hoare (XL P w K mg base f cdv A outer s H0 E) (st 0) (fun (i : Addr × Src) => A0 K i.1 i.2) (fun (i : Addr × Src) => A1 K i.1 i.2) := by
  have G4 : FnOk P w K mg base CX0 3 f4 d4 ["draw", "most"] (spCounts K) := ok_counts D
  refine ⟨_, ps_set (i := 3) scLaw.nd rfl (.inr rfl) (pe_call G4 (hr.mono (by decide)) (by rfl) D.g4 D.F4.kp D.b4 .nil pass0 (pa_cons (pv 1) (pa_cons pe_int pa_nil))), ?_⟩
  rintro ⟨d, z⟩ D0 σ H ⟨x0, x2, x3, x4, x5, x6, x7, x8, x9, x10, x11, rfl, hw⟩ nx
  refine ⟨_, rfl, d, 12, z, rfl, hw, by decide, by decide, fun l ns H' nl s1 hw1 e h1 h2 h3 => nx _ _ ?_⟩
  exact ⟨x0, x2, l, x4, x5, x6, x7, x8, x9, x10, x11, ns, rfl, hw1, e, h1, by omega, h3⟩
theorem h1 (D : DrT K mg f1 f2 f3 f4 f5 d1 d2 d3 d4 d5) (Ch : Chk K mg fW fB fA fR dW dB dA dR) (T : CT K mg C) (Lt : LT K mg C fI fE fL fG fRo fPr fFi fSt fSo fBt dI dE dL dG dRo dPr dFi dSt dSo dBt)
    (hr : Room 7 (A.deeper (envOfC "law" (defScope sLaw) s.heap.objs.size f cdv))) : Hoare (XL P w K mg base f cdv A outer s H0 E) (st 1) (fun (i : Addr × Src) => A1 K i.1 i.2) (fun (i : Addr × Src) => A2 K C i.1 i.2) := by
  have G5 : FnOk P w K mg base CX0 3 f5 d5 ["draw", "rows"] (spGiven K) := ok_given D
  have GI : FnOk P w K mg base CX0 4 fI dI ["self", "counts"] (spInit C) := ok_init Lt.FI Ch T
  refine ⟨_, ps_asg (pe_tup (pa_cons (pe_make Lt.maker GI (hr.mono (by decide)) rfl T.mgC Lt.bI .nil pass0 (pa_cons (pe_call G5 (hr.mono (by decide)) (by rfl) D.g5 D.F5.kp D.b5 .nil pass0 (pa_cons (pv 1) (pa_cons (pv 3) pa_nil))) pa_nil))
    (pa_cons (pe_callB call_len_seq (by rfl) T.len PySem.boot_len (pa_cons (pv 3) pa_nil)) pa_nil))) (pg_tup rfl (pgs_cons (pg_name (i := 4) scLaw.nd rfl (Or.inr rfl)) (pgs_cons (pg_name (i := 5) scLaw.nd rfl (Or.inl rfl)) pgs_nil))), ?_⟩
  rintro ⟨d, z⟩ D0 σ H ⟨x0, x2, c, x4, x5, x6, x7, x8, x9, x10, x11, ns, rfl, hw, hc, hg⟩ nx
  refine ⟨_, rfl, _, rfl, d, c, ns, z, rfl, hw, hc, ne_ints hw hc, fun l H1 nl s1 hw1 hs x dx nwx ndx nex => ?_⟩
  have mm : Same H1 (upd (upd H1 dx (.own x)) x (.ins C dx [])) := fun b o e => by
    rw [upd_ne (ne_of_none e nwx), upd_ne (ne_of_none e ndx)]
    exact e
  refine ⟨x, dx, l, ns, rfl, upd_same, Same.sq mm hs, hg, fun H2 col kp => ⟨rfl, ?_⟩⟩
  have sm : Same H1 H2 := fun b o e => kp b o (ne_of_none e nwx) (mm b o e)
  have hc2 := sm _ _ (s1 _ _ (ne_ints hw hc) hc)
  refine ⟨_, rfl, c, _, rfl, .inl (sqL hc2), by show 2 ≤ sizeLine; decide, fun t nt => ?_⟩
  refine ⟨t, _, rfl, sqT upd_same, rfl, _, _, rfl, _, _, rfl, rfl, nx _ _ ?_⟩
  have s3 := sm.trans (same_upd (o := .tup [.ref x, .int ((ns.map V.int).length : Int)]) nt)
  refine ⟨x0, x2, c, x, x6, x7, x8, x9, x10, x11, ns, by rw [List.length_map]; rfl, hw1.same s3, same_upd nt _ _ hc2, col.same (same_upd nt), hg⟩
/-! the first test -/
theorem h2 (T : CT K mg C) (D : DrT K mg f1 f2 f3 f4 f5 d1 d2 d3 d4 d5) (Ch : Chk K mg fW fB fA fR dW dB dA dR) (Lt : LT K mg C fI fE fL fG fRo fPr fFi fSt fSo fBt dI dE dL dG dRo dPr dFi dSt dSo dBt)
    (hr : Room 7 (A.deeper (envOfC "law" (defScope sLaw) s.heap.objs.size f cdv))) : Hoare (XL P w K mg base f cdv A outer s H0 E) (st 2) (fun (i : Addr × Src) => A2 K C i.1 i.2) (fun (i : Addr × Src) => A2 K C i.1 i.2) := by
  have GL : FnOk P w K mg base CX0 1 fL dL ["self"] (spLen C) := ok_len Lt.FL T
  have GG : FnOk P w K mg base CX0 3 fG dG ["self", "at"] (spItem C) := ok_item Lt.FG Ch T
  refine ⟨_, ps_if (PW.pt (pw_or (pt_cmpR (op_neD hr.units) (pe_fld (pv 4) rfl) (pe_callTy call_tuple_of (by rfl) T.tuple (by decide +kernel) (pa_cons (pv 3) pa_nil)) (nomark _))
    (pw_or (pt_cmpR op_ne (pe_callB (call_lenOwn GL (hr.mono (by decide)) Lt.eL Lt.iL Lt.bL pass0) (by rfl) T.len PySem.boot_len (pa_cons (pv 4) pa_nil)) (pv 5) (nomark _))
    (pw_or1 (pt_cmpR (op_neD hr.units) (pe_lc (own := [("value", 6)]) (g := gName 6) (tt := tYes) rfl scLaw.nd (pi_range1 rfl D.range (pa_cons (pv 5) pa_nil)) (blkOk_by (N := NL) (sc := defScope sLaw) (by decide +kernel))
        (fun _ _ _ _ _ => pg_name (i := 6) scLaw.nd rfl (Or.inl rfl)) (fun _ _ _ _ _ => pts_nil) (fun _ _ _ _ _ => pe_ixOwn GG (hr.mono (by decide)) Lt.eG Lt.nG Lt.iG Lt.bG pass0 (pv 4) (pv 6))) (pv 3) (nomark _)))))) (pss_one ps_never) pss_nil, ?_⟩
  rintro ⟨d, z⟩ D0 σ H ⟨x0, x2, c, p, x6, x7, x8, x9, x10, x11, ns, rfl, b⟩ nx
  obtain ⟨dx, ct, e1, e2⟩ := b.col
  refine ⟨_, rfl, p, C, dx, _, _, rfl, e1, T.cl, T.nC, lk ct, _, rfl, c, ns.map V.int, rfl, .inl ⟨sqL b.cl, fun t nt => ?_⟩⟩
  have s1 : Same H (upd H t (.tup (ns.map V.int))) := same_upd nt
  refine ⟨_, _, .tup (sqT (s1 _ _ e2)) (dp_ints ns), .tup (sqT upd_same) (dp_ints ns), shaped_tup ns, shaped_tup ns, _, rfl, ?_⟩
  rw [eqv_tup, decide_eq_true rfl]
  refine iteF ⟨_, rfl, p, dx, _, rfl, s1 _ _ e1, p, ns, rfl, b.col.same s1, _, rfl, by omega, by have := b.gd.2.1; omega, _, rfl, rfl, _, rfl, ?_⟩
  rw [decide_eq_true rfl]
  refine iteF ⟨_, rfl, _, rfl, by have := b.gd.2.1; omega, by have := b.gd.2.1; omega, fun D nD => lc_range (lo := 0) (n := (ns.length : Int).toNat) (fun i H1 => Same H H1 ∧ H1 D = some (.lst ((ns.take i).map V.int)))
    ⟨s1.trans (same_upd nD), by rw [upd_same]; rfl⟩ (fun i H1 hi h => ?_) (fun H1 h => ?_)⟩
  · have hlt : i < ns.length := by omega
    have eg := List.getElem?_eq_getElem hlt
    have nD0 : H D = none := s1.free nD
    refine ⟨rfl, _, rfl, _, rfl, p, dx, _, rfl, h.1 _ _ e1, p, ns, i, ns[i], ?_, b.col.same h.1, eg, _, h.2, by rw [List.length_map, List.length_take]; exact small1000 (by have := b.gd.2.1; omega), same_set nD0 h.1, ?_⟩
    · rw [Int.zero_add]
    · rw [upd_same, List.take_succ, eg, List.map_append]
      rfl
  · have e3 : (ns.take (ns.length : Int).toNat) = ns := by rw [Int.toNat_natCast, List.take_length]
    rw [e3] at h
    refine ⟨_, rfl, _, _, .lst (sqL h.2) (dp_ints ns), .lst (sqL (h.1 _ _ b.cl)) (dp_ints ns), PySem.W.ke_shaped_ints _, PySem.W.ke_shaped_ints _, _, rfl, ?_⟩
    rw [eqv_lst, decide_eq_true rfl]
    exact iteF (nx _ _ ⟨x0, x2, c, p, x6, x7, x8, x9, x10, x11, ns, rfl, b.same h.1⟩)
end
end K1
namespace K1
open PySem PySem.Spec PyProof.Rows L2 BK
def noE : Expr := .Name "" ⟨0, 0, 0, 0⟩
def ifTest (s : Stmt) : Expr := match s with
  | .If c _ _ _ => c
  | _ => noE
def cmpRt (e : Expr) : Expr := match e with
  | .Compare _ _ (b :: _) _ => b
  | _ => noE
def lcSc (e : Expr) : Scope := match e with
  | .ListComp _ _ sc _ => sc
  | _ => { kind := .function, names := [], isGenerator := false, isCoroutine := false }
def eD : Env := envOfC "law" (defScope sLaw) 0 0 .none
theorem lk0 {m : Str} {ct : Addr} (h : (m == ("counts" : Str)) = false) : List.lookup m ([("counts", V.ref ct)] : List (Str × V)) = none := by simp [List.lookup, h]
section
variable {P : Program} {w : World} {K : PySem.W.Frag} {mg : Str → Option Value} {base : Heap} {fW fB fA fR C : Addr} {dW dB dA dR : FuncData} {f1 f2 f3 f4 f5 : Addr} {d1 d2 d3 d4 d5 : FuncData}
  {fI fE fL fG fRo fPr fFi fSt fSo fBt : Addr} {dI dE dL dG dRo dPr dFi dSt dSo dBt : FuncData}
variable {f : Addr} {cdv : Value} {A : Around} {outer : List Env} {s : Shared} {H0 : Hp} {E : XK} {d : Addr} {z : Src}
def A3 (K : PySem.W.Frag) (C : Addr) (d : Addr) (z : Src) : L2.St → Hp → Prop := fun σ H => ∃ x0 x2 c p x6 l x8 x9 x10 x11 ns, σ = [x0, some (V.ref d), x2, some (V.ref c), some (V.ref p), some (V.int (ns.length : Int)), x6, some (V.ref l), x8, x9, x10, x11] ∧ Bx K C H d z c p ns ∧ H l = some (.lst [])
theorem h3 : Hoare (XL P w K mg base f cdv A outer s H0 E) (st 3) (fun (i : Addr × Src) => A2 K C i.1 i.2) (fun (i : Addr × Src) => A3 K C i.1 i.2) := by
  refine ⟨_, ps_set (i := 7) scLaw.nd rfl (.inr rfl) (pe_lst pa_nil), ?_⟩
  rintro ⟨d, z⟩ D0 σ H ⟨x0, x2, c, p, x6, x7, x8, x9, x10, x11, ns, rfl, b⟩ nx
  exact ⟨by show 0 ≤ sizeLine; decide, fun l nl => nx _ _ ⟨x0, x2, c, p, x6, l, x8, x9, x10, x11, ns, rfl, b.same (same_upd nl), upd_same⟩⟩
theorem h4 (T : CT K mg C) (D : DrT K mg f1 f2 f3 f4 f5 d1 d2 d3 d4 d5) : Hoare (XL P w K mg base f cdv A outer s H0 E) (st 4) (fun (i : Addr × Src) => A3 K C i.1 i.2) (fun (i : Addr × Src) => A5 K C i.1 i.2) := by
  refine ⟨_, ps_for PassesOwn.never rfl (pi_range1 rfl D.range (pa_cons (pv 5) pa_nil)) (pg_name (i := 6) scLaw.nd rfl (.inl rfl))
    (pss_one (ps_set (i := 7) scLaw.nd rfl (.inr rfl) (pe_op op_cat (pv 7) (pe_op op_rep (pe_lst (pa_cons (pv 6) pa_nil)) (pe_ix ix_list (pv 3) (pv 6) (fun _ _ => rfl)))))), ?_⟩
  rintro ⟨d, z⟩ D0 σ H ⟨x0, x2, c, p, x6, l, x8, x9, x10, x11, ns, rfl, b, e⟩ nx
  have hl := b.gd.2.1
  refine ⟨_, rfl, _, rfl, by omega, by omega, for_range (lo := 0) (n := (ns.length : Int).toNat) (fun i σ H1 => ∃ y l, σ = [x0, some (V.ref d), x2, some (V.ref c), some (V.ref p), some (V.int (ns.length : Int)), y, some (V.ref l), x8, x9, x10, x11] ∧ Bx K C H1 d z c p ns ∧ H1 l = some (.lst ((srtL ns i).map V.int)))
    ⟨x6, l, rfl, b, e⟩ ?_ ?_⟩
  · rintro i σ H1 hi ⟨y, l, rfl, b, e⟩
    have hlt : i < ns.length := by omega
    have eg := List.getElem?_eq_getElem hlt
    have b9 := inB_of b.gd.2.2 eg
    have hsl := srtL_len b.gd.2.2 i (by omega)
    refine ⟨_, rfl, _, rfl, by show 1 ≤ sizeLine; decide, fun m nm => ?_⟩
    have s1 : Same H1 (upd H1 m (.lst [.int (0 + (i : Int))])) := same_upd nm
    refine ⟨_, rfl, _, rfl, c, _, (i : Int), .int ns[i], rfl, by rw [Int.zero_add], sqL (s1 _ _ b.cl), atI_nat (by rw [List.getElem?_map, eg]; rfl), ?_⟩
    refine ⟨m, ns[i], _, rfl, rfl, upd_same, by omega, by omega, Nat.le_of_lt (small1000 (by show 1 * ns[i].toNat ≤ 1000; omega)), fun q nq => ?_⟩
    have s2 := s1.trans (same_upd (o := .lst (List.replicate ns[i].toNat [V.int (0 + (i : Int))]).flatten) nq)
    have e9 : (List.replicate ns[i].toNat [V.int (0 + (i : Int))]).flatten = List.replicate ns[i].toNat (V.int (i : Int)) := by rw [Int.zero_add]; simp
    refine ⟨l, q, _, _, rfl, rfl, s2 _ _ e, upd_same, ?_, fun r nr => ?_⟩
    · rw [List.length_map, e9, List.length_replicate]
      exact Nat.le_of_lt (small1000 (by omega))
    refine ⟨_, r, rfl, b.same (s2.trans (same_upd nr)), ?_⟩
    rw [upd_same, e9, srtL_succ eg, List.map_append]
    simp
  · rintro σ H1 ⟨y, l, rfl, b, e⟩
    rw [Int.toNat_natCast] at e
    exact nx _ _ ⟨x0, x2, c, p, y, l, x8, x9, x10, x11, ns, rfl, b, e⟩
/-! sorted rows and rows -/
theorem h5 (T : CT K mg C) (D : DrT K mg f1 f2 f3 f4 f5 d1 d2 d3 d4 d5) (Lt : LT K mg C fI fE fL fG fRo fPr fFi fSt fSo fBt dI dE dL dG dRo dPr dFi dSt dSo dBt)
    (hr : Room 7 (A.deeper (envOfC "law" (defScope sLaw) s.heap.objs.size f cdv))) : Hoare (XL P w K mg base f cdv A outer s H0 E) (st 5) (fun (i : Addr × Src) => A5 K C i.1 i.2) (fun (i : Addr × Src) => A5 K C i.1 i.2) := by
  have GS : FnOk P w K mg base CX0 1 fSo dSo ["self"] (spSrt C) := ok_srt Lt.FSo T
  have GR : FnOk P w K mg base CX0 1 fRo dRo ["self"] (spRows C) := ok_rows Lt.FRo T
  refine ⟨_, ps_if (PW.pt (pw_or (pt_cmpR (op_neD hr.units) (pe_meth0 (pv 4) T.cl Lt.mSo GS (hr.mono (by decide)) Lt.bSo .nil pass0) (pv 7) (nomark _))
    (pw_or1 (pt_cmpR op_ne (pe_meth0 (pv 4) T.cl Lt.mRo GR (hr.mono (by decide)) Lt.bRo .nil pass0) (pe_callB call_len_seq (by rfl) T.len PySem.boot_len (pa_cons (pv 7) pa_nil)) (nomark _))))) (pss_one ps_never) pss_nil, ?_⟩
  rintro ⟨d, z⟩ D0 σ H ⟨x0, x2, c, p, x6, l, x8, x9, x10, x11, ns, rfl, b, e⟩ nx
  obtain ⟨dx, ct, e1, e2⟩ := b.col
  refine ⟨_, rfl, p, dx, _, rfl, e1, lk0 (by decide +kernel), p, ns, rfl, b.col, b.gd, fun H1 m s1 nm em => ?_⟩
  refine ⟨_, rfl, _, _, .lst (sqL em) (dp_ints _), .lst (sqL (s1 _ _ e)) (dp_ints _), PySem.W.ke_shaped_ints _, PySem.W.ke_shaped_ints _, _, rfl, ?_⟩
  rw [eqv_lst, decide_eq_true rfl]
  refine iteF ⟨_, rfl, p, dx, _, rfl, s1 _ _ e1, lk0 (by decide +kernel), p, ns, rfl, b.col.same s1, _, rfl, l, _, rfl, .inl (sqL (s1 _ _ e)), rfl, _, rfl, ?_⟩
  rw [List.length_map, srt_all b.gd.2.2, decide_eq_true rfl]
  exact iteF (nx _ _ ⟨x0, x2, c, p, x6, l, x8, x9, x10, x11, ns, rfl, b.same s1, s1 _ _ e⟩)
/-- the list of a test's takings over a list of ints -/
theorem filt_succ {xs : List Int} {i : Nat} {v : Int} (p : Int → Bool) (h : xs[i]? = some v) : (xs.take (i + 1)).filter p = if p v = true then (xs.take i).filter p ++ [v] else (xs.take i).filter p := by
  rw [List.take_succ, h, List.filter_append]
  by_cases e : p v = true
  · rw [if_pos e]
    simp [List.filter, e]
  · rw [if_neg e]
    simp [List.filter, e]
theorem filt_len (xs : List Int) (p : Int → Bool) (i : Nat) : ((xs.take i).filter p).length ≤ xs.length :=
  Nat.le_trans (List.length_filter_le _ _) (by rw [List.length_take]; exact Nat.min_le_right _ _)
/-! prefixes -/
theorem h6 (T : CT K mg C) (D : DrT K mg f1 f2 f3 f4 f5 d1 d2 d3 d4 d5) (Lt : LT K mg C fI fE fL fG fRo fPr fFi fSt fSo fBt dI dE dL dG dRo dPr dFi dSt dSo dBt)
    (hr : Room 7 (A.deeper (envOfC "law" (defScope sLaw) s.heap.objs.size f cdv))) : Hoare (XL P w K mg base f cdv A outer s H0 E) (st 6) (fun (i : Addr × Src) => A5 K C i.1 i.2) (fun (i : Addr × Src) => A5 K C i.1 i.2) := by
  have GP : FnOk P w K mg base CX0 1 fPr dPr ["self"] (spPre C) := ok_pre Lt.FPr T
  refine ⟨_, ps_if (pt_cmpR (op_neD hr.units) (pe_meth0 (pv 4) T.cl Lt.mPr GP (hr.mono (by decide)) Lt.bPr .nil pass0)
    (pe_lc (own := [("value", 6)]) (g := gName 6) (tt := tYes)
      (te := tCB (fun xs H Q => ∃ p ys, xs = [V.ref p] ∧ (SqL K H p ys ∨ SqT K H p ys) ∧ Q (.int ys.length) H) (tCons (tLc (iList K (tVar 7)) (gName 11) (tTest (tOp (rI0 fun i j => .bl (decide (i < j))) (tVar 11) (tVar 6))) (tVar 11) [11]) tNil))
      rfl scLaw.nd (pi_range1 rfl D.range (pa_cons (pe_op op_add (pv 5) pe_int) pa_nil)) (blkOk_by (N := NL) (sc := defScope sLaw) (by decide +kernel))
        (fun _ _ _ _ _ => pg_name (i := 6) scLaw.nd rfl (Or.inr rfl)) (fun _ _ _ _ _ => pts_nil)
        (fun _ _ _ _ _ => pe_callB call_len_seq (by rfl) T.len PySem.boot_len (pa_cons (pe_lc (own := [("one", 11)]) (g := gName 11) (tt := tTest (tOp (rI0 fun i j => .bl (decide (i < j))) (tVar 11) (tVar 6))) rfl scLaw.nd (pi_list (pv 7)) (blkOk_by (N := NL) (sc := relabel (lcSc (cmpRt (ifTest (st 6)))) eD) (by decide +kernel))
            (fun _ _ _ _ _ => pg_name (i := 11) scLaw.nd rfl (Or.inl rfl)) (fun _ _ _ _ _ => pts_one (pt_cmpR op_lt (pv 11) (pv 6) (nomark _))) (fun _ _ _ _ _ => pv 11)) pa_nil))) (nomark _)) (pss_one ps_never) pss_nil, ?_⟩
  rintro ⟨d, z⟩ D0 σ H ⟨x0, x2, c, p, x6, l, x8, x9, x10, x11, ns, rfl, b, e⟩ nx
  obtain ⟨dx, ct, e1, e2⟩ := b.col
  have hl := b.gd.2.1
  have hsl := srtL_len b.gd.2.2 ns.length (Nat.le_refl _)
  refine ⟨_, rfl, p, dx, _, rfl, e1, lk0 (by decide +kernel), p, ns, rfl, b.col, b.gd, fun H1 m s1 nm em => ?_⟩
  have em' : H1 m = some (.lst ((preL ns ns.length).map V.int)) := em
  refine ⟨_, rfl, _, _, rfl, rfl, _, rfl, by omega, by omega, fun D1 nD => lc_range (lo := 0) (n := ((ns.length : Int) + 1).toNat) (fun i H2 => Same H1 H2 ∧ H2 D1 = some (.lst (((preL ns ns.length).take i).map V.int)))
    ⟨same_upd nD, by rw [upd_same]; rfl⟩ (fun i H2 hi h => ?_) (fun H2 h => ?_)⟩
  · have hlt : i < ns.length + 1 := by omega
    obtain ⟨s2, eD⟩ := h
    have el := s2 _ _ (s1 _ _ e)
    refine ⟨rfl, _, rfl, l, rfl, ⟨_, sqL el⟩, fun D2 nD2 => lc_list (K := K) (a := l) (xs := (srtL ns ns.length).map V.int) (fun k H3 => Same H2 H3 ∧ H3 D2 = some (.lst ((((srtL ns ns.length).take k).filter fun x => decide (x < (i : Int))).map V.int)))
      ⟨same_upd nD2, by rw [upd_same]; rfl⟩ (fun k H3 _ h => sqL (h.1 _ _ el)) (fun k x H3 hx h => ?_) (fun H3 h => ?_)⟩
    · obtain ⟨v, rfl, hv⟩ := map_get hx
      have fs := filt_succ (fun x => decide (x < (i : Int))) hv
      have fl := filt_len (srtL ns ns.length) (fun x => decide (x < (i : Int))) k
      refine ⟨rfl, _, rfl, _, rfl, _, _, rfl, rfl, _, rfl, ?_⟩
      rw [Int.zero_add]
      refine ite2 (fun q => ?_) (fun q => ?_)
      · rw [if_pos q] at fs
        refine ⟨_, rfl, _, h.2, by rw [List.length_map]; exact small1000 (by omega), same_set nD2 h.1, ?_⟩
        rw [upd_same, fs, List.map_append]
        rfl
      · rw [if_neg q] at fs
        rw [fs]
        exact h
    · rw [List.length_map, List.take_length] at h
      have sb := srt_below b.gd.2.2 i ns.length (Nat.le_refl _)
      rw [Nat.min_eq_left (by omega)] at sb
      have nDD : D1 ≠ D2 := fun q => by rw [← q, eD] at nD2; cases nD2
      refine ⟨D2, _, rfl, .inl (sqL h.2), _, h.1 _ _ eD, ?_, same_set nD (s2.trans h.1), ?_⟩
      · rw [List.length_map, List.length_take]
        unfold preL
        rw [List.length_map, List.length_range]
        exact small1000 (by omega)
      · rw [upd_same, List.length_map, sb, List.take_succ]
        have eg : (preL ns ns.length)[i]? = some (ns.take i).sum := by
          unfold preL
          rw [List.getElem?_map, List.getElem?_range (by omega)]
          rfl
        rw [eg, List.map_append]
        rfl
  · have e3 : (preL ns ns.length).take ((ns.length : Int) + 1).toNat = preL ns ns.length := by
      apply List.take_of_length_le
      unfold preL
      rw [List.length_map, List.length_range]
      omega
    rw [e3] at h
    refine ⟨_, _, .lst (sqL (h.1 _ _ em)) (dp_ints _), .lst (sqL h.2) (dp_ints _), PySem.W.ke_shaped_ints _, PySem.W.ke_shaped_ints _, _, rfl, ?_⟩
    rw [eqv_lst, decide_eq_true rfl]
    have s9 := s1.trans h.1
    exact iteF (nx _ _ ⟨x0, x2, c, p, x6, l, x8, x9, x10, x11, ns, rfl, b.same s9, s9 _ _ e⟩)
end
end K1
namespace K1
open PySem PySem.Spec PyProof.Rows L2 BK
theorem paired_of {R : Addr → Key × V → Prop} : ∀ {ps : List Addr} {xs : List Int}, ps.length = xs.length → (∀ (k : Nat) (p : Addr) (v : Int), ps[k]? = some p → xs[k]? = some v → R p (gK v)) → Paired R ps (xs.map gK)
  | [], [], _, _ => .nil
  | p :: ps, v :: xs, h, q => .cons (q 0 p v rfl rfl) (paired_of (by simpa using h) fun k p' v' h1 h2 => q (k + 1) p' v' (by simpa using h1) (by simpa using h2))
  | [], _ :: _, h, _ => by simp at h
  | _ :: _, [], h, _ => by simp at h
section
variable {P : Program} {w : World} {K : PySem.W.Frag} {mg : Str → Option Value} {base : Heap} {fW fB fA fR C : Addr} {dW dB dA dR : FuncData} {f1 f2 f3 f4 f5 : Addr} {d1 d2 d3 d4 d5 : FuncData}
  {fI fE fL fG fRo fPr fFi fSt fSo fBt : Addr} {dI dE dL dG dRo dPr dFi dSt dSo dBt : FuncData}
variable {f : Addr} {cdv : Value} {A : Around} {outer : List Env} {s : Shared} {H0 : Hp} {E : XK} {d : Addr} {z : Src}
theorem h7 (T : CT K mg C) (Lt : LT K mg C fI fE fL fG fRo fPr fFi fSt fSo fBt dI dE dL dG dRo dPr dFi dSt dSo dBt)
    (hr : Room 7 (A.deeper (envOfC "law" (defScope sLaw) s.heap.objs.size f cdv))) : Hoare (XL P w K mg base f cdv A outer s H0 E) (st 7) (fun (i : Addr × Src) => A5 K C i.1 i.2) (fun (i : Addr × Src) => A5 K C i.1 i.2) := by
  have GF : FnOk P w K mg base CX0 1 fFi dFi ["self"] (spFil C) := ok_fil Lt.FFi T
  refine ⟨_, ps_if (pt_cmpR (op_neD hr.units) (pe_meth0 (pv 4) T.cl Lt.mFi GF (hr.mono (by decide)) Lt.bFi .nil pass0)
    (pe_callB (call_sortedDI rfl) (by rfl) Lt.sorted (by decide +kernel) (pa_cons (pe_callTy (call_dictP rfl) (by rfl) Lt.dict (by decide +kernel) (pa_cons
      (pe_lc (own := [("one", 11)]) (g := gName 11) (tt := tYes) (te := tTup (tCons (tVar 11) (tCons (tC (.int 1)) tNil))) rfl scLaw.nd (pi_list (pv 7)) (blkOk_by (N := NL) (sc := defScope sLaw) (by decide +kernel))
        (fun _ _ _ _ _ => pg_name (i := 11) scLaw.nd rfl (Or.inl rfl)) (fun _ _ _ _ _ => pts_nil) (fun _ _ _ _ _ => pe_tup (pa_cons (pv 11) (pa_cons pe_int pa_nil)))) pa_nil)) pa_nil)) (nomark _)) (pss_one ps_never) pss_nil, ?_⟩
  rintro ⟨d, z⟩ D0 σ H ⟨x0, x2, c, p, x6, l, x8, x9, x10, x11, ns, rfl, b, e⟩ nx
  obtain ⟨dx, ct, e1, e2⟩ := b.col
  have hl := b.gd.2.1
  have hsl := srtL_len b.gd.2.2 ns.length (Nat.le_refl _)
  refine ⟨_, rfl, p, dx, _, rfl, e1, lk0 (by decide +kernel), p, ns, rfl, b.col, b.gd, fun H1 m s1 nm em => ?_⟩
  have el := s1 _ _ e
  refine ⟨_, rfl, l, rfl, ⟨_, sqL el⟩, fun D1 nD => lc_list (K := K) (a := l) (xs := (srtL ns ns.length).map V.int) (fun i H2 => Same H1 H2 ∧ ∃ ps : List Addr, H2 D1 = some (.lst (ps.map V.ref)) ∧ ps.length = i ∧ ∀ (k : Nat) (q : Addr) (v : Int), ps[k]? = some q → (srtL ns ns.length)[k]? = some v → H2 q = some (.tup [.int v, .int 1]))
    ⟨same_upd nD, [], by rw [upd_same]; rfl, rfl, fun k q v h => by simp at h⟩ (fun i H2 _ h => sqL (h.1 _ _ el)) (fun i x H2 hx h => ?_) (fun H2 h => ?_)⟩
  · obtain ⟨v, rfl, hv⟩ := map_get hx
    obtain ⟨s2, ps, eD, lp, hp⟩ := h
    have hi := lt_of_get hv
    refine ⟨rfl, _, rfl, by show 2 ≤ sizeLine; decide, fun t nt => ?_⟩
    have nDt : D1 ≠ t := fun q => by rw [← q, eD] at nt; cases nt
    refine ⟨ps.map V.ref, by rw [upd_ne nDt]; exact eD, by rw [List.length_map]; exact small1000 (by omega), same_set nD (s2.trans (same_upd nt)), ps ++ [t], by rw [upd_same, List.map_append]; rfl, by simp [lp], fun k q u hk hu => ?_⟩
    by_cases hk2 : k < ps.length
    · rw [List.getElem?_append_left hk2] at hk
      have := hp k q u hk hu
      have n1 : q ≠ t := fun z => by rw [← z, this] at nt; cases nt
      have n2 : q ≠ D1 := fun z => by rw [z, eD] at this; cases this
      rw [upd_ne n2, upd_ne n1]
      exact this
    · rw [List.getElem?_append_right (by omega)] at hk
      have hk3 : k - ps.length = 0 := by
        have := lt_of_get hk
        simp at this
        omega
      rw [hk3] at hk
      have eq : t = q := by simpa using hk
      have ek : k = i := by omega
      rw [ek, hv] at hu
      cases Option.some.inj hu
      rw [← eq, upd_ne (Ne.symm nDt), upd_same]
  · obtain ⟨s2, ps, eD, lp, hp⟩ := h
    rw [List.length_map] at lp
    refine ⟨D1, ps, (srtL ns ns.length).map gK, rfl, sqL eD, paired_of lp fun k q v h1 h2 => sqT (hp k q v h1 h2), fun q nq => ?_⟩
    rw [merge_srt _ (Nat.le_refl _)]
    have fl := filL_len ns ns.length
    refine ⟨q, _, filL ns ns.length, rfl, .inl upd_same, by rw [List.map_map]; rfl, by omega, fun ys r pm pw nr => ?_⟩
    have ey : ys = filL ns ns.length := perm_sorted pm pw (filL_sorted ns ns.length)
    rw [ey]
    have s3 : Same H1 (upd (upd H2 q (.dK ((filL ns ns.length).map gK))) r (.lst ((filL ns ns.length).map V.int))) := (s2.trans (same_upd nq)).trans (same_upd nr)
    refine ⟨_, _, .lst (sqL (s3 _ _ em)) (dp_ints _), .lst (sqL upd_same) (dp_ints _), PySem.W.ke_shaped_ints _, PySem.W.ke_shaped_ints _, _, rfl, ?_⟩
    rw [eqv_lst, decide_eq_true rfl]
    have s9 := s1.trans s3
    exact iteF (nx _ _ ⟨x0, x2, c, p, x6, l, x8, x9, x10, x11, ns, rfl, b.same s9, s9 _ _ e⟩)
def A8 (K : PySem.W.Frag) (C : Addr) (d : Addr) (z : Src) : L2.St → Hp → Prop := fun σ H => ∃ x0 x2 c p x6 l a x9 x10 x11 ns, σ = [x0, some (V.ref d), x2, some (V.ref c), some (V.ref p), some (V.int (ns.length : Int)), x6, some (V.ref l), some (V.int ((a : Nat) : Int)), x9, x10, x11] ∧ Bx K C H d z c p ns ∧ H l = some (.lst ((srtL ns ns.length).map V.int)) ∧ a < ns.length
def A9 (K : PySem.W.Frag) (C : Addr) (d : Addr) (z : Src) : L2.St → Hp → Prop := fun σ H => ∃ x0 x2 c p x6 l a b x10 x11 ns, σ = [x0, some (V.ref d), x2, some (V.ref c), some (V.ref p), some (V.int (ns.length : Int)), x6, some (V.ref l), some (V.int ((a : Nat) : Int)), some (V.int ((b : Nat) : Int)), x10, x11] ∧ Bx K C H d z c p ns ∧ H l = some (.lst ((srtL ns ns.length).map V.int)) ∧ a < b ∧ b ≤ ns.length
theorem h8 (D : DrT K mg f1 f2 f3 f4 f5 d1 d2 d3 d4 d5) (hr : Room 7 (A.deeper (envOfC "law" (defScope sLaw) s.heap.objs.size f cdv))) : Hoare (XL P w K mg base f cdv A outer s H0 E) (st 8) (fun (i : Addr × Src) => A5 K C i.1 i.2) (fun (i : Addr × Src) => A8 K C i.1 i.2) := by
  have G2 : FnOk P w K mg base CX0 2 f2 d2 ["draw", "many"] (spTake K) := ok_take D
  refine ⟨_, ps_set (i := 8) scLaw.nd rfl (.inr rfl) (pe_call G2 (hr.mono (by decide)) (by rfl) D.g2 D.F2.kp D.b2 .nil pass0 (pa_cons (pv 1) (pa_cons (pv 5) pa_nil))), ?_⟩
  rintro ⟨d, z⟩ D0 σ H ⟨x0, x2, c, p, x6, l, x8, x9, x10, x11, ns, rfl, b, e⟩ nx
  refine ⟨_, rfl, _, rfl, d, (ns.length : Int), z, rfl, b.dw, by have := b.gd.1; omega, fun i H1 i0 i1 s1 w1 => ?_⟩
  obtain ⟨a, rfl⟩ : ∃ a : Nat, i = a := ⟨i.toNat, by omega⟩
  exact nx _ _ ⟨x0, x2, c, p, x6, l, a, x9, x10, x11, ns, rfl, b.step s1 w1, s1 _ _ (ne_ints b.dw e) e, by omega⟩
theorem h9 (D : DrT K mg f1 f2 f3 f4 f5 d1 d2 d3 d4 d5) (hr : Room 7 (A.deeper (envOfC "law" (defScope sLaw) s.heap.objs.size f cdv))) : Hoare (XL P w K mg base f cdv A outer s H0 E) (st 9) (fun (i : Addr × Src) => A8 K C i.1 i.2) (fun (i : Addr × Src) => A9 K C i.1 i.2) := by
  have G2 : FnOk P w K mg base CX0 2 f2 d2 ["draw", "many"] (spTake K) := ok_take D
  refine ⟨_, ps_set (i := 9) scLaw.nd rfl (.inr rfl) (pe_op op_add (pe_op op_add (pv 8) pe_int) (pe_call G2 (hr.mono (by decide)) (by rfl) D.g2 D.F2.kp D.b2 .nil pass0 (pa_cons (pv 1) (pa_cons (pe_op op_sub (pv 5) (pv 8)) pa_nil)))), ?_⟩
  rintro ⟨d, z⟩ D0 σ H ⟨x0, x2, c, p, x6, l, a, x9, x10, x11, ns, rfl, b, e, ha⟩ nx
  refine ⟨_, rfl, _, _, rfl, rfl, _, rfl, _, rfl, _, rfl, _, _, rfl, rfl, d, (ns.length : Int) - (a : Int), z, rfl, b.dw, by omega, fun i H1 i0 i1 s1 w1 => ⟨_, _, rfl, rfl, ?_⟩⟩
  obtain ⟨k, rfl⟩ : ∃ k : Nat, i = k := ⟨i.toNat, by omega⟩
  refine nx _ _ ⟨x0, x2, c, p, x6, l, a, a + 1 + k, x10, x11, ns, ?_, b.step s1 w1, s1 _ _ (ne_ints b.dw e) e, by omega, by omega⟩
  rw [show ((a + 1 + k : Nat) : Int) = (a : Int) + 1 + (k : Int) by omega]
  rfl
end
end K1
namespace K1
open PySem PySem.Spec PyProof.Rows L2 BK
section
variable {P : Program} {w : World} {K : PySem.W.Frag} {mg : Str → Option Value} {base : Heap} {fW fB fA fR C : Addr} {dW dB dA dR : FuncData} {f1 f2 f3 f4 f5 : Addr} {d1 d2 d3 d4 d5 : FuncData}
  {fI fE fL fG fRo fPr fFi fSt fSo fBt : Addr} {dI dE dL dG dRo dPr dFi dSt dSo dBt : FuncData}
variable {f : Addr} {cdv : Value} {A : Around} {outer : List Env} {s : Shared} {H0 : Hp} {E : XK} {d : Addr} {z : Src}
theorem h10 (T : CT K mg C) (Ch : Chk K mg fW fB fA fR dW dB dA dR) (Lt : LT K mg C fI fE fL fG fRo fPr fFi fSt fSo fBt dI dE dL dG dRo dPr dFi dSt dSo dBt)
    (hr : Room 7 (A.deeper (envOfC "law" (defScope sLaw) s.heap.objs.size f cdv))) : Hoare (XL P w K mg base f cdv A outer s H0 E) (st 10) (fun (i : Addr × Src) => A9 K C i.1 i.2) (fun (i : Addr × Src) => A2 K C i.1 i.2) := by
  have GB : FnOk P w K mg base CX0 4 fBt dBt ["self", "first", "past"] (spBtw C) := ok_btw Lt.FBt Ch T
  refine ⟨_, ps_if (pt_cmpR op_ne (pe_meth (pv 4) T.cl Lt.mBt GB (hr.mono (by decide)) Lt.bBt .nil pass0 (pa_cons (pv 8) (pa_cons (pv 9) pa_nil)))
    (pe_callB call_len_seq (by rfl) T.len PySem.boot_len (pa_cons (pe_lc (own := [("one", 11)]) (g := gName 11) (tt := tTest (tChain (rI0 fun i j => .bl (decide (i ≤ j))) (rI0 fun i j => .bl (decide (i < j))) (tVar 8) (tVar 11) (tVar 9))) (te := tVar 11) rfl scLaw.nd (pi_list (pv 7)) (blkOk_by (N := NL) (sc := defScope sLaw) (by decide +kernel))
        (fun _ _ _ _ _ => pg_name (i := 11) scLaw.nd rfl (Or.inl rfl)) (fun _ _ _ _ _ => pts_one (pt_chain op_le op_lt (pv 8) (pv 11) (pv 9))) (fun _ _ _ _ _ => pv 11)) pa_nil)) (nomark _)) (pss_one ps_never) pss_nil, ?_⟩
  rintro ⟨d, z⟩ D0 σ H ⟨x0, x2, c, p, x6, l, a, b, x10, x11, ns, rfl, bx, e, hab, hb⟩ nx
  obtain ⟨dx, ct, e1, e2⟩ := bx.col
  have hl := bx.gd.2.1
  have hsl := srtL_len bx.gd.2.2 ns.length (Nat.le_refl _)
  refine ⟨_, rfl, p, dx, _, rfl, e1, lk0 (by decide +kernel), _, rfl, _, rfl, p, ns, a, b, rfl, bx.col, bx.gd, hab, hb, fun H1 s1 => ?_⟩
  have el := s1 _ _ e
  refine ⟨_, rfl, l, rfl, ⟨_, sqL el⟩, fun D2 nD2 => lc_list (K := K) (a := l) (xs := (srtL ns ns.length).map V.int) (fun k H3 => Same H1 H3 ∧ H3 D2 = some (.lst ((((srtL ns ns.length).take k).filter fun x => decide ((a : Int) ≤ x) && decide (x < (b : Int))).map V.int)))
      ⟨same_upd nD2, by rw [upd_same]; rfl⟩ (fun k H3 _ h => sqL (h.1 _ _ el)) (fun k x H3 hx h => ?_) (fun H3 h => ?_)⟩
  · obtain ⟨v, rfl, hv⟩ := map_get hx
    have fs := filt_succ (fun x => decide ((a : Int) ≤ x) && decide (x < (b : Int))) hv
    have fl := filt_len (srtL ns ns.length) (fun x => decide ((a : Int) ≤ x) && decide (x < (b : Int))) k
    refine ⟨rfl, _, rfl, _, rfl, _, _, rfl, rfl, _, rfl, ?_⟩
    by_cases q1 : (a : Int) ≤ v
    · rw [decide_eq_true q1]
      refine iteT ⟨_, rfl, _, _, rfl, rfl, _, rfl, ?_⟩
      refine ite2 (fun q => ?_) (fun q => ?_)
      · rw [if_pos (by rw [decide_eq_true q1, q]; rfl)] at fs
        refine ⟨_, rfl, _, h.2, by rw [List.length_map]; exact small1000 (by omega), same_set nD2 h.1, ?_⟩
        rw [upd_same, fs, List.map_append]
        rfl
      · rw [if_neg (by rw [decide_eq_true q1, Bool.true_and]; exact q)] at fs
        rw [fs]
        exact h
    · rw [decide_eq_false q1]
      refine iteF ⟨_, rfl, iteF ?_⟩
      rw [if_neg (by rw [decide_eq_false q1]; simp)] at fs
      rw [fs]
      exact h
  · rw [List.length_map, List.take_length] at h
    have sb := srt_between bx.gd.2.2 (show a ≤ b by omega) ns.length (Nat.le_refl _)
    rw [Nat.min_eq_left hb, Nat.min_eq_left (by omega), ← drop_take_sum ns a b (by omega)] at sb
    refine ⟨D2, _, rfl, .inl (sqL h.2), rfl, _, rfl, ?_⟩
    rw [List.length_map, sb, decide_eq_true rfl]
    have s9 := s1.trans h.1
    exact iteF (nx _ _ ⟨x0, x2, c, p, x6, _, _, _, x10, x11, ns, rfl, bx.same s9⟩)
theorem h11 (T : CT K mg C) (D : DrT K mg f1 f2 f3 f4 f5 d1 d2 d3 d4 d5) (Lt : LT K mg C fI fE fL fG fRo fPr fFi fSt fSo fBt dI dE dL dG dRo dPr dFi dSt dSo dBt)
    (hr : Room 7 (A.deeper (envOfC "law" (defScope sLaw) s.heap.objs.size f cdv))) : Hoare (XL P w K mg base f cdv A outer s H0 E) (st 11) (fun (i : Addr × Src) => A2 K C i.1 i.2) (fun (i : Addr × Src) => A2 K C i.1 i.2) := by
  have GS : FnOk P w K mg base CX0 1 fSt dSt ["self"] (spStp C) := ok_stp Lt.FSt T
  refine ⟨_, ps_if (pt_cmpR op_ne (pe_meth0 (pv 4) T.cl Lt.mSt GS (hr.mono (by decide)) Lt.bSt .nil pass0)
    (pe_callB call_len_seq (by rfl) T.len PySem.boot_len (pa_cons (pe_lc (own := [("value", 6)]) (g := gName 6)
        (tt := tOr (tTest (tOp rEq (tVar 6) (tC (.int 0)))) (tTest (tOp rNe (tOp (rIxL K) (tVar 3) (tVar 6)) (tOp (rIxL K) (tVar 3) (tOp (rI0 fun i j => .int (i - j)) (tVar 6) (tC (.int 1))))))) (te := tVar 6) rfl scLaw.nd (pi_range1 rfl D.range (pa_cons (pv 5) pa_nil)) (blkOk_by (N := NL) (sc := defScope sLaw) (by decide +kernel))
        (fun _ _ _ _ _ => pg_name (i := 6) scLaw.nd rfl (Or.inl rfl))
        (fun _ _ _ _ _ => pts_one (PW.pt (pw_or (pt_cmpR op_eq (pv 6) pe_int (nomark _)) (pw_or1 (pt_cmpR op_ne (pe_ix ix_list (pv 3) (pv 6) (fun _ _ => rfl)) (pe_ix ix_list (pv 3) (pe_op op_sub (pv 6) pe_int) (fun _ _ => rfl)) (nomark _))))))
        (fun _ _ _ _ _ => pv 6)) pa_nil)) (nomark _)) (pss_one ps_never) pss_nil, ?_⟩
  rintro ⟨d, z⟩ D0 σ H ⟨x0, x2, c, p, x6, x7, x8, x9, x10, x11, ns, rfl, bx⟩ nx
  obtain ⟨dx, ct, e1, e2⟩ := bx.col
  have hl := bx.gd.2.1
  have hl1 := bx.gd.1
  refine ⟨_, rfl, p, dx, _, rfl, e1, lk0 (by decide +kernel), p, ns, rfl, bx.col, bx.gd, fun H1 s1 => ?_⟩
  refine ⟨_, rfl, _, rfl, by omega, by omega, fun D2 nD2 => lc_range (lo := 0) (n := (ns.length : Int).toNat) (fun i H3 => Same H1 H3 ∧ ∃ xs, H3 D2 = some (.lst xs) ∧ xs.length = stqN ns i)
      ⟨same_upd nD2, [], by rw [upd_same], rfl⟩ (fun i H3 hi h => ?_) (fun H3 h => ?_)⟩
  · obtain ⟨s3, xs, ex, lx⟩ := h
    have hlt : i < ns.length := by omega
    have eg := List.getElem?_eq_getElem hlt
    have ec := s3 _ _ (s1 _ _ bx.cl)
    have hle : stqN ns i ≤ i := by unfold stqN; exact Nat.le_trans (List.length_filter_le _ _) (by rw [List.length_range]; exact Nat.le_refl _)
    have hsq := stq_succ ns i
    have yes : (decide (i = 0) || !decide (ns.getD i 0 = ns.getD (i - 1) 0)) = true → ∃ acc, H3 D2 = some (.lst acc) ∧ acc.length < sizeLine ∧ Same H1 (upd H3 D2 (.lst (acc ++ [V.int (0 + (i : Int))]))) ∧ ∃ xs, (upd H3 D2 (.lst (acc ++ [V.int (0 + (i : Int))]))) D2 = some (.lst xs) ∧ xs.length = stqN ns (i + 1) := by
      intro q
      rw [if_pos q] at hsq
      exact ⟨xs, ex, small1000 (by omega), same_set nD2 s3, _, upd_same, by rw [List.length_append, lx, hsq]; rfl⟩
    refine ⟨rfl, _, rfl, rfl, _, rfl, ?_⟩
    by_cases q0 : i = 0
    · have : decide (V.int (0 + (i : Int)) = V.int 0) = true := by rw [q0]; rfl
      rw [this]
      exact iteT (iteT ⟨_, rfl, yes (by rw [decide_eq_true q0]; rfl)⟩)
    · have : decide (V.int (0 + (i : Int)) = V.int 0) = false := decide_eq_false fun e => by injection e; omega
      rw [this]
      have hlt2 : i - 1 < ns.length := by omega
      have eg2 := List.getElem?_eq_getElem hlt2
      refine iteF ⟨_, rfl, _, rfl, c, _, (i : Int), .int ns[i], rfl, by rw [Int.zero_add], sqL ec, atI_nat (by rw [List.getElem?_map, eg]; rfl), ?_⟩
      refine ⟨_, rfl, _, rfl, _, _, rfl, rfl, c, _, ((i - 1 : Nat) : Int), .int ns[i - 1], rfl, congrArg V.int (by omega), sqL ec, atI_nat (by rw [List.getElem?_map, eg2]; rfl), rfl, _, rfl, ?_⟩
      rw [getD_of eg, getD_of eg2] at hsq yes
      by_cases q1 : ns[i] = ns[i - 1]
      · have : (!decide (V.int ns[i] = V.int ns[i - 1])) = false := by rw [q1]; simp
        rw [this]
        refine iteF ⟨s3, xs, ex, ?_⟩
        rw [hsq, if_neg (by simp [q0, q1])]
        exact lx
      · have : (!decide (V.int ns[i] = V.int ns[i - 1])) = true := by rw [decide_eq_false (fun e => q1 (by injection e))]; rfl
        rw [this]
        exact iteT ⟨_, rfl, yes (by simp [q1])⟩
  · obtain ⟨s3, xs, ex, lx⟩ := h
    rw [Int.toNat_natCast] at lx
    have hst := stq_stp ns (ns.length - 1)
    rw [Nat.sub_add_cancel hl1, ← lx] at hst
    refine ⟨D2, xs, rfl, .inl (sqL ex), rfl, _, rfl, ?_⟩
    have : decide (V.int (1 + ((stpN ns (ns.length - 1) : Nat) : Int)) = V.int (xs.length : Int)) = true := decide_eq_true (congrArg V.int (by omega))
    rw [this]
    exact iteF (nx _ _ ⟨x0, x2, c, p, x6, x7, x8, x9, x10, x11, ns, rfl, bx.same (s1.trans s3)⟩)
end
end K1
namespace K1
open PySem PySem.Spec PyProof.Rows L2 BK
def GL (H : Hp) (o : Addr) : Prop := ∃ ms, H o = some (.lst ((ms : List Int).map V.int)) ∧ Good ms
theorem GL.same {H H' : Hp} {o : Addr} (g : GL H o) (s : Same H H') : GL H' o := let ⟨ms, h, q⟩ := g; ⟨ms, s _ _ h, q⟩
theorem good_rev {ns : List Int} (g : Good ns) : Good ns.reverse := ⟨by rw [List.length_reverse]; exact g.1, by rw [List.length_reverse]; exact g.2.1, by rw [List.all_reverse]; exact g.2.2⟩
theorem good_five : Good [5] := ⟨by decide, by decide, by decide⟩
theorem good_cut {ns : List Int} (g : Good ns) (h : ¬ ns.take (ns.length - 1) = []) : Good (ns.take (ns.length - 1)) := by
  refine ⟨List.length_pos_iff.mpr h, ?_, ?_⟩
  · rw [List.length_take]
    have := g.2.1
    omega
  · rw [List.all_eq_true]
    intro x hx
    exact List.all_eq_true.mp g.2.2 x (List.mem_of_mem_take hx)
theorem good_zero {ns : List Int} (g : Good ns) (h : ns.length < 12) : Good (ns ++ [0]) := ⟨by rw [List.length_append]; have := g.1; omega, by rw [List.length_append]; show ns.length + 1 ≤ 12; omega, all_snoc g.2.2 (by decide) (by decide)⟩
theorem good_perm {ns ms : List Int} (g : Good ns) (p : ms.Perm ns) : Good ms := by
  refine ⟨by rw [p.length_eq]; exact g.1, by rw [p.length_eq]; exact g.2.1, ?_⟩
  rw [List.all_eq_true]
  intro x hx
  exact List.all_eq_true.mp g.2.2 x (p.mem_iff.mp hx)
theorem cut_last (ns : List Int) (h : 1 ≤ ns.length) : cutV (ns.map V.int) none (some (-1)) = (ns.take (ns.length - 1)).map V.int := by
  unfold cutV
  rw [HT.sIx_none, List.drop_zero, Nat.sub_zero, List.map_take]
  have e : HT.sIx (ns.map V.int).length (ns.map V.int).length (some (-1)) = ns.length - 1 := by
    show (if (-1 : Int) < 0 then (-1 + ((ns.map V.int).length : Int)).toNat else min (-1 : Int).toNat (ns.map V.int).length) = _
    rw [if_pos (by decide), List.length_map]
    omega
  rw [e]
theorem or_five {K : PySem.W.Frag} {σ : L2.St} {T : V → Hp → Prop} {H : Hp} {o : Addr} {ms : List Int} (e : H o = some (.lst (ms.map V.int))) (g : ¬ ms = [] → Good ms) (hT : ∀ o' H', Same H H' → GL H' o' → T (.ref o') H') :
    ∃ k, TruV K (.ref o) H k ∧ if k = true then T (.ref o) H else tLst (tCons (tC (V.int 5)) tNil) σ H T := by
  refine ⟨!(ms.map V.int).isEmpty, .inl ⟨_, sqL e, rfl⟩, ?_⟩
  by_cases h : ms = []
  · rw [h]
    exact iteF ⟨by show 1 ≤ sizeLine; decide, fun q nq => hT q _ (same_upd nq) ⟨[5], upd_same, good_five⟩⟩
  · have : (!(ms.map V.int).isEmpty) = true := by cases ms <;> simp_all
    rw [this]
    exact iteT (hT o H (Same.refl _) ⟨ms, e, g h⟩)
section
variable {P : Program} {w : World} {K : PySem.W.Frag} {mg : Str → Option Value} {base : Heap} {fW fB fA fR C : Addr} {dW dB dA dR : FuncData} {f1 f2 f3 f4 f5 : Addr} {d1 d2 d3 d4 d5 : FuncData}
  {fI fE fL fG fRo fPr fFi fSt fSo fBt : Addr} {dI dE dL dG dRo dPr dFi dSt dSo dBt : FuncData}
variable {f : Addr} {cdv : Value} {A : Around} {outer : List Env} {s : Shared} {H0 : Hp} {E : XK} {d : Addr} {z : Src}
def A12 (K : PySem.W.Frag) (C : Addr) (d : Addr) (z : Src) : L2.St → Hp → Prop := fun σ H => ∃ x0 x2 c p x6 x7 x8 x9 o x11 ns, σ = [x0, some (V.ref d), x2, some (V.ref c), some (V.ref p), some (V.int (ns.length : Int)), x6, x7, x8, x9, some (V.ref o), x11] ∧ Bx K C H d z c p ns ∧ GL H o
theorem h12 (T : CT K mg C) (D : DrT K mg f1 f2 f3 f4 f5 d1 d2 d3 d4 d5) (Lt : LT K mg C fI fE fL fG fRo fPr fFi fSt fSo fBt dI dE dL dG dRo dPr dFi dSt dSo dBt)
    (hr : Room 7 (A.deeper (envOfC "law" (defScope sLaw) s.heap.objs.size f cdv))) : Hoare (XL P w K mg base f cdv A outer s H0 E) (st 12) (fun (i : Addr × Src) => A2 K C i.1 i.2) (fun (i : Addr × Src) => A12 K C i.1 i.2) := by
  have G3 : FnOk P w K mg base CX0 3 f3 d3 ["draw", "things"] (spPick K) := ok_pick D
  refine ⟨_, ps_set (i := 10) scLaw.nd rfl (.inl rfl) (pe_call G3 (hr.mono (by decide)) (by rfl) D.g3 D.F3.kp D.b3 .nil pass0 (pa_cons (pv 1) (pa_cons (pe_lst (pa_cons (pv 3) (pa_cons (pe_revL (pv 3))
    (pa_cons (pe_orT (pe_slice sl_list (pv 3) po_none (po_some (pe_un un_neg pe_int))) (pe_one (pe_lst (pa_cons pe_int pa_nil))))
    (pa_cons (pe_ifExp (pt_cmpR op_lt (pv 5) pe_int (nomark _)) (pe_op op_cat (pv 3) (pe_lst (pa_cons pe_int pa_nil))) (pv 3))
    (pa_cons (pe_callB cr_sortedI (by rfl) Lt.sorted (by decide +kernel) (pa_cons (pv 3) pa_nil)) pa_nil)))))) pa_nil))), ?_⟩
  rintro ⟨d, z⟩ D0 σ H ⟨x0, x2, c, p, x6, x7, x8, x9, x10, x11, ns, rfl, bx⟩ nx
  have hl := bx.gd.2.1
  have hl1 := bx.gd.1
  have g1 : GL H c := ⟨ns, bx.cl, bx.gd⟩
  -- the end: from the five lists on
  have fin : ∀ (o2 o3 o4 o5 t : Addr) (H5 : Hp), Same H H5 → H5 t = none → GL H5 o2 → GL H5 o3 → GL H5 o4 → GL H5 o5 →
      spPick K [V.ref d, V.ref t] (upd H5 t (.lst [.ref c, .ref o2, .ref o3, .ref o4, .ref o5])) (fun v H' => D0.nx [x0, some (V.ref d), x2, some (V.ref c), some (V.ref p), some (V.int (ns.length : Int)), x6, x7, x8, x9, some v, x11] H') E0 := by
    intro o2 o3 o4 o5 t H5 s5 nt q2 q3 q4 q5
    have st := same_upd (o := .lst [.ref c, .ref o2, .ref o3, .ref o4, .ref o5]) nt
    have b5 := bx.same (s5.trans st)
    refine ⟨d, t, _, z, rfl, b5.dw, upd_same, by simp, (bx.same s5).dw.nd nt, fun j v H6 hj s6 w6 => ?_⟩
    have key : ∀ o, GL H5 o → v = .ref o → D0.nx [x0, some (V.ref d), x2, some (V.ref c), some (V.ref p), some (V.int (ns.length : Int)), x6, x7, x8, x9, some v, x11] H6 := by
      rintro o g rfl
      obtain ⟨ms, e, q⟩ := g.same st
      exact nx _ _ ⟨x0, x2, c, p, x6, x7, x8, x9, o, x11, ns, rfl, b5.step s6 w6, ms, s6 _ _ (ne_ints b5.dw e) e, q⟩
    match j, hj with
    | 0, hj => exact key c (g1.same s5) (Option.some.inj hj).symm
    | 1, hj => exact key o2 q2 (Option.some.inj hj).symm
    | 2, hj => exact key o3 q3 (Option.some.inj hj).symm
    | 3, hj => exact key o4 q4 (Option.some.inj hj).symm
    | 4, hj => exact key o5 q5 (Option.some.inj hj).symm
    | j + 5, hj => simp at hj
  refine ⟨_, rfl, _, rfl, _, rfl, c, _, rfl, sqL bx.cl, fun o2 n2 => ?_⟩
  have s2 : Same H (upd H o2 (.lst (ns.map V.int).reverse)) := same_upd n2
  have q2 : GL (upd H o2 (.lst (ns.map V.int).reverse)) o2 := ⟨ns.reverse, by rw [upd_same, List.map_reverse], good_rev bx.gd⟩
  refine ⟨_, rfl, 1, rfl, -1, rfl, c, _, rfl, sqL (s2 _ _ bx.cl), fun o3 n3 => ?_⟩
  have s3 := s2.trans (same_upd (o := .lst (cutV (ns.map V.int) none (some (-1)))) n3)
  refine or_five (ms := ns.take (ns.length - 1)) (by rw [upd_same, cut_last ns hl1]) (fun h => good_cut bx.gd h) (fun o3 H3 s3' q3 => ?_)
  have s3 := s3.trans s3'
  have q2 := (q2.same (same_upd n3)).same s3'
  refine ⟨_, rfl, _, _, rfl, rfl, _, rfl, ?_⟩
  have hc3 := s3 _ _ bx.cl
  refine ite2 (fun q => ?_) (fun q => ?_)
  · have hlt : ns.length < 12 := by
      have := of_decide_eq_true q
      omega
    refine ⟨_, rfl, by show 1 ≤ sizeLine; decide, fun e ne => ?_⟩
    have s4 := s3.trans (same_upd (o := .lst [.int 0]) ne)
    refine ⟨c, e, _, _, rfl, rfl, s4 _ _ bx.cl, upd_same, Nat.le_of_lt (small1000 (by rw [List.length_map]; show ns.length + 1 ≤ 1000; omega)), fun o4 n4 => ?_⟩
    have s5 := s4.trans (same_upd (o := .lst (ns.map V.int ++ [.int 0])) n4)
    refine ⟨_, rfl, c, ns, rfl, sqL (s5 _ _ bx.cl), fun ys o5 pm pw n5 => ⟨by show 5 ≤ sizeLine; decide, fun t nt => ?_⟩⟩
    have m5 := same_upd (o := .lst (ys.map V.int)) n5
    have m4 := same_upd (o := .lst (ns.map V.int ++ [.int 0])) n4
    have m3 := same_upd (o := .lst [.int 0]) ne
    exact fin o2 o3 o4 o5 t _ (s5.trans m5) nt (((q2.same m3).same m4).same m5) (((q3.same m3).same m4).same m5) (GL.same ⟨ns ++ [0], by rw [upd_same, List.map_append]; rfl, good_zero bx.gd hlt⟩ m5) ⟨ys, upd_same, good_perm bx.gd pm⟩
  · refine ⟨_, rfl, _, rfl, c, ns, rfl, sqL hc3, fun ys o5 pm pw n5 => ⟨by show 5 ≤ sizeLine; decide, fun t nt => ?_⟩⟩
    have m5 := same_upd (o := .lst (ys.map V.int)) n5
    exact fin o2 o3 c o5 t _ (s3.trans m5) nt (q2.same m5) (q3.same m5) ((g1.same s3).same m5) ⟨ys, upd_same, good_perm bx.gd pm⟩
theorem h13 (T : CT K mg C) (Ch : Chk K mg fW fB fA fR dW dB dA dR) (Lt : LT K mg C fI fE fL fG fRo fPr fFi fSt fSo fBt dI dE dL dG dRo dPr dFi dSt dSo dBt)
    (hr : Room 7 (A.deeper (envOfC "law" (defScope sLaw) s.heap.objs.size f cdv))) : Hoare (XL P w K mg base f cdv A outer s H0 E) (st 13) (fun (i : Addr × Src) => A12 K C i.1 i.2) (fun (i : Addr × Src) => A0 K i.1 i.2) := by
  have GI : FnOk P w K mg base CX0 4 fI dI ["self", "counts"] (spInit C) := ok_init Lt.FI Ch T
  have GE : FnOk P w K mg base CX0 1 fE dE ["self", "other"] (spEq C) := ok_eq Lt.FE Ch.isi T
  obtain ⟨nm, q, N, bs, hdct, sn, sub, ab, col, dd, k0, k1, k2, k3, k5, newId, hC⟩ := Lt.xC
  refine ⟨_, ps_if (PW.pt (pw_or (pt_cmpR op_ne (pe_cmpR (op_eqOwn GE (hr.mono (by decide)) Lt.eE Lt.iE Lt.bE pass0) (pv 4) (pe_make Lt.maker GI (hr.mono (by decide)) rfl T.mgC Lt.bI .nil pass0 (pa_cons (pv 10) pa_nil)) (nomark _)) (pe_cmpR (op_eqD hr.units) (pv 3) (pv 10) (nomark _)) (nomark _))
    (pw_or1 (pt_cmpR op_eq (pe_cmpR (op_neOwn GE (hr.mono (by decide)) Lt.eN Lt.eE Lt.iE hC (by decide +kernel) Lt.bE pass0) (pv 4) (pe_make Lt.maker GI (hr.mono (by decide)) rfl T.mgC Lt.bI .nil pass0 (pa_cons (pv 10) pa_nil)) (nomark _)) (pe_cmpR (op_eqD hr.units) (pv 3) (pv 10) (nomark _)) (nomark _))))) (pss_one ps_never) pss_nil, ?_⟩
  rintro ⟨d, z⟩ D0 σ H ⟨x0, x2, c, p, x6, x7, x8, x9, o, x11, ns, rfl, bx, ms, eo, go⟩ nx
  -- Column(other)
  have mke : ∀ (H1 : Hp) (x dx : Addr), Same H H1 → H1 x = none → H1 dx = none → dx ≠ x → ∀ Q : Hp → Prop, (∀ H2, Same H1 H2 → ColAt C H2 x ms → Q H2) → spInit C [V.ref x, V.ref o] (upd (upd H1 dx (.own x)) x (.ins C dx [])) (fun v H2 => v = .non ∧ Q H2) E0 := by
    intro H1 x dx s1 nwx ndx nex Q k
    have mm : Same H1 (upd (upd H1 dx (.own x)) x (.ins C dx [])) := fun b o e => by
      rw [upd_ne (ne_of_none e nwx), upd_ne (ne_of_none e ndx)]
      exact e
    exact ⟨x, dx, o, ms, rfl, upd_same, .inl (mm _ _ (s1 _ _ eo)), go, fun H2 cl kp => ⟨rfl, k H2 (fun b o e => kp b o (ne_of_none e nwx) (mm b o e)) cl⟩⟩
  refine ⟨_, rfl, _, rfl, fun x dx nwx ndx nex => mke H x dx (Same.refl _) nwx ndx nex _ fun H2 s2 cl => ?_⟩
  obtain ⟨dy, ct, e1, e2⟩ := bx.col
  obtain ⟨dz, cu, g1, g2⟩ := id cl
  refine ⟨p, x, dy, dz, _, _, rfl, rfl, s2 _ _ e1, g1, p, x, ns, ms, rfl, bx.col.same s2, cl, _, rfl, ?_⟩
  refine ⟨_, rfl, _, rfl, _, _, .lst (sqL (s2 _ _ bx.cl)) (dp_ints ns), .lst (sqL (s2 _ _ eo)) (dp_ints ms), PySem.W.ke_shaped_ints _, PySem.W.ke_shaped_ints _, ?_⟩
  rw [eqv_lst]
  refine ⟨rfl, _, rfl, ?_⟩
  rw [decide_eq_true rfl]
  refine iteF ⟨_, rfl, _, rfl, fun x' dx' nwx' ndx' nex' => mke H2 x' dx' s2 nwx' ndx' nex' _ fun H3 s3 cl' => ?_⟩
  have s4 := s2.trans s3
  obtain ⟨dz', cu', g1', g2'⟩ := id cl'
  refine ⟨p, x', dy, dz', _, _, rfl, rfl, s4 _ _ e1, g1', p, x', ns, ms, rfl, bx.col.same s4, cl', _, rfl, ?_⟩
  refine ⟨_, rfl, _, rfl, _, _, .lst (sqL (s4 _ _ bx.cl)) (dp_ints ns), .lst (sqL (s4 _ _ eo)) (dp_ints ms), PySem.W.ke_shaped_ints _, PySem.W.ke_shaped_ints _, ?_⟩
  rw [eqv_lst]
  refine ⟨rfl, _, rfl, ?_⟩
  have : decide (V.bl (!decide (ns = ms)) = V.bl (decide (ns = ms))) = false := by
    by_cases e : ns = ms
    · rw [decide_eq_true e]; rfl
    · rw [decide_eq_false e]; rfl
  rw [this]
  exact iteF (nx _ _ ⟨x0, x2, _, _, _, x6, x7, x8, x9, _, x11, rfl, bx.dw.same s4⟩)
theorem body (T : CT K mg C) (D : DrT K mg f1 f2 f3 f4 f5 d1 d2 d3 d4 d5) (Ch : Chk K mg fW fB fA fR dW dB dA dR) (Lt : LT K mg C fI fE fL fG fRo fPr fFi fSt fSo fBt dI dE dL dG dRo dPr dFi dSt dSo dBt)
    (hr : Room 7 (A.deeper (envOfC "law" (defScope sLaw) s.heap.objs.size f cdv))) : Hoares (XL P w K mg base f cdv A outer s H0 E) (forBody sFor) (fun (i : Addr × Src) => A0 K i.1 i.2) (fun (i : Addr × Src) => A0 K i.1 i.2) := by
  show Hoares (XL P w K mg base f cdv A outer s H0 E) [st 0, st 1, st 2, st 3, st 4, st 5, st 6, st 7, st 8, st 9, st 10, st 11, st 12, st 13] _ _
  refine Hoares.cons (h0 D hr) <|  Hoares.cons (h1 D Ch T Lt hr) <| Hoares.cons (h2 T D Ch Lt hr) <| Hoares.cons h3 <| Hoares.cons (h4 T D) <| Hoares.cons (h5 T D Lt hr) <| Hoares.cons (h6 T D Lt hr) <| Hoares.cons (h7 T Lt hr) <| Hoares.cons (h8 D hr) <| Hoares.cons (h9 D hr) <| Hoares.cons (h10 T Ch Lt hr) <| Hoares.cons (h11 T D Lt hr) <| Hoares.cons (h12 T D Lt hr) <| Hoares.one (h13 T Ch Lt hr)
def spLaw (K : PySem.W.Frag) : Sp := fun vs H Q _ => ∃ (a : Addr) (ns : List Int), vs = [.ref a] ∧ SqL K H a (ns.map V.int) ∧ ∀ H', Q (.bl true) H'
theorem ok_law {fd : FuncData} (Fl : Fun K "law" "law" sLaw f fd) (T : CT K mg C) (D : DrT K mg f1 f2 f3 f4 f5 d1 d2 d3 d4 d5) (Ch : Chk K mg fW fB fA fR dW dB dA dR) (Lt : LT K mg C fI fE fL fG fRo fPr fFi fSt fSo fBt dI dE dL dG dRo dPr dFi dSt dSo dBt) :
    FnOk P w K mg base CX0 8 f fd ["script"] (spLaw K) := by
  refine Fl.ok scLaw (fun vs H Q E h => ?_) (fun cdv A outer s H vs Q E hr h => ?_)
  · obtain ⟨a, ns, rfl, _⟩ := h
    rfl
  · obtain ⟨a, ns, rfl, hS, q⟩ := h
    obtain ⟨tb, pb, rb⟩ := body (P := P) (w := w) (base := base) (f := f) (cdv := cdv) (A := A) (outer := outer) (s := s) (H0 := H) (E := E) T D Ch Lt hr
    refine ⟨_, pss_cons (ps_set (i := 1) scLaw.nd rfl (.inl rfl) (pe_lst (pa_cons (pv 0) (pa_cons pe_int pa_nil))))
      (pss_cons (ps_for PassesOwn.never rfl (pi_range1 rfl D.range (pa_cons pe_int pa_nil)) (pg_name (i := 2) scLaw.nd rfl (.inl rfl)) pb)
      (pss_one (ps_ret pe_bl))), ?_⟩
    obtain ⟨b, hb⟩ := Sc.of hS
    refine ⟨_, rfl, by show 2 ≤ sizeLine; decide, fun d nd => ?_⟩
    have hw : Dw K (upd H d (.lst [.ref a, .int 0])) d ⟨a, ns, b⟩ := ⟨⟨0, upd_same⟩, hb.keep (same_upd nd _), fun e => by
      cases e
      rcases hb with h | ⟨o, h⟩
      · exact ne_of_none h nd
      · exact ne_of_none h nd⟩
    refine ⟨5, rfl, by decide, by decide, for_range (lo := 0) (n := 5) (fun i σ H2 => A0 K d ⟨a, ns, b⟩ σ H2) ⟨_, _, _, _, _, _, _, _, _, _, _, rfl, hw⟩ ?_ ?_⟩
    · rintro i σ H2 hi ⟨x0, x2, x3, x4, x5, x6, x7, x8, x9, x10, x11, rfl, w2⟩
      exact rb (d, ⟨a, ns, b⟩) _ _ _ ⟨x0, _, x3, x4, x5, x6, x7, x8, x9, x10, x11, rfl, w2⟩ fun σ' H' h' => h'
    · rintro σ H2 _
      exact q H2
end
end K1
namespace K1
open PySem PySem.Spec PyProof.Rows L2 BK
theorem all_mk {l : PySem.W.OpenLaw} {w : World} {K : PySem.W.Frag} {h : Heap} {mg : Str → Option Value} {fa C fW fB fA fR f1 f2 f3 f4 f5 fL fI fE fN fG fRo fPr fFi fSt fSo fBt : Addr} (X : K.In h) (G : h.Ns mainGlobals mg) (hfa : mg "law" = some (.ref fa))
    {odW anW odB anB odA anA odR anR od1 an1 od2 an2 od3 an3 od4 an4 od5 an5 odL anL odI anI odE anE odN anN odG anG odRo anRo odPr anPr odFi anFi odSt anSt odSo anSo odBt anBt : Option Addr} {slW slB slA slR sl1 sl2 sl3 sl4 sl5 slL slI slE slN slG slRo slPr slFi slSt slSo slBt : Array (Option Value)} {ocW kVW dcW pmW cdW ctW ocB kVB dcB pmB cdB ctB ocA kVA dcA pmA cdA ctA ocR kVR dcR pmR cdR ctR oc1 kV1 dc1 pm1 cd1 ct1 oc2 kV2 dc2 pm2 cd2 ct2 oc3 kV3 dc3 pm3 cd3 ct3 oc4 kV4 dc4 pm4 cd4 ct4 oc5 kV5 dc5 pm5 cd5 ct5 ocL kVL dcL pmL cdL ctL ocI kVI dcI pmI cdI ctI ocE kVE dcE pmE cdE ctE ocN kVN dcN pmN cdN ctN ocG kVG dcG pmG cdG ctG ocRo kVRo dcRo pmRo cdRo ctRo ocPr kVPr dcPr pmPr cdPr ctPr ocFi kVFi dcFi pmFi cdFi ctFi ocSt kVSt dcSt pmSt cdSt ctSt ocSo kVSo dcSo pmSo cdSo ctSo ocBt kVBt dcBt pmBt cdBt ctBt : Value} {tv tc : Tok} {nm q : Str} {N : Addr} {bs : List Value} {hdct : Bool} {sn : List Str} {sub : List Value} {ab : Bool} {col : Option Bool} {dd : Option Addr} {e0 e1 e2 e3 e5 : Option Value} {newId : String}
    (aC : PySem.W.nsIn K mainGlobals "Column" = some (some (.ref C)))
    (aW : PySem.W.nsIn K mainGlobals "is_whole" = some (some (.ref fW)))
    (lW : K.lookup fW = some ⟨ocW, odW, .func (PySem.W.fnOf "is_whole" "is_whole" (defArgs sWhole) (defBody sWhole) (defScope sWhole) .none kVW dcW pmW anW cdW ctW), slW⟩)
    (cW : PySem.W.codeIn K cdW "is_whole" = true)
    (kW : PySem.W.keepIn K (.ref fW) = true)
    (aB : PySem.W.nsIn K mainGlobals "is_between" = some (some (.ref fB)))
    (lB : K.lookup fB = some ⟨ocB, odB, .func (PySem.W.fnOf "is_between" "is_between" (defArgs sBetween) (defBody sBetween) (defScope sBetween) .none kVB dcB pmB anB cdB ctB), slB⟩)
    (cB : PySem.W.codeIn K cdB "is_between" = true)
    (kB : PySem.W.keepIn K (.ref fB) = true)
    (aA : PySem.W.nsIn K mainGlobals "are_between" = some (some (.ref fA)))
    (lA : K.lookup fA = some ⟨ocA, odA, .func (PySem.W.fnOf "are_between" "are_between" (defArgs sAre) (defBody sAre) (defScope sAre) .none kVA dcA pmA anA cdA ctA), slA⟩)
    (cA : PySem.W.codeIn K cdA "are_between" = true)
    (kA : PySem.W.keepIn K (.ref fA) = true)
    (aR : PySem.W.nsIn K mainGlobals "check_range" = some (some (.ref fR)))
    (lR : K.lookup fR = some ⟨ocR, odR, .func (PySem.W.fnOf "check_range" "check_range" (defArgs sRange) (defBody sRange) (defScope sRange) .none kVR dcR pmR anR cdR ctR), slR⟩)
    (cR : PySem.W.codeIn K cdR "check_range" = true)
    (kR : PySem.W.keepIn K (.ref fR) = true)
    (a1 : PySem.W.nsIn K mainGlobals "_law_number" = some (some (.ref f1)))
    (l1 : K.lookup f1 = some ⟨oc1, od1, .func (PySem.W.fnOf "_law_number" "_law_number" (defArgs sNum) (defBody sNum) (defScope sNum) .none kV1 dc1 pm1 an1 cd1 ct1), sl1⟩)
    (c1 : PySem.W.codeIn K cd1 "_law_number" = true)
    (k1 : PySem.W.keepIn K (.ref f1) = true)
    (a2 : PySem.W.nsIn K mainGlobals "_law_take" = some (some (.ref f2)))
    (l2 : K.lookup f2 = some ⟨oc2, od2, .func (PySem.W.fnOf "_law_take" "_law_take" (defArgs sTake) (defBody sTake) (defScope sTake) .none kV2 dc2 pm2 an2 cd2 ct2), sl2⟩)
    (c2 : PySem.W.codeIn K cd2 "_law_take" = true)
    (k2 : PySem.W.keepIn K (.ref f2) = true)
    (a3 : PySem.W.nsIn K mainGlobals "_law_pick" = some (some (.ref f3)))
    (l3 : K.lookup f3 = some ⟨oc3, od3, .func (PySem.W.fnOf "_law_pick" "_law_pick" (defArgs sPick) (defBody sPick) (defScope sPick) .none kV3 dc3 pm3 an3 cd3 ct3), sl3⟩)
    (c3 : PySem.W.codeIn K cd3 "_law_pick" = true)
    (k3 : PySem.W.keepIn K (.ref f3) = true)
    (a4 : PySem.W.nsIn K mainGlobals "_law_counts" = some (some (.ref f4)))
    (l4 : K.lookup f4 = some ⟨oc4, od4, .func (PySem.W.fnOf "_law_counts" "_law_counts" (defArgs sCounts) (defBody sCounts) (defScope sCounts) .none kV4 dc4 pm4 an4 cd4 ct4), sl4⟩)
    (c4 : PySem.W.codeIn K cd4 "_law_counts" = true)
    (k4 : PySem.W.keepIn K (.ref f4) = true)
    (a5 : PySem.W.nsIn K mainGlobals "_law_given" = some (some (.ref f5)))
    (l5 : K.lookup f5 = some ⟨oc5, od5, .func (PySem.W.fnOf "_law_given" "_law_given" (defArgs sGiven) (defBody sGiven) (defScope sGiven) .none kV5 dc5 pm5 an5 cd5 ct5), sl5⟩)
    (c5 : PySem.W.codeIn K cd5 "_law_given" = true)
    (k5 : PySem.W.keepIn K (.ref f5) = true)
    (aL : PySem.W.nsIn K mainGlobals "law" = some (some (.ref fL)))
    (lL : K.lookup fL = some ⟨ocL, odL, .func (PySem.W.fnOf "law" "law" (defArgs sLaw) (defBody sLaw) (defScope sLaw) .none kVL dcL pmL anL cdL ctL), slL⟩)
    (cL : PySem.W.codeIn K cdL "law" = true)
    (kL : PySem.W.keepIn K (.ref fL) = true)
    (aI : PySem.W.findIn K (.ref C) "__init__" = some (some (.ref fI)))
    (iI : PySem.W.isFn K (.ref fI) = true)
    (lI : K.lookup fI = some ⟨ocI, odI, .func (PySem.W.fnOf "__init__" "Column.__init__" (defArgs sInit) (defBody sInit) (defScope sInit) .none kVI dcI pmI anI cdI ctI), slI⟩)
    (cI : PySem.W.codeIn K cdI "Column.__init__" = true)
    (kI : PySem.W.keepIn K (.ref fI) = true)
    (aE : PySem.W.findIn K (.ref C) "__eq__" = some (some (.ref fE)))
    (iE : PySem.W.isFn K (.ref fE) = true)
    (lE : K.lookup fE = some ⟨ocE, odE, .func (PySem.W.fnOf "__eq__" "Column.__eq__" (defArgs sEq) (defBody sEq) (defScope sEq) .none kVE dcE pmE anE cdE ctE), slE⟩)
    (cE : PySem.W.codeIn K cdE "Column.__eq__" = true)
    (kE : PySem.W.keepIn K (.ref fE) = true)
    (aN : PySem.W.findIn K (.ref C) "__len__" = some (some (.ref fN)))
    (iN : PySem.W.isFn K (.ref fN) = true)
    (lN : K.lookup fN = some ⟨ocN, odN, .func (PySem.W.fnOf "__len__" "Column.__len__" (defArgs sLen) (defBody sLen) (defScope sLen) .none kVN dcN pmN anN cdN ctN), slN⟩)
    (cN : PySem.W.codeIn K cdN "Column.__len__" = true)
    (kN : PySem.W.keepIn K (.ref fN) = true)
    (aG : PySem.W.findIn K (.ref C) "__getitem__" = some (some (.ref fG)))
    (iG : PySem.W.isFn K (.ref fG) = true)
    (lG : K.lookup fG = some ⟨ocG, odG, .func (PySem.W.fnOf "__getitem__" "Column.__getitem__" (defArgs sItem) (defBody sItem) (defScope sItem) .none kVG dcG pmG anG cdG ctG), slG⟩)
    (cG : PySem.W.codeIn K cdG "Column.__getitem__" = true)
    (kG : PySem.W.keepIn K (.ref fG) = true)
    (aRo : PySem.W.findIn K (.ref C) "rows" = some (some (.ref fRo)))
    (iRo : PySem.W.isFn K (.ref fRo) = true)
    (lRo : K.lookup fRo = some ⟨ocRo, odRo, .func (PySem.W.fnOf "rows" "Column.rows" (defArgs sRows) (defBody sRows) (defScope sRows) .none kVRo dcRo pmRo anRo cdRo ctRo), slRo⟩)
    (cRo : PySem.W.codeIn K cdRo "Column.rows" = true)
    (kRo : PySem.W.keepIn K (.ref fRo) = true)
    (aPr : PySem.W.findIn K (.ref C) "prefixes" = some (some (.ref fPr)))
    (iPr : PySem.W.isFn K (.ref fPr) = true)
    (lPr : K.lookup fPr = some ⟨ocPr, odPr, .func (PySem.W.fnOf "prefixes" "Column.prefixes" (defArgs sPre) (defBody sPre) (defScope sPre) .none kVPr dcPr pmPr anPr cdPr ctPr), slPr⟩)
    (cPr : PySem.W.codeIn K cdPr "Column.prefixes" = true)
    (kPr : PySem.W.keepIn K (.ref fPr) = true)
    (aFi : PySem.W.findIn K (.ref C) "filled" = some (some (.ref fFi)))
    (iFi : PySem.W.isFn K (.ref fFi) = true)
    (lFi : K.lookup fFi = some ⟨ocFi, odFi, .func (PySem.W.fnOf "filled" "Column.filled" (defArgs sFilled) (defBody sFilled) (defScope sFilled) .none kVFi dcFi pmFi anFi cdFi ctFi), slFi⟩)
    (cFi : PySem.W.codeIn K cdFi "Column.filled" = true)
    (kFi : PySem.W.keepIn K (.ref fFi) = true)
    (aSt : PySem.W.findIn K (.ref C) "steps" = some (some (.ref fSt)))
    (iSt : PySem.W.isFn K (.ref fSt) = true)
    (lSt : K.lookup fSt = some ⟨ocSt, odSt, .func (PySem.W.fnOf "steps" "Column.steps" (defArgs sSteps) (defBody sSteps) (defScope sSteps) .none kVSt dcSt pmSt anSt cdSt ctSt), slSt⟩)
    (cSt : PySem.W.codeIn K cdSt "Column.steps" = true)
    (kSt : PySem.W.keepIn K (.ref fSt) = true)
    (aSo : PySem.W.findIn K (.ref C) "sorted_rows" = some (some (.ref fSo)))
    (iSo : PySem.W.isFn K (.ref fSo) = true)
    (lSo : K.lookup fSo = some ⟨ocSo, odSo, .func (PySem.W.fnOf "sorted_rows" "Column.sorted_rows" (defArgs sSorted) (defBody sSorted) (defScope sSorted) .none kVSo dcSo pmSo anSo cdSo ctSo), slSo⟩)
    (cSo : PySem.W.codeIn K cdSo "Column.sorted_rows" = true)
    (kSo : PySem.W.keepIn K (.ref fSo) = true)
    (aBt : PySem.W.findIn K (.ref C) "between" = some (some (.ref fBt)))
    (iBt : PySem.W.isFn K (.ref fBt) = true)
    (lBt : K.lookup fBt = some ⟨ocBt, odBt, .func (PySem.W.fnOf "between" "Column.between" (defArgs sBtw) (defBody sBtw) (defScope sBtw) .none kVBt dcBt pmBt anBt cdBt ctBt), slBt⟩)
    (cBt : PySem.W.codeIn K cdBt "Column.between" = true)
    (kBt : PySem.W.keepIn K (.ref fBt) = true)
    (z_isinstance : PySem.W.nsIn K mainGlobals "isinstance" = some none)
    (z_int : PySem.W.nsIn K mainGlobals "int" = some none)
    (z_bool : PySem.W.nsIn K mainGlobals "bool" = some none)
    (z_all : PySem.W.nsIn K mainGlobals "all" = some none)
    (z_list : PySem.W.nsIn K mainGlobals "list" = some none)
    (z_tuple : PySem.W.nsIn K mainGlobals "tuple" = some none)
    (z_len : PySem.W.nsIn K mainGlobals "len" = some none)
    (z_sum : PySem.W.nsIn K mainGlobals "sum" = some none)
    (z_enumerate : PySem.W.nsIn K mainGlobals "enumerate" = some none)
    (z_zip : PySem.W.nsIn K mainGlobals "zip" = some none)
    (z_range : PySem.W.nsIn K mainGlobals "range" = some none)
    (z_sorted : PySem.W.nsIn K mainGlobals "sorted" = some none)
    (z_dict : PySem.W.nsIn K mainGlobals "dict" = some none)
    (zmv : PySem.W.nsIn K mainGlobals "MOST_VALUES" = some (some (.int 12 tv)))
    (zmc : PySem.W.nsIn K mainGlobals "MOST_COUNT" = some (some (.int 9 tc)))
    (pg : PySem.W.plainGet K C Str.empty = true)
    (hd : PySem.W.hasDictIn K C = true)
    (po : PySem.W.plainOver K C = true)
    (sa : PySem.W.findIn K (.ref C) "__setattr__" = some (some (.builtin "object.__setattr__")))
    (mk : PySem.W.makesIn K C = true)
    (kc : PySem.W.keepIn K (.ref C) = true)
    (nC : PySem.W.findIn K (.ref C) "counts" = some none)
    (iha : PySem.W.findIn K (.ref C) "__class__" = some (some (.builtin "object.__class__")))
    (ihn : PySem.W.specialIn K (.builtin "object.__class__") "__get__" = some (some (.builtin "getset_descriptor.__get__")))
    (iht : PySem.W.takesIn K (.builtin "object.__class__") = some true)
    (ihm : PySem.W.mroIn K C (.type "object") = some true)
    (eN : PySem.W.findIn K (.ref C) "__ne__" = some (some (.builtin "object.__ne__")))
    (nG : PySem.W.fnIn K fG = true)
    (xC : K.lookup C = some (excClassObj nm q C N bs [.type "object"] hdct sn sub ab col dd e0 e1 e2 e3 e5 newId)) :
    ∃ fd : FuncData, (∀ (s : Shared) (v : Value), BindsTo s fd ⟨[v], []⟩ [("script", v)]) ∧ ∀ base : Heap, K.In base → base.Ns mainGlobals mg → FnOk l.prog w K mg base CX0 8 fa fd ["script"] (spLaw K) := by
  have e := hfa.symm.trans (PySem.W.mg_of X G aL)
  cases e
  have FW := fun_mk (st := sWhole) lW cW kW
  have bW := FW.binds (ps := ["item"]) fun _ _ _ _ _ _ us hl => match us, hl with | [_], _ => rfl
  have FB := fun_mk (st := sBetween) lB cB kB
  have bB := FB.binds (ps := ["item", "least", "most"]) fun _ _ _ _ _ _ us hl => match us, hl with | [_, _, _], _ => rfl
  have FA := fun_mk (st := sAre) lA cA kA
  have bA := FA.binds (ps := ["items", "least", "most"]) fun _ _ _ _ _ _ us hl => match us, hl with | [_, _, _], _ => rfl
  have FR := fun_mk (st := sRange) lR cR kR
  have bR := FR.binds (ps := ["first", "past", "width"]) fun _ _ _ _ _ _ us hl => match us, hl with | [_, _, _], _ => rfl
  have F1 := fun_mk (st := sNum) l1 c1 k1
  have b1 := F1.binds (ps := ["script", "index"]) fun _ _ _ _ _ _ us hl => match us, hl with | [_, _], _ => rfl
  have F2 := fun_mk (st := sTake) l2 c2 k2
  have b2 := F2.binds (ps := ["draw", "many"]) fun _ _ _ _ _ _ us hl => match us, hl with | [_, _], _ => rfl
  have F3 := fun_mk (st := sPick) l3 c3 k3
  have b3 := F3.binds (ps := ["draw", "things"]) fun _ _ _ _ _ _ us hl => match us, hl with | [_, _], _ => rfl
  have F4 := fun_mk (st := sCounts) l4 c4 k4
  have b4 := F4.binds (ps := ["draw", "most"]) fun _ _ _ _ _ _ us hl => match us, hl with | [_, _], _ => rfl
  have F5 := fun_mk (st := sGiven) l5 c5 k5
  have b5 := F5.binds (ps := ["draw", "rows"]) fun _ _ _ _ _ _ us hl => match us, hl with | [_, _], _ => rfl
  have FL := fun_mk (st := sLaw) lL cL kL
  have FI := fun_mk (st := sInit) lI cI kI
  have bI := FI.binds (ps := ["self", "counts"]) fun _ _ _ _ _ _ us hl => match us, hl with | [_, _], _ => rfl
  have FE := fun_mk (st := sEq) lE cE kE
  have bE := FE.binds (ps := ["self", "other"]) fun _ _ _ _ _ _ us hl => match us, hl with | [_, _], _ => rfl
  have FN := fun_mk (st := sLen) lN cN kN
  have bN := FN.binds (ps := ["self"]) fun _ _ _ _ _ _ us hl => match us, hl with | [_], _ => rfl
  have FG := fun_mk (st := sItem) lG cG kG
  have bG := FG.binds (ps := ["self", "at"]) fun _ _ _ _ _ _ us hl => match us, hl with | [_, _], _ => rfl
  have FRo := fun_mk (st := sRows) lRo cRo kRo
  have bRo := FRo.binds (ps := ["self"]) fun _ _ _ _ _ _ us hl => match us, hl with | [_], _ => rfl
  have FPr := fun_mk (st := sPre) lPr cPr kPr
  have bPr := FPr.binds (ps := ["self"]) fun _ _ _ _ _ _ us hl => match us, hl with | [_], _ => rfl
  have FFi := fun_mk (st := sFilled) lFi cFi kFi
  have bFi := FFi.binds (ps := ["self"]) fun _ _ _ _ _ _ us hl => match us, hl with | [_], _ => rfl
  have FSt := fun_mk (st := sSteps) lSt cSt kSt
  have bSt := FSt.binds (ps := ["self"]) fun _ _ _ _ _ _ us hl => match us, hl with | [_], _ => rfl
  have FSo := fun_mk (st := sSorted) lSo cSo kSo
  have bSo := FSo.binds (ps := ["self"]) fun _ _ _ _ _ _ us hl => match us, hl with | [_], _ => rfl
  have FBt := fun_mk (st := sBtw) lBt cBt kBt
  have bBt := FBt.binds (ps := ["self", "first", "past"]) fun _ _ _ _ _ _ us hl => match us, hl with | [_, _, _], _ => rfl
  have Ch : Chk K mg fW fB fA fR _ _ _ _ := ⟨(PySem.W.mg_none_of X G z_isinstance), (PySem.W.mg_none_of X G z_int), (PySem.W.mg_none_of X G z_bool), (PySem.W.mg_none_of X G z_all), FW, FB, FA, FR, (PySem.W.mg_of X G aW), (PySem.W.mg_of X G aB), (PySem.W.mg_of X G aA), (PySem.W.mg_of X G aR), bW, bB, bA, bR⟩
  have T : CT K mg C := ⟨⟨pg, hd, po, sa⟩, nC, PySem.W.mg_of X G aC, ⟨⟨pg, hd, po, sa⟩, iha, ihn, iht, ihm, by unfold PySem.W.kitOne; simp⟩, (PySem.W.mg_none_of X G z_list), (PySem.W.mg_none_of X G z_tuple), (PySem.W.mg_none_of X G z_len), (PySem.W.mg_none_of X G z_sum), (PySem.W.mg_none_of X G z_enumerate), (PySem.W.mg_none_of X G z_zip), ⟨tv, PySem.W.mg_of X G zmv⟩, ⟨tc, PySem.W.mg_of X G zmc⟩⟩
  have D : DrT K mg f1 f2 f3 f4 f5 _ _ _ _ _ := ⟨(PySem.W.mg_none_of X G z_int), (PySem.W.mg_none_of X G z_len), (PySem.W.mg_none_of X G z_sum), (PySem.W.mg_none_of X G z_range), (PySem.W.mg_none_of X G z_list), (PySem.W.mg_none_of X G z_tuple), F1, F2, F3, F4, F5, (PySem.W.mg_of X G a1), (PySem.W.mg_of X G a2), (PySem.W.mg_of X G a3), (PySem.W.mg_of X G a4), (PySem.W.mg_of X G a5), b1, b2, b3, b4, b5⟩
  have Lt : LT K mg C fI fE fN fG fRo fPr fFi fSt fSo fBt _ _ _ _ _ _ _ _ _ _ := ⟨(PySem.W.mg_none_of X G z_sorted), (PySem.W.mg_none_of X G z_dict), ⟨mk, aI, iI, kc⟩, FI, FE, FN, FG, FRo, FPr, FFi, FSt, FSo, FBt, bI, bE, bN, bG, bRo, bPr, bFi, bSt, bSo, bBt,
    ⟨aRo, iRo, kRo⟩, ⟨aPr, iPr, kPr⟩, ⟨aFi, iFi, kFi⟩, ⟨aSt, iSt, kSt⟩, ⟨aSo, iSo, kSo⟩, ⟨aBt, iBt, kBt⟩, aE, eN, aN, aG, iE, iN, iG, nG, ⟨nm, q, N, bs, hdct, sn, sub, ab, col, dd, e0, e1, e2, e3, e5, newId, xC⟩⟩
  exact ⟨PySem.W.fnOf "law" "law" (defArgs sLaw) (defBody sLaw) (defScope sLaw) .none kVL dcL pmL anL cdL ctL, fun s v => .of_eq rfl, fun base _ _ => ok_law FL T D Ch Lt⟩
theorem walk {l : PySem.W.OpenLaw} {q : Program} {loose : List Str} {XP : (Str → Option Value) → Heap → Prop} {YP : World → Heap → Prop} {d : DefRec} {K : Params → PySem.W.Frag} (hn : l.most = some 63) (hdf : d.params.defaults = [])
    (hY : ∀ (w : World) (h : Heap), YP w h → (K w.params).In h)
    (F : ∀ (w : World) (mg : Str → Option Value) (fa : Addr) (h : Heap), (K w.params).In h → h.Ns mainGlobals mg → mg d.name = some (.ref fa) →
      ∃ fd : FuncData, (∀ (s : Shared) (u : Value), BindsTo s fd ⟨[u], []⟩ [("script", u)]) ∧ ∀ base : Heap, (K w.params).In base → base.Ns mainGlobals mg → FnOk l.prog w (K w.params) mg base CX0 8 fa fd ["script"] (spLaw (K w.params))) :
    PySem.W.WalkO q loose XP YP l.row.toRowW d [] (fun f vs => PySem.call f vs) :=
  L2.walk_of (n := 63) (k := 8) (x := "script") (CX := fun _ => CX0) (sp := fun w => spLaw (K w.params)) hn (by decide) hdf ⟨rfl, by decide, by decide⟩ hY F (fun _ _ a ns hl _ hS => ⟨a, ns, rfl, hS, fun _ => rfl⟩) fun _ _ _ _ _ z => z
end K1
open PySem PySem.W PyProof.Rows
set_option maxRecDepth 100000 in
set_option maxHeartbeats 0 in
theorem PySem.Challenge.cw_bucketsums_k01_whole_columns_holds : PySem.Challenge.rw_bucketsums_k01_whole_columns.Holds := by
  w_on; o_law; k_head; (case hw => w_witness2)
  k_fill
  refine K1.walk (l := PySem.Challenge.rw_bucketsums_k01_whole_columns) rfl rfl (fun w h Y => PySem.W.kIn_of Y) ?F
  case F =>
    intro w mg fa h KX G hmg
    refine' K1.all_mk KX G hmg ?aC ?aW ?lW ?cW ?kW ?aB ?lB ?cB ?kB ?aA ?lA ?cA ?kA ?aR ?lR ?cR ?kR ?a1 ?l1 ?c1 ?k1 ?a2 ?l2 ?c2 ?k2 ?a3 ?l3 ?c3 ?k3 ?a4 ?l4 ?c4 ?k4 ?a5 ?l5 ?c5 ?k5 ?aL ?lL ?cL ?kL ?aI ?iI ?lI ?cI ?kI ?aE ?iE ?lE ?cE ?kE ?aN ?iN ?lN ?cN ?kN ?aG ?iG ?lG ?cG ?kG ?aRo ?iRo ?lRo ?cRo ?kRo ?aPr ?iPr ?lPr ?cPr ?kPr ?aFi ?iFi ?lFi ?cFi ?kFi ?aSt ?iSt ?lSt ?cSt ?kSt ?aSo ?iSo ?lSo ?cSo ?kSo ?aBt ?iBt ?lBt ?cBt ?kBt ?z_isinstance ?z_int ?z_bool ?z_all ?z_list ?z_tuple ?z_len ?z_sum ?z_enumerate ?z_zip ?z_range ?z_sorted ?z_dict ?zmv ?zmc ?pg ?hd ?po ?sa ?mk ?kc ?nC ?iha ?ihn ?iht ?ihm ?eN ?nG ?xC
    (case aC => k_is)
    (case aW => k_is)
    (case lW => k_is)
    (case cW => k_is)
    (case kW => k_is)
    (case aB => k_is)
    (case lB => k_is)
    (case cB => k_is)
    (case kB => k_is)
    (case aA => k_is)
    (case lA => k_is)
    (case cA => k_is)
    (case kA => k_is)
    (case aR => k_is)
    (case lR => k_is)
    (case cR => k_is)
    (case kR => k_is)
    (case a1 => k_is)
    (case l1 => k_is)
    (case c1 => k_is)
    (case k1 => k_is)
    (case a2 => k_is)
    (case l2 => k_is)
    (case c2 => k_is)
    (case k2 => k_is)
    (case a3 => k_is)
    (case l3 => k_is)
    (case c3 => k_is)
    (case k3 => k_is)
    (case a4 => k_is)
    (case l4 => k_is)
    (case c4 => k_is)
    (case k4 => k_is)
    (case a5 => k_is)
    (case l5 => k_is)
    (case c5 => k_is)
    (case k5 => k_is)
    (case aL => k_is)
    (case lL => k_is)
    (case cL => k_is)
    (case kL => k_is)
    (case aI => k_is)
    (case iI => k_is)
    (case lI => k_is)
    (case cI => k_is)
    (case kI => k_is)
    (case aE => k_is)
    (case iE => k_is)
    (case lE => k_is)
    (case cE => k_is)
    (case kE => k_is)
    (case aN => k_is)
    (case iN => k_is)
    (case lN => k_is)
    (case cN => k_is)
    (case kN => k_is)
    (case aG => k_is)
    (case iG => k_is)
    (case lG => k_is)
    (case cG => k_is)
    (case kG => k_is)
    (case aRo => k_is)
    (case iRo => k_is)
    (case lRo => k_is)
    (case cRo => k_is)
    (case kRo => k_is)
    (case aPr => k_is)
    (case iPr => k_is)
    (case lPr => k_is)
    (case cPr => k_is)
    (case kPr => k_is)
    (case aFi => k_is)
    (case iFi => k_is)
    (case lFi => k_is)
    (case cFi => k_is)
    (case kFi => k_is)
    (case aSt => k_is)
    (case iSt => k_is)
    (case lSt => k_is)
    (case cSt => k_is)
    (case kSt => k_is)
    (case aSo => k_is)
    (case iSo => k_is)
    (case lSo => k_is)
    (case cSo => k_is)
    (case kSo => k_is)
    (case aBt => k_is)
    (case iBt => k_is)
    (case lBt => k_is)
    (case cBt => k_is)
    (case kBt => k_is)
    (case z_isinstance => k_is)
    (case z_int => k_is)
    (case z_bool => k_is)
    (case z_all => k_is)
    (case z_list => k_is)
    (case z_tuple => k_is)
    (case z_len => k_is)
    (case z_sum => k_is)
    (case z_enumerate => k_is)
    (case z_zip => k_is)
    (case z_range => k_is)
    (case z_sorted => k_is)
    (case z_dict => k_is)
    (case zmv => k_is)
    (case zmc => k_is)
    (case pg => k_is)
    (case hd => k_is)
    (case po => k_is)
    (case sa => k_is)
    (case mk => k_is)
    (case kc => k_is)
    (case nC => k_is)
    (case iha => k_is)
    (case ihn => k_is)
    (case iht => k_is)
    (case ihm => k_is)
    (case eN => k_is)
    (case nG => k_is)
    (case xC => k_is)
