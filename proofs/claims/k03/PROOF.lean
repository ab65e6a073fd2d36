import PyProof.Rows.All
import Wide.All
import OpenK.AllK
import Wide.FinOn
import HandS.ForMost
import HandS.IsInst
import HandS.Walk
import HandS.Zip
import HandS.OwnEq
import HandS.Conv
import HandS.More
import HandS.OwnIter
import PyProof.InstNe
import KE.GoesEnum
import KE.GoesMore
import HandS.MapObj
import KE.KDictZip
import KE.GoesZip
import HandS.Comp
import HandS.SetBool
import HandS.Strs
import HandS.SortInts
import HandS.TupMul
import HandS.TupAny
import HandS.Small
import HandS.Codes
import HandS.Deep
import HandS.Flow
import HandS.SortRule
import HandS.Style
import HandS.Dict
import PyProof.EqAt
import HandS.TupLen
import HandS.Gcd
import HandS.SetFor
import PyProof.ListIndex
import HandS.Head0
import HandS.Head1
import HandS.Head2
import HandS.HeadEnd
import HandS.HeadHook1
import HandS.HeadHook2
import HandS.Head3
import PySem.Challenge.RW_bucketsums_k03_whole_histograms
set_option Elab.async false
set_option linter.all false
set_option maxRecDepth 100000
set_option maxHeartbeats 0
namespace BK
open PySem PySem.Spec PyProof.Rows L2
section
variable {X : Cx} {CX : CXT} {n : Nat} {f C : Addr} {fd : FuncData} {ps : List Str} {sp : Sp} {E : XK} {A : Around} {pins : List (Addr × Obj)} {σ : L2.St} {H : Hp} {s : Shared}
/-- a def's promise, called from somewhere below the running body -/
theorem run_at {Q : VK} {us : List Value} {vs : List V} (sb : Sub X n A) (F : FnOk X.prog X.w X.K X.mg X.base CX n f fd ps sp) (hb : Binds X.K fd ps []) (hx : Passes CX X E)
    (I : Inv X pins σ H s) (r : Vals vs us) (h : sp vs H Q E) : wpAny (model X.prog X.w) A (call (.ref f) us) (EP X pins σ Q) X.xe s := by
  have e0 : Env0 X.prog X.w X.K X.mg X.base A X.stack s H := by
    have e := I.env0
    exact ⟨by rw [sb.fr]; exact e.frames, e.mod, e.bs, e.bsz, e.funs, e.frf, e.hok, e.bare⟩
  have hl := F.len _ _ _ _ h
  refine wpAny_call (codeAny_mono (F.run A X.stack s H ⟨us, []⟩ us vs Q E sb.room e0 (by
    have := hb s us I.kIn (by rw [List.append_nil, ← r.length]; exact hl)
    rwa [List.append_nil] at this) r h) fun r s' hq => ?_)
  cases r with
  | error e => exact hx pins σ H s e s' I hq
  | ok fl =>
    cases fl with
    | ret u => exact I.after hq
    | next => exact False.elim hq
    | brk => exact False.elim hq
    | cont => exact False.elim hq

/-- len(o), o of an own class with __len__ -/
def rLenOwn (C : Addr) (sp : Sp) (E : XK) : List V → Hp → VK → Prop := fun xs H Q => ∃ a dx fs, xs = [.ref a] ∧ H a = some (.ins C dx fs) ∧
  sp [.ref a] H (fun v H' => ∃ k : Int, v = .int k ∧ 0 ≤ k ∧ k < 2 ^ 63 ∧ Q (.int k) H') E
theorem call_lenOwn (F : FnOk X.prog X.w X.K X.mg X.base CX n f fd ps sp) (hr : Room (n + 1) X.A) (hs : PySem.W.findIn X.K (.ref C) "__len__" = some (some (.ref f))) (hf : PySem.W.isFn X.K (.ref f) = true)
    (hb : Binds X.K fd ps []) (hx : Passes CX X E) : CallR X (.builtin "len") (rLenOwn C sp E) := by
  intro pins s σ H xs us Q I r h
  obtain ⟨a, dx, fs, rfl, ha, hsp⟩ := h
  obtain ⟨u, rfl, ru⟩ := vals1 r
  cases ru
  obtain ⟨mA, J, _⟩ := ins_get I.hok ha
  obtain ⟨od, J, _⟩ := J.look
  obtain ⟨m, hF⟩ := I.fr
  refine PySem.W.len_K hF I.ok.mod.kin J hs hf ?_
  refine wpAny_mono (run_at (vs := [.ref a]) ⟨hr.in1, rfl⟩ F hb hx I (.cons rfl .nil) hsp) (fun u s' q => ?_) fun _ _ x => x
  obtain ⟨v, H', I', rv, k, rfl, h0, h1, q⟩ := q
  obtain ⟨t, rfl⟩ := rv
  exact ⟨⟨h0, h1⟩, .int k, H', I'.tok _, ⟨_, rfl⟩, q⟩

/-- a == b by an own __eq__ that gives a bool -/
def rEqOwn (C : Addr) (sp : Sp) (E : XK) : R2 := fun x y H Q => ∃ a b dx dy fs gs, x = .ref a ∧ y = .ref b ∧ H a = some (.ins C dx fs) ∧ H b = some (.ins C dy gs) ∧
  sp [.ref a, .ref b] H (fun v H' => ∃ k, v = .bl k ∧ Q (.bl k) H') E
theorem op_eqOwn (F : FnOk X.prog X.w X.K X.mg X.base CX n f fd ps sp) (hr : Room n X.A) (hs : PySem.W.findIn X.K (.ref C) "__eq__" = some (some (.ref f))) (hf : PySem.W.isFn X.K (.ref f) = true)
    (hb : Binds X.K fd ps []) (hx : Passes CX X E) : OpR X (compareOp .Eq) (rEqOwn C sp E) := by
  intro pins s σ H x y v u Q I rx ry hq
  obtain ⟨a, b, dx, dy, fs, gs, rfl, rfl, ha, hb', hsp⟩ := hq
  cases rx
  cases ry
  obtain ⟨mA, J, _⟩ := ins_get I.hok ha
  obtain ⟨mB, J', _⟩ := ins_get I.hok hb'
  obtain ⟨od, J, _⟩ := J.look
  obtain ⟨od', J', _⟩ := J'.look
  obtain ⟨m, hF⟩ := I.fr
  show wpAny (model X.prog X.w) X.A (richCompare .Eq (.ref a) (.ref b)) (EP X pins σ Q) X.xe s
  refine PySem.W.cmp_K (op := .Eq) (tb := .ref C) hr.units0 hF I.ok.mod.kin J J'.type (by simp [PySem.W.notFirst]) hs hf ?_
  refine wpAny_mono (run_at (vs := [.ref a, .ref b]) ⟨hr, rfl⟩ F hb hx I (.cons rfl (.cons rfl .nil)) hsp) (fun u s' q => ?_) fun _ _ x => x
  obtain ⟨v, H', I', rv, k, rfl, q⟩ := q
  cases rv
  exact ⟨.bl k, H', I', rfl, q⟩
end
section
variable {prog : Program} {w : World} {A : Around} {E : Value → Shared → Prop} {s : Shared} {K : PySem.W.Frag} {x C L f : Addr} {h₀ : Heap} {m : Str → Option Value} {ox : Obj} {od : Option Obj} {b tb : Value}
  {nm q : Str} {N : Addr} {bs bm : List Value} {hdct : Bool} {sn : List Str} {sub : List Value} {ab : Bool} {col : Option Bool} {dd : Option Addr} {k0 k1 k2 k3 k5 : Option Value} {newId : String}
open PySem.W
theorem ifBoundB_K {M : Model} {name : Str} {id : String} {args : List Value} {Q : Option Value → Shared → Prop} (X : K.In s.heap) (I : InstAt s.heap x ox C od) (hs : findIn K (.ref C) name = some (some (.builtin id))) (S : Slot "object" name id)
    (h : wpAny M A (call (.builtin id) (.ref x :: args)) (fun v => Q (some v)) E s) : wpAny M A (callSpecialIfBound? (.ref x) name args) Q E s := by
  simp only [callSpecialIfBound?, bindSpecialIfBound?]
  refine wpAny_holding (wpAny_bind (wpAny_bind (wpAny_bind (I.type.here ((looks_findIn X hs).here ?_)))))
  simp only [S.bind]
  refine wpAny_bind (wpAny_askSetting (wpAny_ite ?_))
  have fin : wpAny M A (call (.builtin id) ([.ref x] ++ args) >>= fun v => pure (some v)) Q E s := wpAny_bind (wpAny_mono h (fun v s' h' => wpAny_pure h') fun _ _ h' => h')
  split
  · exact wpAny_bind (wpAny_pure (wpAny_pure (by exact fin)))
  · exact wpAny_tryCatch (wpAny_bind (wpAny_pure (wpAny_pure (by exact fin))))
theorem objNe_K {Q : Fin → Shared → Prop} (hu : A.units < cLine) (X : K.In s.heap) (I : InstAt s.heap x ox C od) (he : findIn K (.ref C) "__eq__" = some (some (.ref f))) (hf : isFn K (.ref f) = true)
    (h : wpAny (model prog w) A (call (.ref f) [.ref x, b]) (fun v s' => ∃ k, v = .bool k ∧ Q (.done (.ret (.bool (!k)))) s') E s) : wpAny (model prog w) A (Builtin.«object.__ne__» ⟨[.ref x, b], []⟩) Q E s := by
  obtain ⟨hh, g, d, t, os⟩ := s
  unfold Builtin.«object.__ne__»
  repeat (first
    | with_reducible refine wpAny_cRoomFor hu ?_
    | (refine wpAny_bind (m := callSpecialIfBound? (.ref x) (Str.ofString "__eq__") [b])
        (ifBound_K X I he hf (wpAny_mono h (fun r s' hr => by
          obtain ⟨k, rfl, hq⟩ := hr
          repeat (first | exact hq | exact wpAny_pure hq | exact wpAny_truthy_bool hq | (refine wpAny_bind (m := truthy (.bool _)) (wpAny_truthy_bool ?_)) | wp_step)) fun _ _ e => e)))
    | wp_step)
theorem try_ne_K {Q : Option Value → Shared → Prop} (hu : A.units + 1 < cLine) (X : K.In s.heap) (I : InstAt s.heap x ox C od)
    (hs : findIn K (.ref C) "__ne__" = some (some (.builtin "object.__ne__"))) (he : findIn K (.ref C) "__eq__" = some (some (.ref f))) (hf : isFn K (.ref f) = true)
    (hC : K.lookup C = some (excClassObj nm q C N bs bm hdct sn sub ab col dd k0 k1 k2 k3 k5 newId)) (hob : bm.contains (.type "object") = true)
    (h : wpAny (model prog w) A.in1 (call (.ref f) [.ref x, b]) (fun v s' => ∃ k, v = .bool k ∧ Q (some (.bool (!k))) s') E s) : wpAny (model prog w) A (tryCompare (.ref x) "__ne__" b) Q E s := by
  obtain ⟨hh, g, d, t, os⟩ := s
  simp only [tryCompare]
  refine wpAny_bind (ifBoundB_K X I hs PySem.F.cmp_object.ne (wpAny_call (codeAny_call_builtin PySem.F.cmp_object.ne.plain PySem.F.cmpEntry_ne
    (wpAny_check_slot_inst PySem.F.cmpKind_ne PySem.F.cmpSplit_ne (PySem.F.cmpArgs_ne _ _) hob I.at_ I.cls (X _ _ hC)
      (objNe_K (A := A.in1) hu X I he hf (wpAny_mono h (fun v s' hv => ?_) fun _ _ e => e))))))
  obtain ⟨k, rfl, hq⟩ := hv
  first | exact ⟨k, rfl, wpAny_pure hq⟩ | exact ⟨k, rfl, wpAny_pure (wpAny_pure hq)⟩ | exact ⟨k, rfl, hq⟩
theorem ne_K {Q : Value → Shared → Prop} (hu : A.units + 1 < cLine) (F : Fr h₀ L s.heap m) (X₀ : K.In h₀) (I : InstAt s.heap x ox C od) (hb : Looks (model prog w) s.heap (typeOf b) (.ref C))
    (hs : findIn K (.ref C) "__ne__" = some (some (.builtin "object.__ne__"))) (he : findIn K (.ref C) "__eq__" = some (some (.ref f))) (hf : isFn K (.ref f) = true)
    (hC : K.lookup C = some (excClassObj nm q C N bs bm hdct sn sub ab col dd k0 k1 k2 k3 k5 newId)) (hob : bm.contains (.type "object") = true)
    (h : wpAny (model prog w) A.in1 (call (.ref f) [.ref x, b]) (fun v s' => ∃ k, v = .bool k ∧ Q (.bool (!k)) s') E s) : wpAny (model prog w) A (richCompare .NotEq (.ref x) b) Q E s := by
  have X := X₀.keeps F.keep
  unfold richCompare
  simp only [oneThing_ref]
  refine wpAny_holding (wpAny_bind (wpAny_cRoomFor (Nat.lt_of_succ_lt hu) ?_))
  rw [cmpInfo_NotEq]
  dsimp only
  refine wpAny_bind (I.type.here (wpAny_bind (hb.here ?_)))
  rw [show (Value.ref C != Value.ref C) = false from by simp]
  simp only [Bool.false_eq_true, if_false]
  refine wpAny_bind (wpAny_pure ?_)
  simp only [Bool.false_eq_true, if_false]
  refine wpAny_bind (try_ne_K hu X I hs he hf hC hob (wpAny_mono h (fun v s' hv => ?_) fun _ _ e => e))
  obtain ⟨b, rfl, hq⟩ := hv
  first | exact ⟨b, rfl, wpAny_pure hq⟩ | exact ⟨b, rfl, wpAny_pure (wpAny_pure hq)⟩
end
section
variable {X : Cx} {CX : CXT} {n : Nat} {f C : Addr} {fd : FuncData} {ps : List Str} {sp : Sp} {E : XK} {A : Around} {pins : List (Addr × Obj)} {σ : L2.St} {H : Hp} {s : Shared}
  {nm q : Str} {N : Addr} {bs bm : List Value} {hdct : Bool} {sn : List Str} {sub : List Value} {ab : Bool} {col : Option Bool} {dd : Option Addr} {k0 k1 k2 k3 k5 : Option Value} {newId : String}
/-- a != b by an own __eq__ that gives a bool -/
def rNeOwn (C : Addr) (sp : Sp) (E : XK) : R2 := fun x y H Q => ∃ a b dx dy fs gs, x = .ref a ∧ y = .ref b ∧ H a = some (.ins C dx fs) ∧ H b = some (.ins C dy gs) ∧
  sp [.ref a, .ref b] H (fun v H' => ∃ k, v = .bl k ∧ Q (.bl (!k)) H') E
theorem op_neOwn (F : FnOk X.prog X.w X.K X.mg X.base CX n f fd ps sp) (hr : Room (n + 1) X.A) (hs : PySem.W.findIn X.K (.ref C) "__ne__" = some (some (.builtin "object.__ne__"))) (he : PySem.W.findIn X.K (.ref C) "__eq__" = some (some (.ref f))) (hf : PySem.W.isFn X.K (.ref f) = true)
    (hC : X.K.lookup C = some (excClassObj nm q C N bs bm hdct sn sub ab col dd k0 k1 k2 k3 k5 newId)) (hob : bm.contains (.type "object") = true)
    (hb : Binds X.K fd ps []) (hx : Passes CX X E) : OpR X (compareOp .NotEq) (rNeOwn C sp E) := by
  intro pins s σ H x y v u Q I rx ry hq
  obtain ⟨a, b, dx, dy, fs, gs, rfl, rfl, ha, hb', hsp⟩ := hq
  cases rx
  cases ry
  obtain ⟨mA, J, _⟩ := ins_get I.hok ha
  obtain ⟨mB, J', _⟩ := ins_get I.hok hb'
  obtain ⟨od, J, _⟩ := J.look
  obtain ⟨od', J', _⟩ := J'.look
  obtain ⟨m, hF⟩ := I.fr
  show wpAny (model X.prog X.w) X.A (richCompare .NotEq (.ref a) (.ref b)) (EP X pins σ Q) X.xe s
  refine ne_K (by have := hr.units; omega) hF I.ok.mod.kin J J'.type hs he hf hC hob ?_
  refine wpAny_mono (run_at (vs := [.ref a, .ref b]) ⟨hr.in1, rfl⟩ F hb hx I (.cons rfl (.cons rfl .nil)) hsp) (fun u s' q => ?_) fun _ _ x => x
  obtain ⟨v, H', I', rv, k, rfl, q⟩ := q
  cases rv
  exact ⟨k, rfl, .bl (!k), H', I', rfl, q⟩

/-- o[i] by an own __getitem__ -/
def rIxOwn (C : Addr) (sp : Sp) (E : XK) : R2 := fun x y H Q => ∃ a dx fs, x = .ref a ∧ H a = some (.ins C dx fs) ∧ sp [.ref a, y] H Q E
theorem pe_ixOwn {a b : Expr} {ta tb : TE} {pos : Pos} (F : FnOk X.prog X.w X.K X.mg X.base CX n f fd ps sp) (hr : Room (n + 1) X.A) (hs : PySem.W.findIn X.K (.ref C) "__getitem__" = some (some (.ref f))) (hfn : PySem.W.fnIn X.K f = true) (hf : PySem.W.isFn X.K (.ref f) = true)
    (hb : Binds X.K fd ps []) (hx : Passes CX X E) (ha : PE X a ta) (hbb : PE X b tb)
    (hsl : ∀ x i, subscripted b true (.ref x) i = runValue (.builtin "lifetime.subscript" ⟨[.ref x, i], []⟩) := by intro _ _; rfl) : PE X (.Subscript a b pos) (tOp (rIxOwn C sp E) ta tb) := by
  refine ⟨fun pins s σ H Q I h => ?_⟩
  refine Subscript_ (binT ha hbb I h fun v u s2 x y H2 I2 rx ry q => ?_)
  obtain ⟨p, dx, fs, rfl, hp, hsp⟩ := q
  cases rx
  obtain ⟨mA, J, _⟩ := ins_get I2.hok hp
  obtain ⟨od, J, _⟩ := J.look
  obtain ⟨m, hF⟩ := I2.fr
  exact PySem.W.sub_K hF I2.ok.mod.kin J hs hfn hf (run_at (vs := [.ref p, y]) ⟨hr.in1, rfl⟩ F hb hx I2 (.cons rfl (.cons ry .nil)) hsp) (hsl _ _)

/-- all or some of a list or tuple of ints; sum of a tuple of ints -/
theorem PI.or {tg it : Expr} {w1 w2 : TI} (h1 : PI X tg it w1) (h2 : PI X tg it w2) : PI X tg it (fun σ H R => w1 σ H R ∨ w2 σ H R) :=
  ⟨fun pins s σ H R I h => h.elim (h1.run pins s σ H R I) (h2.run pins s σ H R I)⟩
end
end BK
namespace BK
open PySem PySem.Spec PyProof.Rows L2 RZ
section
variable {prog : Program} {w : World} {A : Around} {E : Value → Shared → Prop} {s : Shared} {l : Addr} {xs : Array (Int × Tok)} {its : List Value} {ns : List Int}
theorem sumT_raw {Q : Value → Shared → Prop} (hh : A.handled = none) (hl : s.heap.IsTuple l its.toArray) (hi : IntsAre its ns)
    (h : ∀ h' tk t', (∀ b o, s.heap.get? b = some o → h'.get? b = some o) → Q (.int ns.sum t') { s with heap := h', toks := tk }) : wpAny (model prog w) A (call (.builtin "sum") [.ref l]) Q E s := by
  obtain ⟨xs, e⟩ := hi.allInts.items
  have hn : numsOf (intItems xs).toList = ns := by rw [← e]; exact hi.numsOf
  rw [nums_intItems] at hn
  rw [e] at hl
  have hlt : l < s.heap.objs.size := by obtain ⟨_, e, _⟩ := hl; exact Heap.lt_size e
  refine call_sum_walkG (wpAny_pyIter_tuple hl ⟨_, _, _, _, _, _, numAt xs, rfl, Walks.tuple (A := A.in1) hh _ l (Nat.ne_of_lt hlt) (intItems xs), ⟨⟨_, Heap.get?_push_size _ rfl, rfl, rfl⟩, hl.push _⟩, (fun b hb => ?_), (fun _ _ => intItems_at), fun h' tk t' hk => ?_⟩)
  · show b < (s.heap.push _).objs.size
    rw [Heap.size_push]
    rcases List.mem_cons.mp hb with rfl | hb
    · exact Nat.lt_succ_self _
    · rcases List.mem_cons.mp hb with rfl | hb
      · exact Nat.lt_succ_of_lt hlt
      · cases hb
  · have := h h' tk t' fun b o q => hk b o (fun hm => by
      rcases List.mem_cons.mp hm with e1 | hm
      · exact absurd (e1 ▸ Heap.lt_size q) (Nat.lt_irrefl _)
      · cases hm) (Heap.get?_push_of_some _ q)
    rw [preSum_eq, List.take_of_length_le (by simp [intItems]), hn]
    exact this
set_option maxHeartbeats 8000000 in
theorem meets_enumerate_newT (l : Addr) (items : Array Value) :
    Meets (Builtin.«enumerate.__new__» ⟨[.type "enumerate", .ref l], []⟩) (fun _ R s => s.heap.IsTuple l items ∧
      R (.ok (.ret (.ref (s.heap.push { cls := .type "tuple_iterator", data := .fields #[.ref l, .int 0 0] }).objs.size)))
        { s with heap := (s.heap.push { cls := .type "tuple_iterator", data := .fields #[.ref l, .int 0 0] }).push { cls := .type "enumerate", data := .fields #[.none, .bool false, .ref s.heap.objs.size, rawInt 0, .none, .none] } }) :=
  .of_wp fun prog w A R s h => by
    obtain ⟨hp, g, d, tk, os⟩ := s; obtain ⟨hl, h⟩ := h
    have hsub := sub_enumerate
    have q1 : ∀ {A' : Around} {E : Value → Shared → Prop} {Q : Value → Shared → Prop}, Q (.ref hp.objs.size) ⟨hp.push { cls := .type "tuple_iterator", data := .fields #[.ref l, .int 0 0] }, g, d, tk, os⟩ → wpAny (model prog w) A' (pyIter (.ref l)) Q E ⟨hp, g, d, tk, os⟩ :=
      fun q => wpAny_pyIter_tuple (s := ⟨hp, g, d, tk, os⟩) hl q
    wp_walk using q1
    refine wpAny_stack_any fun st => wpAny_pure ?_
    split
    · rename_i c _ _ _ _ _
      cases (c == Value.type "enumerate")
      · wp_walk using q1
        exact ⟨_, rfl, h⟩
      · wp_walk using q1
        exact ⟨_, rfl, h⟩
    · wp_walk using q1
      exact ⟨_, rfl, h⟩
theorem call_enumerate_tuple {items : Array Value} {Q : Value → Shared → Prop} (hL : s.heap.IsTuple l items)
    (h : ∀ h', IsEnum h' (s.heap.objs.size + 1) s.heap.objs.size 0 .none → h'.IsTupleIter s.heap.objs.size l 0 → h'.objs.size = s.heap.objs.size + 2 →
      (∀ b o, s.heap.get? b = some o → h'.get? b = some o) → Q (.ref (s.heap.objs.size + 1)) { s with heap := h' }) :
    wpAny (model prog w) A (call (.type "enumerate") [.ref l]) Q E s := by
  refine callType_new F.called_enumerate (by decide) (F.typeCall_enumerate_1 _) (F.newCall_enumerate_1 _) (fun obj => F.args_object_init_2 obj _) F.entry_enumerate_new
    (meets_enumerate_newT l items) ⟨hL, ?_⟩
  have hz : (s.heap.push { cls := .type "tuple_iterator", data := .fields #[.ref l, .int 0 0] }).objs.size = s.heap.objs.size + 1 := Heap.size_push ..
  show _ ∧ _
  rw [hz]
  have he : IsEnum ((s.heap.push { cls := .type "tuple_iterator", data := .fields #[.ref l, .int 0 0] }).push
      { cls := .type "enumerate", data := .fields #[.none, .bool false, .ref s.heap.objs.size, rawInt 0, .none, .none] }) (s.heap.objs.size + 1) s.heap.objs.size 0 .none := by
    have := Heap.get?_push_size (s.heap.push { cls := .type "tuple_iterator", data := .fields #[.ref l, .int 0 0] })
      (o := { cls := .type "enumerate", data := .fields #[.none, .bool false, .ref s.heap.objs.size, rawInt 0, .none, .none] }) rfl
    rw [hz] at this; exact this
  refine ⟨⟨_, he, rfl⟩, h _ he ⟨_, Heap.get?_push_of_some _ (Heap.get?_push_size _ rfl), rfl, rfl⟩ (by rw [Heap.size_push, hz]) fun b o x => Heap.get?_push_of_some _ (Heap.get?_push_of_some _ x)⟩
theorem enumT_end {e it l : Addr} {i : Nat} {items : Array Value} {old : Value} {Q : Option Value → Shared → Prop} (hh : A.handled = none)
    (he : IsEnum s.heap e it i old) (hit : s.heap.IsTupleIter it l i) (hl : s.heap.IsTuple l items) (hx : items[i]? = none)
    (hQ : ∀ h', Heap.ExtBut it s.heap h' → Q none { s with heap := h' }) : wpAny (model prog w) A (pyNext (.ref e)) Q E s := by
  have hT : s.TypeIs (.ref e) "enumerate" := ⟨_, he, rfl⟩
  unfold pyNext
  refine wpAny_bind (wpAny_attempt (wpAny_callSpecial?_slot (name := Str.ofString "__next__") hT F.slot_enumerate_next
    (wpAny_call_entry F.slot_enumerate_next hT F.entry_enumerate_next ?_ (F.args_enumerate_next_1 _))))
  show wpAny _ _ (PySem.field (.ref e) 2 >>= _) _ _ _
  refine wpAny_bind (wpAny_field he rfl (x := .ref it) rfl ?_)
  refine wpAny_bind (wpAny_nextOf_tuple_end hh hit hl hx fun h' x he' hx' => ?_)
  obtain ⟨o, ho, hc⟩ := hx'
  refine wpAny_bind (wpAny_isInstance (T := "StopIteration") (b := true) ⟨o, ho, hc⟩ isSubtype_stop ?_)
  exact wpAny_pure (hQ _ he')
end
section
variable {X : Cx}
/-- sum(t) of a tuple of ints -/
def rSumT (K : PySem.W.Frag) : List V → Hp → VK → Prop := fun vs H Q => ∃ (a : Addr) (ns : List Int), vs = [V.ref a] ∧ SqT K H a (ns.map V.int) ∧ Q (.int ns.sum) H
theorem cr_sumT (hc : X.calm = true) : CallR X (.builtin "sum") (rSumT X.K) := by
  intro pins s σ H vs us Q I r h
  obtain ⟨a, ns, rfl, hs, q⟩ := h
  obtain ⟨its, rv, hl, _⟩ := I.tuple hs
  rw [Vals.ref1 r]
  exact sumT_raw (I.ok.hd hc) (show s.heap.IsTuple a its.toArray from hl) rv.ints fun h' tk t' hk => ⟨.int _, H, I.kept hk, ⟨_, rfl⟩, q⟩
/-- enumerate(tuple) -/
def IteT (K : PySem.W.Frag) (a : Addr) : It :=
  ⟨fun i H => ∃ (xs : List V) (x : V), SqT K H a xs ∧ xs[i]? = some x, fun i H v H' => ∃ T x, v = .ref T ∧ H T = none ∧ H' = upd H T (.tup [.int (i : Nat), x]) ∧ ∀ xs, SqT K H a xs → xs[i]? = some x, fun i H => ∃ xs : List V, SqT K H a xs ∧ xs.length ≤ i⟩
theorem turn_enumT {P : Program} {w : World} {K : PySem.W.Frag} {elts : List Expr} {kk : Nat} {tpos : Pos} (a e it : Addr) :
    Turn P w K (.Tuple elts kk tpos) (IteT K a) [e, it] e (fun i h => (∃ old, IsEnum h e it ((i : Nat) : Int) old) ∧ h.IsTupleIter it a i ∧ e ≠ it ∧ a ≠ it ∧ a ≠ e) where
  mem := by simp
  obj := fun i h st b hb => by
    obtain ⟨⟨old, he⟩, ⟨o, ho, hc, hd⟩, _⟩ := st
    have e' : b = e ∨ b = it := by simpa using hb
    rcases e' with z | z
    · rw [z]; exact ⟨_, he, fun v q => nomatch q⟩
    · rw [z]; exact ⟨o, ho, fun v q => by rw [hd] at q; cases q⟩
  keep := fun i h h' st k => let ⟨⟨old, he⟩, hi, hne⟩ := st; ⟨⟨old, k e (by simp) _ he⟩, hi.at fun o q => k it (by simp) o q, hne⟩
  item := by
    intro X hP hw hK hc i pins s σ H E I hf st hg
    subst hP hw hK
    obtain ⟨⟨old, he⟩, hit, hne, hai, hae⟩ := st
    obtain ⟨xs, x, hq, hx⟩ := hg
    obtain ⟨its, rv, p, hz⟩ := I.tuple hq
    obtain ⟨u, hu, ru⟩ := rv.get hx
    have hel : e < s.heap.objs.size := Heap.lt_size he
    have hil : it < s.heap.objs.size := by obtain ⟨_, q, _⟩ := hit; exact Heap.lt_size q
    have hlt : i < its.toArray.size := by
      have := (List.getElem?_eq_some_iff.mp hu).1
      simpa using this
    have p' : s.heap.IsTuple a its.toArray := p
    refine wpAny_pyNext_enum_itemC (n := its.toArray.size) (fp := [it, a]) (Draws.tuple (prog := X.prog) (w := X.w) (A := X.A.in1) (I.ok.hd hc) it a hai its.toArray) he ⟨hit, p'⟩ hlt hne (by simp [hne, Ne.symm hae]) fun u' h' tk hu' ho hit' hT hsz hk => ?_
    have eu : u' = u := by
      have h1 : its[i]? = some u' := by simpa using hu'
      rw [hu] at h1
      exact (Option.some.inj h1).symm
    subst eu
    refine ⟨_, rfl, wpAny_letOwnedTupleGo_enum (s := { s with heap := h', toks := tk + 1 }) ho fun h'' he' sb => ?_⟩
    have hT2 : h''.get? s.heap.objs.size = some { cls := .type "tuple", data := .seq #[.int i tk, u'] } := (sb.2 _ (Nat.ne_of_gt hel)).trans hT
    have new : ObjOk X.prog X.w (upd H s.heap.objs.size (.tup [.int (i : Nat), x])) h'' s.heap.objs.size (.tup [.int (i : Nat), x]) :=
      ⟨by show 2 ≤ sizeLine; decide, [.int i tk, u'], .cons ⟨_, rfl⟩ (.cons ru .nil), ⟨_, hT2, rfl, _, rfl⟩⟩
    have I1 : Inv X pins σ (upd H s.heap.objs.size (.tup [.int (i : Nat), x])) { s with heap := h'', toks := tk + 1 } :=
      I.turnedNew (ch := [e, it]) (fun b ob hb q => (sb.2 b (fun z => hb (by simp [z]))).trans (hk b ob (fun z => hb (by simp [z])) (fun z => hb (by simp [z])) q)) hf (Nat.le_refl _) new
    refine ⟨.ref s.heap.objs.size, _, I1, rfl, ⟨_, x, rfl, I.hok.fresh (Nat.le_refl _), rfl, fun ys hy => by rw [I.tuple_inj hy hq]; exact hx⟩, ⟨⟨u', ?_⟩, hit'.1.at fun o q => (sb.2 it (Ne.symm hne)).trans q, hne, hai, hae⟩, fun b hb => ?_⟩
    · have e1 : ((i + 1 : Nat) : Int) = (i : Int) + 1 := by omega
      rw [e1]; exact he'
    · have hb' : b < s.heap.objs.size := by
        have e' : b = e ∨ b = it := by simpa using hb
        rcases e' with z | z
        · rw [z]; exact hel
        · rw [z]; exact hil
      rw [upd_ne (Nat.ne_of_lt hb')]
      exact (hf b hb).1
  done := by
    intro X hP hw hK hc i pins s σ H E I hf st hg
    subst hP hw hK
    obtain ⟨⟨old, he⟩, hit, hne, hai, hae⟩ := st
    obtain ⟨xs, hq, hx⟩ := hg
    obtain ⟨its, rv, p, hz⟩ := I.tuple hq
    obtain ⟨f0, f1, f2, f3, f4, f5⟩ := hf it (by simp)
    have hl := rv.length
    have hx' : its.toArray[i]? = none := by simp; omega
    exact enumT_end (I.ok.hd hc) he hit (show s.heap.IsTuple a its.toArray from p) hx' fun h' eb => ⟨rfl, I.turned (t' := s.toks) (fun b o hb q => eb b o hb q) f0 f1 f3 f4 f5⟩
  self := fun A i s Q E st h => let ⟨⟨_, he⟩, _⟩ := st; wpAny_pyIter_enum he h
def iEnumT (K : PySem.W.Frag) (ta : TA) : TI := fun σ H R => ta σ H fun vs H1 => ∃ a xs, vs = [.ref a] ∧ SqT K H1 a xs ∧ R (IteT K a) H1
theorem pi_enumT {X : Cx} {e : Expr} {ta : TA} {p pos tpos : Pos} {elts : List Expr} {kk : Nat} (hg : Gl X "enumerate") (hm : X.mg "enumerate" = none) (ha : PA X [e] ta) (hs : starEach [e] X.env = [(false, eval e X.env)] := by rfl) :
    PI X (.Tuple elts kk tpos) (.Call (.Name "enumerate" p) [e] [] pos) (iEnumT X.K ta) := by
  refine ⟨fun pins s σ H R I h => ?_⟩
  refine Call_ (ld_blt I hg hm boot_enumerate (PyProof.Rows.callWith_type1 (thn (ha.run pos pins s σ H _ I h) fun us s1 ⟨vs, H1, I1, r1, q1⟩ => ?_) hs rfl))
  obtain ⟨a, xs, ex, hq, q⟩ := q1
  subst ex
  cases r1 with
  | cons r rr =>
    cases rr
    cases r
    obtain ⟨its, rv, p', hz⟩ := I1.tuple hq
    have p2 : s1.heap.IsTuple a its.toArray := p'
    have hlt : a < s1.heap.objs.size := by obtain ⟨_, q, _⟩ := id p2; exact Heap.lt_size q
    refine call_enumerate_tuple p2 fun h' he hit hsz hk => wpAny_pyIter_enum he ?_
    have I2 : Inv X pins σ H1 { s1 with heap := h' } := I1.kept (t' := s1.toks) hk
    refine ⟨s1.heap.objs.size + 1, [s1.heap.objs.size + 1, s1.heap.objs.size], _, _, H1, rfl, I2, turn_enumT a (s1.heap.objs.size + 1) s1.heap.objs.size, ⟨⟨.none, he⟩, hit, Nat.succ_ne_self _, Nat.ne_of_lt hlt, Nat.ne_of_lt (Nat.lt_succ_of_lt hlt)⟩, fun b hb => ?_, q⟩
    have e' : b = s1.heap.objs.size + 1 ∨ b = s1.heap.objs.size := by simpa using hb
    have hle : s1.heap.objs.size ≤ b := by
      rcases e' with z | z
      · rw [z]; exact Nat.le_add_right _ _
      · rw [z]; exact Nat.le_refl _
    exact I1.fpOk hle (I1.hok.fresh hle)
theorem walk_enumT {K : PySem.W.Frag} {a : Addr} {xs : List V} : Walk (IteT K a) xs.length (fun H => SqT K H a xs) (YPair (fun i => some (.int (i : Nat))) (fun i => xs[i]?)) := by
  refine ⟨fun i _ hi q => ⟨xs, xs[i], q, by simp [hi]⟩, fun _ q => ⟨xs, q, Nat.le_refl _⟩, fun i H v H' _ q y => ?_⟩
  obtain ⟨T, x, h1, h2, h3, h4⟩ := y
  exact ⟨T, .int (i : Nat), x, h1, h2, h3, rfl, h4 xs q⟩
theorem walk_zipT {K : PySem.W.Frag} {a b : Addr} {xs ys : List V} {n : Nat} (hn : n = min xs.length ys.length) : Walk (ItzT K a b) n (fun H => SqT K H a xs ∧ SqT K H b ys) (YPair (fun i => xs[i]?) (fun i => ys[i]?)) := by
  subst hn
  refine ⟨fun i _ hi q => ?_, fun _ q => ⟨xs, ys, q.1, q.2, by omega⟩, fun i H v H' _ q y => ?_⟩
  · have h1 : i < xs.length := by omega
    have h2 : i < ys.length := by omega
    exact ⟨xs, ys, xs[i], ys[i], q.1, q.2, by simp [h1], by simp [h2]⟩
  · obtain ⟨T, x, z, h1, h2, h3, h4, h5⟩ := y
    exact ⟨T, x, z, h1, h2, h3, h4 xs q.1, h5 ys q.2⟩
end
end BK
namespace BK
open PySem PySem.Spec PyProof.Rows L2 RZ
section
variable {prog : Program} {w : World} {A : Around} {E : Value → Shared → Prop} {s : Shared} {z TI TO i1 i2 : Addr} {fp1 fp2 : List Addr} {n1 n2 i : Nat} {P1 P2 : Nat → Value → Prop} {St1 St2 : Nat → Heap → Prop} {a1 a2 : Value}
open PySem.W
theorem zipD_next_held {Q : Value → Shared → Prop} {T : Addr} {f : Bool} {oT : Obj} (S : ZipSep2 z TI TO i1 i2 fp1 fp2) (D1 : Draws prog w A i1 fp1 n1 P1 St1) (D2 : Draws prog w A i2 fp2 n2 P2 St2)
    (hz : IsZipHeld s.heap z TI TO T f) (hT : s.heap.get? T = some oT) (hTI : IsTupOf2 s.heap TI (.ref i1) (.ref i2)) (st1 : St1 i s.heap) (st2 : St2 i s.heap) (l1 : i < n1) (l2 : i < n2)
    (hQ : ∀ x1 x2 h' tk, P1 i x1 → P2 i x2 → IsZipHeld h' z TI TO T true → St1 (i + 1) h' → St2 (i + 1) h' → IsTupOf2 h' s.heap.objs.size x1 x2 →
      (∀ c o, c ≠ z → c ≠ i1 → c ≠ i2 → s.heap.get? c = some o → h'.get? c = some o) → Q (.ref s.heap.objs.size) { s with heap := h', toks := tk }) :
    wpAny (model prog w) A (Builtin.«zip.__next__» ⟨[.ref z], []⟩) (fun fin s' => ∃ v, fin = .done (.ret v) ∧ Q v s') E s := by
  obtain ⟨hp, g, d, tk0, os⟩ := s
  show wpAny _ _ (PySem.field (.ref z) 2 >>= _) _ _ _
  refine wpAny_bind (wpAny_field hz rfl (x := .bool false) rfl ?_)
  show wpAny _ _ (PySem.field (.ref z) 3 >>= _) _ _ _
  refine wpAny_bind (wpAny_field hz rfl (x := .ref TI) rfl ?_)
  refine wpAny_bind (wpAny_seqItems hTI rfl ?_)
  show wpAny _ _ (Builtin.SmallTypes.ownedTupleIsFree (.ref z) >>= _) _ _ _
  refine wpAny_bind (wpAny_tupleHeld_zip hz hT fun h₁ hz₁ hs₁ => ?_)
  simp only [Bool.false_eq_true, if_false]
  refine wpAny_bind ?_
  rw [← Array.forIn_toList]
  simp only [List.forIn_cons, List.forIn_nil]
  refine wpAny_bind (wpAny_bind (wpAny_holding ?_))
  show wpAny _ _ (Builtin.SmallTypes.nextOf (.ref i1) >>= _) _ _ _
  refine wpAny_bind (D1.item i ⟨h₁, g, d, tk0, os⟩ _ _ l1 (D1.over st1 hs₁ S.zf1) fun x1 h₂ tk2 p1 st1₂ hs₂ => wpAny_pure ?_)
  refine wpAny_pure ?_
  refine wpAny_bind (wpAny_bind (wpAny_holding ?_))
  show wpAny _ _ (Builtin.SmallTypes.nextOf (.ref i2) >>= _) _ _ _
  refine wpAny_bind (D2.item i ⟨h₂, g, d, tk2, os⟩ _ _ l2 (D2.over (D2.over st2 hs₁ S.zf2) hs₂ S.sep1_2) fun x2 h₃ tk3 p2 st2₃ hs₃ => wpAny_pure ?_)
  refine wpAny_pure (wpAny_pure ?_)
  show wpAny _ _ (newTuple [x1, x2] >>= _) _ _ _
  refine wpAny_bind (wpAny_newTuple ?_)
  have hsz : h₃.objs.size = hp.objs.size := by rw [hs₃.1, hs₂.1, hs₁.1]
  have hz₃ : IsZipHeld h₃ z TI TO T true := hs₃.extBut _ _ S.zi2 (hs₂.extBut _ _ S.zi1 hz₁)
  have hk : ∀ c o, c ≠ z → c ≠ i1 → c ≠ i2 → hp.get? c = some o → h₃.get? c = some o := fun c o c1 c2 c3 e => hs₃.extBut _ _ c3 (hs₂.extBut _ _ c2 (hs₁.extBut _ _ c1 e))
  refine wpAny_pure ⟨_, rfl, ?_⟩
  show Q (.ref h₃.objs.size) _
  have hpp : IsTupOf2 (h₃.push { cls := .type "tuple", data := .seq #[x1, x2] }) h₃.objs.size x1 x2 := Heap.get?_push_size _ rfl
  rw [hsz] at hpp ⊢
  have kp : ∀ c o, h₃.get? c = some o → (h₃.push { cls := .type "tuple", data := .seq #[x1, x2] }).get? c = some o := fun c o e => Heap.get?_push_of_some _ e
  exact hQ x1 x2 _ tk3 p1 p2 (kp _ _ hz₃) (D1.frame _ _ _ (D1.over st1₂ hs₃ S.sep2_1) fun b _ o e => kp b o e) (D2.frame _ _ _ st2₃ fun b _ o e => kp b o e) hpp fun c o c1 c2 c3 e => kp _ _ (hk c o c1 c2 c3 e)
theorem zipD_end_held {Q : Fin → Shared → Prop} {T : Addr} {f : Bool} {oT : Obj} (S : ZipSep2 z TI TO i1 i2 fp1 fp2) (D1 : Draws prog w A i1 fp1 n1 P1 St1) (D2 : Draws prog w A i2 fp2 n2 P2 St2)
    (hz : IsZipHeld s.heap z TI TO T f) (hT : s.heap.get? T = some oT) (hTI : IsTupOf2 s.heap TI (.ref i1) (.ref i2)) (st1 : St1 i s.heap) (st2 : St2 i s.heap) (l1 : i ≤ n1) (l2 : i ≤ n2) (hend : i = n1 ∨ i = n2)
    (hE : ∀ h' tk e, (∀ c o, c ≠ z → c ≠ i1 → c ≠ i2 → s.heap.get? c = some o → h'.get? c = some o) → (∃ o, h'.get? e = some o ∧ o.cls = .type "StopIteration") → E (.ref e) { s with heap := h', toks := tk }) :
    wpAny (model prog w) A (Builtin.«zip.__next__» ⟨[.ref z], []⟩) Q E s := by
  obtain ⟨hp, g, d, tk0, os⟩ := s
  show wpAny _ _ (PySem.field (.ref z) 2 >>= _) _ _ _
  refine wpAny_bind (wpAny_field hz rfl (x := .bool false) rfl ?_)
  show wpAny _ _ (PySem.field (.ref z) 3 >>= _) _ _ _
  refine wpAny_bind (wpAny_field hz rfl (x := .ref TI) rfl ?_)
  refine wpAny_bind (wpAny_seqItems hTI rfl ?_)
  show wpAny _ _ (Builtin.SmallTypes.ownedTupleIsFree (.ref z) >>= _) _ _ _
  refine wpAny_bind (wpAny_tupleHeld_zip hz hT fun h₁ hz₁ hs₁ => ?_)
  simp only [Bool.false_eq_true, if_false]
  refine wpAny_bind ?_
  rw [← Array.forIn_toList]
  simp only [List.forIn_cons, List.forIn_nil]
  refine wpAny_bind (wpAny_bind (wpAny_holding ?_))
  show wpAny _ _ (Builtin.SmallTypes.nextOf (.ref i1) >>= _) _ _ _
  have st1₁ := D1.over st1 hs₁ S.zf1
  have st2₁ := D2.over st2 hs₁ S.zf2
  by_cases e1 : i = n1
  · subst e1
    refine wpAny_bind (D1.done ⟨h₁, g, d, tk0, os⟩ _ _ st1₁ fun h₂ e hs₂ he => ?_)
    exact hE h₂ tk0 e (fun c o c1 c2 _ x => hs₂ _ _ c2 (hs₁.extBut _ _ c1 x)) he
  · have e2 : i = n2 := by omega
    refine wpAny_bind (D1.item i ⟨h₁, g, d, tk0, os⟩ _ _ (by omega) st1₁ fun x1 h₂ tk2 p1 st1₂ hs₂ => wpAny_pure ?_)
    refine wpAny_pure ?_
    refine wpAny_bind (wpAny_bind (wpAny_holding ?_))
    show wpAny _ _ (Builtin.SmallTypes.nextOf (.ref i2) >>= _) _ _ _
    subst e2
    refine wpAny_bind (D2.done ⟨h₂, g, d, tk2, os⟩ _ _ (D2.over st2₁ hs₂ S.sep1_2) fun h₃ e hs₃ he => ?_)
    exact hE h₃ tk2 e (fun c o c1 c2 c3 x => hs₃ _ _ c3 (hs₂.extBut _ _ c2 (hs₁.extBut _ _ c1 x))) he
theorem pyNext_zipD_held {Q : Option Value → Shared → Prop} {T : Addr} {f : Bool} {oT : Obj} (S : ZipSep2 z TI TO i1 i2 fp1 fp2) (D1 : Draws prog w A.in1 i1 fp1 n1 P1 St1) (D2 : Draws prog w A.in1 i2 fp2 n2 P2 St2)
    (hz : IsZipHeld s.heap z TI TO T f) (hT : s.heap.get? T = some oT) (hTI : IsTupOf2 s.heap TI (.ref i1) (.ref i2)) (st1 : St1 i s.heap) (st2 : St2 i s.heap) (l1 : i < n1) (l2 : i < n2)
    (hQ : ∀ x1 x2 h' tk, P1 i x1 → P2 i x2 → IsZipHeld h' z TI TO T true → St1 (i + 1) h' → St2 (i + 1) h' → IsTupOf2 h' s.heap.objs.size x1 x2 →
      (∀ c o, c ≠ z → c ≠ i1 → c ≠ i2 → s.heap.get? c = some o → h'.get? c = some o) → Q (some (.ref s.heap.objs.size)) { s with heap := h', toks := tk }) :
    wpAny (model prog w) A (pyNext (.ref z)) Q E s := by
  have hTy : s.TypeIs (.ref z) "zip" := ⟨_, hz, rfl⟩
  unfold pyNext
  exact wpAny_bind (wpAny_attempt (wpAny_callSpecial?_slot (name := Str.ofString "__next__") hTy F.slot_zip_next
    (wpAny_call_entry F.slot_zip_next hTy F.entry_zip_next
      (zipD_next_held S D1 D2 hz hT hTI st1 st2 l1 l2 fun x1 x2 h' tk b1 b2 b3 b4 b5 b6 b7 => wpAny_pure (hQ x1 x2 h' tk b1 b2 b3 b4 b5 b6 b7)) (F.args_zip_next_1 _))))
theorem pyNext_zipD_end_held {Q : Option Value → Shared → Prop} {T : Addr} {f : Bool} {oT : Obj} (S : ZipSep2 z TI TO i1 i2 fp1 fp2) (D1 : Draws prog w A.in1 i1 fp1 n1 P1 St1) (D2 : Draws prog w A.in1 i2 fp2 n2 P2 St2)
    (hz : IsZipHeld s.heap z TI TO T f) (hT : s.heap.get? T = some oT) (hTI : IsTupOf2 s.heap TI (.ref i1) (.ref i2)) (st1 : St1 i s.heap) (st2 : St2 i s.heap) (l1 : i ≤ n1) (l2 : i ≤ n2) (hend : i = n1 ∨ i = n2)
    (hQ : ∀ h' tk, (∀ c o, c ≠ z → c ≠ i1 → c ≠ i2 → s.heap.get? c = some o → h'.get? c = some o) → Q none { s with heap := h', toks := tk }) : wpAny (model prog w) A (pyNext (.ref z)) Q E s := by
  have hTy : s.TypeIs (.ref z) "zip" := ⟨_, hz, rfl⟩
  unfold pyNext
  refine wpAny_bind (wpAny_attempt (wpAny_callSpecial?_slot (name := Str.ofString "__next__") hTy F.slot_zip_next
    (wpAny_call_entry F.slot_zip_next hTy F.entry_zip_next (zipD_end_held S D1 D2 hz hT hTI st1 st2 l1 l2 hend fun h' tk e hk he => ?_) (F.args_zip_next_1 _))))
  obtain ⟨o, ho, hc⟩ := he
  refine wpAny_bind (wpAny_isInstance (T := "StopIteration") (b := true) ⟨o, ho, hc⟩ isSubtype_stop ?_)
  exact wpAny_pure (hQ _ _ hk)
end
end BK
namespace BK
open PySem PySem.Spec PyProof.Rows L2 RZ
theorem nolen_zip : typeLookup (.type "zip") "__len__" = pure none := by rw [typeLookup_type, builtinLookup_eq_fast]; kernel_rfl
theorem nohint_zip : typeLookup (.type "zip") "__length_hint__" = pure none := by rw [typeLookup_type, builtinLookup_eq_fast]; kernel_rfl
/-- the pairs at ps are those of xs and ys -/
def Prs2 (H : Hp) (xs ys : List V) (ps : List Addr) : Prop := ∀ (k : Nat) (p : Addr), ps[k]? = some p → ∃ x y, xs[k]? = some x ∧ ys[k]? = some y ∧ H p = some (.tup [x, y])
section
variable {X : Cx} {A1 : Around} {z TI TO i1 i2 q : Addr} {fp1 fp2 : List Addr} {n1 n2 : Nat} {St1 St2 : Nat → Heap → Prop} {its1 its2 : List Value} {xs ys : List V} {pins : List (Addr × Obj)} {σ : L2.St} {H0 : Hp}
/-- how the zip stands ahead of its k-th turn -/
def ZAt (z TI TO i1 i2 : Addr) (k : Nat) (h : Heap) : Prop := IsTupOf2 h TI (.ref i1) (.ref i2) ∧
  ((k = 0 ∧ IsZip h z TI TO .none ∧ ∃ a1 a2, IsTupOf2 h TO a1 a2) ∨ ∃ T f oT, IsZipHeld h z TI TO T f ∧ h.get? T = some oT)
theorem ZAt.keep {k : Nat} {h h' : Heap} (a : ZAt z TI TO i1 i2 k h) (kp : ∀ b o, b ≠ q → h.get? b = some o → h'.get? b = some o) (hq : ∃ o, h'.get? q = some o) (n1 : z ≠ q) (n2 : TI ≠ q) (n3 : TO ≠ q) : ZAt z TI TO i1 i2 k h' := by
  obtain ⟨hT, h⟩ := a
  refine ⟨kp _ _ n2 hT, ?_⟩
  rcases h with ⟨e, hz, a1, a2, hO⟩ | ⟨T, f, oT, hz, hT⟩
  · exact .inl ⟨e, kp _ _ n1 hz, a1, a2, kp _ _ n3 hO⟩
  · refine .inr ⟨T, f, ?_⟩
    by_cases e : T = q
    · obtain ⟨o, ho⟩ := hq
      exact ⟨o, kp _ _ n1 hz, by rw [e]; exact ho⟩
    · exact ⟨oT, kp _ _ n1 hz, kp _ _ e hT⟩
structure LZ (X : Cx) (pins : List (Addr × Obj)) (σ : L2.St) (H0 : Hp) (z TI TO i1 i2 q : Addr) (St1 St2 : Nat → Heap → Prop) (xs ys : List V) (k : Nat) (Hk : Hp) (s : Shared) (ps : List Addr) : Prop where
  inv : Inv X pins σ Hk s
  za : ZAt z TI TO i1 i2 k s.heap
  s1 : St1 k s.heap
  s2 : St2 k s.heap
  fp : ∀ b ∈ [z, TI, TO, i1, i2], FpOk X pins Hk b
  ex : ∀ b ∈ [z, TI, TO, i1, i2], b < s.heap.objs.size
  lst : Hk q = some (.lst (ps.map V.ref))
  len : ps.length = k
  prs : Prs2 Hk xs ys ps
  same : ∀ b o, b ≠ q → H0 b = some o → Hk b = some o
theorem zip_loop {Rs : Result → Shared → Prop} (hh : A1.handled = none) (S : ZipSep2 z TI TO i1 i2 fp1 fp2) (D1 : Draws X.prog X.w A1.in1.in1 i1 fp1 n1 (fun i v => its1.toArray[i]? = some v) St1) (D2 : Draws X.prog X.w A1.in1.in1 i2 fp2 n2 (fun i v => its2.toArray[i]? = some v) St2)
    (v1 : Vals xs its1) (v2 : Vals ys its2) (e1 : xs.length = n1) (e2 : ys.length = n2) (hq1 : q ∉ fp1) (hq2 : q ∉ fp2) (hsz : min n1 n2 ≤ 1000)
    (hdone : ∀ ps Hk s, Inv X pins σ Hk s → Hk q = some (.lst (ps.map V.ref)) → ps.length = min n1 n2 → Prs2 Hk xs ys ps → (∀ b o, b ≠ q → H0 b = some o → Hk b = some o) → Rs (.ok (.ret .none)) s) :
    ∀ (m k : Nat) (Hk : Hp) (s : Shared) (ps : List Addr), m = min n1 n2 - k → k ≤ min n1 n2 → LZ X pins σ H0 z TI TO i1 i2 q St1 St2 xs ys k Hk s ps → codeAny (model X.prog X.w) A1 (.builtin "list.extend.loop" ⟨[.ref q, .ref z, .none], []⟩) Rs s := by
  intro m
  induction m with
  | zero =>
    intro k Hk s ps hm hk L
    have ek : k = min n1 n2 := by omega
    refine codeAny_builtin PySem.F.entry_extend_loop ?_
    rw [Around.under_plainId PySem.F.plain_extend_loop _]
    show wpAny _ A1.in1 (pyNext (.ref z) >>= _) _ _ s
    have fin : ∀ h' tk, (∀ c o, c ≠ z → c ≠ TO → c ≠ i1 → c ≠ i2 → s.heap.get? c = some o → h'.get? c = some o) → Rs (.ok (.ret .none)) { s with heap := h', toks := tk } := by
      intro h' tk kp
      have I1 : Inv X pins σ Hk { s with heap := h', toks := tk } := L.inv.turnedL (ch := [z, TI, TO, i1, i2]) (fun b o hb e => kp b o (fun c => hb (by simp [c])) (fun c => hb (by simp [c])) (fun c => hb (by simp [c])) (fun c => hb (by simp [c])) e) L.fp
      exact hdone ps Hk _ I1 L.lst (by rw [L.len, ek]) L.prs L.same
    obtain ⟨hT, h⟩ := L.za
    rcases h with ⟨e0, hz, a1, a2, hO⟩ | ⟨T, f, oT, hz, hTo⟩
    · refine wpAny_bind (wpAny_pyNext_zipD2_end S D1 D2 hz hT hO L.s1 L.s2 (by omega) (by omega) (by omega) fun h' tk kp => ?_)
      exact wpAny_pure (fin h' tk kp)
    · refine wpAny_bind (pyNext_zipD_end_held S D1 D2 hz hTo hT L.s1 L.s2 (by omega) (by omega) (by omega) fun h' tk kp => ?_)
      exact wpAny_pure (fin h' tk fun c o c1 _ c3 c4 => kp c o c1 c3 c4)
  | succ m ih =>
    intro k Hk s ps hm hk L
    have k1 : k < n1 := by omega
    have k2 : k < n2 := by omega
    refine codeAny_builtin PySem.F.entry_extend_loop ?_
    rw [Around.under_plainId PySem.F.plain_extend_loop _]
    show wpAny _ A1.in1 (pyNext (.ref z) >>= _) _ _ s
    have hx : xs[k]? = some (xs[k]'(by omega)) := List.getElem?_eq_getElem (by omega)
    have hy : ys[k]? = some (ys[k]'(by omega)) := List.getElem?_eq_getElem (by omega)
    obtain ⟨u1, hu1, ru1⟩ := v1.get hx
    obtain ⟨u2, hu2, ru2⟩ := v2.get hy
    have turn : ∀ (x1 x2 : Value) (h' : Heap) (tk : Nat), its1.toArray[k]? = some x1 → its2.toArray[k]? = some x2 → ZAt z TI TO i1 i2 (k + 1) h' → St1 (k + 1) h' → St2 (k + 1) h' → IsTupOf2 h' s.heap.objs.size x1 x2 →
        (∀ c o, c ≠ z → c ≠ TO → c ≠ i1 → c ≠ i2 → s.heap.get? c = some o → h'.get? c = some o) → (∀ b ∈ [z, TI, TO, i1, i2], b < h'.objs.size) →
        wpAny (model X.prog X.w) A1.in1 (updateSeq q (·.push (.ref s.heap.objs.size)) >>= fun _ => again (.builtin "list.extend.loop" ⟨[.ref q, .ref z, .none], []⟩))
          (fun fin s' => match fin with | .done f => Rs (.ok f) s' | .again c' => c'.quiet = true ∧ codeAny (model X.prog X.w) A1 c' Rs s') (fun e s' => Rs (.error e) s') { s with heap := h', toks := tk } := by
      intro x1 x2 h' tk g1 g2 za st1 st2 hp kp hsz'
      have ex1 : x1 = u1 := by
        rw [List.getElem?_toArray, hu1] at g1
        exact (Option.some.inj g1).symm
      have ex2 : x2 = u2 := by
        rw [List.getElem?_toArray, hu2] at g2
        exact (Option.some.inj g2).symm
      subst ex1 ex2
      have hqT : q ≠ s.heap.objs.size := fun e => by
        have := L.inv.hok.fresh (Nat.le_refl s.heap.objs.size)
        rw [← e, L.lst] at this
        cases this
      have new : ObjOk X.prog X.w (upd Hk s.heap.objs.size (.tup [xs[k]'(by omega), ys[k]'(by omega)])) h' s.heap.objs.size (.tup [xs[k]'(by omega), ys[k]'(by omega)]) :=
        ⟨by show 2 ≤ sizeLine; decide, [x1, x2], .cons ru1 (.cons ru2 .nil), ⟨_, hp, rfl, _, rfl⟩⟩
      have I1 : Inv X pins σ (upd Hk s.heap.objs.size (.tup [xs[k]'(by omega), ys[k]'(by omega)])) { s with heap := h', toks := tk } :=
        L.inv.turnedNew (ch := [z, TI, TO, i1, i2]) (fun b o hb e => kp b o (fun c => hb (by simp [c])) (fun c => hb (by simp [c])) (fun c => hb (by simp [c])) (fun c => hb (by simp [c])) e) L.fp (Nat.le_refl _) new
      have hl1 : (upd Hk s.heap.objs.size (.tup [xs[k]'(by omega), ys[k]'(by omega)])) q = some (.lst (ps.map V.ref)) := by rw [upd_ne hqT]; exact L.lst
      have hlen := L.len
      obtain ⟨zl, its, c, r2, hl, e⟩ := I1.lstM hl1
      have hpl : (ps.map V.ref).length = ps.length := List.length_map ..
      refine wpAny_bind (wpAny_updateSeq e rfl (wpAny_pure ⟨plainId_quiet PySem.F.plain_extend_loop _, ?_⟩) (by rw [List.size_toArray, ← hl, hpl]; exact Nat.le_of_lt (small1000 (by omega))) (by show (its.toArray.push _).size ≤ sizeLine + 1; rw [Array.size_push, List.size_toArray, ← hl, hpl]; exact Nat.succ_le_succ (Nat.le_of_lt (small1000 (by omega)))))
      have I2 := I1.lset (f := (·.push (Value.ref s.heap.objs.size))) (its' := its ++ [.ref s.heap.objs.size]) (ys := ps.map V.ref ++ [V.ref s.heap.objs.size]) (t' := tk) hl1 e (by simp) (r2.append (.cons (show RelV (V.ref s.heap.objs.size) (Value.ref s.heap.objs.size) from rfl) .nil)) (by rw [List.length_append, hpl]; exact Nat.le_of_lt (small1000 (by show ps.length + 1 ≤ 1000; omega)))
      have oth : ∀ b o, b ≠ q → h'.get? b = some o → (h'.update q (Obj.mapSeq (·.push (.ref s.heap.objs.size)))).get? b = some o := fun b o hb e => (Heap.get?_update_other _ _ (Ne.symm hb)).trans e
      have nb : ∀ b ∈ [z, TI, TO, i1, i2], b ≠ q := fun b hb e => by
        have := (L.fp b hb).1
        rw [e, L.lst] at this
        cases this
      refine ih (k + 1) _ _ (ps ++ [s.heap.objs.size]) (by omega) (by omega) ⟨I2, za.keep oth ⟨_, Heap.get?_update_self _ e rfl⟩ (nb _ (by simp)) (nb _ (by simp)) (nb _ (by simp)), D1.frame _ _ _ st1 fun b hb o e => oth b o (fun c => hq1 (c ▸ hb)) e, D2.frame _ _ _ st2 fun b hb o e => oth b o (fun c => hq2 (c ▸ hb)) e, fun b hb => ?_, fun b hb => ?_, ?_, ?_, ?_, ?_⟩
      · obtain ⟨f0, f1, f2, f3, f4, f5⟩ := L.fp b hb
        refine ⟨?_, f1, f2, f3, f4, f5⟩
        rw [upd_ne (nb b hb), upd_ne (Nat.ne_of_lt (L.ex b hb))]
        exact f0
      · have := hsz' b hb
        show b < (h'.update q _).objs.size
        simpa using this
      · rw [upd_same, List.map_append]
        rfl
      · rw [List.length_append, L.len]
        rfl
      · intro j p hj
        by_cases hj2 : j < ps.length
        · rw [List.getElem?_append_left hj2] at hj
          obtain ⟨x, y, hx, hy, e⟩ := L.prs j p hj
          have n1 : p ≠ q := fun z => by rw [z, L.lst] at e; cases e
          have n2 : p ≠ s.heap.objs.size := fun z => by
            have := L.inv.hok.fresh (Nat.le_refl s.heap.objs.size)
            rw [← z, e] at this
            cases this
          exact ⟨x, y, hx, hy, by rw [upd_ne n1, upd_ne n2]; exact e⟩
        · rw [List.getElem?_append_right (by omega)] at hj
          have hj3 : j - ps.length = 0 := by
            have := (List.getElem?_eq_some_iff.mp hj).1
            simp at this
            omega
          rw [hj3] at hj
          have ep : s.heap.objs.size = p := by simpa using hj
          have ej : j = k := by omega
          rw [ej, ← ep]
          exact ⟨_, _, hx, hy, by rw [upd_ne (Ne.symm hqT), upd_same]⟩
      · intro b o hb e
        have e2 := L.same b o hb e
        have n2 : b ≠ s.heap.objs.size := fun z => by
          have := L.inv.hok.fresh (Nat.le_refl s.heap.objs.size)
          rw [← z, e2] at this
          cases this
        rw [upd_ne hb, upd_ne n2]
        exact e2
    obtain ⟨hT, h⟩ := L.za
    rcases h with ⟨e0, hz, a1, a2, hO⟩ | ⟨T, f, oT, hz, hTo⟩
    · refine wpAny_bind (wpAny_pyNext_zipD2_item S D1 D2 hz hT hO L.s1 L.s2 k1 k2 fun x1 x2 h' tk p1 p2 hz' hO' s1' s2' hp hsz' kp => ?_)
      refine turn x1 x2 h' tk p1 p2 ⟨kp _ _ S.TIz S.TITO S.TIi1 S.TIi2 hT, .inr ⟨s.heap.objs.size, false, _, hz', hp⟩⟩ s1' s2' hp kp (fun b hb => Nat.lt_of_lt_of_le (L.ex b hb) (by omega))
    · refine wpAny_bind (pyNext_zipD_held S D1 D2 hz hTo hT L.s1 L.s2 k1 k2 fun x1 x2 h' tk p1 p2 hz' s1' s2' hp kp => ?_)
      have hp' : s.heap.objs.size < h'.objs.size := Heap.lt_size hp
      have hTk : ∃ o, h'.get? T = some o := by
        by_cases c1 : T = z
        · exact ⟨_, by rw [c1]; exact hz'⟩
        · by_cases c2 : T = i1
          · obtain ⟨o, ho⟩ := D1.live _ _ s1'
            exact ⟨o, by rw [c2]; exact ho⟩
          · by_cases c3 : T = i2
            · obtain ⟨o, ho⟩ := D2.live _ _ s2'
              exact ⟨o, by rw [c3]; exact ho⟩
            · exact ⟨oT, kp _ _ c1 c2 c3 hTo⟩
      obtain ⟨oT', hTk⟩ := hTk
      refine turn x1 x2 h' tk p1 p2 ⟨kp _ _ S.TIz S.TIi1 S.TIi2 hT, .inr ⟨T, true, oT', hz', hTk⟩⟩ s1' s2' hp (fun c o c1 _ c3 c4 => kp c o c1 c3 c4) (fun b hb => Nat.lt_of_lt_of_le (L.ex b hb) (by omega))
/-- what list(zip(a, b)) asks; a, b: lists or tuples -/
def rLZ (K : PySem.W.Frag) : List V → Hp → VK → Prop := fun vs H Q => ∃ (a b : Addr) (xs ys : List V), vs = [.ref a, .ref b] ∧ (SqL K H a xs ∨ SqT K H a xs) ∧ (SqL K H b ys ∨ SqT K H b ys) ∧ min xs.length ys.length ≤ 1000 ∧
  ∀ (q : Addr) (ps : List Addr) (H' : Hp), H q = none → (∀ b o, H b = some o → H' b = some o) → H' q = some (.lst (ps.map V.ref)) → ps.length = min xs.length ys.length → Prs2 H' xs ys ps → Q (.ref q) H'
/-- one of the two: how it is drawn from -/
theorem src_draws {K : PySem.W.Frag} {H : Hp} {s : Shared} {a : Addr} {xs : List V} (hK : X.K = K) (I : Inv X pins σ H s) (h : SqL K H a xs ∨ SqT K H a xs) :
    ∃ (its : List Value) (o : Addr → Obj) (G : Heap → Prop) (St : Addr → Nat → Heap → Prop), Vals xs its ∧ a < s.heap.objs.size ∧ G s.heap ∧ (∀ n : Nat, n = s.heap.objs.size → True) ∧
      Begins (.ref a) (o a) G ∧ (∀ (A : Around) (it : Addr), A.handled = none → a ≠ it → Draws X.prog X.w A it [it, a] xs.length (fun i v => its.toArray[i]? = some v) (St it)) ∧
      (∀ h' it, G s.heap → (∀ c ob, s.heap.get? c = some ob → h'.get? c = some ob) → h'.get? it = some (o a) → St it 0 h') := by
  subst hK
  rcases h with h | h
  · obtain ⟨its, rv, p, _⟩ := I.list h
    have hl := p.isList
    have hlt : a < s.heap.objs.size := by obtain ⟨_, e, _⟩ := id hl; exact Heap.lt_size e
    have es : its.toArray.size = xs.length := by rw [List.size_toArray, ← rv.length]
    refine ⟨its, fun a => { cls := .type "list_iterator", data := .fields #[.ref a, .int 0 0] }, fun h => h.IsList a its.toArray, fun it i h => h.IsListIter it a i ∧ h.IsList a its.toArray, rv, hlt, hl, fun _ _ => trivial, begins_list a its.toArray, fun A it hh hne => ?_, fun h' it g k e => ⟨⟨_, e, rfl, rfl⟩, g.at fun o q => k a o q⟩⟩
    rw [← es]
    exact Draws.list hh it a hne its.toArray
  · obtain ⟨its, rv, p, _⟩ := I.tuple h
    have hl : s.heap.IsTuple a its.toArray := p
    have hlt : a < s.heap.objs.size := by obtain ⟨_, e, _⟩ := id hl; exact Heap.lt_size e
    have es : its.toArray.size = xs.length := by rw [List.size_toArray, ← rv.length]
    refine ⟨its, fun a => { cls := .type "tuple_iterator", data := .fields #[.ref a, .int 0 0] }, fun h => h.IsTuple a its.toArray, fun it i h => h.IsTupleIter it a i ∧ h.IsTuple a its.toArray, rv, hlt, hl, fun _ _ => trivial, begins_tuple a its.toArray, fun A it hh hne => ?_, fun h' it g k e => ⟨⟨_, e, rfl, rfl⟩, g.at fun o q => k a o q⟩⟩
    rw [← es]
    exact Draws.tuple hh it a hne its.toArray
end
end BK
namespace BK
open PySem PySem.Spec PyProof.Rows L2 RZ
section
variable {X : Cx} {pins : List (Addr × Obj)} {σ : L2.St} {H : Hp}
theorem zip_hint {M : Model} {A : Around} {E : Value → Shared → Prop} {s : Shared} {z TI TO : Addr} {f : Value} {Q : Bool → Shared → Prop} (hz : IsZip s.heap z TI TO f) (h : Q true s) :
    wpAny M A (Builtin.List.listLengthHint (.ref z)) Q E s := by
  unfold Builtin.List.listLengthHint
  refine wpAny_bind (wpAny_specialOf (T := "zip") ⟨_, hz, rfl⟩ nolen_zip ?_)
  refine PySem.W.KFB.if_not rfl ?_
  refine PySem.W.KFB.if_not rfl ?_
  refine wpAny_bind (wpAny_specialOf (T := "zip") ⟨_, hz, rfl⟩ nohint_zip ?_)
  exact wpAny_pure h
theorem pe_listZip {e1 e2 : Expr} {ta : TA} {p p2 pos pos2 : Pos} (hc : X.calm = true) (hg : Gl X "list") (hm : X.mg "list" = none) (hg2 : Gl X "zip") (hm2 : X.mg "zip" = none) (ha : PA X [e1, e2] ta)
    (hs : starEach [e1, e2] X.env = (false, eval e1 X.env) :: starEach [e2] X.env := by rfl) (hpl : (backTo pos2 (starEach [e2] X.env)).any (·.1) = false := by rfl)
    (hs2 : starEach [.Call (.Name "zip" p2) [e1, e2] [] pos2] X.env = (false, eval (.Call (.Name "zip" p2) [e1, e2] [] pos2) X.env) :: starEach [] X.env := by rfl) :
    PE X (.Call (.Name "list" p) [.Call (.Name "zip" p2) [e1, e2] [] pos2] [] pos) (tCB (rLZ X.K) ta) := by
  refine ⟨fun pins s σ H Q I h => ?_⟩
  refine Call_ (ld_blt I hg hm boot_list (PyProof.Rows.callWith_type1 (args_cons (Call_ (ld_blt I hg2 hm2 PyProof.Rows.boot_zip (PyProof.Rows.callWith_type1 (thn (ha.run pos2 pins s σ H _ I h) fun us s1 ⟨vs, H1, I1, r1, q1⟩ => ?_) hs hpl))) hs2) hs2 rfl))
  obtain ⟨a, b, xs, ys, rfl, ga, gb, hmin, q1⟩ := q1
  obtain ⟨u1, u2, rfl, ru1, ru2⟩ := vals2 r1
  cases ru1
  cases ru2
  obtain ⟨its1, o1, G1, St1, v1, lt1, g1, _, B1, D1, k1⟩ := src_draws rfl I1 ga
  obtain ⟨its2, o2, G2, St2, v2, lt2, g2, _, B2, D2, k2⟩ := src_draws rfl I1 gb
  refine zip_begins2 B1 B2 g1 g2 fun h' hz hTI hTO eo1 eo2 hsz kp => args_nil ?_
  have S : ZipSep2 (s1.heap.objs.size + 4) (s1.heap.objs.size + 2) (s1.heap.objs.size + 3) s1.heap.objs.size (s1.heap.objs.size + 1) (s1.heap.objs.size :: [a]) ((s1.heap.objs.size + 1) :: [b]) :=
    zip_sep2 (fun c hcm => by rw [List.mem_singleton.mp hcm]; exact lt1) (fun c hcm => by rw [List.mem_singleton.mp hcm]; exact lt2)
  have I2 : Inv X pins σ H1 { s1 with heap := h' } := I1.kept (t' := s1.toks) kp
  have fr : H1 h'.objs.size = none := I2.hok.fresh (Nat.le_refl _)
  have hh : X.A.handled = none := I1.ok.hd hc
  -- the new list
  refine callType_codes (Q₁ := fun obj s₁ => obj = .ref h'.objs.size ∧ s₁ = { s1 with heap := h'.push { cls := .type "list", data := .seq #[] } }) PySem.F.called_list (PySem.F.typeCall_list_1 _) PySem.F.entry_list_init
    (code_list_new _ ⟨rfl, rfl⟩) fun obj s₁ h₁ => ?_
  obtain ⟨rfl, rfl⟩ := h₁
  have hS : (h'.push { cls := .type "list", data := .seq #[] }).get? h'.objs.size = some { cls := .type "list", data := .seq #[] } := Heap.get?_push_size _ rfl
  refine ⟨⟨_, hS, rfl⟩, PySem.F.args_list_init_2 _ _, ?_⟩
  have J1 : Inv X pins σ (upd H1 h'.objs.size (.lst [])) { s1 with heap := h'.push { cls := .type "list", data := .seq #[] } } := I2.lnew (its := []) (t' := s1.toks) .nil (Nat.zero_le _)
  show wpAny _ _ (do let old ← Builtin.List.listItems (.ref h'.objs.size); Builtin.List.listUpdate (.ref h'.objs.size) (fun _ => #[]); letGo old.toList.reverse; Builtin.List.listExtendWith (.ref h'.objs.size) (.ref (s1.heap.objs.size + 4)) .none) _ _ _
  refine wpAny_bind ?_
  unfold Builtin.List.listItems
  refine wpAny_bind (wpAny_seqItems hS rfl (wpAny_pure ?_))
  show wpAny _ _ (updateSeq h'.objs.size (fun _ => #[]) >>= fun _ => letGo (#[] : Array Value).toList.reverse >>= fun _ => Builtin.List.listExtendWith (.ref h'.objs.size) (.ref (s1.heap.objs.size + 4)) .none) _ _ _
  refine wpAny_bind (wpAny_updateSeq hS rfl ?_)
  have J2 := J1.lset (f := fun _ => #[]) (its := []) (its' := []) (ys := []) (t' := s1.toks) upd_same hS rfl .nil (Nat.zero_le _)
  rw [upd_upd] at J2
  refine wpAny_bind (wpAny_letGo ?_)
  -- what stood keeps standing, but for the list
  have kq : ∀ c o, c ≠ h'.objs.size → h'.get? c = some o → ((h'.push { cls := .type "list", data := .seq #[] }).update h'.objs.size (Obj.mapSeq fun _ => (#[] : Array Value))).get? c = some o :=
    fun c o n e => (Heap.get?_update_other _ _ (Ne.symm n)).trans (Heap.get?_push_of_some _ e)
  generalize hB : ((h'.push { cls := .type "list", data := .seq #[] }).update h'.objs.size (Obj.mapSeq fun _ => (#[] : Array Value))) = hb at J2 kq ⊢
  have hsb : hb.objs.size = h'.objs.size + 1 := by rw [← hB]; simp
  have ne4 : s1.heap.objs.size + 4 ≠ h'.objs.size := by omega
  have hzb := kq _ _ ne4 hz
  unfold Builtin.List.listExtendWith
  refine wpAny_bind (wpAny_typeOf (T := "zip") ⟨_, hzb, rfl⟩ ?_)
  have n1 : Builtin.List.listSameRef (.ref h'.objs.size) (.ref (s1.heap.objs.size + 4)) = false := by simp [Builtin.List.listSameRef, Ne.symm ne4]
  have n2 : (Value.type "zip" == Value.type "list") = false := by decide
  have n3 : (Value.type "zip" == Value.type "tuple") = false := by decide
  simp only [n1, n2, n3, Bool.or_false, Bool.false_eq_true, if_false]
  refine wpAny_bind (wpAny_pyIter_zip hzb ?_)
  refine wpAny_bind (wpAny_holding (zip_hint hzb ?_))
  have go : ∀ (hc : Heap) (tk : Nat), Inv X pins σ (upd H1 h'.objs.size (.lst [])) { s1 with heap := hc, toks := tk } → (∀ c o, c ≠ h'.objs.size → hb.get? c = some o → hc.get? c = some o) → hb.objs.size ≤ hc.objs.size →
      codeAny (model X.prog X.w) X.A.in1 (.builtin "list.extend.loop" ⟨[.ref h'.objs.size, .ref (s1.heap.objs.size + 4), .none], []⟩) (wants (fun r s₂ => r = .none ∧ EP X pins σ Q (.ref h'.objs.size) s₂) X.xe) { s1 with heap := hc, toks := tk } := by
    intro hc tk J kc hsz2
    have kk : ∀ c o, h'.get? c = some o → hc.get? c = some o := fun c o e => by
      have n : c ≠ h'.objs.size := Nat.ne_of_lt (Heap.lt_size e)
      exact kc c o n (kq c o n e)
    have nq1 : h'.objs.size ∉ [s1.heap.objs.size, a] := fun hm => by
      rcases List.mem_cons.mp hm with e | hm
      · omega
      · exact absurd lt1 (Nat.not_lt.mpr (by rw [← List.mem_singleton.mp hm, hsz]; exact Nat.le_add_right _ _))
    have nq2 : h'.objs.size ∉ [s1.heap.objs.size + 1, b] := fun hm => by
      rcases List.mem_cons.mp hm with e | hm
      · omega
      · exact absurd lt2 (Nat.not_lt.mpr (by rw [← List.mem_singleton.mp hm, hsz]; exact Nat.le_add_right _ _))
    refine zip_loop (A1 := X.A.in1) (Rs := wants (fun r s₂ => r = .none ∧ EP X pins σ Q (.ref h'.objs.size) s₂) X.xe) (H0 := H1) (z := s1.heap.objs.size + 4) (TI := s1.heap.objs.size + 2) (TO := s1.heap.objs.size + 3) (i1 := s1.heap.objs.size) (i2 := s1.heap.objs.size + 1) (q := h'.objs.size) hh S (D1 _ _ hh (Nat.ne_of_lt lt1)) (D2 _ _ hh (Nat.ne_of_lt (Nat.lt_succ_of_lt lt2))) v1 v2 rfl rfl nq1 nq2 hmin
      (fun ps Hk s IK e1 e2 e3 e4 => ⟨rfl, .ref h'.objs.size, Hk, IK, rfl, q1 _ ps Hk fr (fun c o e => e4 c o (ne_of_none e fr) e) e1 e2 e3⟩) _ 0 _ _ [] rfl (Nat.zero_le _) ⟨J, ⟨kk _ _ hTI, .inl ⟨rfl, kk _ _ hz, _, _, kk _ _ hTO⟩⟩, ?_, ?_, fun c hcm => ?_, fun c hcm => ?_, upd_same, rfl, fun k pp e => by simp at e, fun c o n e => by rw [upd_ne n]; exact e⟩
    · exact k1 _ _ g1 (fun c o e => kk _ _ (kp _ _ e)) (kk _ _ eo1)
    · exact k2 _ _ g2 (fun c o e => kk _ _ (kp _ _ e)) (kk _ _ eo2)
    · have e' : c = s1.heap.objs.size + 4 ∨ c = s1.heap.objs.size + 2 ∨ c = s1.heap.objs.size + 3 ∨ c = s1.heap.objs.size ∨ c = s1.heap.objs.size + 1 := by simpa using hcm
      have hle : s1.heap.objs.size ≤ c := by
        rcases e' with z | z | z | z | z <;> (rw [z]; first | exact Nat.le_add_right _ _ | exact Nat.le_refl _)
      have hne : c ≠ h'.objs.size := by
        rcases e' with z | z | z | z | z <;> (refine Nat.ne_of_lt ?_; rw [z, hsz]; first | exact Nat.add_lt_add_left (by decide) _ | exact Nat.lt_add_of_pos_right (by decide))
      exact I1.fpOk hle (by rw [upd_ne hne]; exact I1.hok.fresh hle)
    · have e' : c = s1.heap.objs.size + 4 ∨ c = s1.heap.objs.size + 2 ∨ c = s1.heap.objs.size + 3 ∨ c = s1.heap.objs.size ∨ c = s1.heap.objs.size + 1 := by simpa using hcm
      have : s1.heap.objs.size + 5 ≤ hc.objs.size := by omega
      refine Nat.lt_of_lt_of_le ?_ this
      rcases e' with z | z | z | z | z <;> (rw [z]; first | exact Nat.add_lt_add_left (by decide) _ | exact Nat.lt_add_of_pos_right (by decide))
  refine wpAny_ite_split (fun _ => ?_) (fun _ => wpAny_pure ⟨plainId_quiet PySem.F.plain_extend_loop _, go hb s1.toks J2 (fun _ _ _ e => e) (Nat.le_refl _)⟩)
  refine wpAny_bind (wpAny_rule ?_)
  refine wpAny_bind ?_
  show wpAny _ _ (updateSeq h'.objs.size (·.push .none) >>= fun _ => updateSeq h'.objs.size (·.pop)) _ _ _
  obtain ⟨z3, its3, k3, r3, hl3, e3⟩ := J2.lstM upd_same
  cases r3
  refine wpAny_bind (wpAny_updateSeq e3 rfl ?_)
  have I3 := J2.lset (f := (·.push Value.none)) (its' := [Value.none]) (ys := [.non]) (t' := s1.toks) upd_same e3 (by simp) (.cons rfl .nil) (by rw [List.length_singleton, sizeLine_eq]; decide)
  obtain ⟨z4, its4, k4, r4, hl4, e4⟩ := I3.lstM upd_same
  obtain ⟨u4, rfl, ru4⟩ := r4.one
  refine wpAny_updateSeq e4 rfl ?_ (by show 1 ≤ sizeLine; rw [sizeLine_eq]; decide) (by show 0 ≤ sizeLine + 1; exact Nat.zero_le _)
  have I4 := I3.lset (f := (·.pop)) (its := [u4]) (its' := []) (ys := []) (t' := s1.toks) upd_same e4 (by rfl) .nil (Nat.zero_le _)
  rw [upd_upd, upd_upd] at I4
  exact wpAny_pure ⟨plainId_quiet PySem.F.plain_extend_loop _, go _ s1.toks I4 (fun c o n e => (Heap.get?_update_other _ _ (Ne.symm n)).trans ((Heap.get?_update_other _ _ (Ne.symm n)).trans e)) (by simp)⟩
end
end BK
namespace BK
open PySem PySem.Spec PyProof.Rows L2 RZ
section
variable {prog : Program} {w : World} {A : Around} {E : Value → Shared → Prop} {s : Shared} {l : Addr} {xs : Array (Int × Tok)} {its : List Value} {ns : List Int}
/-- what is common to max and min of a tuple: its walk -/
theorem iterT {Q : Value → Shared → Prop} (hl : s.heap.IsTuple l (intItems xs))
    (h : ∀ s₂ : Shared, s₂ = { s with heap := s.heap.push { cls := .type "tuple_iterator", data := .fields #[.ref l, .int 0 0] } } → (s₂.heap.IsTupleIter s.heap.objs.size l 0 ∧ s₂.heap.IsTuple l (intItems xs)) →
      (∀ b ∈ [s.heap.objs.size, l], b < s₂.heap.objs.size) → l ≠ s.heap.objs.size → Q (.ref s.heap.objs.size) s₂) : wpAny (model prog w) A (pyIter (.ref l)) Q E s := by
  have hlt : l < s.heap.objs.size := by obtain ⟨_, e, _⟩ := hl; exact Heap.lt_size e
  refine wpAny_pyIter_tuple hl (h _ rfl ⟨⟨_, Heap.get?_push_size _ rfl, rfl, rfl⟩, hl.push _⟩ (fun b hb => ?_) (Nat.ne_of_lt hlt))
  show b < (s.heap.push _).objs.size
  rw [Heap.size_push]
  rcases List.mem_cons.mp hb with rfl | hb
  · exact Nat.lt_succ_self _
  · rw [List.mem_singleton.mp hb]
    exact Nat.lt_succ_of_lt hlt
theorem keptT {o : Obj} {h' : Heap} (hk : ∀ b o', b ∉ [s.heap.objs.size] → (s.heap.push o).get? b = some o' → h'.get? b = some o') : ∀ b o', s.heap.get? b = some o' → h'.get? b = some o' :=
  fun b o' q => hk b o' (fun hm => absurd (List.mem_singleton.mp hm ▸ Heap.lt_size q) (Nat.lt_irrefl _)) (Heap.get?_push_of_some _ q)
theorem maxT_raw {Q : Value → Shared → Prop} (hh : A.handled = none) (hl : s.heap.IsTuple l its.toArray) (hi : IntsAre its ns) (hne : 0 < ns.length)
    (h : ∀ h' tk M t', (∀ b o, s.heap.get? b = some o → h'.get? b = some o) → M ∈ ns → (∀ a, a ∈ ns → a ≤ M) → Q (.int M t') { s with heap := h', toks := tk }) : wpAny (model prog w) A (call (.builtin "max") [.ref l]) Q E s := by
  obtain ⟨xs, e⟩ := hi.allInts.items
  have hn : numsOf (intItems xs).toList = ns := by rw [← e]; exact hi.numsOf
  rw [nums_intItems] at hn
  subst hn
  rw [e] at hl
  have hsz : 0 < xs.size := by simpa using hne
  refine call_max_walk (iterT hl fun s₂ e st hfp hlI => ?_)
  subst e
  refine ⟨_, _, _, _, _, _, _, rfl, Walks.tuple (A := A.in1) hh _ l hlI (intItems xs), st, hfp, by simpa [intItems] using hsz, CmpOf.ints_gt (numAt xs) (fun _ _ => intItems_at), fun v h' tk hv hk => ?_⟩
  have hv' : (intItems xs)[argBest (fun i j => decide (numAt xs i > numAt xs j)) (xs.size - 1)]? = some v := by simpa [intItems] using hv
  obtain ⟨t, rfl⟩ := intItems_at hv'
  obtain ⟨h1, h2⟩ := argBest_gt (numAt xs) (xs.size - 1)
  refine h h' tk _ t (keptT hk) ?_ fun a ha => ?_
  · rw [numAt_eq]; exact PySem.getD_mem (by rw [List.length_map, Array.length_toList]; omega)
  · obtain ⟨j, hj, rfl⟩ := mem_getD ha
    rw [List.length_map, Array.length_toList] at hj
    rw [← numAt_eq]; exact h2 j (by omega)
theorem minT_raw {Q : Value → Shared → Prop} (hh : A.handled = none) (hl : s.heap.IsTuple l its.toArray) (hi : IntsAre its ns) (hne : 0 < ns.length)
    (h : ∀ h' tk M t', (∀ b o, s.heap.get? b = some o → h'.get? b = some o) → M ∈ ns → (∀ a, a ∈ ns → M ≤ a) → Q (.int M t') { s with heap := h', toks := tk }) : wpAny (model prog w) A (call (.builtin "min") [.ref l]) Q E s := by
  obtain ⟨xs, e⟩ := hi.allInts.items
  have hn : numsOf (intItems xs).toList = ns := by rw [← e]; exact hi.numsOf
  rw [nums_intItems] at hn
  subst hn
  rw [e] at hl
  have hsz : 0 < xs.size := by simpa using hne
  refine call_min_walk (iterT hl fun s₂ e st hfp hlI => ?_)
  subst e
  refine ⟨_, _, _, _, _, _, _, rfl, Walks.tuple (A := A.in1) hh _ l hlI (intItems xs), st, hfp, by simpa [intItems] using hsz, CmpOf.ints_lt (numAt xs) (fun _ _ => intItems_at), fun v h' tk hv hk => ?_⟩
  have hv' : (intItems xs)[argBest (fun i j => decide (numAt xs i < numAt xs j)) (xs.size - 1)]? = some v := by simpa [intItems] using hv
  obtain ⟨t, rfl⟩ := intItems_at hv'
  obtain ⟨h1, h2⟩ := argBest_lt (numAt xs) (xs.size - 1)
  refine h h' tk _ t (keptT hk) ?_ fun a ha => ?_
  · rw [numAt_eq]; exact PySem.getD_mem (by rw [List.length_map, Array.length_toList]; omega)
  · obtain ⟨j, hj, rfl⟩ := mem_getD ha
    rw [List.length_map, Array.length_toList] at hj
    rw [← numAt_eq]; exact h2 j (by omega)
end
section
variable {X : Cx}
/-- max(t), min(t) of a tuple of ints -/
def rMaxT (K : PySem.W.Frag) : List V → Hp → VK → Prop := fun vs H Q => ∃ (a : Addr) (ns : List Int), vs = [V.ref a] ∧ (SqL K H a (ns.map V.int) ∨ SqT K H a (ns.map V.int)) ∧ 0 < ns.length ∧ ∀ m, m ∈ ns → (∀ y, y ∈ ns → y ≤ m) → Q (.int m) H
def rMinT (K : PySem.W.Frag) : List V → Hp → VK → Prop := fun vs H Q => ∃ (a : Addr) (ns : List Int), vs = [V.ref a] ∧ (SqL K H a (ns.map V.int) ∨ SqT K H a (ns.map V.int)) ∧ 0 < ns.length ∧ ∀ m, m ∈ ns → (∀ y, y ∈ ns → m ≤ y) → Q (.int m) H
theorem cr_maxT (hc : X.calm = true) : CallR X (.builtin "max") (rMaxT X.K) := by
  intro pins s σ H vs us Q I r h
  obtain ⟨a, ns, rfl, hs, hne, q⟩ := h
  rcases hs with hs | hs
  · exact cr_max hc pins s σ H _ us Q I r ⟨a, ns, rfl, hs, hne, q⟩
  · obtain ⟨its, rv, hl, _⟩ := I.tuple hs
    rw [Vals.ref1 r]
    exact maxT_raw (I.ok.hd hc) (show s.heap.IsTuple a its.toArray from hl) rv.ints hne fun h' tk m t' hk h1 h2 => ⟨.int _, H, I.kept hk, ⟨_, rfl⟩, q m h1 h2⟩
theorem cr_minT (hc : X.calm = true) : CallR X (.builtin "min") (rMinT X.K) := by
  intro pins s σ H vs us Q I r h
  obtain ⟨a, ns, rfl, hs, hne, q⟩ := h
  rcases hs with hs | hs
  · exact cr_min hc pins s σ H _ us Q I r ⟨a, ns, rfl, hs, hne, q⟩
  · obtain ⟨its, rv, hl, _⟩ := I.tuple hs
    rw [Vals.ref1 r]
    exact minT_raw (I.ok.hd hc) (show s.heap.IsTuple a its.toArray from hl) rv.ints hne fun h' tk m t' hk h1 h2 => ⟨.int _, H, I.kept hk, ⟨_, rfl⟩, q m h1 h2⟩
end
end BK
namespace BK
open PySem PySem.Spec PyProof.Rows L2 RZ
section
variable {X : Cx} {pins : List (Addr × Obj)} {σ : L2.St} {H : Hp}
/-- a list (true) or a tuple (false) -/
def SqB (K : PySem.W.Frag) (H : Hp) (a : Addr) (xs : List V) : Bool → Prop
  | true => SqL K H a xs
  | false => SqT K H a xs
def ItB (h : Heap) (it a : Addr) (i : Nat) : Bool → Prop
  | true => h.IsListIter it a i
  | false => h.IsTupleIter it a i
theorem ItB.at {h h' : Heap} {it a : Addr} {i : Nat} : ∀ {b : Bool}, ItB h it a i b → (∀ o, h.get? it = some o → h'.get? it = some o) → ItB h' it a i b
  | true, x, k => Heap.IsListIter.at x k
  | false, x, k => Heap.IsTupleIter.at x k
theorem ItB.obj {h : Heap} {it a : Addr} {i : Nat} : ∀ {b : Bool}, ItB h it a i b → ∃ o, h.get? it = some o ∧ ∀ v, o.data ≠ .cell v
  | true, ⟨o, e, _, d⟩ => ⟨o, e, fun v q => by rw [d] at q; cases q⟩
  | false, ⟨o, e, _, d⟩ => ⟨o, e, fun v q => by rw [d] at q; cases q⟩
def ItO (a : Addr) : Bool → Obj
  | true => { cls := .type "list_iterator", data := .fields #[.ref a, .int 0 0] }
  | false => { cls := .type "tuple_iterator", data := .fields #[.ref a, .int 0 0] }
theorem ItB.new {h : Heap} {it a : Addr} : ∀ {b : Bool}, h.get? it = some (ItO a b) → ItB h it a 0 b
  | true, e => ⟨_, e, rfl, rfl⟩
  | false, e => ⟨_, e, rfl, rfl⟩
theorem drawsB {s : Shared} {a : Addr} {xs : List V} {b : Bool} (I : Inv X pins σ H s) (h : SqB X.K H a xs b) :
    ∃ (its : List Value) (St : Addr → Nat → Heap → Prop) (G : Heap → Prop), Vals xs its ∧ a < s.heap.objs.size ∧ G s.heap ∧ Begins (.ref a) (ItO a b) G ∧
      (∀ (A : Around) (it : Addr), A.handled = none → a ≠ it → Draws X.prog X.w A it [it, a] xs.length (fun i v => its.toArray[i]? = some v) (St it)) ∧
      (∀ it i, ItB s.heap it a i b → St it i s.heap) ∧ (∀ it i h', St it i h' → ItB h' it a i b) := by
  cases b with
  | true =>
    obtain ⟨its, rv, p, _⟩ := I.list h
    have hl := p.isList
    have hlt : a < s.heap.objs.size := by obtain ⟨_, e, _⟩ := id hl; exact Heap.lt_size e
    have es : its.toArray.size = xs.length := by rw [List.size_toArray, ← rv.length]
    refine ⟨its, fun it i h => h.IsListIter it a i ∧ h.IsList a its.toArray, fun h => h.IsList a its.toArray, rv, hlt, hl, begins_list a its.toArray, fun A it hh hne => ?_, fun it i g => ⟨g, hl⟩, fun it i h' g => g.1⟩
    rw [← es]
    exact Draws.list hh it a hne its.toArray
  | false =>
    obtain ⟨its, rv, p, _⟩ := I.tuple h
    have hl : s.heap.IsTuple a its.toArray := p
    have hlt : a < s.heap.objs.size := by obtain ⟨_, e, _⟩ := id hl; exact Heap.lt_size e
    have es : its.toArray.size = xs.length := by rw [List.size_toArray, ← rv.length]
    refine ⟨its, fun it i h => h.IsTupleIter it a i ∧ h.IsTuple a its.toArray, fun h => h.IsTuple a its.toArray, rv, hlt, hl, begins_tuple a its.toArray, fun A it hh hne => ?_, fun it i g => ⟨g, hl⟩, fun it i h' g => g.1⟩
    rw [← es]
    exact Draws.tuple hh it a hne its.toArray
/-- zip(a, b), each a list or a tuple -/
def ItzB (K : PySem.W.Frag) (a b : Addr) (xs ys : List V) (k1 k2 : Bool) : It :=
  ⟨fun i H => SqB K H a xs k1 ∧ SqB K H b ys k2 ∧ i < min xs.length ys.length,
    fun i H v H' => ∃ T x y, v = .ref T ∧ H T = none ∧ H' = upd H T (.tup [x, y]) ∧ xs[i]? = some x ∧ ys[i]? = some y,
    fun i H => SqB K H a xs k1 ∧ SqB K H b ys k2 ∧ i = min xs.length ys.length⟩
theorem turn_zipB {P : Program} {w : World} {K : PySem.W.Frag} {elts : List Expr} {kk : Nat} {tpos : Pos} {a b z TI TO i1 i2 : Addr} {xs ys : List V} {k1 k2 : Bool} (S : ZipSep2 z TI TO i1 i2 [i1, a] [i2, b]) (na : a ≠ i1) (nb : b ≠ i2) :
    Turn P w K (.Tuple elts kk tpos) (ItzB K a b xs ys k1 k2) [z, TI, TO, i1, i2] z (fun i h => IsZip h z TI TO .none ∧ IsTupOf2 h TI (.ref i1) (.ref i2) ∧ (∃ x y, IsTupOf2 h TO x y) ∧ ItB h i1 a i k1 ∧ ItB h i2 b i k2) where
  mem := by simp
  obj := fun i h st c hc => by
    obtain ⟨hz, hTI, ⟨x, y, hTO⟩, h1, h2⟩ := st
    have e' : c = z ∨ c = TI ∨ c = TO ∨ c = i1 ∨ c = i2 := by simpa using hc
    rcases e' with q | q | q | q | q
    · rw [q]; exact ⟨_, hz, fun v q => nomatch q⟩
    · rw [q]; exact ⟨_, hTI, fun v q => nomatch q⟩
    · rw [q]; exact ⟨_, hTO, fun v q => nomatch q⟩
    · rw [q]; exact h1.obj
    · rw [q]; exact h2.obj
  keep := fun i h h' st k => by
    obtain ⟨hz, hTI, ⟨x, y, hTO⟩, h1, h2⟩ := st
    exact ⟨k z (by simp) _ hz, k TI (by simp) _ hTI, ⟨x, y, k TO (by simp) _ hTO⟩, h1.at fun o q => k i1 (by simp) o q, h2.at fun o q => k i2 (by simp) o q⟩
  item := by
    intro X hP hw hK hc i pins s σ H E I hf st hg
    subst hP hw hK
    obtain ⟨hz, hTI, ⟨x0, y0, hTO⟩, h1, h2⟩ := st
    obtain ⟨hqx, hqy, hlt⟩ := hg
    obtain ⟨its1, St1, G1, v1, la, _, _, D1, s1, t1⟩ := drawsB I hqx
    obtain ⟨its2, St2, G2, v2, lb, _, _, D2, s2, t2⟩ := drawsB I hqy
    have hh : X.A.in1.handled = none := I.ok.hd hc
    have hx : xs[i]? = some (xs[i]'(by omega)) := List.getElem?_eq_getElem (by omega)
    have hy : ys[i]? = some (ys[i]'(by omega)) := List.getElem?_eq_getElem (by omega)
    obtain ⟨u, hu, ru⟩ := v1.get hx
    obtain ⟨u2, hu2, ru2⟩ := v2.get hy
    have hzl : z < s.heap.objs.size := Heap.lt_size hz
    refine wpAny_pyNext_zipD2_item S (D1 _ i1 hh na) (D2 _ i2 hh nb) hz hTI hTO (s1 _ _ h1) (s2 _ _ h2) (by omega) (by omega) fun x1 x2 h' tk p1 p2 z' TO' st1' st2' hT hsz hk => ?_
    have e1 : x1 = u := by rw [List.getElem?_toArray, hu] at p1; exact (Option.some.inj p1).symm
    have e2 : x2 = u2 := by rw [List.getElem?_toArray, hu2] at p2; exact (Option.some.inj p2).symm
    subst e1 e2
    refine ⟨_, rfl, wpAny_letOwnedTupleGo_zip (s := { s with heap := h', toks := tk }) z' fun h'' z'' sb => ?_⟩
    have hT2 : h''.get? s.heap.objs.size = some { cls := .type "tuple", data := .seq #[x1, x2] } := (sb.2 _ (Nat.ne_of_gt hzl)).trans hT
    have new : ObjOk X.prog X.w (upd H s.heap.objs.size (.tup [xs[i]'(by omega), ys[i]'(by omega)])) h'' s.heap.objs.size (.tup [xs[i]'(by omega), ys[i]'(by omega)]) :=
      ⟨by show 2 ≤ sizeLine; decide, [x1, x2], .cons ru (.cons ru2 .nil), ⟨_, hT2, rfl, _, rfl⟩⟩
    have I1 : Inv X pins σ (upd H s.heap.objs.size (.tup [xs[i]'(by omega), ys[i]'(by omega)])) { s with heap := h'', toks := tk } :=
      I.turnedNew (t' := tk) (ch := [z, TI, TO, i1, i2]) (fun c o hb q => (sb.2 c (fun q' => hb (by simp [q']))).trans (hk c o (fun q' => hb (by simp [q'])) (fun q' => hb (by simp [q'])) (fun q' => hb (by simp [q'])) (fun q' => hb (by simp [q'])) q)) hf (Nat.le_refl _) new
    refine ⟨.ref s.heap.objs.size, _, I1, rfl, ⟨_, _, _, rfl, I.hok.fresh (Nat.le_refl _), rfl, hx, hy⟩, ⟨z'', ?_, ⟨x1, x2, ?_⟩, ?_, ?_⟩, fun c hcm => ?_⟩
    · exact (sb.2 _ S.TIz).trans (hk _ _ S.TIz S.TITO S.TIi1 S.TIi2 hTI)
    · exact (sb.2 _ S.TOz).trans TO'
    · exact (t1 _ _ _ st1').at fun o q => (sb.2 _ (Ne.symm S.zi1)).trans q
    · exact (t2 _ _ _ st2').at fun o q => (sb.2 _ (Ne.symm S.zi2)).trans q
    · have hlt : c < s.heap.objs.size := by
        have e' : c = z ∨ c = TI ∨ c = TO ∨ c = i1 ∨ c = i2 := by simpa using hcm
        rcases e' with q | q | q | q | q
        · rw [q]; exact hzl
        · rw [q]; exact Heap.lt_size hTI
        · rw [q]; exact Heap.lt_size hTO
        · rw [q]; obtain ⟨_, e1, _⟩ := h1.obj; exact Heap.lt_size e1
        · rw [q]; obtain ⟨_, e2, _⟩ := h2.obj; exact Heap.lt_size e2
      rw [upd_ne (Nat.ne_of_lt hlt)]
      exact (hf c hcm).1
  done := by
    intro X hP hw hK hc i pins s σ H E I hf st hg
    subst hP hw hK
    obtain ⟨hz, hTI, ⟨x0, y0, hTO⟩, h1, h2⟩ := st
    obtain ⟨hqx, hqy, hend⟩ := hg
    obtain ⟨its1, St1, G1, v1, la, _, _, D1, s1, t1⟩ := drawsB I hqx
    obtain ⟨its2, St2, G2, v2, lb, _, _, D2, s2, t2⟩ := drawsB I hqy
    have hh : X.A.in1.handled = none := I.ok.hd hc
    refine wpAny_pyNext_zipD2_end S (D1 _ i1 hh na) (D2 _ i2 hh nb) hz hTI hTO (s1 _ _ h1) (s2 _ _ h2) (by omega) (by omega) (by omega) fun h' tk hk => ⟨rfl, I.turnedL (t' := tk) (ch := [z, TI, TO, i1, i2]) (fun c o hb q =>
      hk c o (fun q' => hb (by simp [q'])) (fun q' => hb (by simp [q'])) (fun q' => hb (by simp [q'])) (fun q' => hb (by simp [q'])) q) hf⟩
  self := fun A i s Q E st h => wpAny_pyIter_zip st.1 h
def iZipB (K : PySem.W.Frag) (ta : TA) : TI := fun σ H R => ta σ H fun vs H1 => ∃ a b xs ys k1 k2, vs = [.ref a, .ref b] ∧ SqB K H1 a xs k1 ∧ SqB K H1 b ys k2 ∧ R (ItzB K a b xs ys k1 k2) H1
theorem pi_zipB {X : Cx} {e e2 : Expr} {ta : TA} {p pos tpos : Pos} {elts : List Expr} {kk : Nat} (hg : Gl X "zip") (hm : X.mg "zip" = none) (ha : PA X [e, e2] ta)
    (hs : starEach [e, e2] X.env = (false, eval e X.env) :: starEach [e2] X.env := by rfl) (hpl : (backTo pos (starEach [e2] X.env)).any (·.1) = false := by rfl) :
    PI X (.Tuple elts kk tpos) (.Call (.Name "zip" p) [e, e2] [] pos) (iZipB X.K ta) := by
  refine ⟨fun pins s σ H R I h => ?_⟩
  refine Call_ (ld_blt I hg hm PyProof.Rows.boot_zip (PyProof.Rows.callWith_type1 (thn (ha.run pos pins s σ H _ I h) fun us s1 ⟨vs, H1, I1, r1, q1⟩ => ?_) hs hpl))
  obtain ⟨a, b, xs, ys, k1, k2, rfl, hqx, hqy, q⟩ := q1
  obtain ⟨u1, u2, rfl, ru1, ru2⟩ := vals2 r1
  cases ru1
  cases ru2
  obtain ⟨its1, St1, G1, v1, la, g1, B1, _, _, _⟩ := drawsB I1 hqx
  obtain ⟨its2, St2, G2, v2, lb, g2, B2, _, _, _⟩ := drawsB I1 hqy
  refine zip_begins2 B1 B2 g1 g2 fun h' hz hTI hTO e1 e2 hsz hk => wpAny_pyIter_zip hz ?_
  have I2 : Inv X pins σ H1 { s1 with heap := h' } := I1.kept (t' := s1.toks) hk
  have S : ZipSep2 (s1.heap.objs.size + 4) (s1.heap.objs.size + 2) (s1.heap.objs.size + 3) s1.heap.objs.size (s1.heap.objs.size + 1) (s1.heap.objs.size :: [a]) ((s1.heap.objs.size + 1) :: [b]) :=
    zip_sep2 (fun c hcm => by rw [List.mem_singleton.mp hcm]; exact la) (fun c hcm => by rw [List.mem_singleton.mp hcm]; exact lb)
  refine ⟨s1.heap.objs.size + 4, [s1.heap.objs.size + 4, s1.heap.objs.size + 2, s1.heap.objs.size + 3, s1.heap.objs.size, s1.heap.objs.size + 1], _, _, H1, rfl, I2, turn_zipB S (Nat.ne_of_lt la) (Nat.ne_of_lt (Nat.lt_succ_of_lt lb)), ⟨hz, hTI, ⟨_, _, hTO⟩, ItB.new e1, ItB.new e2⟩, fun c hcm => ?_, q⟩
  have e' : c = s1.heap.objs.size + 4 ∨ c = s1.heap.objs.size + 2 ∨ c = s1.heap.objs.size + 3 ∨ c = s1.heap.objs.size ∨ c = s1.heap.objs.size + 1 := by simpa using hcm
  have hle : s1.heap.objs.size ≤ c := by
    rcases e' with z | z | z | z | z <;> (rw [z]; first | exact Nat.le_add_right _ _ | exact Nat.le_refl _)
  exact I1.fpOk hle (I1.hok.fresh hle)
theorem walk_zipB {K : PySem.W.Frag} {a b : Addr} {xs ys : List V} {k1 k2 : Bool} {n : Nat} (hn : n = min xs.length ys.length) : Walk (ItzB K a b xs ys k1 k2) n (fun H => SqB K H a xs k1 ∧ SqB K H b ys k2) (YPair (fun i => xs[i]?) (fun i => ys[i]?)) := by
  subst hn
  refine ⟨fun i _ hi q => ⟨q.1, q.2, hi⟩, fun _ q => ⟨q.1, q.2, rfl⟩, fun i H v H' _ q y => ?_⟩
  obtain ⟨T, x, z, h1, h2, h3, h4, h5⟩ := y
  exact ⟨T, x, z, h1, h2, h3, h4, h5⟩
end
end BK
namespace BK
open PySem PySem.Spec PyProof.Rows L2 RZ
section
variable {X : Cx} {pins : List (Addr × Obj)} {σ : L2.St} {H : Hp}
/-- zip(a, b, c), each a list or a tuple -/
def ItzC (K : PySem.W.Frag) (a b c : Addr) (xs ys zs : List V) (k1 k2 k3 : Bool) : It :=
  ⟨fun i H => SqB K H a xs k1 ∧ SqB K H b ys k2 ∧ SqB K H c zs k3 ∧ i < min (min xs.length ys.length) zs.length,
    fun i H v H' => ∃ T x y u, v = .ref T ∧ H T = none ∧ H' = upd H T (.tup [x, y, u]) ∧ xs[i]? = some x ∧ ys[i]? = some y ∧ zs[i]? = some u,
    fun i H => SqB K H a xs k1 ∧ SqB K H b ys k2 ∧ SqB K H c zs k3 ∧ i = min (min xs.length ys.length) zs.length⟩
theorem turn_zipC {P : Program} {w : World} {K : PySem.W.Frag} {elts : List Expr} {kk : Nat} {tpos : Pos} {a b c z TI TO i1 i2 i3 : Addr} {xs ys zs : List V} {k1 k2 k3 : Bool} (S : ZipSep3 z TI TO i1 i2 i3 [i1, a] [i2, b] [i3, c]) (na : a ≠ i1) (nb : b ≠ i2) (nc : c ≠ i3) :
    Turn P w K (.Tuple elts kk tpos) (ItzC K a b c xs ys zs k1 k2 k3) [z, TI, TO, i1, i2, i3] z (fun i h => IsZip h z TI TO .none ∧ IsTupOf3 h TI (.ref i1) (.ref i2) (.ref i3) ∧ (∃ x y u, IsTupOf3 h TO x y u) ∧ ItB h i1 a i k1 ∧ ItB h i2 b i k2 ∧ ItB h i3 c i k3) where
  mem := by simp
  obj := fun i h st d hd => by
    obtain ⟨hz, hTI, ⟨x, y, u, hTO⟩, h1, h2, h3⟩ := st
    have e' : d = z ∨ d = TI ∨ d = TO ∨ d = i1 ∨ d = i2 ∨ d = i3 := by simpa using hd
    rcases e' with q | q | q | q | q | q
    · rw [q]; exact ⟨_, hz, fun v q => nomatch q⟩
    · rw [q]; exact ⟨_, hTI, fun v q => nomatch q⟩
    · rw [q]; exact ⟨_, hTO, fun v q => nomatch q⟩
    · rw [q]; exact h1.obj
    · rw [q]; exact h2.obj
    · rw [q]; exact h3.obj
  keep := fun i h h' st k => by
    obtain ⟨hz, hTI, ⟨x, y, u, hTO⟩, h1, h2, h3⟩ := st
    exact ⟨k z (by simp) _ hz, k TI (by simp) _ hTI, ⟨x, y, u, k TO (by simp) _ hTO⟩, h1.at fun o q => k i1 (by simp) o q, h2.at fun o q => k i2 (by simp) o q, h3.at fun o q => k i3 (by simp) o q⟩
  item := by
    intro X hP hw hK hc i pins s σ H E I hf st hg
    subst hP hw hK
    obtain ⟨hz, hTI, ⟨x0, y0, u0, hTO⟩, h1, h2, h3⟩ := st
    obtain ⟨hqx, hqy, hqz, hlt⟩ := hg
    obtain ⟨its1, St1, G1, v1, la, _, _, D1, s1, t1⟩ := drawsB I hqx
    obtain ⟨its2, St2, G2, v2, lb, _, _, D2, s2, t2⟩ := drawsB I hqy
    obtain ⟨its3, St3, G3, v3, lc, _, _, D3, s3, t3⟩ := drawsB I hqz
    have hh : X.A.in1.handled = none := I.ok.hd hc
    have hx : xs[i]? = some (xs[i]'(by omega)) := List.getElem?_eq_getElem (by omega)
    have hy : ys[i]? = some (ys[i]'(by omega)) := List.getElem?_eq_getElem (by omega)
    have hu : zs[i]? = some (zs[i]'(by omega)) := List.getElem?_eq_getElem (by omega)
    obtain ⟨w1, hw1, ru1⟩ := v1.get hx
    obtain ⟨w2, hw2, ru2⟩ := v2.get hy
    obtain ⟨w3, hw3, ru3⟩ := v3.get hu
    have hzl : z < s.heap.objs.size := Heap.lt_size hz
    refine wpAny_pyNext_zipD3_item S (D1 _ i1 hh na) (D2 _ i2 hh nb) (D3 _ i3 hh nc) hz hTI hTO (s1 _ _ h1) (s2 _ _ h2) (s3 _ _ h3) (by omega) (by omega) (by omega) fun x1 x2 x3 h' tk p1 p2 p3 z' TO' st1' st2' st3' hT hsz hk => ?_
    have e1 : x1 = w1 := by rw [List.getElem?_toArray, hw1] at p1; exact (Option.some.inj p1).symm
    have e2 : x2 = w2 := by rw [List.getElem?_toArray, hw2] at p2; exact (Option.some.inj p2).symm
    have e3 : x3 = w3 := by rw [List.getElem?_toArray, hw3] at p3; exact (Option.some.inj p3).symm
    subst e1 e2 e3
    refine ⟨_, rfl, wpAny_letOwnedTupleGo_zip (s := { s with heap := h', toks := tk }) z' fun h'' z'' sb => ?_⟩
    have hT2 : h''.get? s.heap.objs.size = some { cls := .type "tuple", data := .seq #[x1, x2, x3] } := (sb.2 _ (Nat.ne_of_gt hzl)).trans hT
    have new : ObjOk X.prog X.w (upd H s.heap.objs.size (.tup [xs[i]'(by omega), ys[i]'(by omega), zs[i]'(by omega)])) h'' s.heap.objs.size (.tup [xs[i]'(by omega), ys[i]'(by omega), zs[i]'(by omega)]) :=
      ⟨by show 3 ≤ sizeLine; decide, [x1, x2, x3], .cons ru1 (.cons ru2 (.cons ru3 .nil)), ⟨_, hT2, rfl, _, rfl⟩⟩
    have I1 : Inv X pins σ (upd H s.heap.objs.size (.tup [xs[i]'(by omega), ys[i]'(by omega), zs[i]'(by omega)])) { s with heap := h'', toks := tk } :=
      I.turnedNew (t' := tk) (ch := [z, TI, TO, i1, i2, i3]) (fun c o hb q => (sb.2 c (fun q' => hb (by simp [q']))).trans (hk c o (fun q' => hb (by simp [q'])) (fun q' => hb (by simp [q'])) (fun q' => hb (by simp [q'])) (fun q' => hb (by simp [q'])) (fun q' => hb (by simp [q'])) q)) hf (Nat.le_refl _) new
    refine ⟨.ref s.heap.objs.size, _, I1, rfl, ⟨_, _, _, _, rfl, I.hok.fresh (Nat.le_refl _), rfl, hx, hy, hu⟩, ⟨z'', ?_, ⟨x1, x2, x3, ?_⟩, ?_, ?_, ?_⟩, fun d hdm => ?_⟩
    · exact (sb.2 _ S.TIz).trans (hk _ _ S.TIz S.TITO S.TIi1 S.TIi2 S.TIi3 hTI)
    · exact (sb.2 _ S.TOz).trans TO'
    · exact (t1 _ _ _ st1').at fun o q => (sb.2 _ (Ne.symm S.zi1)).trans q
    · exact (t2 _ _ _ st2').at fun o q => (sb.2 _ (Ne.symm S.zi2)).trans q
    · exact (t3 _ _ _ st3').at fun o q => (sb.2 _ (Ne.symm S.zi3)).trans q
    · have hlt : d < s.heap.objs.size := by
        have e' : d = z ∨ d = TI ∨ d = TO ∨ d = i1 ∨ d = i2 ∨ d = i3 := by simpa using hdm
        rcases e' with q | q | q | q | q | q
        · rw [q]; exact hzl
        · rw [q]; exact Heap.lt_size hTI
        · rw [q]; exact Heap.lt_size hTO
        · rw [q]; obtain ⟨_, e1, _⟩ := h1.obj; exact Heap.lt_size e1
        · rw [q]; obtain ⟨_, e2, _⟩ := h2.obj; exact Heap.lt_size e2
        · rw [q]; obtain ⟨_, e3, _⟩ := h3.obj; exact Heap.lt_size e3
      rw [upd_ne (Nat.ne_of_lt hlt)]
      exact (hf d hdm).1
  done := by
    intro X hP hw hK hc i pins s σ H E I hf st hg
    subst hP hw hK
    obtain ⟨hz, hTI, ⟨x0, y0, u0, hTO⟩, h1, h2, h3⟩ := st
    obtain ⟨hqx, hqy, hqz, hend⟩ := hg
    obtain ⟨its1, St1, G1, v1, la, _, _, D1, s1, t1⟩ := drawsB I hqx
    obtain ⟨its2, St2, G2, v2, lb, _, _, D2, s2, t2⟩ := drawsB I hqy
    obtain ⟨its3, St3, G3, v3, lc, _, _, D3, s3, t3⟩ := drawsB I hqz
    have hh : X.A.in1.handled = none := I.ok.hd hc
    refine wpAny_pyNext_zipD3_end S (D1 _ i1 hh na) (D2 _ i2 hh nb) (D3 _ i3 hh nc) hz hTI hTO (s1 _ _ h1) (s2 _ _ h2) (s3 _ _ h3) (by omega) (by omega) (by omega) (by omega) fun h' tk hk => ⟨rfl, I.turnedL (t' := tk) (ch := [z, TI, TO, i1, i2, i3]) (fun c o hb q =>
      hk c o (fun q' => hb (by simp [q'])) (fun q' => hb (by simp [q'])) (fun q' => hb (by simp [q'])) (fun q' => hb (by simp [q'])) (fun q' => hb (by simp [q'])) q) hf⟩
  self := fun A i s Q E st h => wpAny_pyIter_zip st.1 h
def iZipC (K : PySem.W.Frag) (ta : TA) : TI := fun σ H R => ta σ H fun vs H1 => ∃ a b c xs ys zs k1 k2 k3, vs = [.ref a, .ref b, .ref c] ∧ SqB K H1 a xs k1 ∧ SqB K H1 b ys k2 ∧ SqB K H1 c zs k3 ∧ R (ItzC K a b c xs ys zs k1 k2 k3) H1
theorem vals3 {x y z : V} {us : List Value} (r : Vals [x, y, z] us) : ∃ u1 u2 u3, us = [u1, u2, u3] ∧ RelV x u1 ∧ RelV y u2 ∧ RelV z u3 := by
  cases r with
  | cons r1 rr =>
    cases rr with
    | cons r2 rr =>
      cases rr with
      | cons r3 rr =>
        cases rr
        exact ⟨_, _, _, rfl, r1, r2, r3⟩
theorem pi_zipC {X : Cx} {e e2 e3 : Expr} {ta : TA} {p pos tpos : Pos} {elts : List Expr} {kk : Nat} (hg : Gl X "zip") (hm : X.mg "zip" = none) (ha : PA X [e, e2, e3] ta)
    (hs : starEach [e, e2, e3] X.env = (false, eval e X.env) :: starEach [e2, e3] X.env := by rfl) (hpl : (backTo pos (starEach [e2, e3] X.env)).any (·.1) = false := by rfl) :
    PI X (.Tuple elts kk tpos) (.Call (.Name "zip" p) [e, e2, e3] [] pos) (iZipC X.K ta) := by
  refine ⟨fun pins s σ H R I h => ?_⟩
  refine Call_ (ld_blt I hg hm PyProof.Rows.boot_zip (PyProof.Rows.callWith_type1 (thn (ha.run pos pins s σ H _ I h) fun us s1 ⟨vs, H1, I1, r1, q1⟩ => ?_) hs hpl))
  obtain ⟨a, b, c, xs, ys, zs, k1, k2, k3, rfl, hqx, hqy, hqz, q⟩ := q1
  obtain ⟨u1, u2, u3, rfl, ru1, ru2, ru3⟩ := vals3 r1
  cases ru1
  cases ru2
  cases ru3
  obtain ⟨its1, St1, G1, v1, la, g1, B1, _, _, _⟩ := drawsB I1 hqx
  obtain ⟨its2, St2, G2, v2, lb, g2, B2, _, _, _⟩ := drawsB I1 hqy
  obtain ⟨its3, St3, G3, v3, lc, g3, B3, _, _, _⟩ := drawsB I1 hqz
  refine zip_begins3 B1 B2 B3 g1 g2 g3 fun h' hz hTI hTO e1 e2 e3 hsz hk => wpAny_pyIter_zip hz ?_
  have I2 : Inv X pins σ H1 { s1 with heap := h' } := I1.kept (t' := s1.toks) hk
  have S : ZipSep3 (s1.heap.objs.size + 5) (s1.heap.objs.size + 3) (s1.heap.objs.size + 4) s1.heap.objs.size (s1.heap.objs.size + 1) (s1.heap.objs.size + 2) (s1.heap.objs.size :: [a]) ((s1.heap.objs.size + 1) :: [b]) ((s1.heap.objs.size + 2) :: [c]) :=
    zip_sep3 (fun d hdm => by rw [List.mem_singleton.mp hdm]; exact la) (fun d hdm => by rw [List.mem_singleton.mp hdm]; exact lb) (fun d hdm => by rw [List.mem_singleton.mp hdm]; exact lc)
  refine ⟨s1.heap.objs.size + 5, [s1.heap.objs.size + 5, s1.heap.objs.size + 3, s1.heap.objs.size + 4, s1.heap.objs.size, s1.heap.objs.size + 1, s1.heap.objs.size + 2], _, _, H1, rfl, I2, turn_zipC S (Nat.ne_of_lt la) (Nat.ne_of_lt (Nat.lt_succ_of_lt lb)) (Nat.ne_of_lt (Nat.lt_succ_of_lt (Nat.lt_succ_of_lt lc))), ⟨hz, hTI, ⟨_, _, _, hTO⟩, ItB.new e1, ItB.new e2, ItB.new e3⟩, fun d hdm => ?_, q⟩
  have e' : d = s1.heap.objs.size + 5 ∨ d = s1.heap.objs.size + 3 ∨ d = s1.heap.objs.size + 4 ∨ d = s1.heap.objs.size ∨ d = s1.heap.objs.size + 1 ∨ d = s1.heap.objs.size + 2 := by simpa using hdm
  have hle : s1.heap.objs.size ≤ d := by
    rcases e' with z | z | z | z | z | z <;> (rw [z]; first | exact Nat.le_add_right _ _ | exact Nat.le_refl _)
  exact I1.fpOk hle (I1.hok.fresh hle)
/-- a new triple of the i-th of each -/
def YTrip (xs ys zs : Nat → Option V) : Nat → Hp → V → Hp → Prop := fun i H v H' => ∃ T x y u, v = .ref T ∧ H T = none ∧ H' = upd H T (.tup [x, y, u]) ∧ xs i = some x ∧ ys i = some y ∧ zs i = some u
theorem walk_zipC {K : PySem.W.Frag} {a b c : Addr} {xs ys zs : List V} {k1 k2 k3 : Bool} {n : Nat} (hn : n = min (min xs.length ys.length) zs.length) :
    Walk (ItzC K a b c xs ys zs k1 k2 k3) n (fun H => SqB K H a xs k1 ∧ SqB K H b ys k2 ∧ SqB K H c zs k3) (YTrip (fun i => xs[i]?) (fun i => ys[i]?) (fun i => zs[i]?)) := by
  subst hn
  refine ⟨fun i _ hi q => ⟨q.1, q.2.1, q.2.2, hi⟩, fun _ q => ⟨q.1, q.2.1, q.2.2, rfl⟩, fun i H v H' _ q y => y⟩
end
end BK
namespace BK
open PySem PySem.Spec PyProof.Rows L2 RZ
section
variable {prog : Program} {w : World} {A : Around} {E : Value → Shared → Prop} {s : Shared} {z TI TO i1 i2 i3 : Addr} {fp1 fp2 fp3 : List Addr} {n1 n2 n3 i : Nat} {P1 P2 P3 : Nat → Value → Prop} {St1 St2 St3 : Nat → Heap → Prop}
open PySem.W
/-- a zip of three whose own tuple was handed out: its next triple is a new one -/
theorem trip_next_held {Q : Value → Shared → Prop} {T : Addr} {f : Bool} {oT : Obj} (S : ZipSep3 z TI TO i1 i2 i3 fp1 fp2 fp3) (D1 : Draws prog w A i1 fp1 n1 P1 St1) (D2 : Draws prog w A i2 fp2 n2 P2 St2) (D3 : Draws prog w A i3 fp3 n3 P3 St3)
    (hz : IsZipHeld s.heap z TI TO T f) (hT : s.heap.get? T = some oT) (hTI : IsTupOf3 s.heap TI (.ref i1) (.ref i2) (.ref i3)) (st1 : St1 i s.heap) (st2 : St2 i s.heap) (st3 : St3 i s.heap) (l1 : i < n1) (l2 : i < n2) (l3 : i < n3)
    (hQ : ∀ x1 x2 x3 h' tk, P1 i x1 → P2 i x2 → P3 i x3 → IsZipHeld h' z TI TO T true → St1 (i + 1) h' → St2 (i + 1) h' → St3 (i + 1) h' → IsTupOf3 h' s.heap.objs.size x1 x2 x3 →
      (∀ c o, c ≠ z → c ≠ i1 → c ≠ i2 → c ≠ i3 → s.heap.get? c = some o → h'.get? c = some o) → Q (.ref s.heap.objs.size) { s with heap := h', toks := tk }) :
    wpAny (model prog w) A (Builtin.«zip.__next__» ⟨[.ref z], []⟩) (fun fin s' => ∃ v, fin = .done (.ret v) ∧ Q v s') E s := by
  obtain ⟨hp, g, d, tk0, os⟩ := s
  show wpAny _ _ (PySem.field (.ref z) 2 >>= _) _ _ _
  refine wpAny_bind (wpAny_field hz rfl (x := .bool false) rfl ?_)
  show wpAny _ _ (PySem.field (.ref z) 3 >>= _) _ _ _
  refine wpAny_bind (wpAny_field hz rfl (x := .ref TI) rfl ?_)
  refine wpAny_bind (wpAny_seqItems hTI rfl ?_)
  show wpAny _ _ (Builtin.SmallTypes.ownedTupleIsFree (.ref z) >>= _) _ _ _
  refine wpAny_bind (wpAny_tupleHeld_zip hz hT fun h₁ hz₁ hs₁ => ?_)
  simp only [Bool.false_eq_true, if_false]
  refine wpAny_bind ?_
  rw [← Array.forIn_toList]
  simp only [List.forIn_cons, List.forIn_nil]
  refine wpAny_bind (wpAny_bind (wpAny_holding ?_))
  show wpAny _ _ (Builtin.SmallTypes.nextOf (.ref i1) >>= _) _ _ _
  refine wpAny_bind (D1.item i ⟨h₁, g, d, tk0, os⟩ _ _ l1 (D1.over st1 hs₁ S.zf1) fun x1 h₂ tk2 p1 st1₂ hs₂ => wpAny_pure ?_)
  refine wpAny_pure ?_
  refine wpAny_bind (wpAny_bind (wpAny_holding ?_))
  show wpAny _ _ (Builtin.SmallTypes.nextOf (.ref i2) >>= _) _ _ _
  refine wpAny_bind (D2.item i ⟨h₂, g, d, tk2, os⟩ _ _ l2 (D2.over (D2.over st2 hs₁ S.zf2) hs₂ S.sep1_2) fun x2 h₃ tk3 p2 st2₃ hs₃ => wpAny_pure ?_)
  refine wpAny_pure ?_
  refine wpAny_bind (wpAny_bind (wpAny_holding ?_))
  show wpAny _ _ (Builtin.SmallTypes.nextOf (.ref i3) >>= _) _ _ _
  refine wpAny_bind (D3.item i ⟨h₃, g, d, tk3, os⟩ _ _ l3 (D3.over (D3.over (D3.over st3 hs₁ S.zf3) hs₂ S.sep1_3) hs₃ S.sep2_3) fun x3 h₄ tk4 p3 st3₄ hs₄ => wpAny_pure ?_)
  refine wpAny_pure (wpAny_pure ?_)
  show wpAny _ _ (newTuple [x1, x2, x3] >>= _) _ _ _
  refine wpAny_bind (wpAny_newTuple ?_)
  have hsz : h₄.objs.size = hp.objs.size := by rw [hs₄.1, hs₃.1, hs₂.1, hs₁.1]
  have hz₄ : IsZipHeld h₄ z TI TO T true := hs₄.extBut _ _ S.zi3 (hs₃.extBut _ _ S.zi2 (hs₂.extBut _ _ S.zi1 hz₁))
  have hk : ∀ c o, c ≠ z → c ≠ i1 → c ≠ i2 → c ≠ i3 → hp.get? c = some o → h₄.get? c = some o := fun c o c1 c2 c3 c4 e => hs₄.extBut _ _ c4 (hs₃.extBut _ _ c3 (hs₂.extBut _ _ c2 (hs₁.extBut _ _ c1 e)))
  refine wpAny_pure ⟨_, rfl, ?_⟩
  show Q (.ref h₄.objs.size) _
  have hpp : IsTupOf3 (h₄.push { cls := .type "tuple", data := .seq #[x1, x2, x3] }) h₄.objs.size x1 x2 x3 := Heap.get?_push_size _ rfl
  rw [hsz] at hpp ⊢
  have kp : ∀ c o, h₄.get? c = some o → (h₄.push { cls := .type "tuple", data := .seq #[x1, x2, x3] }).get? c = some o := fun c o e => Heap.get?_push_of_some _ e
  exact hQ x1 x2 x3 _ tk4 p1 p2 p3 (kp _ _ hz₄) (D1.frame _ _ _ (D1.over (D1.over st1₂ hs₃ S.sep2_1) hs₄ S.sep3_1) fun b _ o e => kp b o e) (D2.frame _ _ _ (D2.over st2₃ hs₄ S.sep3_2) fun b _ o e => kp b o e) (D3.frame _ _ _ st3₄ fun b _ o e => kp b o e) hpp fun c o c1 c2 c3 c4 e => kp _ _ (hk c o c1 c2 c3 c4 e)
theorem trip_end_held {Q : Fin → Shared → Prop} {T : Addr} {f : Bool} {oT : Obj} (S : ZipSep3 z TI TO i1 i2 i3 fp1 fp2 fp3) (D1 : Draws prog w A i1 fp1 n1 P1 St1) (D2 : Draws prog w A i2 fp2 n2 P2 St2) (D3 : Draws prog w A i3 fp3 n3 P3 St3)
    (hz : IsZipHeld s.heap z TI TO T f) (hT : s.heap.get? T = some oT) (hTI : IsTupOf3 s.heap TI (.ref i1) (.ref i2) (.ref i3)) (st1 : St1 i s.heap) (st2 : St2 i s.heap) (st3 : St3 i s.heap) (l1 : i ≤ n1) (l2 : i ≤ n2) (l3 : i ≤ n3) (hend : i = n1 ∨ i = n2 ∨ i = n3)
    (hE : ∀ h' tk e, (∀ c o, c ≠ z → c ≠ i1 → c ≠ i2 → c ≠ i3 → s.heap.get? c = some o → h'.get? c = some o) → (∃ o, h'.get? e = some o ∧ o.cls = .type "StopIteration") → E (.ref e) { s with heap := h', toks := tk }) :
    wpAny (model prog w) A (Builtin.«zip.__next__» ⟨[.ref z], []⟩) Q E s := by
  obtain ⟨hp, g, d, tk0, os⟩ := s
  show wpAny _ _ (PySem.field (.ref z) 2 >>= _) _ _ _
  refine wpAny_bind (wpAny_field hz rfl (x := .bool false) rfl ?_)
  show wpAny _ _ (PySem.field (.ref z) 3 >>= _) _ _ _
  refine wpAny_bind (wpAny_field hz rfl (x := .ref TI) rfl ?_)
  refine wpAny_bind (wpAny_seqItems hTI rfl ?_)
  show wpAny _ _ (Builtin.SmallTypes.ownedTupleIsFree (.ref z) >>= _) _ _ _
  refine wpAny_bind (wpAny_tupleHeld_zip hz hT fun h₁ hz₁ hs₁ => ?_)
  simp only [Bool.false_eq_true, if_false]
  refine wpAny_bind ?_
  rw [← Array.forIn_toList]
  simp only [List.forIn_cons, List.forIn_nil]
  refine wpAny_bind (wpAny_bind (wpAny_holding ?_))
  show wpAny _ _ (Builtin.SmallTypes.nextOf (.ref i1) >>= _) _ _ _
  have st1₁ := D1.over st1 hs₁ S.zf1
  have st2₁ := D2.over st2 hs₁ S.zf2
  have st3₁ := D3.over st3 hs₁ S.zf3
  by_cases e1 : i = n1
  · subst e1
    refine wpAny_bind (D1.done ⟨h₁, g, d, tk0, os⟩ _ _ st1₁ fun h₂ e hs₂ he => ?_)
    exact hE h₂ tk0 e (fun c o c1 c2 _ _ x => hs₂ _ _ c2 (hs₁.extBut _ _ c1 x)) he
  · refine wpAny_bind (D1.item i ⟨h₁, g, d, tk0, os⟩ _ _ (by omega) st1₁ fun x1 h₂ tk2 p1 st1₂ hs₂ => wpAny_pure ?_)
    refine wpAny_pure ?_
    refine wpAny_bind (wpAny_bind (wpAny_holding ?_))
    show wpAny _ _ (Builtin.SmallTypes.nextOf (.ref i2) >>= _) _ _ _
    by_cases e2 : i = n2
    · subst e2
      refine wpAny_bind (D2.done ⟨h₂, g, d, tk2, os⟩ _ _ (D2.over st2₁ hs₂ S.sep1_2) fun h₃ e hs₃ he => ?_)
      exact hE h₃ tk2 e (fun c o c1 c2 c3 _ x => hs₃ _ _ c3 (hs₂.extBut _ _ c2 (hs₁.extBut _ _ c1 x))) he
    · have e3 : i = n3 := by omega
      refine wpAny_bind (D2.item i ⟨h₂, g, d, tk2, os⟩ _ _ (by omega) (D2.over st2₁ hs₂ S.sep1_2) fun x2 h₃ tk3 p2 st2₃ hs₃ => wpAny_pure ?_)
      refine wpAny_pure ?_
      refine wpAny_bind (wpAny_bind (wpAny_holding ?_))
      show wpAny _ _ (Builtin.SmallTypes.nextOf (.ref i3) >>= _) _ _ _
      subst e3
      refine wpAny_bind (D3.done ⟨h₃, g, d, tk3, os⟩ _ _ (D3.over (D3.over st3₁ hs₂ S.sep1_3) hs₃ S.sep2_3) fun h₄ e hs₄ he => ?_)
      exact hE h₄ tk3 e (fun c o c1 c2 c3 c4 x => hs₄ _ _ c4 (hs₃.extBut _ _ c3 (hs₂.extBut _ _ c2 (hs₁.extBut _ _ c1 x)))) he
theorem pyNext_trip_held {Q : Option Value → Shared → Prop} {T : Addr} {f : Bool} {oT : Obj} (S : ZipSep3 z TI TO i1 i2 i3 fp1 fp2 fp3) (D1 : Draws prog w A.in1 i1 fp1 n1 P1 St1) (D2 : Draws prog w A.in1 i2 fp2 n2 P2 St2) (D3 : Draws prog w A.in1 i3 fp3 n3 P3 St3)
    (hz : IsZipHeld s.heap z TI TO T f) (hT : s.heap.get? T = some oT) (hTI : IsTupOf3 s.heap TI (.ref i1) (.ref i2) (.ref i3)) (st1 : St1 i s.heap) (st2 : St2 i s.heap) (st3 : St3 i s.heap) (l1 : i < n1) (l2 : i < n2) (l3 : i < n3)
    (hQ : ∀ x1 x2 x3 h' tk, P1 i x1 → P2 i x2 → P3 i x3 → IsZipHeld h' z TI TO T true → St1 (i + 1) h' → St2 (i + 1) h' → St3 (i + 1) h' → IsTupOf3 h' s.heap.objs.size x1 x2 x3 →
      (∀ c o, c ≠ z → c ≠ i1 → c ≠ i2 → c ≠ i3 → s.heap.get? c = some o → h'.get? c = some o) → Q (some (.ref s.heap.objs.size)) { s with heap := h', toks := tk }) :
    wpAny (model prog w) A (pyNext (.ref z)) Q E s := by
  have hTy : s.TypeIs (.ref z) "zip" := ⟨_, hz, rfl⟩
  unfold pyNext
  exact wpAny_bind (wpAny_attempt (wpAny_callSpecial?_slot (name := Str.ofString "__next__") hTy F.slot_zip_next
    (wpAny_call_entry F.slot_zip_next hTy F.entry_zip_next
      (trip_next_held S D1 D2 D3 hz hT hTI st1 st2 st3 l1 l2 l3 fun x1 x2 x3 h' tk b1 b2 b3 b4 b5 b6 b7 b8 b9 => wpAny_pure (hQ x1 x2 x3 h' tk b1 b2 b3 b4 b5 b6 b7 b8 b9)) (F.args_zip_next_1 _))))
theorem pyNext_trip_end_held {Q : Option Value → Shared → Prop} {T : Addr} {f : Bool} {oT : Obj} (S : ZipSep3 z TI TO i1 i2 i3 fp1 fp2 fp3) (D1 : Draws prog w A.in1 i1 fp1 n1 P1 St1) (D2 : Draws prog w A.in1 i2 fp2 n2 P2 St2) (D3 : Draws prog w A.in1 i3 fp3 n3 P3 St3)
    (hz : IsZipHeld s.heap z TI TO T f) (hT : s.heap.get? T = some oT) (hTI : IsTupOf3 s.heap TI (.ref i1) (.ref i2) (.ref i3)) (st1 : St1 i s.heap) (st2 : St2 i s.heap) (st3 : St3 i s.heap) (l1 : i ≤ n1) (l2 : i ≤ n2) (l3 : i ≤ n3) (hend : i = n1 ∨ i = n2 ∨ i = n3)
    (hQ : ∀ h' tk, (∀ c o, c ≠ z → c ≠ i1 → c ≠ i2 → c ≠ i3 → s.heap.get? c = some o → h'.get? c = some o) → Q none { s with heap := h', toks := tk }) : wpAny (model prog w) A (pyNext (.ref z)) Q E s := by
  have hTy : s.TypeIs (.ref z) "zip" := ⟨_, hz, rfl⟩
  unfold pyNext
  refine wpAny_bind (wpAny_attempt (wpAny_callSpecial?_slot (name := Str.ofString "__next__") hTy F.slot_zip_next
    (wpAny_call_entry F.slot_zip_next hTy F.entry_zip_next (trip_end_held S D1 D2 D3 hz hT hTI st1 st2 st3 l1 l2 l3 hend fun h' tk e hk he => ?_) (F.args_zip_next_1 _))))
  obtain ⟨o, ho, hc⟩ := he
  refine wpAny_bind (wpAny_isInstance (T := "StopIteration") (b := true) ⟨o, ho, hc⟩ isSubtype_stop ?_)
  exact wpAny_pure (hQ _ _ hk)
end
/-- the triples at ps are those of xs, ys and zs -/
def Prs3 (H : Hp) (xs ys zs : List V) (ps : List Addr) : Prop := ∀ (k : Nat) (p : Addr), ps[k]? = some p → ∃ x y u, xs[k]? = some x ∧ ys[k]? = some y ∧ zs[k]? = some u ∧ H p = some (.tup [x, y, u])
section
variable {X : Cx} {A1 : Around} {z TI TO i1 i2 i3 q : Addr} {fp1 fp2 fp3 : List Addr} {n1 n2 n3 : Nat} {St1 St2 St3 : Nat → Heap → Prop} {its1 its2 its3 : List Value} {xs ys zs : List V} {pins : List (Addr × Obj)} {σ : L2.St} {H0 : Hp}
/-- how the zip of three stands ahead of its k-th turn -/
def ZAt3 (z TI TO i1 i2 i3 : Addr) (k : Nat) (h : Heap) : Prop := IsTupOf3 h TI (.ref i1) (.ref i2) (.ref i3) ∧
  ((k = 0 ∧ IsZip h z TI TO .none ∧ ∃ a1 a2 a3, IsTupOf3 h TO a1 a2 a3) ∨ ∃ T f oT, IsZipHeld h z TI TO T f ∧ h.get? T = some oT)
theorem ZAt3.keep {k : Nat} {h h' : Heap} (a : ZAt3 z TI TO i1 i2 i3 k h) (kp : ∀ b o, b ≠ q → h.get? b = some o → h'.get? b = some o) (hq : ∃ o, h'.get? q = some o) (n1 : z ≠ q) (n2 : TI ≠ q) (n3 : TO ≠ q) : ZAt3 z TI TO i1 i2 i3 k h' := by
  obtain ⟨hT, h⟩ := a
  refine ⟨kp _ _ n2 hT, ?_⟩
  rcases h with ⟨e, hz, a1, a2, a3, hO⟩ | ⟨T, f, oT, hz, hT⟩
  · exact .inl ⟨e, kp _ _ n1 hz, a1, a2, a3, kp _ _ n3 hO⟩
  · refine .inr ⟨T, f, ?_⟩
    by_cases e : T = q
    · obtain ⟨o, ho⟩ := hq
      exact ⟨o, kp _ _ n1 hz, by rw [e]; exact ho⟩
    · exact ⟨oT, kp _ _ n1 hz, kp _ _ e hT⟩
structure LZ3 (X : Cx) (pins : List (Addr × Obj)) (σ : L2.St) (H0 : Hp) (z TI TO i1 i2 i3 q : Addr) (St1 St2 St3 : Nat → Heap → Prop) (xs ys zs : List V) (k : Nat) (Hk : Hp) (s : Shared) (ps : List Addr) : Prop where
  inv : Inv X pins σ Hk s
  za : ZAt3 z TI TO i1 i2 i3 k s.heap
  s1 : St1 k s.heap
  s2 : St2 k s.heap
  s3 : St3 k s.heap
  fp : ∀ b ∈ [z, TI, TO, i1, i2, i3], FpOk X pins Hk b
  ex : ∀ b ∈ [z, TI, TO, i1, i2, i3], b < s.heap.objs.size
  lst : Hk q = some (.lst (ps.map V.ref))
  len : ps.length = k
  prs : Prs3 Hk xs ys zs ps
  same : ∀ b o, b ≠ q → H0 b = some o → Hk b = some o
theorem trip_loop {Rs : Result → Shared → Prop} (hh : A1.handled = none) (S : ZipSep3 z TI TO i1 i2 i3 fp1 fp2 fp3) (D1 : Draws X.prog X.w A1.in1.in1 i1 fp1 n1 (fun i v => its1.toArray[i]? = some v) St1) (D2 : Draws X.prog X.w A1.in1.in1 i2 fp2 n2 (fun i v => its2.toArray[i]? = some v) St2) (D3 : Draws X.prog X.w A1.in1.in1 i3 fp3 n3 (fun i v => its3.toArray[i]? = some v) St3)
    (v1 : Vals xs its1) (v2 : Vals ys its2) (v3 : Vals zs its3) (e1 : xs.length = n1) (e2 : ys.length = n2) (e3 : zs.length = n3) (hq1 : q ∉ fp1) (hq2 : q ∉ fp2) (hq3 : q ∉ fp3) (hsz : min (min n1 n2) n3 ≤ 1000)
    (hdone : ∀ ps Hk s, Inv X pins σ Hk s → Hk q = some (.lst (ps.map V.ref)) → ps.length = min (min n1 n2) n3 → Prs3 Hk xs ys zs ps → (∀ b o, b ≠ q → H0 b = some o → Hk b = some o) → Rs (.ok (.ret .none)) s) :
    ∀ (m k : Nat) (Hk : Hp) (s : Shared) (ps : List Addr), m = min (min n1 n2) n3 - k → k ≤ min (min n1 n2) n3 → LZ3 X pins σ H0 z TI TO i1 i2 i3 q St1 St2 St3 xs ys zs k Hk s ps → codeAny (model X.prog X.w) A1 (.builtin "list.extend.loop" ⟨[.ref q, .ref z, .none], []⟩) Rs s := by
  intro m
  induction m with
  | zero =>
    intro k Hk s ps hm hk L
    have ek : k = min (min n1 n2) n3 := by omega
    refine codeAny_builtin PySem.F.entry_extend_loop ?_
    rw [Around.under_plainId PySem.F.plain_extend_loop _]
    show wpAny _ A1.in1 (pyNext (.ref z) >>= _) _ _ s
    have fin : ∀ h' tk, (∀ c o, c ≠ z → c ≠ TO → c ≠ i1 → c ≠ i2 → c ≠ i3 → s.heap.get? c = some o → h'.get? c = some o) → Rs (.ok (.ret .none)) { s with heap := h', toks := tk } := by
      intro h' tk kp
      have I1 : Inv X pins σ Hk { s with heap := h', toks := tk } := L.inv.turnedL (ch := [z, TI, TO, i1, i2, i3]) (fun b o hb e => kp b o (fun c => hb (by simp [c])) (fun c => hb (by simp [c])) (fun c => hb (by simp [c])) (fun c => hb (by simp [c])) (fun c => hb (by simp [c])) e) L.fp
      exact hdone ps Hk _ I1 L.lst (by rw [L.len, ek]) L.prs L.same
    obtain ⟨hT, h⟩ := L.za
    rcases h with ⟨e0, hz, a1, a2, a3, hO⟩ | ⟨T, f, oT, hz, hTo⟩
    · refine wpAny_bind (wpAny_pyNext_zipD3_end S D1 D2 D3 hz hT hO L.s1 L.s2 L.s3 (by omega) (by omega) (by omega) (by omega) fun h' tk kp => ?_)
      exact wpAny_pure (fin h' tk kp)
    · refine wpAny_bind (pyNext_trip_end_held S D1 D2 D3 hz hTo hT L.s1 L.s2 L.s3 (by omega) (by omega) (by omega) (by omega) fun h' tk kp => ?_)
      exact wpAny_pure (fin h' tk fun c o c1 _ c3 c4 c5 => kp c o c1 c3 c4 c5)
  | succ m ih =>
    intro k Hk s ps hm hk L
    have k1 : k < n1 := by omega
    have k2 : k < n2 := by omega
    have k3 : k < n3 := by omega
    refine codeAny_builtin PySem.F.entry_extend_loop ?_
    rw [Around.under_plainId PySem.F.plain_extend_loop _]
    show wpAny _ A1.in1 (pyNext (.ref z) >>= _) _ _ s
    have hx : xs[k]? = some (xs[k]'(by omega)) := List.getElem?_eq_getElem (by omega)
    have hy : ys[k]? = some (ys[k]'(by omega)) := List.getElem?_eq_getElem (by omega)
    have hw : zs[k]? = some (zs[k]'(by omega)) := List.getElem?_eq_getElem (by omega)
    obtain ⟨u1, hu1, ru1⟩ := v1.get hx
    obtain ⟨u2, hu2, ru2⟩ := v2.get hy
    obtain ⟨u3, hu3, ru3⟩ := v3.get hw
    have turn : ∀ (x1 x2 x3 : Value) (h' : Heap) (tk : Nat), its1.toArray[k]? = some x1 → its2.toArray[k]? = some x2 → its3.toArray[k]? = some x3 → ZAt3 z TI TO i1 i2 i3 (k + 1) h' → St1 (k + 1) h' → St2 (k + 1) h' → St3 (k + 1) h' → IsTupOf3 h' s.heap.objs.size x1 x2 x3 →
        (∀ c o, c ≠ z → c ≠ TO → c ≠ i1 → c ≠ i2 → c ≠ i3 → s.heap.get? c = some o → h'.get? c = some o) → (∀ b ∈ [z, TI, TO, i1, i2, i3], b < h'.objs.size) →
        wpAny (model X.prog X.w) A1.in1 (updateSeq q (·.push (.ref s.heap.objs.size)) >>= fun _ => again (.builtin "list.extend.loop" ⟨[.ref q, .ref z, .none], []⟩))
          (fun fin s' => match fin with | .done f => Rs (.ok f) s' | .again c' => c'.quiet = true ∧ codeAny (model X.prog X.w) A1 c' Rs s') (fun e s' => Rs (.error e) s') { s with heap := h', toks := tk } := by
      intro x1 x2 x3 h' tk g1 g2 g3 za st1 st2 st3 hp kp hsz'
      have ex1 : x1 = u1 := by
        rw [List.getElem?_toArray, hu1] at g1
        exact (Option.some.inj g1).symm
      have ex2 : x2 = u2 := by
        rw [List.getElem?_toArray, hu2] at g2
        exact (Option.some.inj g2).symm
      have ex3 : x3 = u3 := by
        rw [List.getElem?_toArray, hu3] at g3
        exact (Option.some.inj g3).symm
      subst ex1 ex2 ex3
      have hqT : q ≠ s.heap.objs.size := fun e => by
        have := L.inv.hok.fresh (Nat.le_refl s.heap.objs.size)
        rw [← e, L.lst] at this
        cases this
      have new : ObjOk X.prog X.w (upd Hk s.heap.objs.size (.tup [xs[k]'(by omega), ys[k]'(by omega), zs[k]'(by omega)])) h' s.heap.objs.size (.tup [xs[k]'(by omega), ys[k]'(by omega), zs[k]'(by omega)]) :=
        ⟨by show 3 ≤ sizeLine; decide, [x1, x2, x3], .cons ru1 (.cons ru2 (.cons ru3 .nil)), ⟨_, hp, rfl, _, rfl⟩⟩
      have I1 : Inv X pins σ (upd Hk s.heap.objs.size (.tup [xs[k]'(by omega), ys[k]'(by omega), zs[k]'(by omega)])) { s with heap := h', toks := tk } :=
        L.inv.turnedNew (ch := [z, TI, TO, i1, i2, i3]) (fun b o hb e => kp b o (fun c => hb (by simp [c])) (fun c => hb (by simp [c])) (fun c => hb (by simp [c])) (fun c => hb (by simp [c])) (fun c => hb (by simp [c])) e) L.fp (Nat.le_refl _) new
      have hl1 : (upd Hk s.heap.objs.size (.tup [xs[k]'(by omega), ys[k]'(by omega), zs[k]'(by omega)])) q = some (.lst (ps.map V.ref)) := by rw [upd_ne hqT]; exact L.lst
      have hlen := L.len
      obtain ⟨zl, its, c, r2, hl, e⟩ := I1.lstM hl1
      have hpl : (ps.map V.ref).length = ps.length := List.length_map ..
      refine wpAny_bind (wpAny_updateSeq e rfl (wpAny_pure ⟨plainId_quiet PySem.F.plain_extend_loop _, ?_⟩) (by rw [List.size_toArray, ← hl, hpl]; exact Nat.le_of_lt (small1000 (by omega))) (by show (its.toArray.push _).size ≤ sizeLine + 1; rw [Array.size_push, List.size_toArray, ← hl, hpl]; exact Nat.succ_le_succ (Nat.le_of_lt (small1000 (by omega)))))
      have I2 := I1.lset (f := (·.push (Value.ref s.heap.objs.size))) (its' := its ++ [.ref s.heap.objs.size]) (ys := ps.map V.ref ++ [V.ref s.heap.objs.size]) (t' := tk) hl1 e (by simp) (r2.append (.cons (show RelV (V.ref s.heap.objs.size) (Value.ref s.heap.objs.size) from rfl) .nil)) (by rw [List.length_append, hpl]; exact Nat.le_of_lt (small1000 (by show ps.length + 1 ≤ 1000; omega)))
      have oth : ∀ b o, b ≠ q → h'.get? b = some o → (h'.update q (Obj.mapSeq (·.push (.ref s.heap.objs.size)))).get? b = some o := fun b o hb e => (Heap.get?_update_other _ _ (Ne.symm hb)).trans e
      have nb : ∀ b ∈ [z, TI, TO, i1, i2, i3], b ≠ q := fun b hb e => by
        have := (L.fp b hb).1
        rw [e, L.lst] at this
        cases this
      refine ih (k + 1) _ _ (ps ++ [s.heap.objs.size]) (by omega) (by omega) ⟨I2, za.keep oth ⟨_, Heap.get?_update_self _ e rfl⟩ (nb _ (by simp)) (nb _ (by simp)) (nb _ (by simp)), D1.frame _ _ _ st1 fun b hb o e => oth b o (fun c => hq1 (c ▸ hb)) e, D2.frame _ _ _ st2 fun b hb o e => oth b o (fun c => hq2 (c ▸ hb)) e, D3.frame _ _ _ st3 fun b hb o e => oth b o (fun c => hq3 (c ▸ hb)) e, fun b hb => ?_, fun b hb => ?_, ?_, ?_, ?_, ?_⟩
      · obtain ⟨f0, f1, f2, f3, f4, f5⟩ := L.fp b hb
        refine ⟨?_, f1, f2, f3, f4, f5⟩
        rw [upd_ne (nb b hb), upd_ne (Nat.ne_of_lt (L.ex b hb))]
        exact f0
      · have := hsz' b hb
        show b < (h'.update q _).objs.size
        simpa using this
      · rw [upd_same, List.map_append]
        rfl
      · rw [List.length_append, L.len]
        rfl
      · intro j p hj
        by_cases hj2 : j < ps.length
        · rw [List.getElem?_append_left hj2] at hj
          obtain ⟨x, y, u, hx, hy, hu, e⟩ := L.prs j p hj
          have n1 : p ≠ q := fun z => by rw [z, L.lst] at e; cases e
          have n2 : p ≠ s.heap.objs.size := fun z => by
            have := L.inv.hok.fresh (Nat.le_refl s.heap.objs.size)
            rw [← z, e] at this
            cases this
          exact ⟨x, y, u, hx, hy, hu, by rw [upd_ne n1, upd_ne n2]; exact e⟩
        · rw [List.getElem?_append_right (by omega)] at hj
          have hj3 : j - ps.length = 0 := by
            have := (List.getElem?_eq_some_iff.mp hj).1
            simp at this
            omega
          rw [hj3] at hj
          have ep : s.heap.objs.size = p := by simpa using hj
          have ej : j = k := by omega
          rw [ej, ← ep]
          exact ⟨_, _, _, hx, hy, hw, by rw [upd_ne (Ne.symm hqT), upd_same]⟩
      · intro b o hb e
        have e2 := L.same b o hb e
        have n2 : b ≠ s.heap.objs.size := fun z => by
          have := L.inv.hok.fresh (Nat.le_refl s.heap.objs.size)
          rw [← z, e2] at this
          cases this
        rw [upd_ne hb, upd_ne n2]
        exact e2
    obtain ⟨hT, h⟩ := L.za
    rcases h with ⟨e0, hz, a1, a2, a3, hO⟩ | ⟨T, f, oT, hz, hTo⟩
    · refine wpAny_bind (wpAny_pyNext_zipD3_item S D1 D2 D3 hz hT hO L.s1 L.s2 L.s3 k1 k2 k3 fun x1 x2 x3 h' tk p1 p2 p3 hz' hO' s1' s2' s3' hp hsz' kp => ?_)
      refine turn x1 x2 x3 h' tk p1 p2 p3 ⟨kp _ _ S.TIz S.TITO S.TIi1 S.TIi2 S.TIi3 hT, .inr ⟨s.heap.objs.size, false, _, hz', hp⟩⟩ s1' s2' s3' hp kp (fun b hb => Nat.lt_of_lt_of_le (L.ex b hb) (by omega))
    · refine wpAny_bind (pyNext_trip_held S D1 D2 D3 hz hTo hT L.s1 L.s2 L.s3 k1 k2 k3 fun x1 x2 x3 h' tk p1 p2 p3 hz' s1' s2' s3' hp kp => ?_)
      have hp' : s.heap.objs.size < h'.objs.size := Heap.lt_size hp
      have hTk : ∃ o, h'.get? T = some o := by
        by_cases c1 : T = z
        · exact ⟨_, by rw [c1]; exact hz'⟩
        · by_cases c2 : T = i1
          · obtain ⟨o, ho⟩ := D1.live _ _ s1'
            exact ⟨o, by rw [c2]; exact ho⟩
          · by_cases c3 : T = i2
            · obtain ⟨o, ho⟩ := D2.live _ _ s2'
              exact ⟨o, by rw [c3]; exact ho⟩
            · by_cases c4 : T = i3
              · obtain ⟨o, ho⟩ := D3.live _ _ s3'
                exact ⟨o, by rw [c4]; exact ho⟩
              · exact ⟨oT, kp _ _ c1 c2 c3 c4 hTo⟩
      obtain ⟨oT', hTk⟩ := hTk
      refine turn x1 x2 x3 h' tk p1 p2 p3 ⟨kp _ _ S.TIz S.TIi1 S.TIi2 S.TIi3 hT, .inr ⟨T, true, oT', hz', hTk⟩⟩ s1' s2' s3' hp (fun c o c1 _ c3 c4 c5 => kp c o c1 c3 c4 c5) (fun b hb => Nat.lt_of_lt_of_le (L.ex b hb) (by omega))
/-- what list(zip(a, b, c)) asks; each a list or a tuple -/
def rLZ3 (K : PySem.W.Frag) : List V → Hp → VK → Prop := fun vs H Q => ∃ (a b c : Addr) (xs ys zs : List V), vs = [.ref a, .ref b, .ref c] ∧ (SqL K H a xs ∨ SqT K H a xs) ∧ (SqL K H b ys ∨ SqT K H b ys) ∧ (SqL K H c zs ∨ SqT K H c zs) ∧ min (min xs.length ys.length) zs.length ≤ 1000 ∧
  ∀ (q : Addr) (ps : List Addr) (H' : Hp), H q = none → (∀ b o, H b = some o → H' b = some o) → H' q = some (.lst (ps.map V.ref)) → ps.length = min (min xs.length ys.length) zs.length → Prs3 H' xs ys zs ps → Q (.ref q) H'
end
section
variable {X : Cx} {pins : List (Addr × Obj)} {σ : L2.St} {H : Hp}
theorem pe_listTrip {x1 x2 x3 : Expr} {ta : TA} {p p2 pos pos2 : Pos} (hc : X.calm = true) (hg : Gl X "list") (hm : X.mg "list" = none) (hg2 : Gl X "zip") (hm2 : X.mg "zip" = none) (ha : PA X [x1, x2, x3] ta)
    (hs : starEach [x1, x2, x3] X.env = (false, eval x1 X.env) :: starEach [x2, x3] X.env := by rfl) (hpl : (backTo pos2 (starEach [x2, x3] X.env)).any (·.1) = false := by rfl)
    (hs2 : starEach [.Call (.Name "zip" p2) [x1, x2, x3] [] pos2] X.env = (false, eval (.Call (.Name "zip" p2) [x1, x2, x3] [] pos2) X.env) :: starEach [] X.env := by rfl) :
    PE X (.Call (.Name "list" p) [.Call (.Name "zip" p2) [x1, x2, x3] [] pos2] [] pos) (tCB (rLZ3 X.K) ta) := by
  refine ⟨fun pins s σ H Q I h => ?_⟩
  refine Call_ (ld_blt I hg hm boot_list (PyProof.Rows.callWith_type1 (args_cons (Call_ (ld_blt I hg2 hm2 PyProof.Rows.boot_zip (PyProof.Rows.callWith_type1 (thn (ha.run pos2 pins s σ H _ I h) fun us s1 ⟨vs, H1, I1, r1, q1⟩ => ?_) hs hpl))) hs2) hs2 rfl))
  obtain ⟨a, b, c, xs, ys, zs, rfl, ga, gb, gc, hmin, q1⟩ := q1
  obtain ⟨u1, u2, u3, rfl, ru1, ru2, ru3⟩ := vals3 r1
  cases ru1
  cases ru2
  cases ru3
  obtain ⟨its1, o1, G1, St1, v1, lt1, g1, _, B1, D1, k1⟩ := src_draws rfl I1 ga
  obtain ⟨its2, o2, G2, St2, v2, lt2, g2, _, B2, D2, k2⟩ := src_draws rfl I1 gb
  obtain ⟨its3, o3, G3, St3, v3, lt3, g3, _, B3, D3, k3⟩ := src_draws rfl I1 gc
  refine zip_begins3 B1 B2 B3 g1 g2 g3 fun h' hz hTI hTO eo1 eo2 eo3 hsz kp => args_nil ?_
  have S : ZipSep3 (s1.heap.objs.size + 5) (s1.heap.objs.size + 3) (s1.heap.objs.size + 4) s1.heap.objs.size (s1.heap.objs.size + 1) (s1.heap.objs.size + 2) (s1.heap.objs.size :: [a]) ((s1.heap.objs.size + 1) :: [b]) ((s1.heap.objs.size + 2) :: [c]) :=
    zip_sep3 (fun d hdm => by rw [List.mem_singleton.mp hdm]; exact lt1) (fun d hdm => by rw [List.mem_singleton.mp hdm]; exact lt2) (fun d hdm => by rw [List.mem_singleton.mp hdm]; exact lt3)
  have I2 : Inv X pins σ H1 { s1 with heap := h' } := I1.kept (t' := s1.toks) kp
  have fr : H1 h'.objs.size = none := I2.hok.fresh (Nat.le_refl _)
  have hh : X.A.handled = none := I1.ok.hd hc
  refine callType_codes (Q₁ := fun obj s₁ => obj = .ref h'.objs.size ∧ s₁ = { s1 with heap := h'.push { cls := .type "list", data := .seq #[] } }) PySem.F.called_list (PySem.F.typeCall_list_1 _) PySem.F.entry_list_init
    (code_list_new _ ⟨rfl, rfl⟩) fun obj s₁ h₁ => ?_
  obtain ⟨rfl, rfl⟩ := h₁
  have hS : (h'.push { cls := .type "list", data := .seq #[] }).get? h'.objs.size = some { cls := .type "list", data := .seq #[] } := Heap.get?_push_size _ rfl
  refine ⟨⟨_, hS, rfl⟩, PySem.F.args_list_init_2 _ _, ?_⟩
  have J1 : Inv X pins σ (upd H1 h'.objs.size (.lst [])) { s1 with heap := h'.push { cls := .type "list", data := .seq #[] } } := I2.lnew (its := []) (t' := s1.toks) .nil (Nat.zero_le _)
  show wpAny _ _ (do let old ← Builtin.List.listItems (.ref h'.objs.size); Builtin.List.listUpdate (.ref h'.objs.size) (fun _ => #[]); letGo old.toList.reverse; Builtin.List.listExtendWith (.ref h'.objs.size) (.ref (s1.heap.objs.size + 5)) .none) _ _ _
  refine wpAny_bind ?_
  unfold Builtin.List.listItems
  refine wpAny_bind (wpAny_seqItems hS rfl (wpAny_pure ?_))
  show wpAny _ _ (updateSeq h'.objs.size (fun _ => #[]) >>= fun _ => letGo (#[] : Array Value).toList.reverse >>= fun _ => Builtin.List.listExtendWith (.ref h'.objs.size) (.ref (s1.heap.objs.size + 5)) .none) _ _ _
  refine wpAny_bind (wpAny_updateSeq hS rfl ?_)
  have J2 := J1.lset (f := fun _ => #[]) (its := []) (its' := []) (ys := []) (t' := s1.toks) upd_same hS rfl .nil (Nat.zero_le _)
  rw [upd_upd] at J2
  refine wpAny_bind (wpAny_letGo ?_)
  have kq : ∀ c o, c ≠ h'.objs.size → h'.get? c = some o → ((h'.push { cls := .type "list", data := .seq #[] }).update h'.objs.size (Obj.mapSeq fun _ => (#[] : Array Value))).get? c = some o :=
    fun c o n e => (Heap.get?_update_other _ _ (Ne.symm n)).trans (Heap.get?_push_of_some _ e)
  generalize hB : ((h'.push { cls := .type "list", data := .seq #[] }).update h'.objs.size (Obj.mapSeq fun _ => (#[] : Array Value))) = hb at J2 kq ⊢
  have hsb : hb.objs.size = h'.objs.size + 1 := by rw [← hB]; simp
  have ne5 : s1.heap.objs.size + 5 ≠ h'.objs.size := by omega
  have hzb := kq _ _ ne5 hz
  unfold Builtin.List.listExtendWith
  refine wpAny_bind (wpAny_typeOf (T := "zip") ⟨_, hzb, rfl⟩ ?_)
  have n1 : Builtin.List.listSameRef (.ref h'.objs.size) (.ref (s1.heap.objs.size + 5)) = false := by simp [Builtin.List.listSameRef, Ne.symm ne5]
  have n2 : (Value.type "zip" == Value.type "list") = false := by decide
  have n3 : (Value.type "zip" == Value.type "tuple") = false := by decide
  simp only [n1, n2, n3, Bool.or_false, Bool.false_eq_true, if_false]
  refine wpAny_bind (wpAny_pyIter_zip hzb ?_)
  refine wpAny_bind (wpAny_holding (zip_hint hzb ?_))
  have go : ∀ (hc : Heap) (tk : Nat), Inv X pins σ (upd H1 h'.objs.size (.lst [])) { s1 with heap := hc, toks := tk } → (∀ c o, c ≠ h'.objs.size → hb.get? c = some o → hc.get? c = some o) → hb.objs.size ≤ hc.objs.size →
      codeAny (model X.prog X.w) X.A.in1 (.builtin "list.extend.loop" ⟨[.ref h'.objs.size, .ref (s1.heap.objs.size + 5), .none], []⟩) (wants (fun r s₂ => r = .none ∧ EP X pins σ Q (.ref h'.objs.size) s₂) X.xe) { s1 with heap := hc, toks := tk } := by
    intro hc tk J kc hsz2
    have kk : ∀ c o, h'.get? c = some o → hc.get? c = some o := fun c o e => by
      have n : c ≠ h'.objs.size := Nat.ne_of_lt (Heap.lt_size e)
      exact kc c o n (kq c o n e)
    have nq1 : h'.objs.size ∉ [s1.heap.objs.size, a] := fun hm => by
      rcases List.mem_cons.mp hm with e | hm
      · omega
      · exact absurd lt1 (Nat.not_lt.mpr (by rw [← List.mem_singleton.mp hm, hsz]; exact Nat.le_add_right _ _))
    have nq2 : h'.objs.size ∉ [s1.heap.objs.size + 1, b] := fun hm => by
      rcases List.mem_cons.mp hm with e | hm
      · omega
      · exact absurd lt2 (Nat.not_lt.mpr (by rw [← List.mem_singleton.mp hm, hsz]; exact Nat.le_add_right _ _))
    have nq3 : h'.objs.size ∉ [s1.heap.objs.size + 2, c] := fun hm => by
      rcases List.mem_cons.mp hm with e | hm
      · omega
      · exact absurd lt3 (Nat.not_lt.mpr (by rw [← List.mem_singleton.mp hm, hsz]; exact Nat.le_add_right _ _))
    refine trip_loop (A1 := X.A.in1) (Rs := wants (fun r s₂ => r = .none ∧ EP X pins σ Q (.ref h'.objs.size) s₂) X.xe) (H0 := H1) (z := s1.heap.objs.size + 5) (TI := s1.heap.objs.size + 3) (TO := s1.heap.objs.size + 4) (i1 := s1.heap.objs.size) (i2 := s1.heap.objs.size + 1) (i3 := s1.heap.objs.size + 2) (q := h'.objs.size) hh S (D1 _ _ hh (Nat.ne_of_lt lt1)) (D2 _ _ hh (Nat.ne_of_lt (Nat.lt_succ_of_lt lt2))) (D3 _ _ hh (Nat.ne_of_lt (Nat.lt_succ_of_lt (Nat.lt_succ_of_lt lt3)))) v1 v2 v3 rfl rfl rfl nq1 nq2 nq3 hmin
      (fun ps Hk s IK e1 e2 e3 e4 => ⟨rfl, .ref h'.objs.size, Hk, IK, rfl, q1 _ ps Hk fr (fun c o e => e4 c o (ne_of_none e fr) e) e1 e2 e3⟩) _ 0 _ _ [] rfl (Nat.zero_le _) ⟨J, ⟨kk _ _ hTI, .inl ⟨rfl, kk _ _ hz, _, _, _, kk _ _ hTO⟩⟩, ?_, ?_, ?_, fun c hcm => ?_, fun c hcm => ?_, upd_same, rfl, fun k pp e => by simp at e, fun c o n e => by rw [upd_ne n]; exact e⟩
    · exact k1 _ _ g1 (fun c o e => kk _ _ (kp _ _ e)) (kk _ _ eo1)
    · exact k2 _ _ g2 (fun c o e => kk _ _ (kp _ _ e)) (kk _ _ eo2)
    · exact k3 _ _ g3 (fun c o e => kk _ _ (kp _ _ e)) (kk _ _ eo3)
    · have e' : c = s1.heap.objs.size + 5 ∨ c = s1.heap.objs.size + 3 ∨ c = s1.heap.objs.size + 4 ∨ c = s1.heap.objs.size ∨ c = s1.heap.objs.size + 1 ∨ c = s1.heap.objs.size + 2 := by simpa using hcm
      have hle : s1.heap.objs.size ≤ c := by
        rcases e' with z | z | z | z | z | z <;> (rw [z]; first | exact Nat.le_add_right _ _ | exact Nat.le_refl _)
      have hne : c ≠ h'.objs.size := by
        rcases e' with z | z | z | z | z | z <;> (refine Nat.ne_of_lt ?_; rw [z, hsz]; first | exact Nat.add_lt_add_left (by decide) _ | exact Nat.lt_add_of_pos_right (by decide))
      exact I1.fpOk hle (by rw [upd_ne hne]; exact I1.hok.fresh hle)
    · have e' : c = s1.heap.objs.size + 5 ∨ c = s1.heap.objs.size + 3 ∨ c = s1.heap.objs.size + 4 ∨ c = s1.heap.objs.size ∨ c = s1.heap.objs.size + 1 ∨ c = s1.heap.objs.size + 2 := by simpa using hcm
      have : s1.heap.objs.size + 6 ≤ hc.objs.size := by omega
      refine Nat.lt_of_lt_of_le ?_ this
      rcases e' with z | z | z | z | z | z <;> (rw [z]; first | exact Nat.add_lt_add_left (by decide) _ | exact Nat.lt_add_of_pos_right (by decide))
  refine wpAny_ite_split (fun _ => ?_) (fun _ => wpAny_pure ⟨plainId_quiet PySem.F.plain_extend_loop _, go hb s1.toks J2 (fun _ _ _ e => e) (Nat.le_refl _)⟩)
  refine wpAny_bind (wpAny_rule ?_)
  refine wpAny_bind ?_
  show wpAny _ _ (updateSeq h'.objs.size (·.push .none) >>= fun _ => updateSeq h'.objs.size (·.pop)) _ _ _
  obtain ⟨z3, its4, k4, r4, hl4, e4⟩ := J2.lstM upd_same
  cases r4
  refine wpAny_bind (wpAny_updateSeq e4 rfl ?_)
  have I3 := J2.lset (f := (·.push Value.none)) (its' := [Value.none]) (ys := [.non]) (t' := s1.toks) upd_same e4 (by simp) (.cons rfl .nil) (by rw [List.length_singleton, sizeLine_eq]; decide)
  obtain ⟨z5, its5, k5, r5, hl5, e5⟩ := I3.lstM upd_same
  obtain ⟨u5, rfl, ru5⟩ := r5.one
  refine wpAny_updateSeq e5 rfl ?_ (by show 1 ≤ sizeLine; rw [sizeLine_eq]; decide) (by show 0 ≤ sizeLine + 1; exact Nat.zero_le _)
  have I4 := I3.lset (f := (·.pop)) (its := [u5]) (its' := []) (ys := []) (t' := s1.toks) upd_same e5 (by rfl) .nil (Nat.zero_le _)
  rw [upd_upd, upd_upd] at I4
  exact wpAny_pure ⟨plainId_quiet PySem.F.plain_extend_loop _, go _ s1.toks I4 (fun c o n e => (Heap.get?_update_other _ _ (Ne.symm n)).trans ((Heap.get?_update_other _ _ (Ne.symm n)).trans e)) (by simp)⟩
end
end BK
namespace PV
open PySem PySem.Spec PyProof.Rows L2 BK PpSet
/-! ### a set of ints by a comprehension: {elt for target in iter if ..} -/
/-- what a turn asks: the value is an int, it is put into the set at D -/
def addK (w : World) (D : Addr) (Nx : Hp → Prop) (y : V) (H : Hp) : Prop := ∃ (k : Int) (S : Int → Bool) (n : Nat), y = .int k ∧ H D = some (SetO w D S n) ∧ n + 1 < scanBound ∧ Nx (upd H D (SetO w D (fun j => S j || decide (j = k)) (if S k = true then n else n + 1)))
def tKc (w : World) (wi : TI) (g : TG) (tt : TT) (te : TE) (vs : List Nat) : TE := fun σ H Q => wi σ H fun J H1 => ∀ D, H1 D = none → ∃ W : Nat → Nat → Hp → Prop,
  (∃ m, W 0 m (upd H1 D (SetO w D (fun _ => false) 0))) ∧ ∀ i m H, W i m H → (J.stop i H ∧ Q (.ref D) H) ∨ (J.go i H ∧ ∃ Nx : Hp → Prop, (∀ H', Nx H' → ∃ m', m' < m ∧ W (i + 1) m' H') ∧
    ∀ x H', J.yld i H x H' → g x (wipe σ vs) H' fun σ2 H2 => wipe σ2 vs = wipe σ vs ∧ tt σ2 H2 fun b H3 => if b = true then te σ2 H3 (addK w D Nx) else Nx H3)
abbrev emptySet (w : World) : Obj := { cls := .type "set", dict := none, data := .set #[] 0 (.fresh 0 0 (!w.params.followText "set-order")) }
section
variable {X : Cx}
theorem kc_core {pins : List (Addr × Obj)} {s : Shared} {σ : L2.St} {H : Hp} {Q : VK} {elt tg iter : Expr} {ifs : List Expr} {scope : Scope} {own : List (PySem.Str × Nat)} {pos pos' : Pos} {wi : TI} {g : TG} {tt : TT} {te : TE} {use : Option (Value → Sem Unit)} {Qf : Value → Shared → Prop}
    (hc : X.calm = true) (hN : X.N.Nodup) (I : Inv X pins σ H s) (hi : PI X tg iter wi) (ok : BlkOk X.N X.env.scope scope own)
    (hg : ∀ s H C cl fp, PG (X.blk s H scope (compEnvC scope cl C X.env) fp) tg g) (ht : ∀ s H C cl fp, PTs (X.blk s H scope (compEnvC scope cl C X.env) fp) ifs tt)
    (he : ∀ s H C cl fp, PE (X.blk s H scope (compEnvC scope cl C X.env) fp) elt te) (hs : ∀ x, foldedSetIterable iter X.env x = pure x) (h : tKc X.w wi g tt te (own.map (·.2)) σ H Q)
    (hEnd : ∀ D C s' m H', Inv X pins σ H' s' → Q (.ref D) H' → s'.heap.Ns C m → FpOk X pins H' C → compPost (model X.prog X.w) X.A X.xe use Qf (.ref D) C (.ok .next) s') :
    wpAny (model X.prog X.w) X.A (comprehension (.SetComp elt [⟨tg, iter, ifs, 0⟩] scope pos) scope X.env pos' (newSet (.type "set")) false (eval iter X.env) use) Qf X.xe s := by
  have fr : ∀ y ∈ scope.names, y.2 = .free → ∃ c, X.env.cells.lookup y.1 = some c := fun y hy e =>
    (ok.free y hy e).elim (fun k => I.ok.has _ (.inl k)) fun k => I.ok.has _ (.inr k)
  refine wpAny_comprehension_free (use := use) rfl hs (closure_ok fr) ok.kind (fun y hy e => by rw [ok.uniq y hy, e]) (thn (hi.run pins s σ H _ I h) fun xv s1 hx => thn hx fun itv s2 h2 => ?_)
  obtain ⟨it, fp, tn, J, H2, rfl, I2, T, st2, f2, q⟩ := h2
  refine newSet_ok (newEnv_comp ?_)
  obtain ⟨D, hD⟩ : ∃ D, s2.heap.objs.size = D := ⟨_, rfl⟩
  have nD : H2 D = none := I2.hok.fresh (Nat.le_of_eq hD)
  obtain ⟨W, ⟨m0, w0⟩, turn⟩ := q D nD
  rw [hD]
  obtain ⟨s3, hs3⟩ : ∃ s3 : Shared, s3 = { s2 with heap := s2.heap.push (emptySet X.w) } := ⟨_, rfl⟩
  obtain ⟨H3, hH3⟩ : ∃ H3, H3 = upd H2 D (SetO X.w D (fun _ => false) 0) := ⟨_, rfl⟩
  have h3 : s3.heap = s2.heap.push (emptySet X.w) := by rw [hs3]
  have I3 : Inv X pins σ H3 s3 := by
    rw [hs3, hH3]
    exact I2.laid (t' := s2.toks) (fun b o e => Heap.get?_push_of_some _ e) (Nat.le_of_eq hD) (hD ▸ setO_new (setR_fresh X.w))
  have f3 : ∀ b ∈ fp, FpOk X pins H3 b ∧ b < s3.heap.objs.size := fun b hb => by
    obtain ⟨o, e, _⟩ := T.obj _ _ st2 b hb
    have lt := Heap.lt_size e
    refine ⟨⟨?_, (f2 b hb).2⟩, by rw [h3, Heap.size_push]; exact Nat.lt_succ_of_lt lt⟩
    rw [hH3, upd_ne (by rw [← hD]; exact Nat.ne_of_lt lt)]
    exact (f2 b hb).1
  have st3 : tn 0 s3.heap := T.keep _ _ _ st2 fun b _ o e => by rw [h3]; exact Heap.get?_push_of_some _ e
  have I4 := block_start I3 ok hN f3
  have nfp : ∀ b ∈ fp, H3 b = none := fun b hb => (f3 b hb).1.1
  rw [← hH3] at w0
  obtain ⟨cl, hcl⟩ : ∃ cl, cl = cellsFrom (s3.heap.objs.size + 1) scope.names (cloFrom X.env.cells scope.names []) := ⟨_, rfl⟩
  have pg := hg s3 H3 s3.heap.objs.size cl fp
  have pt := ht s3 H3 s3.heap.objs.size cl fp
  have pe := he s3 H3 s3.heap.objs.size cl fp
  rw [← hcl] at I4
  show codeAny _ _ (.compStart (.SetComp elt [⟨tg, iter, ifs, 0⟩] scope pos) 0 (.ref it) (.ref D) (compEnvC scope (cellsFrom ((s2.heap.push (emptySet X.w)).objs.size + 1) scope.names (cloFrom X.env.cells scope.names [])) (s2.heap.push (emptySet X.w)).objs.size X.env))
    (compPost (model X.prog X.w) X.A X.xe use Qf (.ref D) (s2.heap.push (emptySet X.w)).objs.size) { s2 with heap := pushCells ((s2.heap.push (emptySet X.w)).push { cls := .type "dict", data := .dict #[] }) scope.names }
  rw [← h3, ← hcl]
  obtain ⟨ce, hce⟩ : ∃ ce, ce = compEnvC scope cl s3.heap.objs.size X.env := ⟨_, rfl⟩
  have cL : ce.locals = s3.heap.objs.size := by rw [hce]; rfl
  rw [← hce] at I4 pg pt pe ⊢
  obtain ⟨s4, hs4⟩ : ∃ s4 : Shared, s4 = { s3 with heap := pushCells (s3.heap.push { cls := .type "dict", data := .dict #[] }) scope.names } := ⟨_, rfl⟩
  rw [← hs4] at I4
  have e4 : ({ s2 with heap := pushCells (s3.heap.push { cls := .type "dict", data := .dict #[] }) scope.names } : Shared) = s4 := by rw [hs4, hs3]
  rw [e4]
  have st4 : tn 0 s4.heap := T.keep _ _ _ st3 fun b _ o e => by rw [hs4]; exact pushCells_keeps _ _ _ _ (Heap.get?_push_of_some _ e)
  let B := X.blk s3 H3 scope ce fp
  have fpo : ∀ {σ' : L2.St} {H' : Hp} {s' : Shared}, Inv B [] σ' H' s' → (∀ b ∈ fp, H' b = none) → ∀ b ∈ fp, FpOk B [] H' b := fun I' hn b hb =>
    ⟨hn b hb, (I'.ok.exf b hb).1, I'.ok.exfs b hb, .inl hb, fun x c e => (I'.ok.exf b hb).2 x c e, fun p hp => absurd (show p ∈ ([] : List (Addr × Obj)) ++ [] from hp) (by simp)⟩
  refine codeAny_compStart_set ?loop (T.self X.A 0 _ _ _ st4 ?loop)
  refine compLoopS_any (fun n s' => ∃ i H', Inv B [] (wipe σ (own.map (·.2))) H' s' ∧ tn i s'.heap ∧ (∀ b ∈ fp, H' b = none) ∧ W i n H') (fun n s5 z => ?_) m0 ⟨0, H3, I4, st4, nfp, w0⟩
  obtain ⟨i, H5, I5, st5, n5, w5⟩ := z
  rcases turn i n H5 w5 with ⟨stop, qq⟩ | ⟨go, Nx, hNx, step⟩
  · refine thnF (T.done B rfl rfl rfl hc i [] s5 _ H5 (fun _ _ => False) I5 (fpo I5 n5) st5 stop) fun r s6 ⟨hr, I6⟩ => ?_
    subst hr
    have I7 : Inv X pins σ H5 s6 := I3.call' (ch := fp) I6.os I6.base I6.hok I6.bare fun b hb => ⟨(f3 b hb).1.2.2.2.1, (f3 b hb).1.2.1, (f3 b hb).1.2.2.2.2.1, (f3 b hb).1.2.2.2.2.2⟩
    have nC : H5 s3.heap.objs.size = none := cL ▸ (show H5 ce.locals = none from I6.free)
    obtain ⟨m, hn, _⟩ := I6.loc
    exact hEnd D s3.heap.objs.size s6 m H5 I7 qq (cL ▸ (show s6.heap.Ns ce.locals m from hn)) (I3.fpOk (Nat.le_refl _) nC)
  · refine thnF (T.item B rfl rfl rfl hc i [] s5 _ H5 (fun _ _ => False) I5 (fpo I5 n5) st5 go) fun r s6 ⟨u, hr, h6⟩ => ?_
    subst hr
    refine thnF h6 fun _ s7 ⟨x, H7, I7, r7, y7, st7, n7⟩ => ?_
    refine thnF (pg.run _ s7 _ H7 x u _ (I7.pinned (fpo I7 n7) (T.obj _ _ st7)) r7 (step x H7 y7)) fun _ s8 ⟨σ8, H8, I8, hw8, q8⟩ => ?_
    refine thnF (pt.run _ s8 σ8 H8 _ I8 q8) fun b s9 ⟨H9, I9, q9⟩ => ?_
    have fin : ∀ {s' : Shared} {H' : Hp}, Inv B ([] ++ pinsAt fp s7.heap) σ8 H' s' → Nx H' → ∃ m, m < n ∧ ∃ i H', Inv B [] (wipe σ (own.map (·.2))) H' s' ∧ tn i s'.heap ∧ (∀ b ∈ fp, H' b = none) ∧ W i m H' := fun {s' H'} I' nx => by
      obtain ⟨m', hm, w'⟩ := hNx H' nx
      have pin : ∀ b ∈ fp, ∀ o, s7.heap.get? b = some o → s'.heap.get? b = some o ∧ H' b = none := fun b hb o e =>
        have z := I'.pin (b, o) (List.mem_append_right _ (List.mem_append_right _ (mem_pinsAt hb e)))
        ⟨z.1, z.2.1⟩
      refine ⟨m', hm, i + 1, H', (I'.unpinned (pins := [])).weak (by rw [← hw8, wipe_length]) (fun j v e => (wipe_some (hw8 ▸ e)).1), T.keep _ _ _ st7 fun b hb o e => (pin b hb o e).1, fun b hb => ?_, w'⟩
      obtain ⟨o, e, _⟩ := T.obj _ _ st7 b hb
      exact (pin b hb o e).2
    cases b with
    | false => exact fin I9 q9
    | true =>
      refine thnF (pe.run _ s9 σ8 H9 _ I9 q9) fun z s10 ⟨yv, H10, I10, r10, k, S0, n0, ey, hD10, room, nx⟩ => ?_
      subst ey
      refine thnF (mt_sadd (X := B) _ s10 σ8 H10 (.ref D) [.int k] (.ref D) [z] (fun _ H => Nx H) I10 rfl (.cons r10 .nil) ⟨D, k, S0, n0, rfl, rfl, hD10, room, nx⟩) fun _ s11 ⟨_, H11, I11, _, q11⟩ => fin I11 q11
end
end PV
namespace PV
open PySem PySem.Spec PyProof.Rows L2 BK
/-! ### a tuple times one: the tuple itself -/
theorem mul_once (l : Addr) (items : Array Value) (n : Nat) (dd : Option Addr) (sl : Array (Option Value)) (u : Tok) :
    Meets (Builtin.«tuple.__mul__» ⟨[.ref l, .int 1 u], []⟩) (fun _ R s => s.heap.get? l = some { cls := .type "tuple", dict := dd, data := .seq items n, slots := sl } ∧ R (.ok (.ret (Value.ref l))) s) :=
  .of_wp fun prog w A R s h => by
    obtain ⟨hp, g, d, tk, os⟩ := s
    obtain ⟨hl, h⟩ := h
    have f1 := AutoSeq1.idx_int
    have c0 : (decide ((1 : Int) < -(2 ^ 63)) || decide ((1 : Int) ≥ 2 ^ 63)) = false := by decide +kernel
    have c1 : (items.isEmpty || (1 : Int) == 1) = true := by simp
    wp_walk using wpAny_loadPart' hl
    repeat (first
      | (refine wpAny_ite_false (decide_eq_false (by rw [c0]; exact Bool.false_ne_true)) ?_; wp_walk using wpAny_loadPart' hl)
      | (refine wpAny_ite_true (decide_eq_true c1) ?_; wp_walk using wpAny_loadPart' hl))
    exact ⟨_, rfl, h⟩
def rOnce (K : PySem.W.Frag) : R2 := fun x y H Q => ∃ l xs, x = .ref l ∧ y = .int 1 ∧ SqT K H l xs ∧ Q (.ref l) H
section
variable {X : Cx}
theorem op_once : OpR X (binaryOp .Mult) (rOnce X.K) := by
  intro pins s σ H x y v u Q I rx ry h
  obtain ⟨l, xs, rfl, rfl, hT, q⟩ := h
  cases rx
  obtain ⟨t, rfl⟩ := ry
  obtain ⟨its, r, ⟨⟨cls, dd, data, sl⟩, ho, hc, n, hd⟩, hs⟩ := I.tuple hT
  simp only at hc hd
  subst hc hd
  exact wpAny_binaryOp_repeat_ref (T := "tuple") (U := "int") (by decide) ⟨_, ho, rfl⟩ (fun s' => typeIs_int s' 1 t) noFill_tuple_mul F.fills_int_mul F.slot_int_rmul repeat_tuple F.slot_int_index.lookup
    (call_meets F.slot_int_rmul (typeIs_int s 1 t) F.entry_int_rmul (F.args_int_rmul_2 _ _) (int_rmul_tuple 1 t l its.toArray n dd sl)
      ⟨ho, rfl, ⟨_, ho, rfl⟩, call_meets F.slot_tuple_mul ⟨_, ho, rfl⟩ F.entry_tuple_mul (F.args_tuple_mul_2 _ _) (mul_once l its.toArray n dd sl t) ⟨ho, .ref l, H, I, rfl, q⟩⟩)
end
end PV
namespace PV
open PySem PySem.Spec PyProof.Rows L2
/-- plain data: what a name holds, as a value -/
inductive D where
  | non | bl (b : Bool) | int (i : Int) | str (x : Str)
  | tup (xs : List D) | lst (xs : List D)
  | scr (ns : List Int) | ktp (ns : List Int) | ptp (ns : List Int)
  | dic (kvs : List (D × D)) | dit (kvs : List (D × D))
  | obj (c : Nat) (fs : List (Nat × D))
  | drw (p sc : Nat) (ns : List Int)
  deriving Inhabited
/-- the program: its written part, the classes by number, the attributes' names by number -/
structure Gm where
  K : PySem.W.Frag
  cls : Nat → Option Addr
  an : Nat → Str
def Ext (S : Addr → Prop) (H H' : Hp) : Prop := (∀ b o, ¬ S b → H b = some o → H' b = some o) ∧ ∀ b o u, H b = some (.frz o u) → H' b = some (.frz o u)
theorem Same.ext {S : Addr → Prop} {H H' : Hp} (s : Same H H') : Ext S H H' := ⟨fun b o _ h => s b o h, fun b o u h => s b _ h⟩
theorem Ext.refl {S : Addr → Prop} {H : Hp} : Ext S H H := ⟨fun _ _ _ h => h, fun _ _ _ h => h⟩
theorem Ext.trans {S : Addr → Prop} {H H1 H2 : Hp} (a : Ext S H H1) (b : Ext S H1 H2) : Ext S H H2 :=
  ⟨fun c o n h => b.1 c o n (a.1 c o n h), fun c o u h => b.2 c o u (a.2 c o u h)⟩
def Dom (S : Addr → Prop) (H : Hp) : Prop := ∀ a, S a → ∃ o, H a = some o ∧ ∀ xs, o ≠ .tup xs
theorem Dom.free {S : Addr → Prop} {H : Hp} (d : Dom S H) {p : Addr} (np : H p = none) : ¬ S p := fun z => by
  obtain ⟨o, h, _⟩ := d p z
  rw [np] at h; cases h
theorem Dom.same {S : Addr → Prop} {H H' : Hp} (d : Dom S H) (s : Same H H') : Dom S H' := fun a z => let ⟨o, h, n⟩ := d a z; ⟨o, s _ _ h, n⟩
def kD : Key → D
  | .inl i => .int i
  | .inr x => .str x
def none_H : Hp := fun _ => none
/-- what a law draws from: a list of the script (at sc) and of an int, whichever it is -/
def DrO (sc p : Addr) : HO := .ext fun h => ∃ (n : Int) (t : Tok) (m : Nat), h.get? p = some { cls := .type "list", data := .seq #[.ref sc, .int n t] m }
/-- the script stands at a -/
def ScrAt (G : Gm) (S : Addr → Prop) (H : Hp) (a : Addr) (ns : List Int) : Prop := (¬ S a ∧ H a = some (.lst (ns.map V.int))) ∨ (∃ o, H a = some (.frz o (.lst (ns.map V.int)))) ∨ SqL G.K none_H a (ns.map V.int)
theorem ScrAt.move {G : Gm} {S S' : Addr → Prop} {H H' : Hp} {a : Addr} {ns : List Int} (h1 : ∀ a, ¬ S a → (H a).isSome = true → ¬ S' a) (e : Ext S' H H') (h : ScrAt G S H a ns) : ScrAt G S' H' a ns := by
  rcases h with ⟨n, q⟩ | ⟨o, q⟩ | q
  · exact .inl ⟨h1 _ n (by rw [q]; rfl), e.1 _ _ (h1 _ n (by rw [q]; rfl)) q⟩
  · exact .inr (.inl ⟨o, e.2 _ _ _ q⟩)
  · exact .inr (.inr q)
mutual
/-- v stands for d; nothing of it lies at an address of S -/
inductive Rp (G : Gm) (S : Addr → Prop) (H : Hp) : V → D → Prop
  | non : Rp G S H .non .non
  | bl (b : Bool) : Rp G S H (.bl b) (.bl b)
  | int (i : Int) : Rp G S H (.int i) (.int i)
  | str (x : Str) : Rp G S H (.str x) (.str x)
  | tup {a : Addr} {xs : List V} {ds : List D} : ¬ S a → H a = some (.tup xs) → RpA G S H xs ds → Rp G S H (.ref a) (.tup ds)
  | lst {a : Addr} {xs : List V} {ds : List D} : ¬ S a → H a = some (.lst xs) → RpA G S H xs ds → Rp G S H (.ref a) (.lst ds)
  | scr0 {a : Addr} {ns : List Int} : ¬ S a → H a = some (.lst (ns.map V.int)) → Rp G S H (.ref a) (.scr ns)
  | scr1 {a : Addr} {o : Obj} {ns : List Int} : H a = some (.frz o (.lst (ns.map V.int))) → Rp G S H (.ref a) (.scr ns)
  | scr2 {a : Addr} {ns : List Int} : SqL G.K none_H a (ns.map V.int) → Rp G S H (.ref a) (.scr ns)
  | ktp {a : Addr} {ns : List Int} : SqT G.K none_H a (ns.map V.int) → Rp G S H (.ref a) (.ktp ns)
  | ptp {a : Addr} {o : Obj} {ns : List Int} : H a = some (.frz o (.tup (ns.map V.int))) → o.dict = none → Rp G S H (.ref a) (.ptp ns)
  | dic {a : Addr} {ks : List (Key × V)} {ds : List (D × D)} : ¬ S a → H a = some (.dK ks) → RpK G S H ks ds → Rp G S H (.ref a) (.dic ds)
  | dit {a : Addr} {ks : List (List Key × V)} {ds : List (D × D)} : ¬ S a → H a = some (.dT ks) → RpT G S H ks ds → Rp G S H (.ref a) (.dit ds)
  | obj {a C dx : Addr} {vs : List (Str × V)} {c : Nat} {fs : List (Nat × D)} : ¬ S a → H a = some (.ins C dx vs) → G.cls c = some C → RpF G S H vs fs → Rp G S H (.ref a) (.obj c fs)
  | drw {p sc : Addr} {ns : List Int} : ¬ S p → H p = some (DrO sc p) → ScrAt G S H sc ns → Rp G S H (.ref p) (.drw p sc ns)
inductive RpA (G : Gm) (S : Addr → Prop) (H : Hp) : List V → List D → Prop
  | nil : RpA G S H [] []
  | cons {v : V} {vs : List V} {d : D} {ds : List D} : Rp G S H v d → RpA G S H vs ds → RpA G S H (v :: vs) (d :: ds)
inductive RpK (G : Gm) (S : Addr → Prop) (H : Hp) : List (Key × V) → List (D × D) → Prop
  | nil : RpK G S H [] []
  | cons {k : Key} {v : V} {vs : List (Key × V)} {d : D} {ds : List (D × D)} : Rp G S H v d → RpK G S H vs ds → RpK G S H ((k, v) :: vs) ((kD k, d) :: ds)
inductive RpT (G : Gm) (S : Addr → Prop) (H : Hp) : List (List Key × V) → List (D × D) → Prop
  | nil : RpT G S H [] []
  | cons {k : List Key} {v : V} {vs : List (List Key × V)} {d : D} {ds : List (D × D)} : Rp G S H v d → RpT G S H vs ds → RpT G S H ((k, v) :: vs) ((.tup (k.map kD), d) :: ds)
inductive RpF (G : Gm) (S : Addr → Prop) (H : Hp) : List (Str × V) → List (Nat × D) → Prop
  | nil : RpF G S H [] []
  | cons {k : Nat} {v : V} {vs : List (Str × V)} {d : D} {ds : List (Nat × D)} : Rp G S H v d → RpF G S H vs ds → RpF G S H ((G.an k, v) :: vs) ((k, d) :: ds)
end
section
variable {G : Gm} {S S' : Addr → Prop} {H H' : Hp}
mutual
theorem Rp.move (h1 : ∀ a, ¬ S a → (H a).isSome = true → ¬ S' a) (e : Ext S' H H') : ∀ {d : D} {v : V}, Rp G S H v d → Rp G S' H' v d
  | .non, _, h => by cases h; exact .non
  | .bl b, _, h => by cases h; exact .bl b
  | .int b, _, h => by cases h; exact .int b
  | .str b, _, h => by cases h; exact .str b
  | .tup ds, _, h => by
    cases h with
    | tup n q r => exact .tup (h1 _ n (by rw [q]; rfl)) (e.1 _ _ (h1 _ n (by rw [q]; rfl)) q) (RpA.move h1 e r)
  | .lst ds, _, h => by
    cases h with
    | lst n q r => exact .lst (h1 _ n (by rw [q]; rfl)) (e.1 _ _ (h1 _ n (by rw [q]; rfl)) q) (RpA.move h1 e r)
  | .scr ns, _, h => by
    cases h with
    | scr0 n q => exact .scr0 (h1 _ n (by rw [q]; rfl)) (e.1 _ _ (h1 _ n (by rw [q]; rfl)) q)
    | scr1 q => exact .scr1 (e.2 _ _ _ q)
    | scr2 q => exact .scr2 q
  | .ktp ns, _, h => by
    cases h with
    | ktp q => exact .ktp q
  | .ptp ns, _, h => by
    cases h with
    | ptp q z => exact .ptp (e.2 _ _ _ q) z
  | .dic ds, _, h => by
    cases h with
    | dic n q r => exact .dic (h1 _ n (by rw [q]; rfl)) (e.1 _ _ (h1 _ n (by rw [q]; rfl)) q) (RpK.move h1 e r)
  | .dit ds, _, h => by
    cases h with
    | dit n q r => exact .dit (h1 _ n (by rw [q]; rfl)) (e.1 _ _ (h1 _ n (by rw [q]; rfl)) q) (RpT.move h1 e r)
  | .obj c fs, _, h => by
    cases h with
    | obj n q g r => exact .obj (h1 _ n (by rw [q]; rfl)) (e.1 _ _ (h1 _ n (by rw [q]; rfl)) q) g (RpF.move h1 e r)
  | .drw p sc ns, _, h => by
    cases h with
    | drw n q r => exact .drw (h1 _ n (by rw [q]; rfl)) (e.1 _ _ (h1 _ n (by rw [q]; rfl)) q) (r.move h1 e)
theorem RpA.move (h1 : ∀ a, ¬ S a → (H a).isSome = true → ¬ S' a) (e : Ext S' H H') : ∀ {ds : List D} {vs : List V}, RpA G S H vs ds → RpA G S' H' vs ds
  | [], _, h => by cases h; exact .nil
  | d :: ds, _, h => by
    cases h with
    | cons a b => exact .cons (Rp.move h1 e a) (RpA.move h1 e b)
theorem RpK.move (h1 : ∀ a, ¬ S a → (H a).isSome = true → ¬ S' a) (e : Ext S' H H') : ∀ {ds : List (D × D)} {vs : List (Key × V)}, RpK G S H vs ds → RpK G S' H' vs ds
  | [], _, h => by cases h; exact .nil
  | (k, d) :: ds, _, h => by
    cases h with
    | cons a b => exact .cons (Rp.move h1 e a) (RpK.move h1 e b)
theorem RpT.move (h1 : ∀ a, ¬ S a → (H a).isSome = true → ¬ S' a) (e : Ext S' H H') : ∀ {ds : List (D × D)} {vs : List (List Key × V)}, RpT G S H vs ds → RpT G S' H' vs ds
  | [], _, h => by cases h; exact .nil
  | (k, d) :: ds, _, h => by
    cases h with
    | cons a b => exact .cons (Rp.move h1 e a) (RpT.move h1 e b)
theorem RpF.move (h1 : ∀ a, ¬ S a → (H a).isSome = true → ¬ S' a) (e : Ext S' H H') : ∀ {ds : List (Nat × D)} {vs : List (Str × V)}, RpF G S H vs ds → RpF G S' H' vs ds
  | [], _, h => by cases h; exact .nil
  | (k, d) :: ds, _, h => by
    cases h with
    | cons a b => exact .cons (Rp.move h1 e a) (RpF.move h1 e b)
end
theorem Rp.ext {d : D} {v : V} (h : Rp G S H v d) (e : Ext S H H') : Rp G S H' v d := h.move (fun _ n _ => n) e
theorem Rp.same {d : D} {v : V} (h : Rp G S H v d) (e : Same H H') : Rp G S H' v d := h.ext (Same.ext e)
theorem RpA.same {d : List D} {v : List V} (h : RpA G S H v d) (e : Same H H') : RpA G S H' v d := h.move (fun _ n _ => n) (Same.ext e)
theorem Rp.weak {d : D} {v : V} (h : Rp G S H v d) (w : ∀ a, S' a → S a) : Rp G S' H v d := h.move (fun a n _ z => n (w a z)) Ext.refl
theorem RpA.weak {d : List D} {v : List V} (h : RpA G S H v d) (w : ∀ a, S' a → S a) : RpA G S' H v d := h.move (fun a n _ z => n (w a z)) Ext.refl
theorem RpA.length : ∀ {ds : List D} {vs : List V}, RpA G S H vs ds → vs.length = ds.length
  | [], _, h => by cases h; rfl
  | d :: ds, _, h => by
    cases h with
    | cons a b => simp [RpA.length b]
theorem RpA.get : ∀ {ds : List D} {vs : List V} {i : Nat} {d : D}, RpA G S H vs ds → ds[i]? = some d → ∃ v, vs[i]? = some v ∧ Rp G S H v d
  | [], _, i, d, h, e => by simp at e
  | d0 :: ds, _, 0, d, h, e => by
    cases h with
    | cons a b => simp at e; subst e; exact ⟨_, rfl, a⟩
  | d0 :: ds, _, i + 1, d, h, e => by
    cases h with
    | cons a b =>
      obtain ⟨v, h1, h2⟩ := RpA.get (i := i) b (by simpa using e)
      exact ⟨v, by simpa using h1, h2⟩
theorem RpA.append : ∀ {ds es : List D} {vs ws : List V}, RpA G S H vs ds → RpA G S H ws es → RpA G S H (vs ++ ws) (ds ++ es)
  | [], _, _, _, h, k => by cases h; exact k
  | d :: ds, _, _, _, h, k => by
    cases h with
    | cons a b => exact .cons a (RpA.append b k)
theorem RpA.one {v : V} {d : D} (h : Rp G S H v d) : RpA G S H [v] [d] := .cons h .nil
theorem RpA.drop : ∀ {ds : List D} {vs : List V} (n : Nat), RpA G S H vs ds → RpA G S H (vs.drop n) (ds.drop n)
  | _, _, 0, h => h
  | [], _, n + 1, h => by cases h; exact .nil
  | d :: ds, _, n + 1, h => by
    cases h with
    | cons a b => exact RpA.drop n b
theorem RpA.take : ∀ {ds : List D} {vs : List V} (n : Nat), RpA G S H vs ds → RpA G S H (vs.take n) (ds.take n)
  | _, _, 0, h => .nil
  | [], _, n + 1, h => by cases h; exact .nil
  | d :: ds, _, n + 1, h => by
    cases h with
    | cons a b => exact .cons a (RpA.take n b)
theorem RpA.set : ∀ {ds : List D} {vs : List V} {d : D} {v : V} (n : Nat), RpA G S H vs ds → Rp G S H v d → RpA G S H (vs.set n v) (ds.set n d)
  | [], _, _, _, _, h, _ => by cases h; exact .nil
  | d :: ds, _, _, _, 0, h, k => by
    cases h with
    | cons a b => exact .cons k b
  | d :: ds, _, _, _, n + 1, h, k => by
    cases h with
    | cons a b => exact .cons a (RpA.set n b k)
theorem RpA.rev : ∀ {ds : List D} {vs : List V}, RpA G S H vs ds → RpA G S H vs.reverse ds.reverse
  | [], _, h => by cases h; exact .nil
  | d :: ds, _, h => by
    cases h with
    | cons a b => rw [List.reverse_cons, List.reverse_cons]; exact RpA.append (RpA.rev b) (.one a)
theorem RpA.ints : ∀ {ns : List Int} {vs : List V}, RpA G S H vs (ns.map D.int) → vs = ns.map V.int
  | [], _, h => by cases h; rfl
  | n :: ns, _, h => by
    cases h with
    | cons a b => cases a; rw [RpA.ints b]; rfl
theorem RpA.of_ints : ∀ (ns : List Int), RpA G S H (ns.map V.int) (ns.map D.int)
  | [] => .nil
  | n :: ns => .cons (.int n) (RpA.of_ints ns)
theorem RpA.bls : ∀ {ns : List Bool} {vs : List V}, RpA G S H vs (ns.map D.bl) → vs = ns.map V.bl
  | [], _, h => by cases h; rfl
  | n :: ns, _, h => by
    cases h with
    | cons a b => cases a; rw [RpA.bls b]; rfl
end
end PV
namespace PV
open PySem PySem.Spec PyProof.Rows L2 BK
/-! ### the order of tuples of ints -/
def lexI : List Int → List Int → Bool
  | [], [] => false
  | [], _ :: _ => true
  | _ :: _, [] => false
  | x :: xs, y :: ys => if x = y then lexI xs ys else decide (x < y)
theorem lexI_asym : ∀ xs ys, lexI xs ys = true → lexI ys xs = false
  | [], [], h => rfl
  | [], _ :: _, _ => rfl
  | _ :: _, [], h => by cases h
  | x :: xs, y :: ys, h => by
    unfold lexI at h ⊢
    by_cases e : x = y
    · rw [if_pos e] at h; rw [if_pos e.symm]; exact lexI_asym xs ys h
    · rw [if_neg e] at h; rw [if_neg (Ne.symm e)]
      have := of_decide_eq_true h
      exact decide_eq_false (by omega)
theorem lexI_tr : ∀ xs ys zs, lexI ys xs = false → lexI zs ys = false → lexI zs xs = false
  | _, _, [], h1, h2 => by
    rename_i xs ys
    cases ys with
    | nil => exact h1
    | cons y ys => cases h2
  | [], ys, z :: zs, _, _ => rfl
  | x :: xs, [], z :: zs, h1, h2 => by cases h1
  | x :: xs, y :: ys, z :: zs, h1, h2 => by
    unfold lexI at h1 h2 ⊢
    by_cases e1 : y = x
    · rw [if_pos e1] at h1
      by_cases e2 : z = y
      · rw [if_pos e2] at h2
        rw [if_pos (e2.trans e1)]
        exact lexI_tr xs ys zs h1 h2
      · rw [if_neg e2] at h2
        rw [if_neg (fun q => e2 (q.trans e1.symm))]
        have := of_decide_eq_false h2
        exact decide_eq_false (by omega)
    · rw [if_neg e1] at h1
      have a1 := of_decide_eq_false h1
      by_cases e2 : z = y
      · rw [if_neg (fun q => e1 (e2.symm.trans q))]
        exact decide_eq_false (by omega)
      · rw [if_neg e2] at h2
        have a2 := of_decide_eq_false h2
        rw [if_neg (by omega)]
        exact decide_eq_false (by omega)
theorem lexI_anti : ∀ xs ys, lexI xs ys = false → lexI ys xs = false → xs = ys
  | [], [], _, _ => rfl
  | [], _ :: _, h, _ => by cases h
  | _ :: _, [], _, h => by cases h
  | x :: xs, y :: ys, h1, h2 => by
    unfold lexI at h1 h2
    by_cases e : x = y
    · rw [if_pos e] at h1
      rw [if_pos e.symm] at h2
      rw [e, lexI_anti xs ys h1 h2]
    · rw [if_neg e] at h1
      rw [if_neg (Ne.symm e)] at h2
      have a1 := of_decide_eq_false h1
      have a2 := of_decide_eq_false h2
      omega
theorem swo_lexI {α : Type} (k : α → List Int) : SrtO.Swo fun x y => lexI (k x) (k y) := ⟨fun x y h => lexI_asym _ _ h, fun x y z h1 h2 => lexI_tr _ _ _ h1 h2⟩
section
variable {prog : Program} {w : World} {A : Around} {s : Shared}
theorem lexI_walk {b : Bool} {Q : Bool → Shared → Prop} : ∀ {xs ys : List Value} {ns ms : List Int} (i : Nat), IntsAre xs ns → IntsAre ys ms → Q (lexI ns ms) s → PySem.W.KatLex prog w A b (decide (xs.length < ys.length)) Q (xs.zip ys) i s
  | _, _, _, _, i, .nil, .nil, h => PySem.W.kat_nil h
  | _, _, _, _, i, .nil, .cons q u hy, h => PySem.W.kat_nil (by rw [decide_eq_true (by simp)]; exact h)
  | _, _, _, _, i, .cons p t hx, .nil, h => by
    rw [List.zip_nil_right]
    exact PySem.W.kat_nil h
  | _, _, _, _, i, .cons (vs := xs) (ns := ns) p t hx, .cons (vs := ys) (ns := ms) q u hy, h => by
    have el : decide ((Value.int p t :: xs).length < (Value.int q u :: ys).length) = decide (xs.length < ys.length) := by simp
    rw [el, List.zip_cons_cons]
    unfold lexI at h
    refine PySem.W.kat_cons (wpAny_eqBool_int (PySem.W.kat_go (fun e => ?_) fun e => ?_))
    · have e1 : p = q := by simpa using e
      rw [if_pos e1] at h
      exact PySem.W.kat_yes (lexI_walk (i + 1) hx hy h)
    · have e1 : ¬ p = q := by simpa using e
      rw [if_neg e1] at h
      exact PySem.W.kat_no (TS.oneLt_ints _ h)
/-- at v stands a tuple of the ints ns -/
def TupV (h : Heap) (v : Value) (ns : List Int) : Prop := ∃ a o xs n, v = .ref a ∧ h.get? a = some o ∧ o.cls = .type "tuple" ∧ o.data = .seq xs n ∧ IntsAre xs.toList ns
theorem TupV.keeps {h h' : Heap} {v : Value} {ns : List Int} (t : TupV h v ns) (k : ∀ b o, h.get? b = some o → o.cls = .type "tuple" → h'.get? b = some o) : TupV h' v ns := by
  obtain ⟨a, o, xs, n, e, ho, hc, r⟩ := t
  exact ⟨a, o, xs, n, e, k _ _ ho hc, hc, r⟩
theorem tupV_firsts {h : Heap} {k : Value → List Int} : ∀ vs : List Value, (∀ v ∈ vs, TupV h v (k v) ∧ k v ≠ []) → ∃ fs, PySem.W.KatTups h vs fs ∧ fs.length = vs.length ∧ ∀ f ∈ fs, ∃ n t, f = Value.int n t
  | [], _ => ⟨[], PySem.W.KatTups.nil, rfl, fun f hf => by simp at hf⟩
  | v :: vs, x => by
    obtain ⟨fs, kt, hl, hi⟩ := tupV_firsts vs fun u hu => x u (List.mem_cons_of_mem _ hu)
    obtain ⟨⟨a, o, xs, n, rfl, ho, hc, hd, hI⟩, ne⟩ := x v List.mem_cons_self
    obtain ⟨l⟩ := xs
    generalize k (.ref a) = ns at hI ne
    cases hI with
    | nil => exact absurd rfl ne
    | cons m t hI =>
      refine ⟨.int m t :: fs, PySem.W.KatTups.cons ho hc hd rfl kt, by simp [hl], fun f hf => ?_⟩
      rcases List.mem_cons.mp hf with rfl | hf
      · exact ⟨m, t, rfl⟩
      · exact hi f hf
theorem tupV_cmp {vs : List Value} {k : Value → List Int} (b : Bool) (x : ∀ v ∈ vs, TupV s.heap v (k v) ∧ k v ≠ []) : SrtO.Cmp prog w A s (tuples' b) (fun p => p.1 ∈ vs) (SrtO.lt2 fun v u => lexI (k v) (k u)) := by
  intro p q hp hq
  obtain ⟨⟨a, o, xs, n, e1, ho, hc, hd, hI⟩, _⟩ := x _ hp
  obtain ⟨⟨a', o', ys, n', e2, ho', hc', hd', hI'⟩, _⟩ := x _ hq
  show wpAny (model prog w) A (keyLt' (tuples' b) p.1 q.1) (fun r s' => s' = s ∧ r = lexI (k p.1) (k q.1)) (fun _ _ => False) s
  generalize k p.1 = ns at hI ⊢
  generalize k q.1 = ms at hI' ⊢
  rw [e1, e2]
  refine PySem.W.kat_lt ho hd ho' hd' ?_
  have sz : decide (xs.size < ys.size) = decide (xs.toList.length < ys.toList.length) := by simp
  rw [sz]
  exact lexI_walk 0 hI hI' ⟨rfl, rfl⟩
theorem tupV_sortable {a : Addr} {vs : List Value} {k : Value → List Int} (h0 : 0 < vs.length) (x : ∀ v ∈ vs, TupV s.heap v (k v) ∧ k v ≠ []) (ha : ∀ o, s.heap.get? a = some o → o.cls ≠ .type "tuple") : SrtO.SortableO prog w A s a vs fun v u => lexI (k v) (k u) := by
  intro h' keep
  have x' : ∀ v ∈ vs, TupV h' v (k v) ∧ k v ≠ [] := fun v hv => ⟨(x v hv).1.keeps fun b o e c => keep b o (fun z => by subst z; exact ha o e c) e, (x v hv).2⟩
  obtain ⟨fs, h1, h2, h3⟩ := tupV_firsts vs x'
  refine ⟨tuples' true, fun Q E hq => ?_, tupV_cmp true x'⟩
  refine PySem.W.kat_kind (T := .type "int") h1 (by omega) (fun f hm => ?_) (by rfl) ?_
  · obtain ⟨i, t, rfl⟩ := h3 f hm
    exact PySem.W.Looks.now
  · have e : (Value.type "int" != Value.type "tuple") = true := by decide
    rw [e]
    exact hq
end
/-- sorted(xs), xs a list of tuples of ints, none empty, any number of them -/
def rSortedT (K : PySem.W.Frag) : List V → Hp → VK → Prop := fun vs H Q => ∃ (a : Addr) (xs : List V) (k : V → List Int), vs = [V.ref a] ∧ SqL K H a xs ∧ (∀ x ∈ xs, k x ≠ [] ∧ ∃ t, x = V.ref t ∧ H t = some (.tup ((k x).map V.int))) ∧
  ∀ ys p, ys.Perm xs → ys.Pairwise (fun x y => lexI (k y) (k x) = false) → H p = none → Q (.ref p) (upd H p (.lst ys))
theorem cr_sortedT {X : Cx} : CallR X (.builtin "sorted") (rSortedT X.K) := by
  intro pins s σ H vs us Q I r h
  obtain ⟨a, xs, k, rfl, hs, hx, q⟩ := h
  obtain ⟨its, rv, hl, hz⟩ := I.list hs
  obtain ⟨u, rfl, ru⟩ := vals1 r
  obtain rfl : u = Value.ref a := ru
  obtain ⟨e1, e2⟩ := refs_back rv fun x m => by
    obtain ⟨_, t, e, _⟩ := hx x m
    exact ⟨t, e⟩
  have tv : ∀ v ∈ its, TupV s.heap v (k (backV v)) ∧ k (backV v) ≠ [] := fun v hv => by
    obtain ⟨t, rfl⟩ := e2 v hv
    have hm : V.ref t ∈ xs := by rw [e1]; exact List.mem_map.mpr ⟨_, hv, rfl⟩
    obtain ⟨ne, t', e, ht⟩ := hx _ hm
    cases e
    obtain ⟨_, its2, r2, o, ho, hc, n, hd⟩ := I.hok _ _ ht
    exact ⟨⟨t, o, _, n, rfl, ho, hc, hd, ints_of_vals r2⟩, ne⟩
  refine SrtO.sorted_ord (ltv := fun v u => lexI (k (backV v)) (k (backV u))) (swo_lexI fun v => k (backV v)) hl.isList (by rw [← rv.length]; exact hz) (fun h2 h₁ c hc kk => ?_) fun out hs hb => ?_
  · refine tupV_sortable (k := fun v => k (backV v)) (by omega) (fun v hv => ⟨(tv v hv).1.keeps fun b o e _ => (kk b o e).2, (tv v hv).2⟩) fun o e => ?_
    have e' : some o = some (seqObj "list" its.toArray 0) := e.symm.trans hc
    cases e'
    intro z
    exact absurd (Value.type.inj z) (by decide)
  · have h3 : ∀ u ∈ out, ∃ a, u = Value.ref a := fun u hu => e2 u (hb.perm.mem_iff.mp hu)
    have pm : (out.map backV).Perm xs := by rw [e1]; exact hb.perm.map backV
    obtain ⟨n, hn⟩ := PyProof.Rows.sortedAll_at s.heap its out.toArray
    refine ⟨.ref (s.heap.objs.size + 1), upd H (s.heap.objs.size + 1) (.lst (out.map backV)), I.laid (t' := s.toks) (fun b o e => PyProof.Rows.sortedAll_old e) (Nat.le_succ _) ⟨?_, out, n, vals_back h3, hn⟩, rfl, q _ _ pm ?_ (I.hok.fresh (Nat.le_succ _))⟩
    · rw [pm.length_eq]; exact hz
    · rw [List.pairwise_map]
      exact hs
end PV
namespace PV
open PySem PySem.Spec PyProof.Rows L2
/-! ### the terms -/
inductive O2 where | add | sub | mul | fdiv | mod
  deriving DecidableEq, Repr
inductive Cm where | eq | ne | lt | le | gt | ge | inn | nin | isN | notN
  deriving DecidableEq, Repr
inductive BI where | len | sum | min | max | all | any | abs | int | list | tuple | sorted | gcd
  deriving DecidableEq, Repr
/-- what is asked of a set of ints that is made at once: its members in order, their number -/
inductive SK where | srt | len
  deriving DecidableEq, Repr
/-- a type, for isinstance: a built-in one by its name, an own class by its number -/
inductive Ty where | bi (n : String) | own (c : Nat) | unk
  deriving DecidableEq, Repr
mutual
inductive T where | nm (i : Nat) | tp (ts : Ts)
inductive Ts where | nil | cons (t : T) (r : Ts)
end
mutual
inductive E where
  | var (i : Nat) | cint (i : Int) | cbl (b : Bool) | cnon | cstr (x : Str) | cktp (ns : List Int)
  | bin (o : O2) (a b : E) | neg (a : E) | not (a : E) | and (a b : E) | or (a b : E)
  | cmp (c : Cm) (a b : E) | chn (c c' : Cm) (a b d : E) | ite (c a b : E)
  | tup (es : Es) | lst (es : Es) | emp (t : Bool)
  | tcn (a b : E) | ptu (a : E) | rev (a : E) | idx (a i : E) | slc (a : E) (lo hi : Eo) | fld (a : E) (k : Nat)
  | bi (f : BI) (es : Es) | lz (a b : E) | lz3 (a b d : E) | isi (a : E) (ts : List Ty)
  | call (k : Nat) (es : Es) | mk (c : Nat) (es : Es) | me (m : Nat) (a : E) (es : Es)
  | lc (t : T) (it : I) (c e : E) (vs : List Nat)
  | lc2 (t : T) (it : I) (c : E) (t1 : T) (it1 : I) (c1 e : E) (vs vs1 : List Nat)
  | sc (k : SK) (t : T) (it : I) (c e : E) (vs : List Nat)
  | sc2 (t : T) (it : I) (c : E) (t1 : T) (it1 : I) (c1 e : E) (vs vs1 : List Nat)
  | sset (a : E) | lrg (it : I) | lrs (a b c : E)
inductive Es where | nil | cons (e : E) (r : Es)
inductive Eo where | non | som (e : E)
inductive I where | of (e : E) | rng1 (a : E) | rng2 (a b : E) | rngd (a b c : E) | zip2 (a b : E) | zip3 (a b c : E) | enu (a : E)
end
/-! ### the program's own, by meaning -/
structure Mo where
  fn : Nat → List D → Option D
  mkD : Nat → List D → Option D
  me : Nat → Nat → List D → Option D
  isi : Ty → Ty → Option Bool
  fl : Nat → Nat → Bool
abbrev Rho := List (Option D)
/-! ### meanings -/
def LIM : Nat := 1000000
def glst (xs : List D) : Option D := if xs.length ≤ LIM then some (.lst xs) else none
def gtup (xs : List D) : Option D := if xs.length ≤ LIM then some (.tup xs) else none
def itemsD : D → Option (List D)
  | .ptp ns => some (ns.map D.int)
  | .tup xs => some xs
  | .lst xs => some xs
  | .scr ns => some (ns.map D.int)
  | _ => none
def intsD : List D → Option (List Int)
  | [] => some []
  | .int i :: r => (intsD r).map (i :: ·)
  | _ :: _ => none
def blsD : List D → Option (List Bool)
  | [] => some []
  | .bl i :: r => (blsD r).map (i :: ·)
  | _ :: _ => none
def maxI (ns : List Int) : Int := ns.tail.foldl max (ns.headD 0)
def minI (ns : List Int) : Int := ns.tail.foldl min (ns.headD 0)
def insI (x : Int) : List Int → List Int
  | [] => [x]
  | y :: r => if x ≤ y then x :: y :: r else y :: insI x r
def sortI : List Int → List Int
  | [] => []
  | x :: r => insI x (sortI r)
mutual
def toPy : D → Option PyData
  | .non => some .none
  | .bl b => some (.bool b)
  | .int i => some (.int i)
  | .str x => some (.str x)
  | .tup xs => (toPyA xs).map .tuple
  | .lst xs => (toPyA xs).map .list
  | .scr ns => some (.list (ns.map .int))
  | .ktp ns => some (.tuple (ns.map .int))
  | .ptp ns => some (.tuple (ns.map .int))
  | .dic _ => none
  | .dit _ => none
  | .obj _ _ => none
  | .drw _ _ _ => none
def toPyA : List D → Option (List PyData)
  | [] => some []
  | x :: r => match toPy x, toPyA r with
    | some p, some q => some (p :: q)
    | _, _ => none
end
def cutD (xs : List D) (lo hi : Option Int) : List D := (xs.drop (HT.sIx xs.length 0 lo)).take (HT.sIx xs.length xs.length hi - HT.sIx xs.length 0 lo)
def eqD (mo : Mo) (a b : D) : Option Bool :=
  match a, b with
  | .obj c fs, .obj c' fs' => if c = c' then match mo.me c 1 [.obj c fs, .obj c' fs'] with | some (.bl k) => some k | _ => none else none
  | .str x, .str y => some (decide (x = y))
  | .int x, .int y => some (decide (x = y))
  | .bl x, .bl y => some (decide (x = y))
  | a, b => match toPy a, toPy b with
    | some p, some q => if SeqAt.shaped p && SeqAt.shaped q then some (PyData.eqv p q) else none
    | _, _ => none
def memL (a b : D) : Option Bool :=
  match toPy a, toPy b with
  | some p, some (.list qs) => if SeqAt.shaped p && SeqAt.shaped (.list qs) then some (qs.any fun z => PyData.eqv z p) else none
  | _, _ => none
def keyO : D → Option Key
  | .int i => some (.inl i)
  | .str x => some (.inr x)
  | _ => none
def keysO : List D → Option (List Key)
  | [] => some []
  | x :: r => match keyO x, keysO r with
    | some k, some ks => some (k :: ks)
    | _, _ => none
def keysD : D → Option (List Key)
  | .tup xs => keysO xs
  | _ => none
def lookD {κ : Type} [DecidableEq κ] (f : D → Option κ) (k : κ) : List (D × D) → Option D
  | [] => none
  | (a, d) :: r => if f a = some k then some d else lookD f k r
/-- d[k]: what a dict says of a key -/
def dgetD (a k : D) : Option (Option D) := match a with
  | .dic kvs => (keyO k).map fun x => lookD keyO x kvs
  | .dit kvs => (keysD k).map fun x => lookD keysD x kvs
  | _ => none
def putD {κ : Type} [DecidableEq κ] (f : D → Option κ) (k : κ) (kd d : D) (kvs : List (D × D)) : List (D × D) :=
  if (kvs.any fun kv => decide (f kv.1 = some k)) = true then kvs.map (fun kv => if f kv.1 = some k then (kv.1, d) else kv) else kvs ++ [(kd, d)]
def memT (a b : D) : Option Bool := match a, b with
  | .int i, .tup xs => match intsD xs with
    | some ns => some (ns.any fun y => decide (y = i))
    | none => none
  | .int i, .ktp ns => some (ns.any fun y => decide (y = i))
  | a, b => memL a b
def memD (a b : D) : Option Bool := match dgetD b a with
  | some o => some o.isSome
  | none => memT a b
def isNonD : D → Bool
  | .non => true
  | _ => false
def cmpD (mo : Mo) (c : Cm) (a b : D) : Option D :=
  match c with
  | .eq => (eqD mo a b).map D.bl
  | .ne => (eqD mo a b).map fun k => D.bl (!k)
  | .lt => match a, b with | .int i, .int j => some (.bl (decide (i < j))) | .tup xs, .tup ys => (intsD xs).bind fun ns => (intsD ys).bind fun ms => some (.bl (HT.lexLt ns ms)) | _, _ => none
  | .le => match a, b with | .int i, .int j => some (.bl (decide (i ≤ j))) | _, _ => none
  | .gt => match a, b with | .int i, .int j => some (.bl (decide (j < i))) | _, _ => none
  | .ge => match a, b with | .int i, .int j => some (.bl (decide (j ≤ i))) | _, _ => none
  | .inn => (memD a b).map D.bl
  | .nin => (memD a b).map fun k => D.bl (!k)
  | .isN => match b with | .non => some (.bl (isNonD a)) | .bl y => (match a with | .bl x => some (.bl (decide (x = y))) | _ => none) | _ => none
  | .notN => match b with | .non => some (.bl (!isNonD a)) | .bl y => (match a with | .bl x => some (.bl (!decide (x = y))) | _ => none) | _ => none
/-- bounds of an int, told by its form (so that nothing is counted up where it is not known) -/
def inB (m : Nat) : Int → Bool
  | .ofNat n => Nat.ble n m
  | .negSucc n => Nat.ble n m
theorem inB_ok {m : Nat} {i : Int} (h : inB m i = true) : -((m : Int) + 1) ≤ i ∧ i ≤ (m : Int) := by
  cases i with
  | ofNat n => have := Nat.le_of_ble_eq_true h; simp only [Int.ofNat_eq_natCast]; omega
  | negSucc n => have := Nat.le_of_ble_eq_true h; omega
theorem inB_of {m : Nat} {i : Int} (h1 : -((m : Int) + 1) ≤ i) (h2 : i ≤ (m : Int)) : inB m i = true := by
  cases i with
  | ofNat n => exact Nat.ble_eq_true_of_le (by simp only [Int.ofNat_eq_natCast] at h2; omega)
  | negSucc n => exact Nat.ble_eq_true_of_le (by omega)
def small64B (i : Int) : Bool := inB 18446744073709551614 i
theorem small64_ok {i : Int} (h : small64B i = true) : -(2 ^ 64) < i ∧ i < 2 ^ 64 := by
  have := inB_ok h; omega
def binD (o : O2) (a b : D) : Option D :=
  match o with
  | .add => match a, b with
    | .int i, .int j => some (.int (i + j))
    | .tup xs, .tup ys => gtup (xs ++ ys)
    | .lst xs, .lst ys => glst (xs ++ ys)
    | .str x, .str y => if x.length + y.length ≤ LIM then some (.str (x ++ y)) else none
    | _, _ => none
  | .sub => match a, b with | .int i, .int j => some (.int (i - j)) | _, _ => none
  | .mul => match a, b with
    | .int i, .int j => if small64B i || small64B j then some (.int (i * j)) else none
    | .lst xs, .int k => if inB 9223372036854775807 k then glst (List.replicate k.toNat xs).flatten else none
    | .tup xs, .int k => if 0 < xs.length ∧ xs.length ≤ 1000 ∧ 1 ≤ k ∧ k ≤ 1000 then gtup (List.replicate k.toNat xs).flatten else none
    | _, _ => none
  | .fdiv => match a, b with | .int i, .int j => if decide (0 < j) && decide (j < 1073741824) then some (.int (i / j)) else none | _, _ => none
  | .mod => match a, b with | .int i, .int j => if decide (0 < j) then some (.int (i % j)) else none | _, _ => none
def lenD (mo : Mo) : D → Option D
  | .tup xs => some (.int xs.length)
  | .lst xs => some (.int xs.length)
  | .scr ns => some (.int ns.length)
  | .ptp ns => some (.int ns.length)
  | .dic kvs => some (.int kvs.length)
  | .dit kvs => some (.int kvs.length)
  | .str x => if x.length ≤ LIM then some (.int x.length) else none
  | .obj c fs => match mo.me c 0 [.obj c fs] with
    | some (.int k) => if decide (0 ≤ k) && decide (k < 2 ^ 63) then some (.int k) else none
    | _ => none
  | _ => none
def max2D : D → D → Option D
  | .int i, .int j => some (.int (if j > i then j else i))
  | _, _ => none
def min2D : D → D → Option D
  | .int i, .int j => some (.int (if j < i then j else i))
  | _, _ => none
def allD : D → Option D
  | .lst xs => (blsD xs).bind fun bs => some (.bl (bs.all id))
  | _ => none
def anyD : D → Option D
  | .lst xs => (blsD xs).bind fun bs => some (.bl (bs.any id))
  | _ => none
def absD : D → Option D
  | .int i => some (.int (if i < 0 then -i else i))
  | _ => none
def intD : D → Option D
  | .int i => some (.int i)
  | _ => none
def insT (x : List Int) : List (List Int) → List (List Int)
  | [] => [x]
  | y :: r => if lexI y x = true then y :: insT x r else x :: y :: r
def sortT : List (List Int) → List (List Int)
  | [] => []
  | x :: r => insT x (sortT r)
def tupI : D → Option (List Int)
  | .tup xs => match intsD xs with
    | some (n :: ns) => some (n :: ns)
    | _ => none
  | _ => none
def tupsI : List D → Option (List (List Int))
  | [] => some []
  | x :: r => match tupI x, tupsI r with
    | some p, some q => some (p :: q)
    | _, _ => none
def sortedD : D → Option D
  | .lst xs => match intsD xs with
    | some ns => some (.lst ((sortI ns).map D.int))
    | none => match tupsI xs with
      | some nss => some (.lst ((sortT nss).map fun ns => .tup (ns.map D.int)))
      | none => none
  | _ => none
def insU (x : Int) : List Int → List Int
  | [] => [x]
  | y :: r => if x < y then x :: y :: r else if x = y then y :: r else y :: insU x r
/-- the members of a list, ascending, each once -/
def uniqI : List Int → List Int
  | [] => []
  | x :: r => insU x (uniqI r)
def setK (k : SK) (ns : List Int) : Option D :=
  if ns.length ≤ 1000 then match k with
    | .srt => if (uniqI ns).length < 64 then some (.lst ((uniqI ns).map D.int)) else none
    | .len => some (.int (uniqI ns).length)
  else none
/-- tuple(d): a plain one is itself -/
def tupleD : D → Option D
  | .ptp ns => some (.ptp ns)
  | d => (itemsD d).map D.tup
/-- a tuple of ints that is known whole, made of d -/
def ptuD : D → Option D
  | .ptp ns => some (.ptp ns)
  | .lst xs => (intsD xs).bind fun ns => some (.ptp ns)
  | .tup xs => some (.tup xs)
  | _ => none
def cntD : D → D → Option D
  | .ptp ns, .int j => some (.int (ns.count j : Nat))
  | _, _ => none
def biD (mo : Mo) (f : BI) (ds : List D) : Option D :=
  match f, ds with
  | .len, [d] => lenD mo d
  | .sum, [d] => (itemsD d).bind fun xs => (intsD xs).bind fun ns => some (.int ns.sum)
  | .max, [d] => (itemsD d).bind fun xs => (intsD xs).bind fun ns => if 0 < ns.length then some (.int (maxI ns)) else none
  | .min, [d] => (itemsD d).bind fun xs => (intsD xs).bind fun ns => if 0 < ns.length then some (.int (minI ns)) else none
  | .max, [d, d'] => max2D d d'
  | .min, [d, d'] => min2D d d'
  | .all, [d] => allD d
  | .any, [d] => anyD d
  | .abs, [d] => absD d
  | .int, [d] => intD d
  | .list, [d] => (itemsD d).map D.lst
  | .tuple, [d] => tupleD d
  | .sorted, [d] => sortedD d
  | .gcd, [.int i, .int j] => some (.int ((Nat.gcd i.natAbs j.natAbs : Nat) : Int))
  | _, _ => none
def idxD (mo : Mo) (a i : D) : Option D :=
  match a, i with
  | .tup xs, .int i => atI xs i
  | .lst xs, .int i => atI xs i
  | .scr ns, .int i => (atI ns i).map D.int
  | .ptp ns, .int i => (atI ns i).map D.int
  | .obj c fs, d => mo.me c 2 [.obj c fs, d]
  | .dic kvs, d => (dgetD (.dic kvs) d).bind id
  | .dit kvs, d => (dgetD (.dit kvs) d).bind id
  | _, _ => none
def oI : Option D → Option (Option Int)
  | none => some none
  | some (.int i) => some (some i)
  | some _ => none
def slcD (a : D) (lo hi : Option Int) : Option D :=
  match a with
  | .tup xs => some (.tup (cutD xs lo hi))
  | .ptp ns => some (.ptp ((ns.drop (HT.sIx ns.length 0 lo)).take (HT.sIx ns.length ns.length hi - HT.sIx ns.length 0 lo)))
  | .lst xs => some (.lst (cutD xs lo hi))
  | .scr ns => some (.lst (cutD (ns.map D.int) lo hi))
  | _ => none
def revD : D → Option D
  | .tup xs => some (.tup xs.reverse)
  | .lst xs => some (.lst xs.reverse)
  | .scr ns => some (.lst (ns.map D.int).reverse)
  | _ => none
def fldD (mo : Mo) (k : Nat) : D → Option D
  | .obj c fs => if mo.fl c k = true then fs.lookup k else none
  | _ => none
def tyD : D → Ty
  | .non => .bi "NoneType"
  | .bl _ => .bi "bool"
  | .int _ => .bi "int"
  | .str _ => .bi "str"
  | .tup _ => .bi "tuple"
  | .lst _ => .bi "list"
  | .scr _ => .bi "list"
  | .ktp _ => .bi "tuple"
  | .ptp _ => .bi "tuple"
  | .dic _ => .bi "dict"
  | .dit _ => .bi "dict"
  | .obj c _ => .own c
  | .drw _ _ _ => .unk
def isiD (mo : Mo) (t : Ty) : List Ty → Option Bool
  | [] => match t with
    | .unk => none
    | _ => some false
  | c :: r => match mo.isi t c with
    | some true => some true
    | some false => isiD mo t r
    | none => none
def wipeO (ρ : Rho) : List Nat → Rho
  | [] => ρ
  | v :: vs => (wipeO ρ vs).set v none
mutual
def bindT : T → D → Rho → Option Rho
  | .nm i, d, ρ => some (ρ.set i (some d))
  | .tp ts, d, ρ => match d with
    | .tup xs => bindTs ts xs ρ
    | _ => none
def bindTs : Ts → List D → Rho → Option Rho
  | .nil, [], ρ => some ρ
  | .cons t r, d :: ds, ρ => (bindT t d ρ).bind (bindTs r ds)
  | _, _, _ => none
end
def mapO (f : D → Option (Option D)) : List D → Option (List D)
  | [] => some []
  | x :: xs => (f x).bind fun o => (mapO f xs).bind fun r => some (match o with | some y => y :: r | none => r)
def flatO (f : D → Option (List D)) : List D → Option (List D)
  | [] => some []
  | x :: xs => (f x).bind fun o => (flatO f xs).bind fun r => some (o ++ r)
def tB (t : Option D) : Option Bool := match t with | some (.bl b) => some b | _ => none
def rngD (lo : Int) (n : Nat) : List D := (List.range n).map fun i => .int (lo + (i : Nat))
def dwnD (hi : Int) (n : Nat) : List D := (List.range n).map fun i => .int (hi + (i : Nat) * (-1))
def zipD : List D → List D → List D
  | x :: xs, y :: ys => .tup [x, y] :: zipD xs ys
  | _, _ => []
def zip3D : List D → List D → List D → List D
  | x :: xs, y :: ys, z :: zs => .tup [x, y, z] :: zip3D xs ys zs
  | _, _, _ => []
def enuD : Nat → List D → List D
  | _, [] => []
  | n, x :: xs => .tup [.int (n : Nat), x] :: enuD (n + 1) xs
/-- the ints i, i + k, .. before j, k > 0 -/
def stpN (i j k : Int) : Nat := if i < j then ((j - i - 1) / k + 1).toNat else 0
def stpD (i k : Int) (n : Nat) : List D := (List.range n).map fun m => D.int (i + (m : Nat) * k)
def fitsB (i : Int) : Bool := inB 4611686018427387903 i
mutual
def ev (mo : Mo) : E → Rho → Option D
  | .var i, ρ => match ρ[i]? with | some (some d) => some d | _ => none
  | .cint i, _ => some (.int i)
  | .cbl b, _ => some (.bl b)
  | .cnon, _ => some .non
  | .cstr x, _ => some (.str x)
  | .cktp ns, _ => some (.ktp ns)
  | .bin o a b, ρ => (ev mo a ρ).bind fun x => (ev mo b ρ).bind fun y => binD o x y
  | .neg a, ρ => (ev mo a ρ).bind fun x => match x with | .int i => some (.int (-i)) | _ => none
  | .not a, ρ => (ev mo a ρ).bind fun x => match x with | .bl k => some (.bl (!k)) | _ => none
  | .and a b, ρ => (ev mo a ρ).bind fun x => match x with | .bl k => if k = true then ev mo b ρ else some (.bl false) | _ => none
  | .or a b, ρ => (ev mo a ρ).bind fun x => match x with | .bl k => if k = true then some (.bl true) else ev mo b ρ | _ => none
  | .cmp c a b, ρ => (ev mo a ρ).bind fun x => (ev mo b ρ).bind fun y => cmpD mo c x y
  | .chn c c' a b d, ρ => (ev mo a ρ).bind fun x => (ev mo b ρ).bind fun y => (cmpD mo c x y).bind fun t => match t with
    | .bl k => if k = true then (ev mo d ρ).bind fun z => cmpD mo c' y z else some (.bl false)
    | _ => none
  | .ite c a b, ρ => (ev mo c ρ).bind fun x => match x with | .bl k => if k = true then ev mo a ρ else ev mo b ρ | _ => none
  | .tup es, ρ => (evs mo es ρ).bind gtup
  | .lst es, ρ => (evs mo es ρ).bind glst
  | .emp t, _ => some (if t then .dit [] else .dic [])
  | .idx a i, ρ => (ev mo a ρ).bind fun x => (ev mo i ρ).bind fun y => idxD mo x y
  | .slc a lo hi, ρ => (ev mo a ρ).bind fun x => (evo mo lo ρ).bind fun l => (evo mo hi ρ).bind fun h => slcD x l h
  | .rev a, ρ => (ev mo a ρ).bind revD
  | .tcn a b, ρ => (ev mo a ρ).bind fun x => (ev mo b ρ).bind fun y => cntD x y
  | .ptu a, ρ => (ev mo a ρ).bind ptuD
  | .fld a k, ρ => (ev mo a ρ).bind (fldD mo k)
  | .bi f es, ρ => (evs mo es ρ).bind (biD mo f)
  | .lz a b, ρ => (ev mo a ρ).bind fun x => (ev mo b ρ).bind fun y => (itemsD x).bind fun xs => (itemsD y).bind fun ys => if min xs.length ys.length ≤ 1000 then some (.lst (zipD xs ys)) else none
  | .lz3 a b d, ρ => (ev mo a ρ).bind fun x => (ev mo b ρ).bind fun y => (ev mo d ρ).bind fun z => (itemsD x).bind fun xs => (itemsD y).bind fun ys => (itemsD z).bind fun zs => if min (min xs.length ys.length) zs.length ≤ 1000 then some (.lst (zip3D xs ys zs)) else none
  | .isi a ts, ρ => (ev mo a ρ).bind fun x => (isiD mo (tyD x) ts).map D.bl
  | .call k es, ρ => (evs mo es ρ).bind (mo.fn k)
  | .mk c es, ρ => (evs mo es ρ).bind (mo.mkD c)
  | .me m a es, ρ => (ev mo a ρ).bind fun x => (evs mo es ρ).bind fun ds => match x with | .obj c fs => if fs.lookup m = none then mo.me c m (.obj c fs :: ds) else none | _ => none
  | .lc t it c e vs, ρ => (evI mo it ρ).bind fun xs => (mapO (fun x => (bindT t x (wipeO ρ vs)).bind fun ρ2 => (tB (ev mo c ρ2)).bind fun k => if k = true then (ev mo e ρ2).map some else some none) xs).bind glst
  | .lc2 t it c t1 it1 c1 e vs vs1, ρ => (evI mo it ρ).bind fun xs => (flatO (fun x => (bindT t x (wipeO ρ vs)).bind fun ρ2 => (tB (ev mo c ρ2)).bind fun k => if k = true then
        (evI mo it1 ρ2).bind fun ys => mapO (fun y => (bindT t1 y (wipeO ρ2 vs1)).bind fun ρ3 => (tB (ev mo c1 ρ3)).bind fun k1 => if k1 = true then (ev mo e ρ3).map some else some none) ys
      else some []) xs).bind glst
  | .sc k t it c e vs, ρ => (evI mo it ρ).bind fun xs => (mapO (fun x => (bindT t x (wipeO ρ vs)).bind fun ρ2 => (tB (ev mo c ρ2)).bind fun k => if k = true then (ev mo e ρ2).map some else some none) xs).bind fun ys => (intsD ys).bind (setK k)
  | .sc2 t it c t1 it1 c1 e vs vs1, ρ => (evI mo it ρ).bind fun xs => (flatO (fun x => (bindT t x (wipeO ρ vs)).bind fun ρ2 => (tB (ev mo c ρ2)).bind fun k => if k = true then
        (evI mo it1 ρ2).bind fun ys => mapO (fun y => (bindT t1 y (wipeO ρ2 vs1)).bind fun ρ3 => (tB (ev mo c1 ρ3)).bind fun k1 => if k1 = true then (ev mo e ρ3).map some else some none) ys
      else some []) xs).bind fun ys => (intsD ys).bind (setK .srt)
  | .sset a, ρ => (ev mo a ρ).bind fun x => (itemsD x).bind fun xs => (intsD xs).bind (setK .srt)
  | .lrg it, ρ => (evI mo it ρ).bind glst
  | .lrs a b c, ρ => (ev mo a ρ).bind fun x => (ev mo b ρ).bind fun y => (ev mo c ρ).bind fun z => match x, y, z with | .int i, .int j, .int k => if inB 1000000 i && inB 1000000 j && (decide (0 < k) && inB 1000000 k) then glst (stpD i k (stpN i j k)) else none | _, _, _ => none
def evs (mo : Mo) : Es → Rho → Option (List D)
  | .nil, _ => some []
  | .cons e r, ρ => (ev mo e ρ).bind fun x => (evs mo r ρ).bind fun xs => some (x :: xs)
def evo (mo : Mo) : Eo → Rho → Option (Option Int)
  | .non, _ => some none
  | .som e, ρ => (ev mo e ρ).bind fun x => match x with | .int i => some (some i) | _ => none
def evI (mo : Mo) : I → Rho → Option (List D)
  | .of e, ρ => (ev mo e ρ).bind itemsD
  | .rng1 a, ρ => (ev mo a ρ).bind fun x => match x with | .int j => if fitsB j then some (rngD 0 j.toNat) else none | _ => none
  | .rngd a b c, ρ => (ev mo a ρ).bind fun x => (ev mo b ρ).bind fun y => (ev mo c ρ).bind fun z => match x, y, z with | .int i, .int j, .int k => if (fitsB i && fitsB j) && decide (k = -1) then some (dwnD i (i - j).toNat) else none | _, _, _ => none
  | .rng2 a b, ρ => (ev mo a ρ).bind fun x => (ev mo b ρ).bind fun y => match x, y with | .int i, .int j => if fitsB i && fitsB j then some (rngD i (j - i).toNat) else none | _, _ => none
  | .zip2 a b, ρ => (ev mo a ρ).bind fun x => (ev mo b ρ).bind fun y => (itemsD x).bind fun xs => (itemsD y).bind fun ys => some (zipD xs ys)
  | .zip3 a b c, ρ => (ev mo a ρ).bind fun x => (ev mo b ρ).bind fun y => (ev mo c ρ).bind fun z => (itemsD x).bind fun xs => (itemsD y).bind fun ys => (itemsD z).bind fun zs => some (zip3D xs ys zs)
  | .enu a, ρ => (ev mo a ρ).bind fun x => (itemsD x).bind fun xs => some (enuD 0 xs)
end
/-! ### statements -/
inductive Sl where | no | va (d : D) | ow (d : D)
abbrev Ro := List Sl
inductive Out where | nx (ρ : Ro) | rt (d : D) | bk (ρ : Ro) | ct (ρ : Ro)
/-- how an expression sees the slots that are owned: those of us are seen, and given up unless keep -/
structure Md where
  us : List Nat
  keep : Bool
  deriving DecidableEq, Repr
inductive S where
  | nop | seq (a b : S)
  | set (i : Nat) (m : Md) (e : E) | own (i : Nat) (m : Md) (e : E)
  | tgt (t : T) (m : Md) (e : E)
  | par (i j : Nat) (oi oj : Bool) (m : Md) (a b : E)
  | aug (i : Nat) (o : O2) (m : Md) (e : E)
  | sau (i : Nat) (o : O2) (m : Md) (x e : E)
  | app (i : Nat) (m : Md) (e : E) | ext (i : Nat) (m : Md) (e : E) | sto (i : Nat) (m : Md) (x e : E)
  | fld (k : Nat) (m : Md) (e : E)
  | drop (m : Md) (e : E) | ret (e : E) | retN
  | ife (m : Md) (c : E) (a b : S) | whl (m : Md) (c : E) (b : S)
  | for (t : T) (us : List Nat) (it : I) (b : S) | brk | cnt | bad
def seen (us : List Nat) : Nat → Ro → Rho
  | _, [] => []
  | n, s :: r => (match s with | .no => none | .va d => some d | .ow d => if n ∈ us then some d else none) :: seen us (n + 1) r
def given (us : List Nat) : Nat → Ro → Ro
  | _, [] => []
  | n, s :: r => (match s with | .ow d => if n ∈ us then Sl.va d else s | s => s) :: given us (n + 1) r
mutual
def flatD : D → Bool
  | .non => true
  | .bl _ => true
  | .int _ => true
  | .str _ => true
  | .tup xs => flatDs xs
  | .ptp _ => true
  | _ => false
def flatDs : List D → Bool
  | [] => true
  | x :: r => flatD x && flatDs r
end
def flatI : D → Bool
  | .lst xs => flatDs xs
  | _ => false
/-- an expression's value, and the slots behind it -/
def evM (mo : Mo) (m : Md) (e : E) (ρ : Ro) : Option (D × Ro) :=
  (ev mo e (seen m.us 0 ρ)).bind fun d => if m.keep then (if flatD d then some (d, ρ) else none) else some (d, given m.us 0 ρ)
def ownable : D → Bool
  | .lst _ => true
  | .dic _ => true
  | .dit _ => true
  | _ => false
def evN (mo : Mo) (m : Md) (e : E) (ρ : Ro) : Option (D × Ro) :=
  (ev mo e (seen m.us 0 ρ)).bind fun d => if ownable d = false then none else if m.keep then (if flatI d then some (d, ρ) else none) else some (d, given m.us 0 ρ)
mutual
def bindS : T → D → Ro → Option Ro
  | .nm i, d, ρ => some (ρ.set i (.va d))
  | .tp ts, d, ρ => match d with
    | .tup xs => bindSs ts xs ρ
    | _ => none
def bindSs : Ts → List D → Ro → Option Ro
  | .nil, [], ρ => some ρ
  | .cons t r, d :: ds, ρ => (bindS t d ρ).bind (bindSs r ds)
  | _, _, _ => none
end
def FUEL : Nat := 1000000
def loopW (c : Ro → Option (Bool × Ro)) (b : Ro → Option Out) : Nat → Ro → Option Out
  | 0, _ => none
  | n + 1, ρ => (c ρ).bind fun t => if t.1 = true then (b t.2).bind fun o => match o with
      | .nx ρ' => loopW c b n ρ'
      | .ct ρ' => loopW c b n ρ'
      | .bk ρ' => some (.nx ρ')
      | .rt d => some (.rt d)
    else some (.nx t.2)
def loopF (g : D → Ro → Option Ro) (b : Ro → Option Out) : List D → Ro → Option Out
  | [], ρ => some (.nx ρ)
  | x :: xs, ρ => (g x ρ).bind fun ρ1 => (b ρ1).bind fun o => match o with
    | .nx ρ' => loopF g b xs ρ'
    | .ct ρ' => loopF g b xs ρ'
    | .bk ρ' => some (.nx ρ')
    | .rt d => some (.rt d)
def tBM (x : Option (D × Ro)) : Option (Bool × Ro) := match x with | some (.bl b, ρ) => some (b, ρ) | _ => none
def ex (mo : Mo) : S → Ro → Option Out
  | .nop, ρ => some (.nx ρ)
  | .seq a b, ρ => (ex mo a ρ).bind fun o => match o with | .nx ρ' => ex mo b ρ' | o => some o
  | .set i m e, ρ => (evM mo m e ρ).bind fun r => some (.nx (r.2.set i (.va r.1)))
  | .own i m e, ρ => (evN mo m e ρ).bind fun r => some (.nx (r.2.set i (.ow r.1)))
  | .tgt t m e, ρ => (evM mo m e ρ).bind fun r => (bindS t r.1 r.2).bind fun ρ' => some (.nx ρ')
  | .par i j oi oj m a b, ρ => ((if oi then evN else evM) mo m a ρ).bind fun r => ((if oj then evN else evM) mo m b ρ).bind fun q =>
      some (.nx ((q.2.set i (if oi then .ow r.1 else .va r.1)).set j (if oj then .ow q.1 else .va q.1)))
  | .aug i o m e, ρ => match ρ[i]? with
    | some (.va (.int x)) => (evM mo m e ρ).bind fun r => match r.1 with
      | .int y => (binD o (.int x) (.int y)).bind fun z => some (.nx (r.2.set i (.va z)))
      | _ => none
    | _ => none
  | .sau i o m x e, ρ => (ev mo x (seen m.us 0 ρ)).bind fun k => (ev mo e (seen m.us 0 ρ)).bind fun v => match ρ[i]?, k, v with
    | some (.ow (.lst xs)), .int k, .int y => if 0 ≤ k then (match xs[k.toNat]? with
        | some (.int a) => (match o with
          | .add => some (.nx (ρ.set i (.ow (.lst (xs.set k.toNat (.int (a + y)))))))
          | .sub => some (.nx (ρ.set i (.ow (.lst (xs.set k.toNat (.int (a - y)))))))
          | _ => none)
        | _ => none) else none
    | _, _, _ => none
  | .app i m e, ρ => (evM mo m e ρ).bind fun r => match r.2[i]? with
    | some (.ow (.lst xs)) => if xs.length < LIM then some (.nx (r.2.set i (.ow (.lst (xs ++ [r.1]))))) else none
    | _ => none
  | .ext i m e, ρ => (evN mo m e ρ).bind fun r => match r.2[i]?, r.1 with
    | some (.ow (.lst xs)), .lst ys => if xs.length + ys.length ≤ LIM then some (.nx (r.2.set i (.ow (.lst (xs ++ ys))))) else none
    | _, _ => none
  | .sto i m x e, ρ => (evM mo m e ρ).bind fun r => (ev mo x (seen m.us 0 r.2)).bind fun k => match r.2[i]?, k with
    | some (.ow (.lst xs)), .int k => (ixN xs.length k).bind fun j => some (.nx (r.2.set i (.ow (.lst (xs.set j r.1)))))
    | some (.ow (.dic [])), .tup xs => (keysO xs).bind fun _ => some (.nx (r.2.set i (.ow (.dit [(.tup xs, r.1)]))))
    | some (.ow (.dic kvs)), k => (keyO k).bind fun x => if kvs.length < LIM then some (.nx (r.2.set i (.ow (.dic (putD keyO x k r.1 kvs))))) else none
    | some (.ow (.dit kvs)), k => (keysD k).bind fun x => if kvs.length < LIM then some (.nx (r.2.set i (.ow (.dit (putD keysD x k r.1 kvs))))) else none
    | _, _ => none
  | .fld k m e, ρ => (evM mo m e ρ).bind fun r => match (r.2[0]? : Option Sl) with
    | some (.ow (.obj c fs)) => if fs.lookup k = none ∧ fs.length < 100 ∧ mo.fl c k = true then some (.nx (r.2.set 0 (.ow (.obj c (fs ++ [(k, r.1)]))))) else none
    | _ => none
  | .drop m e, ρ => (ev mo e (seen m.us 0 ρ)).bind fun _ => some (.nx ρ)
  | .ret e, ρ => (ev mo e (seen (List.range ρ.length) 0 ρ)).bind fun d => some (.rt d)
  | .retN, ρ => some (.rt .non)
  | .ife m c a b, ρ => (tB (ev mo c (seen m.us 0 ρ))).bind fun k => if k = true then ex mo a ρ else ex mo b ρ
  | .whl m c b, ρ => loopW (fun ρ => (tB (ev mo c (seen m.us 0 ρ))).map fun k => (k, ρ)) (ex mo b) FUEL ρ
  | .for t us it b, ρ => (evI mo it (seen us 0 ρ)).bind fun xs => loopF (bindS t) (ex mo b) xs (given us 0 ρ)
  | .brk, ρ => some (.bk ρ)
  | .cnt, ρ => some (.ct ρ)
  | .bad, _ => none
end PV
namespace PV
open PySem PySem.Spec PyProof.Rows L2 BK
theorem lim_line {n : Nat} (h : n ≤ LIM) : n < sizeLine := by rw [sizeLine_eq]; unfold LIM at h; omega
theorem _root_.L2.PE.imp {X : Cx} {e : Expr} {t t' : TE} (h : PE X e t) (w : ∀ σ H Q, t' σ H Q → t σ H Q) : PE X e t' := ⟨fun pins s σ H Q I q => h.run pins s σ H Q I (w σ H Q q)⟩
theorem _root_.L2.PT.imp {X : Cx} {e : Expr} {t t' : TT} (h : PT X e t) (w : ∀ σ H Q, t' σ H Q → t σ H Q) : PT X e t' := ⟨fun pins s σ H Q I q => h.run pins s σ H Q I (w σ H Q q)⟩
theorem _root_.L2.PW.imp {X : Cx} {e : Expr} {t t' : TT} (h : PW X e t) (w : ∀ σ H Q, t' σ H Q → t σ H Q) : PW X e t' := ⟨fun wh pins s σ H Q I q => h.run wh pins s σ H Q I (w σ H Q q)⟩
theorem _root_.L2.PA.imp {X : Cx} {e : List Expr} {t t' : TA} (h : PA X e t) (w : ∀ σ H Q, t' σ H Q → t σ H Q) : PA X e t' := ⟨fun p pins s σ H Q I q => h.run p pins s σ H Q I (w σ H Q q)⟩
theorem _root_.L2.PO.imp {X : Cx} {e : Option Expr} {t t' : TO} (h : PO X e t) (w : ∀ σ H Q, t' σ H Q → t σ H Q) : PO X e t' := ⟨fun pins s σ H Q I q => h.run pins s σ H Q I (w σ H Q q)⟩
theorem _root_.L2.PI.imp {X : Cx} {tg e : Expr} {t t' : TI} (h : PI X tg e t) (w : ∀ σ H Q, t' σ H Q → t σ H Q) : PI X tg e t' := ⟨fun pins s σ H Q I q => h.run pins s σ H Q I (w σ H Q q)⟩
theorem _root_.L2.PS.imp {X : Cx} {e : Stmt} {t t' : TS} (h : PS X e t) (w : ∀ D σ H, t' D σ H → t D σ H) : PS X e t' := ⟨fun pins s σ H Q I q => h.run pins s σ H Q I (w Q σ H q)⟩
theorem _root_.L2.PSs.imp {X : Cx} {e : List Stmt} {t t' : TS} (h : PSs X e t) (w : ∀ D σ H, t' D σ H → t D σ H) : PSs X e t' := ⟨fun pins s σ H Q I q => h.run pins s σ H Q I (w Q σ H q)⟩
/-- by cases: any of a family -/
theorem _root_.L2.PE.ex {ι : Sort _} {X : Cx} {e : Expr} {t : ι → TE} (h : ∀ i, PE X e (t i)) : PE X e (fun σ H Q => ∃ i, t i σ H Q) := ⟨fun pins s σ H Q I q => let ⟨i, q⟩ := q; (h i).run pins s σ H Q I q⟩
theorem _root_.L2.PE.orE {X : Cx} {e : Expr} {t t' : TE} (h : PE X e t) (h' : PE X e t') : PE X e (fun σ H Q => t σ H Q ∨ t' σ H Q) := ⟨fun pins s σ H Q I q => q.elim (h.run pins s σ H Q I) (h'.run pins s σ H Q I)⟩
/-! ### names -/
structure RV (G : Gm) (S : Addr → Prop) (H : Hp) (ρ : Rho) (σ : L2.St) : Prop where
  len : σ.length = ρ.length
  dom : Dom S H
  get : ∀ (i : Nat) (d : D), ρ[i]? = some (some d) → ∃ v, σ[i]? = some (some v) ∧ Rp G S H v d
section
variable {G : Gm} {S : Addr → Prop} {H H' : Hp} {ρ : Rho} {σ : L2.St} {mo : Mo}
theorem RV.same (r : RV G S H ρ σ) (s : Same H H') : RV G S H' ρ σ := ⟨r.len, r.dom.same s, fun i d e => let ⟨v, h1, h2⟩ := r.get i d e; ⟨v, h1, h2.same s⟩⟩
def tE (G : Gm) (mo : Mo) (e : E) : TE := fun σ H Q => ∃ S ρ d, RV G S H ρ σ ∧ ev mo e ρ = some d ∧ ∀ v H', Same H H' → Rp G S H' v d → Q v H'
def tT (G : Gm) (mo : Mo) (e : E) : TT := fun σ H Q => ∃ S ρ b, RV G S H ρ σ ∧ ev mo e ρ = some (.bl b) ∧ ∀ H', Same H H' → Q b H'
def tA (G : Gm) (mo : Mo) (es : Es) : TA := fun σ H Q => ∃ S ρ ds, RV G S H ρ σ ∧ evs mo es ρ = some ds ∧ ∀ vs H', Same H H' → RpA G S H' vs ds → Q vs H'
def tO (G : Gm) (mo : Mo) (e : Eo) : TO := fun σ H Q => ∃ S ρ o, RV G S H ρ σ ∧ evo mo e ρ = some o ∧ ∀ H', Same H H' → Q o H'
variable {e : E} {es : Es} {d : D} {Q : VK}
theorem tE_run (r : RV G S H ρ σ) (e1 : ev mo e ρ = some d) (q : ∀ v H', Same H H' → RV G S H' ρ σ → Rp G S H' v d → Q v H') : tE G mo e σ H Q := ⟨S, ρ, d, r, e1, fun v H' s h => q v H' s (r.same s) h⟩
theorem tT_run {b : Bool} {Q : Bool → Hp → Prop} (r : RV G S H ρ σ) (e1 : ev mo e ρ = some (.bl b)) (q : ∀ H', Same H H' → RV G S H' ρ σ → Q b H') : tT G mo e σ H Q := ⟨S, ρ, b, r, e1, fun H' s => q H' s (r.same s)⟩
theorem tA_run {ds : List D} {Q : List V → Hp → Prop} (r : RV G S H ρ σ) (e1 : evs mo es ρ = some ds) (q : ∀ vs H', Same H H' → RV G S H' ρ σ → RpA G S H' vs ds → Q vs H') : tA G mo es σ H Q := ⟨S, ρ, ds, r, e1, fun v H' s h => q v H' s (r.same s) h⟩
theorem tO_run {e : Eo} {o : Option Int} {Q : Option Int → Hp → Prop} (r : RV G S H ρ σ) (e1 : evo mo e ρ = some o) (q : ∀ H', Same H H' → RV G S H' ρ σ → Q o H') : tO G mo e σ H Q := ⟨S, ρ, o, r, e1, fun H' s => q H' s (r.same s)⟩
theorem fresh_ns (dom : Dom S H) {p : Addr} (np : H p = none) : ¬ S p := dom.free np
theorem new_tup (dom : Dom S H) {p : Addr} {vs : List V} {ds : List D} (np : H p = none) (h : RpA G S H vs ds) : Rp G S (upd H p (.tup vs)) (.ref p) (.tup ds) :=
  .tup (fresh_ns dom np) upd_same (h.same fun b o e => by rw [upd_ne (ne_of_none e np)]; exact e)
theorem new_lst (dom : Dom S H) {p : Addr} {vs : List V} {ds : List D} (np : H p = none) (h : RpA G S H vs ds) : Rp G S (upd H p (.lst vs)) (.ref p) (.lst ds) :=
  .lst (fresh_ns dom np) upd_same (h.same fun b o e => by rw [upd_ne (ne_of_none e np)]; exact e)
theorem same_new {p : Addr} {o : HO} (np : H p = none) : Same H (upd H p o) := fun b u e => by rw [upd_ne (ne_of_none e np)]; exact e
theorem RV.dom' (r : RV G S H ρ σ) (s : Same H H') : Dom S H' := (r.same s).dom
end
/-! ### what the program has -/
def spD (G : Gm) (n : Nat) (f : List D → Option D) : Sp := fun vs H Q _ => vs.length = n ∧ ∃ S ds d, Dom S H ∧ RpA G S H vs ds ∧ f ds = some d ∧ ∀ v H', Same H H' → Rp G S H' v d → Q v H'
/-- an __init__: its object is new at x; fs: the attributes that it writes -/
def spI (G : Gm) (n : Nat) (c : Nat) (f : List D → Option D) : Sp := fun vs H Q _ => vs.length = n ∧ ∃ S x C dx ws ds fs, vs = .ref x :: ws ∧ Dom S H ∧ ¬ S x ∧ G.cls c = some C ∧ H x = some (.ins C dx []) ∧
  RpA G (fun a => S a ∨ a = x) H ws ds ∧ f ds = some (.obj c fs) ∧ ∀ H', (∀ b o, b ≠ x → H b = some o → H' b = some o) → Rp G S H' (.ref x) (.obj c fs) → Q .non H'
structure Has (X : Cx) (G : Gm) (n : Nat) (g : List D → Option D) (f : Addr) (fd : FuncData) (ps : List Str) : Prop where
  ok : FnOk X.prog X.w X.K X.mg X.base CX0 n f fd ps (spD G ps.length g)
  ar : ∀ ds d, g ds = some d → ds.length = ps.length
  b : Binds X.K fd ps []
  kp : PySem.W.keepIn X.K (.ref f) = true
structure HasI (X : Cx) (G : Gm) (n c : Nat) (g : List D → Option D) (f : Addr) (fd : FuncData) (ps : List Str) : Prop where
  ok : FnOk X.prog X.w X.K X.mg X.base CX0 n f fd ps (spI G ps.length c g)
  ar : ∀ ds d, g ds = some d → ds.length + 1 = ps.length ∧ ∃ fs, d = .obj c fs
  b : Binds X.K fd ps []
def tyVal (G : Gm) : Ty → Option Value
  | .bi n => some (.type n)
  | .own c => (G.cls c).map Value.ref
  | .unk => none
/-- what != of a class without __ne__ leans on -/
def NeX (K : PySem.W.Frag) (C : Addr) : Prop := PySem.W.findIn K (.ref C) "__ne__" = some (some (.builtin "object.__ne__")) ∧
  ∃ (nm q : Str) (N : Addr) (bs bm : List Value) (hdct : Bool) (sn : List Str) (sub : List Value) (ab : Bool) (col : Option Bool) (dd : Option Addr) (k0 k1 k2 k3 k5 : Option Value) (newId : String),
    K.lookup C = some (excClassObj nm q C N bs bm hdct sn sub ab col dd k0 k1 k2 k3 k5 newId) ∧ bm.contains (.type "object") = true
structure ClsF (K : PySem.W.Frag) (C : Addr) : Prop where
  cl : Cls K C
  ha : PySem.W.findIn K (.ref C) "__class__" = some (some (.builtin "object.__class__"))
  hn : PySem.W.specialIn K (.builtin "object.__class__") "__get__" = some (some (.builtin "getset_descriptor.__get__"))
  htk : PySem.W.takesIn K (.builtin "object.__class__") = some true
  hm : PySem.W.mroIn K C (.type "object") = some true
def BN : List Str := ["len", "sum", "min", "max", "all", "any", "abs", "int", "list", "tuple", "sorted", "zip", "range", "enumerate", "isinstance", "bool", "str", "dict", "set"]
/-- the names of the text, as the terms number them -/
structure Nm where
  imps : List (Str × String)
  fns : List (Str × Nat)
  cls : List (Str × Nat)
  csts : List (Str × E)
structure MoOk (X : Cx) (G : Gm) (Γ : Nm) (mo : Mo) (n : Nat) : Prop where
  K : X.K = G.K
  calm : X.calm = true
  nd : X.N.Nodup
  room : Room (n + 2) X.A
  bl : ∀ x ∈ BN, X.mg x = none
  an0 : G.an 0 = "__len__"
  an1 : G.an 1 = "__eq__"
  an2 : G.an 2 = "__getitem__"
  inj : ∀ i j, G.an i = G.an j → i = j
  imp : ∀ x id, (x, id) ∈ Γ.imps → X.mg x = some (.builtin id)
  fn : ∀ x k, (x, k) ∈ Γ.fns → ∃ f fd ps, Has X G n (mo.fn k) f fd ps ∧ X.mg x = some (.ref f)
  mkc : ∀ x c, (x, c) ∈ Γ.cls → ∃ C, G.cls c = some C ∧ X.mg x = some (.ref C) ∧ ((∃ ds d, mo.mkD c ds = some d) → ∃ f fd ps, Mk X.K C f ∧ HasI X G n c (mo.mkD c) f fd ps)
  cl : ∀ c C, G.cls c = some C → ClsF X.K C
  na : ∀ c C k, G.cls c = some C → mo.fl c k = true → NoAttr X.K C (G.an k)
  me : ∀ c m ds d, mo.me c m ds = some d → ∃ C f fd ps, G.cls c = some C ∧ Has X G n (mo.me c m) f fd ps ∧ Meth X.K C (G.an m) f ∧ PySem.W.fnIn X.K f = true ∧ (m = 1 → NeX X.K C)
  isi : ∀ t c b, mo.isi t c = some b → ∃ u v, tyVal G t = some u ∧ tyVal G c = some v ∧ PySem.W.kitOne X.K u v = some b
  cst : ∀ x e, (x, e) ∈ Γ.csts → match e with
    | .cint i => ∃ t, X.mg x = some (.int i t)
    | .cstr z => ∃ t, X.mg x = some (.str z t)
    | .cktp ns => ∃ a, X.mg x = some (.ref a) ∧ SqT G.K none_H a (ns.map V.int)
    | _ => False
end PV
namespace PV
open PySem PySem.Spec PyProof.Rows L2 BK
section
variable {G : Gm} {S : Addr → Prop} {H H' : Hp}
theorem keyO_kD {d : D} {k : Key} (h : keyO d = some k) : d = kD k := by
  cases d <;> simp [keyO] at h <;> subst h <;> rfl
theorem kD_keyO (k : Key) : keyO (kD k) = some k := by cases k <;> rfl
theorem keysO_kD : ∀ {ds : List D} {ks : List Key}, keysO ds = some ks → ds = ks.map kD
  | [], _, h => by simp [keysO] at h; subst h; rfl
  | x :: r, ks, h => by
    unfold keysO at h
    split at h
    · rename_i k ks' e1 e2
      cases h
      rw [keyO_kD e1, keysO_kD e2]; rfl
    · cases h
theorem kD_keysO : ∀ ks : List Key, keysO (ks.map kD) = some ks
  | [] => rfl
  | k :: r => by
    show (match keyO (kD k), keysO (r.map kD) with
    | some k, some ks => some (k :: ks)
    | _, _ => none) = _
    rw [kD_keyO, kD_keysO r]
theorem keysD_kD {d : D} {ks : List Key} (h : keysD d = some ks) : d = .tup (ks.map kD) := by
  cases d <;> simp [keysD] at h
  rw [keysO_kD h]
theorem kD_keysD (ks : List Key) : keysD (.tup (ks.map kD)) = some ks := kD_keysO ks
theorem Rp.key {v : V} {d : D} {k : Key} (h : Rp G S H v d) (e : keyO d = some k) : v = kV k := by
  rw [keyO_kD e] at h
  cases k <;> (cases h; rfl)
theorem RpA.keys : ∀ {ks : List Key} {vs : List V}, RpA G S H vs (ks.map kD) → vs = ks.map kV
  | [], _, h => by cases h; rfl
  | k :: r, _, h => by
    cases h with
    | cons h0 hr => rw [Rp.key h0 (kD_keyO k), RpA.keys hr]; rfl
theorem lookD_rpK {k : Key} : ∀ {ds : List (D × D)} {ks : List (Key × V)}, RpK G S H ks ds → (lookD keyO k ds = none → valV ks k = none) ∧ ∀ d, lookD keyO k ds = some d → ∃ v, valV ks k = some v ∧ Rp G S H v d
  | [], _, h => by cases h; exact ⟨fun _ => rfl, fun d e => by cases e⟩
  | _ :: _, _, h => by
    cases h with
    | @cons k0 v0 vs d0 ds h0 hr =>
      obtain ⟨i1, i2⟩ := lookD_rpK (k := k) hr
      by_cases e : k0 = k
      · subst e
        rw [valV_pos rfl]
        refine ⟨fun z => ?_, fun d z => ?_⟩ <;> (simp only [lookD, kD_keyO, if_true] at z)
        · cases z
        · cases z; exact ⟨v0, rfl, h0⟩
      · rw [valV_neg e]
        have : ¬ (keyO (kD k0) = some k) := by rw [kD_keyO]; intro z; cases z; exact e rfl
        simp only [lookD, if_neg this]
        exact ⟨i1, i2⟩
theorem lookD_rpT {k : List Key} : ∀ {ds : List (D × D)} {ks : List (List Key × V)}, RpT G S H ks ds → (lookD keysD k ds = none → valV ks k = none) ∧ ∀ d, lookD keysD k ds = some d → ∃ v, valV ks k = some v ∧ Rp G S H v d
  | [], _, h => by cases h; exact ⟨fun _ => rfl, fun d e => by cases e⟩
  | _ :: _, _, h => by
    cases h with
    | @cons k0 v0 vs d0 ds h0 hr =>
      obtain ⟨i1, i2⟩ := lookD_rpT (k := k) hr
      by_cases e : k0 = k
      · subst e
        rw [valV_pos rfl]
        refine ⟨fun z => ?_, fun d z => ?_⟩ <;> (simp only [lookD, kD_keysD, if_true] at z)
        · cases z
        · cases z; exact ⟨v0, rfl, h0⟩
      · rw [valV_neg e]
        have : ¬ (keysD (.tup (k0.map kD)) = some k) := by rw [kD_keysD]; intro z; cases z; exact e rfl
        simp only [lookD, if_neg this]
        exact ⟨i1, i2⟩
/-- a dict asked for a key -/
theorem Rp.dget {v y : V} {a k : D} {o : Option D} (h : Rp G S H v a) (hy : Rp G S H y k) (e : dgetD a k = some o) :
    ∃ p r, v = .ref p ∧ DGet H p y r ∧ (o = none → r = none) ∧ ∀ d, o = some d → ∃ w, r = some w ∧ Rp G S H w d := by
  unfold dgetD at e
  split at e
  · cases ek : keyO k with
    | none => rw [ek] at e; cases e
    | some x =>
      rw [ek] at e; cases e
      cases h with
      | @dic p ks _ n0 h0 r0 =>
        obtain ⟨i1, i2⟩ := lookD_rpK (k := x) r0
        rw [hy.key ek]
        exact ⟨p, _, rfl, DGet.k h0, i1, i2⟩
  · cases ek : keysD k with
    | none => rw [ek] at e; cases e
    | some x =>
      rw [ek] at e; cases e
      cases h with
      | @dit p ks _ n0 h0 r0 =>
        obtain ⟨i1, i2⟩ := lookD_rpT (k := x) r0
        rw [keysD_kD ek] at hy
        cases hy with
        | @tup b vs _ n1 h1 r1 =>
          rw [r1.keys] at h1
          exact ⟨p, _, rfl, DGet.t h0 h1, i1, i2⟩
  · cases e
theorem RpK.length : ∀ {ds : List (D × D)} {ks : List (Key × V)}, RpK G S H ks ds → ks.length = ds.length
  | [], _, h => by cases h; rfl
  | _ :: _, _, h => by
    cases h with
    | cons h0 hr => simp [RpK.length hr]
theorem RpT.length : ∀ {ds : List (D × D)} {ks : List (List Key × V)}, RpT G S H ks ds → ks.length = ds.length
  | [], _, h => by cases h; rfl
  | _ :: _, _, h => by
    cases h with
    | cons h0 hr => simp [RpT.length hr]
theorem RpK.app : ∀ {ds es : List (D × D)} {ks ls : List (Key × V)}, RpK G S H ks ds → RpK G S H ls es → RpK G S H (ks ++ ls) (ds ++ es)
  | [], _, _, _, h, h2 => by cases h; exact h2
  | _ :: _, _, _, _, h, h2 => by
    cases h with
    | cons h0 hr => exact .cons h0 (RpK.app hr h2)
theorem RpT.app : ∀ {ds es : List (D × D)} {ks ls : List (List Key × V)}, RpT G S H ks ds → RpT G S H ls es → RpT G S H (ks ++ ls) (ds ++ es)
  | [], _, _, _, h, h2 => by cases h; exact h2
  | _ :: _, _, _, _, h, h2 => by
    cases h with
    | cons h0 hr => exact .cons h0 (RpT.app hr h2)
theorem RpK.anyE {k : Key} : ∀ {ds : List (D × D)} {ks : List (Key × V)}, RpK G S H ks ds → (ds.any fun kv => decide (keyO kv.1 = some k)) = (ks.any fun kv => decide (kv.1 = k))
  | [], _, h => by cases h; rfl
  | _ :: _, _, h => by
    cases h with
    | @cons k0 v0 vs d0 ds h0 hr =>
      rw [List.any_cons, List.any_cons, RpK.anyE hr]
      simp [kD_keyO]
theorem RpT.anyE {k : List Key} : ∀ {ds : List (D × D)} {ks : List (List Key × V)}, RpT G S H ks ds → (ds.any fun kv => decide (keysD kv.1 = some k)) = (ks.any fun kv => decide (kv.1 = k))
  | [], _, h => by cases h; rfl
  | _ :: _, _, h => by
    cases h with
    | @cons k0 v0 vs d0 ds h0 hr =>
      rw [List.any_cons, List.any_cons, RpT.anyE hr]
      simp [kD_keysD]
theorem RpK.mapE {k : Key} {v : V} {d : D} (hv : Rp G S H v d) : ∀ {ds : List (D × D)} {ks : List (Key × V)}, RpK G S H ks ds →
    RpK G S H (ks.map fun kv => if kv.1 = k then (kv.1, v) else kv) (ds.map fun kv => if keyO kv.1 = some k then (kv.1, d) else kv)
  | [], _, h => by cases h; exact .nil
  | _ :: _, _, h => by
    cases h with
    | @cons k0 v0 vs d0 ds h0 hr =>
      rw [List.map_cons, List.map_cons]
      simp only [kD_keyO, Option.some.injEq]
      by_cases e : k0 = k
      · rw [if_pos e, if_pos e]; exact .cons hv (RpK.mapE hv hr)
      · rw [if_neg e, if_neg e]; exact .cons h0 (RpK.mapE hv hr)
theorem RpT.mapE {k : List Key} {v : V} {d : D} (hv : Rp G S H v d) : ∀ {ds : List (D × D)} {ks : List (List Key × V)}, RpT G S H ks ds →
    RpT G S H (ks.map fun kv => if kv.1 = k then (kv.1, v) else kv) (ds.map fun kv => if keysD kv.1 = some k then (kv.1, d) else kv)
  | [], _, h => by cases h; exact .nil
  | _ :: _, _, h => by
    cases h with
    | @cons k0 v0 vs d0 ds h0 hr =>
      rw [List.map_cons, List.map_cons]
      simp only [kD_keysD, Option.some.injEq]
      by_cases e : k0 = k
      · rw [if_pos e, if_pos e]; exact .cons hv (RpT.mapE hv hr)
      · rw [if_neg e, if_neg e]; exact .cons h0 (RpT.mapE hv hr)
theorem RpK.put {k : Key} {kd d : D} {v : V} {ds : List (D × D)} {ks : List (Key × V)} (h : RpK G S H ks ds) (hk : keyO kd = some k) (hv : Rp G S H v d) : RpK G S H (putK ks k v) (putD keyO k kd d ds) := by
  unfold putK putD
  rw [h.anyE]
  split
  · exact h.mapE hv
  · rw [keyO_kD hk]
    exact h.app (.cons hv .nil)
theorem RpT.put {k : List Key} {kd d : D} {v : V} {ds : List (D × D)} {ks : List (List Key × V)} (h : RpT G S H ks ds) (hk : keysD kd = some k) (hv : Rp G S H v d) : RpT G S H (putK ks k v) (putD keysD k kd d ds) := by
  unfold putK putD
  rw [h.anyE]
  split
  · exact h.mapE hv
  · rw [keysD_kD hk]
    exact h.app (.cons hv .nil)
end
end PV
namespace PV
open PySem PySem.Spec PyProof.Rows L2 BK
def opOf : O2 → Operator
  | .add => .Add | .sub => .Sub | .mul => .Mult | .fdiv => .FloorDiv | .mod => .Mod
def cmOf : Cm → CmpOp
  | .eq => .Eq | .ne => .NotEq | .lt => .Lt | .le => .LtE | .gt => .Gt | .ge => .GtE | .inn => .In | .nin => .NotIn | .isN => .Is | .notN => .IsNot
def rD (G : Gm) (g : D → D → Option D) : R2 := fun x y H Q => ∃ S dx dy d, Dom S H ∧ Rp G S H x dx ∧ Rp G S H y dy ∧ g dx dy = some d ∧ ∀ v H', Same H H' → Rp G S H' v d → Q v H'
section
variable {X : Cx} {G : Gm} {Γ : Nm} {mo : Mo} {n : Nat} {S : Addr → Prop} {H H' : Hp}
theorem gtup_some {xs : List D} {d : D} (h : gtup xs = some d) : d = .tup xs ∧ xs.length ≤ LIM := by
  unfold gtup at h
  split at h
  · rename_i z; cases h; exact ⟨rfl, z⟩
  · cases h
theorem glst_some {xs : List D} {d : D} (h : glst xs = some d) : d = .lst xs ∧ xs.length ≤ LIM := by
  unfold glst at h
  split at h
  · rename_i z; cases h; exact ⟨rfl, z⟩
  · cases h
theorem RpA.nil_of {vs : List V} {ds : List D} (h : RpA G S H vs ds) (e : vs = []) : ds = [] := by
  subst e; cases h; rfl
theorem RpA.repl {vs : List V} {ds : List D} (h : RpA G S H vs ds) : ∀ k, RpA G S H (List.replicate k vs).flatten (List.replicate k ds).flatten
  | 0 => .nil
  | k + 1 => by
    rw [List.replicate_succ, List.replicate_succ, List.flatten_cons, List.flatten_cons]
    exact RpA.append h (RpA.repl h k)
theorem op_bin (M : MoOk X G Γ mo n) (o : O2) : OpR X (binaryOp (opOf o)) (rD G (binD o)) := by
  intro pins s σ H x y v u Q I rx ry h
  obtain ⟨S, dx, dy, d, dom, hx, hy, e, q⟩ := h
  cases o with
  | add =>
    simp only [binD] at e
    split at e
    · cases hx; cases hy; cases e
      exact op_add pins s σ H _ _ v u Q I rx ry ⟨_, _, rfl, rfl, q _ H (Same.refl _) (.int _)⟩
    · obtain ⟨rfl, hl⟩ := gtup_some e
      cases hx with
      | @tup a xs _ n1 h1 r1 =>
        cases hy with
        | @tup b ys _ n2 h2 r2 =>
          rw [List.length_append, ← r1.length, ← r2.length] at hl
          refine op_catA pins s σ H _ _ v u Q I rx ry ⟨a, b, xs, ys, rfl, rfl, .inl (.inl h1), .inl (.inl h2), Nat.le_of_lt (lim_line hl), fun z => ?_, fun _ z => ?_, fun _ _ p np => ?_⟩
          · rw [r1.nil_of z] at q
            exact q _ H (Same.refl _) (.tup n2 h2 r2)
          · rw [r2.nil_of z, List.append_nil] at q
            exact q _ H (Same.refl _) (.tup n1 h1 r1)
          · exact q _ _ (same_new np) (new_tup dom np (r1.append r2))
    · obtain ⟨rfl, hl⟩ := glst_some e
      cases hx with
      | @lst a xs _ n1 h1 r1 =>
        cases hy with
        | @lst b ys _ n2 h2 r2 =>
          rw [List.length_append, ← r1.length, ← r2.length] at hl
          exact op_cat pins s σ H _ _ v u Q I rx ry ⟨a, b, xs, ys, rfl, rfl, h1, h2, Nat.le_of_lt (lim_line hl), fun p np => q _ _ (same_new np) (new_lst dom np (r1.append r2))⟩
    · split at e
      · rename_i hl
        cases hx; cases hy; cases e
        exact op_add_str pins s σ H _ _ v u Q I rx ry ⟨_, _, rfl, rfl, Nat.le_of_lt (lim_line hl), q _ H (Same.refl _) (.str _)⟩
      · cases e
    · cases e
  | sub =>
    simp only [binD] at e
    split at e
    · cases hx; cases hy; cases e
      exact op_sub pins s σ H _ _ v u Q I rx ry ⟨_, _, rfl, rfl, q _ H (Same.refl _) (.int _)⟩
    · cases e
  | mul =>
    simp only [binD] at e
    split at e
    · split at e
      · rename_i i j hl
        cases hx; cases hy; cases e
        refine op_mul pins s σ H _ _ v u Q I rx ry ⟨_, _, rfl, rfl, ?_, q _ H (Same.refl _) (.int _)⟩
        rw [Bool.or_eq_true] at hl
        exact hl.imp small64_ok small64_ok
      · cases e
    · rename_i xs0 k
      split at e
      · rename_i hl
        have hb := inB_ok hl
        have h1 : -(2 ^ 63) ≤ k := by omega
        have h2 : k < 2 ^ 63 := by omega
        obtain ⟨rfl, hz⟩ := glst_some e
        cases hx with
        | @lst a xs _ n1 h0 r1 =>
          cases hy with
          | int =>
            refine op_rep pins s σ H _ _ v u Q I rx ry ⟨a, k, xs, rfl, rfl, h0, h1, h2, ?_, fun p np => q _ _ (same_new np) (new_lst dom np (r1.repl _))⟩
            have : (List.replicate k.toNat xs).flatten.length = xs.length * k.toNat := by simp [Nat.mul_comm]
            rw [← this, (r1.repl k.toNat).length]
            exact Nat.le_of_lt (lim_line hz)
      · cases e
    · rename_i xs0 k
      split at e
      · rename_i hl
        obtain ⟨g0, g1, g2, g3⟩ := hl
        obtain ⟨rfl, _⟩ := gtup_some e
        cases hx with
        | @tup a xs _ n1 h0 r1 =>
          cases hy with
          | int =>
            by_cases z : k = 1
            · subst z
              have one : (List.replicate (1 : Int).toNat xs0).flatten = xs0 := by simp
              rw [one] at q
              exact op_once pins s σ H _ _ v u Q I rx ry ⟨a, xs, rfl, rfl, .inl (.inl h0), q _ H (Same.refl _) (.tup n1 h0 r1)⟩
            · refine op_repT pins s σ H _ _ v u Q I rx ry ⟨a, k, xs, rfl, rfl, .inl (.inl h0), fun e0 => ?_, by omega, g3, by rw [r1.length]; exact g1, fun p np => q _ _ (same_new np) (new_tup dom np (r1.repl _))⟩
              have := r1.length
              rw [e0] at this
              rw [← this] at g0
              exact absurd g0 (by simp)
      · cases e
    · cases e
  | fdiv =>
    simp only [binD] at e
    split at e
    · split at e
      · rename_i hl
        rw [Bool.and_eq_true] at hl
        cases hx; cases hy; cases e
        exact op_fdiv pins s σ H _ _ v u Q I rx ry ⟨_, _, rfl, rfl, ⟨of_decide_eq_true hl.1, of_decide_eq_true hl.2⟩, q _ H (Same.refl _) (.int _)⟩
      · cases e
    · cases e
  | mod =>
    simp only [binD] at e
    split at e
    · split at e
      · rename_i hl
        cases hx; cases hy; cases e
        exact op_mod pins s σ H _ _ v u Q I rx ry ⟨_, _, rfl, rfl, of_decide_eq_true hl, q _ H (Same.refl _) (.int _)⟩
      · cases e
    · cases e
mutual
theorem Rp.dp (hK : X.K = G.K) : ∀ {d : D} {v : V} {p : PyData}, Rp G S H v d → toPy d = some p → Dp X.K H v p
  | .non, _, _, h, e => by cases h; simp only [toPy] at e; cases e; exact .non
  | .bl b, _, _, h, e => by cases h; simp only [toPy] at e; cases e; exact .bl b
  | .int b, _, _, h, e => by cases h; simp only [toPy] at e; cases e; exact .int b
  | .str b, _, _, h, e => by cases h; simp only [toPy] at e; cases e; exact .str b
  | .tup xs, _, p, h, e => by
    simp only [toPy] at e
    cases e2 : toPyA xs with
    | none => rw [e2] at e; cases e
    | some ps =>
      rw [e2] at e; cases e
      cases h with
      | tup n q r => exact .tup (.inl (.inl q)) (RpA.dp hK r e2)
  | .lst xs, _, p, h, e => by
    simp only [toPy] at e
    cases e2 : toPyA xs with
    | none => rw [e2] at e; cases e
    | some ps =>
      rw [e2] at e; cases e
      cases h with
      | lst n q r => exact .lst (.inl (.inl q)) (RpA.dp hK r e2)
  | .scr ns, _, p, h, e => by
    simp only [toPy] at e
    cases e
    have key : ∀ ns : List Int, DpAll X.K H (ns.map V.int) (ns.map PyData.int) := fun ns => by
      induction ns with
      | nil => exact .nil
      | cons a r ih => exact .cons (.int a) ih
    cases h with
    | scr0 n q => exact .lst (.inl (.inl q)) (key ns)
    | scr1 q => exact .lst (.inl (.inr ⟨_, q⟩)) (key ns)
    | scr2 q =>
      rw [hK]
      refine .lst ?_ (hK ▸ key ns)
      rcases q with (q | ⟨o, q⟩) | q
      · cases q
      · cases q
      · exact .inr q
  | .ktp ns, _, p, h, e => by
    simp only [toPy] at e
    cases e
    have key : ∀ ns : List Int, DpAll X.K H (ns.map V.int) (ns.map PyData.int) := fun ns => by
      induction ns with
      | nil => exact .nil
      | cons a r ih => exact .cons (.int a) ih
    cases h with
    | ktp q =>
      rw [hK]
      refine .tup ?_ (hK ▸ key ns)
      rcases q with (q | ⟨o, q⟩) | q
      · cases q
      · cases q
      · exact .inr q
  | .ptp ns, _, p, h, e => by
    simp only [toPy] at e
    cases e
    have key : ∀ ns : List Int, DpAll X.K H (ns.map V.int) (ns.map PyData.int) := fun ns => by
      induction ns with
      | nil => exact .nil
      | cons a r ih => exact .cons (.int a) ih
    cases h with
    | ptp q z => exact .tup (.inl (.inr ⟨_, q⟩)) (key ns)
  | .dic _, _, _, _, e => by simp [toPy] at e
  | .dit _, _, _, _, e => by simp [toPy] at e
  | .obj _ _, _, _, _, e => by simp [toPy] at e
  | .drw _ _ _, _, _, _, e => by simp [toPy] at e
theorem RpA.dp (hK : X.K = G.K) : ∀ {ds : List D} {vs : List V} {ps : List PyData}, RpA G S H vs ds → toPyA ds = some ps → DpAll X.K H vs ps
  | [], _, _, h, e => by cases h; simp only [toPyA] at e; cases e; exact .nil
  | d :: ds, _, ps, h, e => by
    cases h with
    | cons a b =>
      simp only [toPyA] at e
      split at e
      · rename_i h1 h2
        cases e
        exact .cons (Rp.dp hK a h1) (RpA.dp hK b h2)
      · cases e
end
theorem Rp.ext' {d : D} {v : V} (h : Rp G S H v d) (e : Same H H') : Rp G S H' v d := h.same e
/-- the outcome of a comparison: a bool, the heap grown -/
def rC (G : Gm) (mo : Mo) (c : Cm) : R2 := rD G (cmpD mo c)
theorem me_call (M : MoOk X G Γ mo n) {c m : Nat} {ds : List D} {d : D} (e : mo.me c m ds = some d) : ∃ C f fd ps, G.cls c = some C ∧ Has X G n (mo.me c m) f fd ps ∧ Meth X.K C (G.an m) f ∧ PySem.W.fnIn X.K f = true ∧ (m = 1 → NeX X.K C) ∧ ds.length = ps.length := by
  obtain ⟨C, f, fd, ps, h1, h2, h3, h4, h5⟩ := M.me c m ds d e
  exact ⟨C, f, fd, ps, h1, h2, h3, h4, h5, h2.ar ds d e⟩
theorem op_eqn (M : MoOk X G Γ mo n) (neg : Bool) : OpR X (compareOp (if neg then .NotEq else .Eq)) (rD G fun a b => (eqD mo a b).map fun k => D.bl (if neg then !k else k)) := by
  intro pins s σ H x y v u Q I rx ry h
  obtain ⟨S, dx, dy, d, dom, hx, hy, e, q⟩ := h
  dsimp only at e
  cases e1 : eqD mo dx dy with
  | none => rw [e1] at e; cases e
  | some k =>
    rw [e1] at e
    cases e
    have scalar : ∀ {x y : V}, RelV x v → RelV y u → scal x y = true → decide (x = y) = k → wpAny (model X.prog X.w) X.A (compareOp (if neg then .NotEq else .Eq) v u) (EP X pins σ Q) X.xe s := by
      intro x y rx ry hs hd
      have fin := q (.bl (if neg then !k else k)) H (Same.refl _) (.bl _)
      cases neg with
      | false => exact op_eq pins s σ H x y v u Q I rx ry ⟨hs, by rw [hd]; exact fin⟩
      | true => exact op_ne pins s σ H x y v u Q I rx ry ⟨hs, by rw [hd]; exact fin⟩
    have deep : ∀ {p r : PyData}, toPy dx = some p → toPy dy = some r → (SeqAt.shaped p && SeqAt.shaped r) = true → PyData.eqv p r = k → wpAny (model X.prog X.w) X.A (compareOp (if neg then .NotEq else .Eq) v u) (EP X pins σ Q) X.xe s := by
      intro p r h1 h2 h3 h4
      rw [Bool.and_eq_true] at h3
      have fin := q (.bl (if neg then !k else k)) H (Same.refl _) (.bl _)
      subst h4
      cases neg with
      | false => exact op_eqD M.room.units pins s σ H x y v u Q I rx ry ⟨p, r, Rp.dp M.K hx h1, Rp.dp M.K hy h2, h3.1, h3.2, fin⟩
      | true => exact op_neD M.room.units pins s σ H x y v u Q I rx ry ⟨p, r, Rp.dp M.K hx h1, Rp.dp M.K hy h2, h3.1, h3.2, fin⟩
    unfold eqD at e1
    split at e1
    · split at e1
      · rename_i c fs c' fs' hc
        subst hc
        split at e1
        · rename_i k' hk
          cases e1
          obtain ⟨C, f, fd, ps, g1, Hs, Mt, fn, ne, ar⟩ := me_call M hk
          obtain ⟨nx1, nm, qq, N, bs, bm, hdct, sn, sub, ab, col, dd, k0, k1, k2, k3, k5, newId, lkC, hob⟩ := ne rfl
          have ha := Mt.at_
          rw [M.an1] at ha
          have pl : 2 = ps.length := ar
          have go : ∀ {a b : Addr}, Rp G S H (.ref a) (.obj c fs) → Rp G S H (.ref b) (.obj c fs') → ∀ Q' : VK, (∀ k', k' = k → Q' (.bl k') H) → (∀ H', Same H H' → Q' (.bl k) H') → spD G ps.length (mo.me c 1) [.ref a, .ref b] H Q' fun _ _ _ => False := by
            intro a b ra rb Q' _ hq
            exact ⟨pl, S, _, _, dom, .cons ra (.cons rb .nil), hk, fun v H' s r => by cases r; exact hq H' s⟩
          cases hx with
          | @obj a C1 dx vs _ _ na ha1 gc rf =>
            cases hy with
            | @obj b C2 dy ws _ _ nb hb1 gc2 rf2 =>
              rw [g1] at gc gc2
              cases gc
              cases gc2
              cases neg with
              | false =>
                exact op_eqOwn Hs.ok (M.room.mono (by omega)) ha Mt.fn Hs.b pass0 pins s σ H _ _ v u Q I rx ry ⟨a, b, dx, dy, vs, ws, rfl, rfl, ha1, hb1,
                  pl, S, _, _, dom, .cons (.obj na ha1 g1 rf) (.cons (.obj nb hb1 g1 rf2) .nil), hk, fun v H' s r => by cases r; exact ⟨k, rfl, q _ H' s (.bl _)⟩⟩
              | true =>
                exact op_neOwn Hs.ok (M.room.mono (by omega)) nx1 ha Mt.fn lkC hob Hs.b pass0 pins s σ H _ _ v u Q I rx ry ⟨a, b, dx, dy, vs, ws, rfl, rfl, ha1, hb1,
                  pl, S, _, _, dom, .cons (.obj na ha1 g1 rf) (.cons (.obj nb hb1 g1 rf2) .nil), hk, fun v H' s r => by cases r; exact ⟨k, rfl, q _ H' s (.bl _)⟩⟩
        · cases e1
      · cases e1
    · cases hx; cases hy
      refine scalar rx ry rfl ?_
      cases e1
      simp
    · cases hx; cases hy
      refine scalar rx ry rfl ?_
      cases e1
      simp
    · cases hx; cases hy
      refine scalar rx ry rfl ?_
      cases e1
      simp
    · split at e1
      · split at e1
        · rename_i h1 h2 h3
          cases e1
          exact deep h1 h2 h3 rfl
        · cases e1
      · cases e1
end
end PV
namespace PV
open PySem PySem.Spec PyProof.Rows L2 BK
section
variable {X : Cx} {G : Gm} {Γ : Nm} {mo : Mo} {n : Nat} {S : Addr → Prop} {H H' : Hp}
theorem bind_some {α β : Type _} {x : Option α} {f : α → Option β} {b : β} (h : x.bind f = some b) : ∃ a, x = some a ∧ f a = some b := by
  cases x with
  | none => cases h
  | some a => exact ⟨a, rfl, h⟩
theorem map_some {α β : Type _} {x : Option α} {f : α → β} {b : β} (h : x.map f = some b) : ∃ a, x = some a ∧ f a = b := by
  cases x with
  | none => cases h
  | some a => exact ⟨a, rfl, Option.some.inj h⟩
theorem intsD_eq : ∀ {xs : List D} {ns : List Int}, intsD xs = some ns → xs = ns.map D.int
  | [], _, h => by simp only [intsD] at h; cases h; rfl
  | .int i :: r, _, h => by
    simp only [intsD] at h
    obtain ⟨ms, h1, rfl⟩ := map_some h
    rw [intsD_eq h1]; rfl
  | .non :: _, _, h => by simp [intsD] at h
  | .bl _ :: _, _, h => by simp [intsD] at h
  | .str _ :: _, _, h => by simp [intsD] at h
  | .tup _ :: _, _, h => by simp [intsD] at h
  | .lst _ :: _, _, h => by simp [intsD] at h
  | .scr _ :: _, _, h => by simp [intsD] at h
  | .ktp _ :: _, _, h => by simp [intsD] at h
  | .ptp _ :: _, _, h => by simp [intsD] at h
  | .dic _ :: _, _, h => by simp [intsD] at h
  | .dit _ :: _, _, h => by simp [intsD] at h
  | .obj _ _ :: _, _, h => by simp [intsD] at h
  | .drw _ _ _ :: _, _, h => by simp [intsD] at h
theorem inV_ints (i : Int) : ∀ ns : List Int, inV (.int i) (ns.map V.int) = ns.any fun y => decide (y = i)
  | [] => rfl
  | n :: ns => by
    have ih := inV_ints i ns
    unfold inV at ih ⊢
    rw [List.map_cons, List.any_cons, List.any_cons, ih]
    rfl
theorem flat_ints (ns : List Int) : (ns.map V.int).all flatV = true := by
  rw [List.all_map]; exact List.all_eq_true.mpr fun _ _ => rfl
/-- x in y, y no dict: what the kit's two rules ask -/
theorem mem_ask (hK : X.K = G.K) {neg : Bool} {x y : V} {dx dy : D} {k : Bool} {Q : VK} (hx : Rp G S H x dx) (hy : Rp G S H y dy) (e : memT dx dy = some k) (q : Q (.bl (if neg then !k else k)) H) :
    rIn X.K neg x y H Q ∨ (if neg then rNotInD X.K x y H Q else rInD X.K x y H Q) := by
  unfold memT at e
  split at e
  · rename_i i xs
    split at e
    · rename_i ns e1
      cases e
      rw [intsD_eq e1] at hy
      cases hx
      cases hy with
      | @tup a vs _ n0 q0 r0 =>
        have ev := r0.ints
        subst ev
        exact .inl ⟨a, _, rfl, .inr (.inl (.inl q0)), rfl, flat_ints ns, by rw [inV_ints]; exact q⟩
    · cases e
  · rename_i i ns
    cases e
    cases hx
    cases hy with
    | ktp q0 =>
      refine .inl ⟨_, _, rfl, .inr ?_, rfl, flat_ints ns, by rw [inV_ints]; exact q⟩
      rw [hK]
      rcases q0 with (z | ⟨o, z⟩) | z
      · cases z
      · cases z
      · exact .inr z
  · right
    unfold memL at e
    split at e
    · split at e
      · rename_i h1 h2 h3
        cases e
        rw [Bool.and_eq_true] at h3
        cases neg with
        | false => exact ⟨_, _, Rp.dp hK hx h1, Rp.dp hK hy h2, h3.1, h3.2, q⟩
        | true => exact ⟨_, _, Rp.dp hK hx h1, Rp.dp hK hy h2, h3.1, h3.2, q⟩
      · cases e
    · cases e
theorem op_cmp (M : MoOk X G Γ mo n) (c : Cm) : OpR X (compareOp (cmOf c)) (rD G (cmpD mo c)) := by
  have cmi : ∀ {op : CmpOp} {p : Int → Int → Bool} {c : Cm}, OpR X (compareOp op) (rI0 fun i j => .bl (p i j)) → (∀ a b, cmpD mo c a b = match a, b with | .int i, .int j => some (.bl (p i j)) | _, _ => none) → OpR X (compareOp op) (rD G (cmpD mo c)) := by
    intro op p c hp hc pins s σ H x y v u Q I rx ry h
    obtain ⟨S, dx, dy, d, dom, hx, hy, e, q⟩ := h
    rw [hc] at e
    split at e
    · cases hx; cases hy; cases e
      exact hp pins s σ H _ _ v u Q I rx ry ⟨_, _, rfl, rfl, q _ H (Same.refl _) (.bl _)⟩
    · cases e
  cases c with
  | eq => exact op_eqn M false
  | ne => exact op_eqn M true
  | lt =>
    intro pins s σ H x y v u Q I rx ry h
    obtain ⟨S, dx, dy, d, dom, hx, hy, e, q⟩ := h
    simp only [cmpD] at e
    split at e
    · cases hx; cases hy; cases e
      exact op_lt pins s σ H _ _ v u Q I rx ry ⟨_, _, rfl, rfl, q _ H (Same.refl _) (.bl _)⟩
    · obtain ⟨ns, e1, e⟩ := bind_some e
      obtain ⟨ms, e2, e⟩ := bind_some e
      cases e
      rw [intsD_eq e1] at hx
      rw [intsD_eq e2] at hy
      cases hx with
      | @tup a0 vs _ n0 h0 r0 =>
        cases hy with
        | @tup a1 ws _ n1 h1 r1 =>
          have z0 := r0.ints
          have z1 := r1.ints
          subst z0 z1
          exact op_ltT (by have := M.room.un; omega) pins s σ H _ _ v u Q I rx ry ⟨_, _, _, _, rfl, rfl, .inl (.inl h0), .inl (.inl h1), q _ H (Same.refl _) (.bl _)⟩
    · cases e
  | le => exact cmi op_le (fun a b => rfl)
  | gt => exact cmi op_gt (fun a b => rfl)
  | ge => exact cmi op_ge (fun a b => rfl)
  | inn =>
    intro pins s σ H x y v u Q I rx ry h
    obtain ⟨S, dx, dy, d, dom, hx, hy, e, q⟩ := h
    simp only [cmpD] at e
    cases e1 : memD dx dy with
    | none => rw [e1] at e; cases e
    | some k =>
      rw [e1] at e; cases e
      unfold memD at e1
      split at e1
      · rename_i o eo
        cases e1
        obtain ⟨p, rr, rfl, g, g1, g2⟩ := hy.dget hx eo
        have er : rr.isSome = o.isSome := by
          cases o with
          | none => rw [g1 rfl]; rfl
          | some d => obtain ⟨w, z, _⟩ := g2 d rfl; rw [z]; rfl
        obtain rfl : u = Value.ref p := ry
        exact d_in (by have := M.room.un; omega) I g rx fun s' I' => ⟨.bl (rr.isSome), H, I', rfl, by rw [er]; exact q _ H (Same.refl _) (.bl _)⟩
      · exact (mem_ask (neg := false) M.K hx hy e1 (q _ H (Same.refl _) (.bl _))).elim (op_in_seq pins s σ H x y v u Q I rx ry) (op_inD (by have := M.room.un; omega) pins s σ H x y v u Q I rx ry)
  | nin =>
    intro pins s σ H x y v u Q I rx ry h
    obtain ⟨S, dx, dy, d, dom, hx, hy, e, q⟩ := h
    simp only [cmpD] at e
    cases e1 : memD dx dy with
    | none => rw [e1] at e; cases e
    | some k =>
      rw [e1] at e; cases e
      unfold memD at e1
      split at e1
      · rename_i o eo
        cases e1
        obtain ⟨p, rr, rfl, g, g1, g2⟩ := hy.dget hx eo
        have er : rr.isSome = o.isSome := by
          cases o with
          | none => rw [g1 rfl]; rfl
          | some d => obtain ⟨w, z, _⟩ := g2 d rfl; rw [z]; rfl
        obtain rfl : u = Value.ref p := ry
        exact d_notIn (by have := M.room.un; omega) I g rx fun s' I' => ⟨.bl (!rr.isSome), H, I', rfl, by rw [er]; exact q _ H (Same.refl _) (.bl _)⟩
      · exact (mem_ask (neg := true) M.K hx hy e1 (q _ H (Same.refl _) (.bl _))).elim (op_notIn_seq pins s σ H x y v u Q I rx ry) (op_notInD (by have := M.room.un; omega) pins s σ H x y v u Q I rx ry)
  | isN =>
    intro pins s σ H x y v u Q I rx ry h
    obtain ⟨S, dx, dy, d, dom, hx, hy, e, q⟩ := h
    simp only [cmpD] at e
    split at e
    · cases hy; cases e
      refine op_isN pins s σ H _ _ v u Q I rx ry ⟨rfl, ?_⟩
      have : decide (x = V.non) = isNonD dx := by cases hx <;> simp [isNonD]
      rw [this]
      exact q _ H (Same.refl _) (.bl _)
    · split at e
      · cases hx; cases hy; cases e
        exact op_isBl pins s σ H _ _ v u Q I rx ry ⟨_, _, rfl, rfl, q _ H (Same.refl _) (.bl _)⟩
      · cases e
    · cases e
  | notN =>
    intro pins s σ H x y v u Q I rx ry h
    obtain ⟨S, dx, dy, d, dom, hx, hy, e, q⟩ := h
    simp only [cmpD] at e
    split at e
    · cases hy; cases e
      refine op_notN pins s σ H _ _ v u Q I rx ry ⟨rfl, ?_⟩
      have : decide (x = V.non) = isNonD dx := by cases hx <;> simp [isNonD]
      rw [this]
      exact q _ H (Same.refl _) (.bl _)
    · split at e
      · cases hx; cases hy; cases e
        exact op_notBl pins s σ H _ _ v u Q I rx ry ⟨_, _, rfl, rfl, q _ H (Same.refl _) (.bl _)⟩
      · cases e
    · cases e
/-! ### operators -/
variable {a b c : Expr} {ea eb ec : E} {pos : Pos}
theorem s_bin (M : MoOk X G Γ mo n) (o : O2) (ha : PE X a (tE G mo ea)) (hb : PE X b (tE G mo eb)) : PE X (.BinOp a (opOf o) b pos) (tE G mo (.bin o ea eb)) := by
  refine (pe_op (op_bin M o) ha hb).imp fun σ H Q h => ?_
  obtain ⟨S, ρ, d, r, e, q⟩ := h
  simp only [ev] at e
  obtain ⟨dx, e1, e⟩ := bind_some e
  obtain ⟨dy, e2, e⟩ := bind_some e
  exact tE_run r e1 fun x H1 s1 r1 hx => tE_run r1 e2 fun y H2 s2 r2 hy => ⟨S, dx, dy, d, r2.dom, hx.same s2, hy, e, fun v H' s h => q v H' ((s1.trans s2).trans s) h⟩
theorem s_cmp (M : MoOk X G Γ mo n) (c : Cm) (ha : PE X a (tE G mo ea)) (hb : PE X b (tE G mo eb)) (hm : behindInMarks (cmOf c) b = false) : PE X (.Compare a [cmOf c] [b] pos) (tE G mo (.cmp c ea eb)) := by
  refine (pe_cmpR (op_cmp M c) ha hb hm).imp fun σ H Q h => ?_
  obtain ⟨S, ρ, d, r, e, q⟩ := h
  simp only [ev] at e
  obtain ⟨dx, e1, e⟩ := bind_some e
  obtain ⟨dy, e2, e⟩ := bind_some e
  exact tE_run r e1 fun x H1 s1 r1 hx => tE_run r1 e2 fun y H2 s2 r2 hy => ⟨S, dx, dy, d, r2.dom, hx.same s2, hy, e, fun v H' s h => q v H' ((s1.trans s2).trans s) h⟩
theorem t_cmp (M : MoOk X G Γ mo n) (c : Cm) (ha : PE X a (tE G mo ea)) (hb : PE X b (tE G mo eb)) (hm : behindInMarks (cmOf c) b = false) : PT X (.Compare a [cmOf c] [b] pos) (tT G mo (.cmp c ea eb)) := by
  refine (pt_cmpR (op_cmp M c) ha hb hm).imp fun σ H Q h => ?_
  obtain ⟨S, ρ, k, r, e, q⟩ := h
  simp only [ev] at e
  obtain ⟨dx, e1, e⟩ := bind_some e
  obtain ⟨dy, e2, e⟩ := bind_some e
  exact tE_run r e1 fun x H1 s1 r1 hx => tE_run r1 e2 fun y H2 s2 r2 hy => ⟨S, dx, dy, _, r2.dom, hx.same s2, hy, e, fun v H' s h => by cases h; exact ⟨k, rfl, q H' ((s1.trans s2).trans s)⟩⟩
theorem s_chn (M : MoOk X G Γ mo n) (c1 c2 : Cm) (ha : PE X a (tE G mo ea)) (hb : PE X b (tE G mo eb)) (hc : PE X c (tE G mo ec)) (hm : lastMarks [cmOf c1, cmOf c2] [b, c] = false) : PE X (.Compare a [cmOf c1, cmOf c2] [b, c] pos) (tE G mo (.chn c1 c2 ea eb ec)) := by
  refine (pe_chain (op_cmp M c1) (op_cmp M c2) ha hb hc hm).imp fun σ H Q h => ?_
  obtain ⟨S, ρ, d, r, e, q⟩ := h
  simp only [ev] at e
  obtain ⟨dx, e1, e⟩ := bind_some e
  obtain ⟨dy, e2, e⟩ := bind_some e
  obtain ⟨dt, e3, e⟩ := bind_some e
  refine tE_run r e1 fun x H1 s1 r1 hx => tE_run r1 e2 fun y H2 s2 r2 hy => ⟨S, dx, dy, dt, r2.dom, hx.same s2, hy, e3, fun v H3 s3 h => ?_⟩
  split at e
  · cases h
    refine ⟨_, rfl, ?_⟩
    rename_i k
    split at e
    · rename_i hk
      rw [if_pos hk]
      obtain ⟨dz, e4, e⟩ := bind_some e
      exact tE_run (r2.same s3) e4 fun z H4 s4 r4 hz => ⟨S, dy, dz, d, r4.dom, (hy.same s3).same s4, hz, e, fun v H' s h => q v H' ((((s1.trans s2).trans s3).trans s4).trans s) h⟩
    · rename_i hk
      rw [if_neg hk]
      cases e
      exact q _ H3 ((s1.trans s2).trans s3) (.bl _)
  · cases e
theorem t_chn (M : MoOk X G Γ mo n) (c1 c2 : Cm) (ha : PE X a (tE G mo ea)) (hb : PE X b (tE G mo eb)) (hc : PE X c (tE G mo ec)) (hm : lastMarks [cmOf c1, cmOf c2] [b, c] = false) : PT X (.Compare a [cmOf c1, cmOf c2] [b, c] pos) (tT G mo (.chn c1 c2 ea eb ec)) := by
  refine (pt_chain (op_cmp M c1) (op_cmp M c2) ha hb hc hm).imp fun σ H Q h => ?_
  obtain ⟨S, ρ, kk, r, e, q⟩ := h
  simp only [ev] at e
  obtain ⟨dx, e1, e⟩ := bind_some e
  obtain ⟨dy, e2, e⟩ := bind_some e
  obtain ⟨dt, e3, e⟩ := bind_some e
  refine tE_run r e1 fun x H1 s1 r1 hx => tE_run r1 e2 fun y H2 s2 r2 hy => ⟨S, dx, dy, dt, r2.dom, hx.same s2, hy, e3, fun v H3 s3 h => ?_⟩
  split at e
  · cases h
    refine ⟨_, rfl, ?_⟩
    rename_i k
    split at e
    · rename_i hk
      rw [if_pos hk]
      obtain ⟨dz, e4, e⟩ := bind_some e
      exact tE_run (r2.same s3) e4 fun z H4 s4 r4 hz => ⟨S, dy, dz, _, r4.dom, (hy.same s3).same s4, hz, e, fun v H' s h => by cases h; exact ⟨kk, rfl, q H' ((((s1.trans s2).trans s3).trans s4).trans s)⟩⟩
    · rename_i hk
      rw [if_neg hk]
      cases e
      exact ⟨_, rfl, q H3 ((s1.trans s2).trans s3)⟩
  · cases e
theorem s_not (ha : PE X a (tE G mo ea)) : PE X (.UnaryOp .Not a pos) (tE G mo (.not ea)) := by
  refine (pe_not ha).imp fun σ H Q h => ?_
  obtain ⟨S, ρ, d, r, e, q⟩ := h
  simp only [ev] at e
  obtain ⟨dx, e1, e⟩ := bind_some e
  refine tE_run r e1 fun x H1 s1 r1 hx => ?_
  split at e
  · cases hx; cases e
    exact ⟨_, rfl, q _ H1 s1 (.bl _)⟩
  · cases e
theorem t_not (ha : PT X a (tT G mo ea)) : PT X (.UnaryOp .Not a pos) (tT G mo (.not ea)) := by
  refine (pt_not ha).imp fun σ H Q h => ?_
  obtain ⟨S, ρ, k, r, e, q⟩ := h
  simp only [ev] at e
  obtain ⟨dx, e1, e⟩ := bind_some e
  split at e
  · cases e
    exact tT_run r e1 fun H1 s1 _ => q H1 s1
  · cases e
theorem s_neg (ha : PE X a (tE G mo ea)) : PE X (.UnaryOp .USub a pos) (tE G mo (.neg ea)) := by
  refine (pe_un un_neg ha).imp fun σ H Q h => ?_
  obtain ⟨S, ρ, d, r, e, q⟩ := h
  simp only [ev] at e
  obtain ⟨dx, e1, e⟩ := bind_some e
  refine tE_run r e1 fun x H1 s1 r1 hx => ?_
  split at e
  · cases hx; cases e
    exact ⟨_, rfl, q _ H1 s1 (.int _)⟩
  · cases e
theorem s_and {b : Expr} {rest : List Expr} (ha : PE X a (tE G mo ea)) (hb : PE X (.BoolOp .And (b :: rest) pos) (tE G mo eb)) : PE X (.BoolOp .And (a :: b :: rest) pos) (tE G mo (.and ea eb)) := by
  refine (pe_and ha hb).imp fun σ H Q h => ?_
  obtain ⟨S, ρ, d, r, e, q⟩ := h
  simp only [ev] at e
  obtain ⟨dx, e1, e⟩ := bind_some e
  refine tE_run r e1 fun x H1 s1 r1 hx => ?_
  split at e
  · cases hx
    refine ⟨_, rfl, ?_⟩
    split at e
    · rename_i hk
      rw [if_pos hk]
      exact tE_run r1 e fun v H2 s2 r2 hv => q v H2 (s1.trans s2) hv
    · rename_i hk
      rw [if_neg hk]
      cases e
      exact q _ H1 s1 (.bl _)
  · cases e
theorem s_or {b : Expr} {rest : List Expr} (ha : PE X a (tE G mo ea)) (hb : PE X (.BoolOp .Or (b :: rest) pos) (tE G mo eb)) : PE X (.BoolOp .Or (a :: b :: rest) pos) (tE G mo (.or ea eb)) := by
  refine (pe_or ha hb).imp fun σ H Q h => ?_
  obtain ⟨S, ρ, d, r, e, q⟩ := h
  simp only [ev] at e
  obtain ⟨dx, e1, e⟩ := bind_some e
  refine tE_run r e1 fun x H1 s1 r1 hx => ?_
  split at e
  · cases hx
    refine ⟨_, rfl, ?_⟩
    split at e
    · rename_i hk
      rw [if_pos hk]
      cases e
      exact q _ H1 s1 (.bl _)
    · rename_i hk
      rw [if_neg hk]
      exact tE_run r1 e fun v H2 s2 r2 hv => q v H2 (s1.trans s2) hv
  · cases e
theorem t_and {b : Expr} {rest : List Expr} (ha : PT X a (tT G mo ea)) (hb : PW X (.BoolOp .And (b :: rest) pos) (tT G mo eb)) : PW X (.BoolOp .And (a :: b :: rest) pos) (tT G mo (.and ea eb)) := by
  refine (pw_and ha hb).imp fun σ H Q h => ?_
  obtain ⟨S, ρ, kk, r, e, q⟩ := h
  simp only [ev] at e
  obtain ⟨dx, e1, e⟩ := bind_some e
  split at e
  · refine tT_run r e1 fun H1 s1 r1 => ?_
    split at e
    · rename_i hk
      rw [if_pos hk]
      exact tT_run r1 e fun H2 s2 r2 => q H2 (s1.trans s2)
    · rename_i hk
      rw [if_neg hk]
      cases e
      exact q H1 s1
  · cases e
theorem t_or {b : Expr} {rest : List Expr} (ha : PT X a (tT G mo ea)) (hb : PW X (.BoolOp .Or (b :: rest) pos) (tT G mo eb)) : PW X (.BoolOp .Or (a :: b :: rest) pos) (tT G mo (.or ea eb)) := by
  refine (pw_or ha hb).imp fun σ H Q h => ?_
  obtain ⟨S, ρ, kk, r, e, q⟩ := h
  simp only [ev] at e
  obtain ⟨dx, e1, e⟩ := bind_some e
  split at e
  · refine tT_run r e1 fun H1 s1 r1 => ?_
    split at e
    · rename_i hk
      rw [if_pos hk]
      cases e
      exact q H1 s1
    · rename_i hk
      rw [if_neg hk]
      exact tT_run r1 e fun H2 s2 r2 => q H2 (s1.trans s2)
  · cases e
theorem t_val (ha : PE X a (tE G mo ea)) (he : ∀ whole, isTrue a X.env whole = (do let v ← whole; standAt a.pos; holding [v] (truthy v))) : PT X a (tT G mo ea) := by
  refine (pt_val ha he).imp fun σ H Q h => ?_
  obtain ⟨S, ρ, kk, r, e, q⟩ := h
  exact tE_run r e fun v H1 s1 r1 hv => by cases hv; exact ⟨kk, rfl, q H1 s1⟩
theorem s_ite (hc : PT X c (tT G mo ec)) (ha : PE X a (tE G mo ea)) (hb : PE X b (tE G mo eb)) : PE X (.IfExp c a b pos) (tE G mo (.ite ec ea eb)) := by
  refine (pe_ifExp hc ha hb).imp fun σ H Q h => ?_
  obtain ⟨S, ρ, d, r, e, q⟩ := h
  simp only [ev] at e
  obtain ⟨dx, e1, e⟩ := bind_some e
  split at e
  · refine tT_run r e1 fun H1 s1 r1 => ?_
    split at e
    · rename_i hk
      rw [if_pos hk]
      exact tE_run r1 e fun v H2 s2 r2 hv => q v H2 (s1.trans s2) hv
    · rename_i hk
      rw [if_neg hk]
      exact tE_run r1 e fun v H2 s2 r2 hv => q v H2 (s1.trans s2) hv
  · cases e
theorem s_var {i : Nat} {x : Str} (hN : X.N[i]? = some x) (hv : Vis X.env.scope x) (hd : (x == ("__debug__" : Str)) = false) (hcd : (x == ("__classdict__" : Str)) = false) : PE X (.Name x pos) (tE G mo (.var i)) := by
  refine (pe_var hN hv hd hcd).imp fun σ H Q h => ?_
  obtain ⟨S, ρ, d, r, e, q⟩ := h
  simp only [ev] at e
  split at e
  · rename_i h1
    cases e
    obtain ⟨v, h2, h3⟩ := r.get _ _ h1
    exact ⟨v, h2, q v H (Same.refl _) h3⟩
  · cases e
theorem s_con {v : V} {d : D} {e : E} (h : PE X a (tC v)) (he : ∀ ρ, ev mo e ρ = some d) (hr : ∀ S H, Rp G S H v d) : PE X a (tE G mo e) := by
  refine h.imp fun σ H Q h => ?_
  obtain ⟨S, ρ, d', r, e', q⟩ := h
  rw [he] at e'
  cases e'
  exact q v H (Same.refl _) (hr S H)
/-! ### arguments, displays -/
variable {es : List Expr} {ees : Es}
theorem a_nil : PA X [] (tA G mo .nil) := pa_nil.imp fun σ H Q h => by
  obtain ⟨S, ρ, ds, r, e, q⟩ := h
  simp only [evs] at e
  cases e
  exact q [] H (Same.refl _) .nil
theorem a_cons (ha : PE X a (tE G mo ea)) (hr : PA X es (tA G mo ees)) (hs : starEach (a :: es) X.env = (false, eval a X.env) :: starEach es X.env) : PA X (a :: es) (tA G mo (.cons ea ees)) := (pa_cons ha hr hs).imp fun σ H Q h => by
  obtain ⟨S, ρ, ds, r, e, q⟩ := h
  simp only [evs] at e
  obtain ⟨dx, e1, e⟩ := bind_some e
  obtain ⟨xs, e2, e⟩ := bind_some e
  cases e
  exact tE_run r e1 fun x H1 s1 r1 hx => tA_run r1 e2 fun vs H2 s2 r2 hv => q _ H2 (s1.trans s2) (.cons (hx.same s2) hv)
theorem s_tup {k : Nat} (h : PA X es (tA G mo ees)) : PE X (.Tuple es k pos) (tE G mo (.tup ees)) := by
  refine (pe_tup h).imp fun σ H Q h => ?_
  obtain ⟨S, ρ, d, r, e, q⟩ := h
  simp only [ev] at e
  obtain ⟨ds, e1, e⟩ := bind_some e
  obtain ⟨rfl, hl⟩ := gtup_some e
  refine tA_run r e1 fun vs H1 s1 r1 hv => ⟨Nat.le_of_lt (lim_line (by rw [hv.length]; exact hl)), fun p np => q _ _ (s1.trans (same_new np)) (new_tup r1.dom np hv)⟩
theorem s_lst (h : PA X es (tA G mo ees)) : PE X (.List es pos) (tE G mo (.lst ees)) := by
  refine (pe_lst h).imp fun σ H Q h => ?_
  obtain ⟨S, ρ, d, r, e, q⟩ := h
  simp only [ev] at e
  obtain ⟨ds, e1, e⟩ := bind_some e
  obtain ⟨rfl, hl⟩ := glst_some e
  refine tA_run r e1 fun vs H1 s1 r1 hv => ⟨Nat.le_of_lt (lim_line (by rw [hv.length]; exact hl)), fun p np => q _ _ (s1.trans (same_new np)) (new_lst r1.dom np hv)⟩
theorem s_emp (t : Bool) : PE X (.Dict [] [] pos) (tE G mo (.emp t)) := by
  cases t with
  | false =>
    refine pe_dnewK.imp fun σ H Q h => ?_
    obtain ⟨S, ρ, d, r, e, q⟩ := h
    simp only [ev] at e
    cases e
    exact fun p np => q _ _ (same_new np) (.dic (fresh_ns r.dom np) upd_same .nil)
  | true =>
    refine pe_dnewT.imp fun σ H Q h => ?_
    obtain ⟨S, ρ, d, r, e, q⟩ := h
    simp only [ev] at e
    cases e
    exact fun p np => q _ _ (same_new np) (.dit (fresh_ns r.dom np) upd_same .nil)
/-! ### sequences -/
theorem RpA.atI : ∀ {ds : List D} {vs : List V} {i : Int} {d : D}, RpA G S H vs ds → L2.atI ds i = some d → ∃ v, L2.atI vs i = some v ∧ Rp G S H v d := by
  intro ds vs i d h e
  unfold L2.atI at e ⊢
  rw [h.length]
  cases e1 : ixN ds.length i with
  | none => rw [e1] at e; cases e
  | some j =>
    rw [e1] at e
    exact RpA.get h e
theorem atI_map {α β : Type} (f : α → β) (xs : List α) (i : Int) : L2.atI (xs.map f) i = (L2.atI xs i).map f := by
  unfold L2.atI
  rw [List.length_map]
  cases ixN xs.length i with
  | none => rfl
  | some j => simp [List.getElem?_map]
theorem Rp.scrL {v : V} {ns : List Int} (h : Rp G S H v (.scr ns)) : ∃ a, v = .ref a ∧ ∀ H', Ext S H H' → SqL G.K H' a (ns.map V.int) := by
  cases h with
  | scr0 n q => exact ⟨_, rfl, fun H' e => .inl (.inl (e.1 _ _ n q))⟩
  | scr1 q => exact ⟨_, rfl, fun H' e => .inl (.inr ⟨_, e.2 _ _ _ q⟩)⟩
  | scr2 q =>
    refine ⟨_, rfl, fun H' e => ?_⟩
    rcases q with (q | ⟨o, q⟩) | q
    · cases q
    · cases q
    · exact .inr q
theorem Rp.items {v : V} {d : D} {xs : List D} (h : Rp G S H v d) (e : itemsD d = some xs) : ∃ a vs k, v = .ref a ∧ (∀ H', Ext S H H' → SqB G.K H' a vs k) ∧ RpA G S H vs xs := by
  cases d with
  | tup ds =>
    cases e
    cases h with
    | @tup a vs _ n q r => exact ⟨a, vs, false, rfl, fun H' e => .inl (.inl (e.1 _ _ n q)), r⟩
  | lst ds =>
    cases e
    cases h with
    | @lst a vs _ n q r => exact ⟨a, vs, true, rfl, fun H' e => .inl (.inl (e.1 _ _ n q)), r⟩
  | scr ns =>
    cases e
    obtain ⟨a, h1, h2⟩ := h.scrL
    exact ⟨a, ns.map V.int, true, h1, h2, RpA.of_ints ns⟩
  | ptp ns =>
    cases e
    cases h with
    | @ptp a o _ q z => exact ⟨a, ns.map V.int, false, rfl, fun H' e => .inl (.inr ⟨o, e.2 _ _ _ q⟩), RpA.of_ints ns⟩
  | _ => cases e
theorem SqB.or {K : PySem.W.Frag} {a : Addr} {vs : List V} {k : Bool} (h : SqB K H a vs k) : SqL K H a vs ∨ SqT K H a vs := by
  cases k with
  | true => exact .inl h
  | false => exact .inr h
end
end PV
namespace BK
open PySem PySem.Spec PySem.SeqAt PyProof.Rows L2 RZ
section
variable {prog : Program} {w : World} {A : Around} {E : Value → Shared → Prop} {s : Shared}
/-- how often an int stands in a tuple of ints -/
theorem countT_raw {T : Addr} {vals : List Value} {ns : List Int} {j : Int} {tk : Tok} {Q : Value → Shared → Prop} (ht : s.heap.IsTuple T vals.toArray) (hv : IntsAre vals ns)
    (q : Q (.int (ns.count j : Nat) s.toks) { s with toks := s.toks + 1 }) : wpAny (model prog w) A (call (.builtin "tuple.count") [.ref T, .int j tk]) Q E s := by
  obtain ⟨⟨c1, d1, dat, s1⟩, g1, g2, m, g3⟩ := id ht
  simp only at g2 g3
  subst g2 g3
  have meets := PySem.SeqAt.tuple_countAt T vals.toArray m d1 s1 (.int j tk) (isInt j)
  have same : ∀ y, y ∈ vals.toArray → EqAt A.in1 s y (.int j tk) (isInt j y) := fun y hy => (eq_isInt j tk hv y (by simpa using hy)).at _ _
  refine call_meets PySem.F.slot_tuple_count ⟨_, g1, rfl⟩ PySem.F.entry_tuple_count (PySem.F.args_tuple_count_2 _ _) meets ⟨g1, same, ?_⟩
  have e : vals.toArray.toList = vals := rfl
  rw [e, countP_isInt j hv]
  exact q
end
end BK
namespace PV
open PySem PySem.Spec PyProof.Rows L2 BK
open HT
section
variable {prog : Program} {w : World} {A : Around} {E : Value → Shared → Prop} {s : Shared}
theorem pick_rev (xs : Array Value) : ((List.range xs.size).filterMap fun (k : Nat) => xs[(((xs.size : Int) - 1) + (k : Int) * (-1)).toNat]?) = xs.toList.reverse := by
  have e : (List.range xs.size).filterMap (fun (k : Nat) => xs[(((xs.size : Int) - 1) + (k : Int) * (-1)).toNat]?) = ((List.range xs.size).map fun k => xs.size - 1 - k).filterMap (fun i => xs[i]?) := by
    rw [List.filterMap_map]
    have : ∀ k ∈ List.range xs.size, xs[(((xs.size : Int) - 1) + (k : Int) * (-1)).toNat]? = ((fun i => xs[i]?) ∘ fun k => xs.size - 1 - k) k := fun k hk => by
      have hk := List.mem_range.mp hk
      have : (((xs.size : Int) - 1) + (k : Int) * (-1)).toNat = xs.size - 1 - k := by omega
      rw [this]; rfl
    revert this
    generalize List.range xs.size = l
    intro h
    induction l with
    | nil => rfl
    | cons a r ih =>
      rw [List.filterMap_cons, List.filterMap_cons, h a List.mem_cons_self, ih fun k hk => h k (List.mem_cons_of_mem _ hk)]
  rw [e, PySem.W.krv_range, List.filterMap_reverse, PySem.W.krv_all]
theorem sliceApplied_rev {sl : Addr} {t : Tok} {n : Nat} {Q : Int × Int × Nat → Shared → Prop} (hs : s.heap.IsSliceOf sl .none .none (.int (-1) t))
    (h : Q ((n : Int) - 1, -1, n) s) : wpAny (model prog w) A (Builtin.Slice.sliceApplied (.ref sl) (pure (n : Int))) Q E s := by
  obtain ⟨os, hos, hcs, hds⟩ := id hs
  unfold Builtin.Slice.sliceApplied Builtin.Slice.sliceFields
  refine wpAny_bind (wpAny_bind (wpAny_field hos hds (x := .none) rfl (wpAny_bind (wpAny_field hos hds (x := .none) rfl (wpAny_bind (wpAny_field hos hds (x := .int (-1) t) rfl (wpAny_pure ?_)))))))
  refine wpAny_bind (slicePart_int ?_)
  show wpAny _ _ (if ((-1 : Int) == 0) = true then _ else _) _ _ s
  rw [if_neg (by decide)]
  refine wpAny_bind (slicePart_none (wpAny_bind (slicePart_none (wpAny_bind (wpAny_pure ?_)))))
  have e1 : Builtin.Slice.sliceAdjust none none (-1) (n : Int) = ((n : Int) - 1, -1) := rfl
  have e2 : Builtin.Slice.slicePlaces ((n : Int) - 1) (-1) (-1) = n := by
    unfold Builtin.Slice.slicePlaces
    have h1 : ¬ ((-1 : Int) > 0) := by omega
    simp only [h1, if_false]
    by_cases hn : n = 0
    · subst hn; rfl
    · rw [if_pos (by omega)]
      have : ((n : Int) - 1 - -1 - 1) / - -1 = (n : Int) - 1 := by rw [Int.neg_neg, Int.ediv_one]; omega
      rw [this]; omega
  show wpAny _ _ (match Builtin.Slice.sliceAdjust none none (-1) (n : Int) with | (lo, hi) => pure (lo, (-1 : Int), Builtin.Slice.slicePlaces lo hi (-1))) _ _ s
  rw [e1]
  show wpAny _ _ (pure ((n : Int) - 1, (-1 : Int), Builtin.Slice.slicePlaces ((n : Int) - 1) (-1) (-1))) _ _ s
  rw [e2]
  exact wpAny_pure h
theorem getItem_tuple_rev {t sl : Addr} {items : Array Value} {tk : Tok} {Q : Value → Shared → Prop} (ht : IsTup s.heap t items) (hs : s.heap.IsSliceOf sl .none .none (.int (-1) tk))
    (h : Q (.ref s.heap.objs.size) { s with heap := s.heap.push { cls := .type "tuple", data := .seq items.toList.reverse.toArray } })
    (hsz : items.size ≤ sizeLine) : wpAny (model prog w) A (getItem (.ref t) (.ref sl)) Q E s := by
  have htake : sizeOk (.seq items.toList.reverse.toArray) := by
    show items.toList.reverse.toArray.size ≤ sizeLine
    rw [List.size_toArray, List.length_reverse, Array.length_toList]
    exact hsz
  obtain ⟨os, hos, hcs, hds⟩ := id hs
  have hTs : s.TypeIs (.ref sl) "slice" := ⟨os, hos, hcs⟩
  unfold getItem
  try with_reducible refine wpAny_holding ?_
  first | refine wpAny_bind (wpAny_pure ?_) | skip
  refine wpAny_bind (wpAny_sequenceKey ht.typeIs (by decide) ?_)
  refine wpAny_bind (wpAny_callSpecial?_slot (name := Str.ofString "__getitem__") ht.typeIs PyProof.Rows.slot_tuple_getitem
    (wpAny_call_entry PyProof.Rows.slot_tuple_getitem ht.typeIs entry_tuple_getitem ?_ (args_tuple_getitem _ _)))
  show wpAny _ _ (Builtin.Tuple.tupleItemsOf (.ref t) >>= _) _ _ s
  refine wpAny_bind (tupleItemsOf_ ht ?_)
  refine wpAny_bind (wpAny_typeOf hTs ?_)
  rw [if_pos (by decide)]
  refine wpAny_bind (sliceApplied_rev hs ?_)
  have hno : ¬ ((((items.size : Int) - 1) == 0 && (-1 : Int) == 1 && items.size == items.size) = true) := by
    intro q
    rw [Bool.and_eq_true, Bool.and_eq_true] at q
    exact absurd q.1.2 (by decide)
  show wpAny _ _ (if (((items.size : Int) - 1) == 0 && (-1 : Int) == 1 && items.size == items.size) = true then _ else _) _ _ s
  rw [if_neg hno, pick_rev]
  first
    | exact wpAny_bind (m := Builtin.Tuple.tupleExact _) (wpAny_newObj_type (wpAny_pure ⟨_, rfl, wpAny_pure h⟩) htake)
    | exact wpAny_bind (m := Builtin.Tuple.tupleExact _) (wpAny_newObj_type (wpAny_bind (wpAny_pure (wpAny_pure ⟨_, rfl, wpAny_pure h⟩))) htake)
    | exact wpAny_bind (wpAny_bind (m := Builtin.Tuple.tupleExact _) (wpAny_newObj_type (wpAny_pure (wpAny_pure ⟨_, rfl, wpAny_pure h⟩)) htake))
    | exact wpAny_bind (wpAny_bind (m := Builtin.Tuple.tupleExact _) (wpAny_newObj_type (wpAny_pure ⟨_, rfl, wpAny_pure h⟩) htake))
end
section
variable {X : Cx}
def tRevT (K : PySem.W.Frag) (te : TE) : TE := fun σ H Q => te σ H fun x H1 => ∃ a xs, x = .ref a ∧ SqT K H1 a xs ∧ ∀ p, H1 p = none → Q (.ref p) (upd H1 p (.tup xs.reverse))
theorem pe_revT {e : Expr} {te : TE} {k : Nat} {p1 p2 p3 pos : Pos} (he : PE X e te) : PE X (.Subscript e (.Slice none none (some (.UnaryOp .USub (.Constant (.int 1) k p1) p2)) p3) pos) (tRevT X.K te) := by
  refine ⟨fun pins s σ H Q I h => ?_⟩
  refine Subscript_ (thn (he.run pins s σ H _ I h) fun v s1 ⟨x, H1, I1, r1, q1⟩ => ?_)
  obtain ⟨a, xs, ex, hx, q⟩ := q1
  subst ex
  cases r1
  have hst : PO X (some (.UnaryOp .USub (.Constant (.int 1) k p1) p2)) (tPart (tUn (rU fun i => .int (-i)) (tC (.int 1)))) := po_some (pe_un un_neg pe_int)
  refine wpAny_Slice (thn (po_none.run pins s1 σ H1 (fun o H2 => o = none ∧ H2 = H1) I1 ⟨rfl, rfl⟩) fun vl s2 ⟨l, H2, I2, pl, el, e2⟩ => ?_)
  subst el e2
  refine thn (po_none.run pins s2 σ H2 (fun o H3 => o = none ∧ H3 = H2) I2 ⟨rfl, rfl⟩) fun vu s3 ⟨u, H3, I3, pu, eu, e3⟩ => ?_
  subst eu e3
  refine thn (hst.run pins s3 σ H3 (fun o H4 => o = some (-1) ∧ H4 = H3) I3 ⟨1, rfl, -1, rfl, rfl, rfl⟩) fun vs s4 ⟨o, H4, I4, ps, eo, e4⟩ => ?_
  subst eo e4
  cases pl
  cases pu
  cases ps with
  | int i tk =>
    have I5 : Inv X pins σ H4 { s4 with heap := s4.heap.push { cls := .type "slice", data := .fields #[.none, .none, .int (-1) tk] } } := I4.kept (t' := s4.toks) fun b ob q => Heap.get?_push_of_some _ q
    obtain ⟨its, r, ht, hz⟩ := I5.tuple hx
    have hlen := r.length
    show wpAny (model X.prog X.w) X.A (subscriptTail e (.Slice none none (some (.UnaryOp .USub (.Constant (.int 1) k p1) p2)) p3) (.ref a) (.ref s4.heap.objs.size)) (EP X pins σ Q) X.xe { s4 with heap := s4.heap.push { cls := .type "slice", data := .fields #[.none, .none, .int (-1) tk] } }
    refine tail_any (ops := [.ref a, .ref s4.heap.objs.size]) ht.typeIs (PyProof.Rows.slot_tuple_getitem.lookup) ?_ (by with_unfolding_all rfl)
    refine getItem_tuple_rev (tk := tk) ht (Heap.IsSliceOf.new _ _ _ _) ?_ (by rw [List.size_toArray]; omega)
    refine ⟨.ref _, _, I5.laid (t' := s4.toks) (o := .tup xs.reverse) (fun b ob q => Heap.get?_push_of_some _ q) (Nat.le_refl _) ?_, rfl, q _ (I5.hok.fresh (Nat.le_refl _))⟩
    exact ⟨by rw [List.length_reverse]; exact hz, _, r.reverse, IsTup.new _ _⟩
end
end PV
namespace PV
open PySem PySem.Spec PyProof.Rows L2 BK
def noStar : Expr → Bool
  | .Starred _ _ => false
  | _ => true
theorem star_cons {e : Expr} {es : List Expr} {env : Env} (h : noStar e = true) : starEach (e :: es) env = (false, eval e env) :: starEach es env := by
  cases e <;> first | rfl | (cases h)
theorem star_any {env : Env} {pos : Pos} : ∀ {es : List Expr}, es.all noStar = true → (backTo pos (starEach es env)).any (·.1) = false
  | [], _ => rfl
  | e :: es, h => by
    rw [List.all_cons, Bool.and_eq_true] at h
    rw [star_cons h.1]
    show (false || (backTo pos (starEach es env)).any (·.1)) = false
    rw [star_any h.2]
    rfl
def noCall0 : Expr → Bool
  | .Call _ [] [] _ => false
  | _ => true
theorem base_eq {e : Expr} {a : Str} {env : Env} {w : Sem Value} (h : noCall0 e = true) : attributeBase e a env w = w := by
  unfold attributeBase
  split
  · cases h
  · rfl
def plainB : Expr → Bool
  | .Slice _ _ _ _ => false
  | _ => true
theorem plain_ix {b : Expr} (h : plainB b = true) : PlainIx b := fun o i => by
  cases b <;> first | rfl | (cases h)
theorem plain_own {b : Expr} (h : plainB b = true) : ∀ x i, subscripted b true (.ref x) i = runValue (.builtin "lifetime.subscript" ⟨[.ref x, i], []⟩) := fun o i => by
  cases b <;> first | rfl | (cases h)
section
variable {X : Cx} {G : Gm} {Γ : Nm} {mo : Mo} {n : Nat} {S : Addr → Prop} {H H' : Hp} {a b c : Expr} {ea eb ec : E} {pos p : Pos} {es : List Expr} {ees : Es}
theorem plain_nosl {b : Expr} (h : plainB b = true) : NoSl b := fun o i => by
  cases b <;> first | rfl | (cases h)
theorem s_idx (M : MoOk X G Γ mo n) (ha : PE X a (tE G mo ea)) (hb : PE X b (tE G mo eb)) (hp : plainB b = true) : PE X (.Subscript a b pos) (tE G mo (.idx ea eb)) := by
  have seq := pe_ix (pos := pos) ((ix_list (X := X)).or ix_tup) ha hb (plain_ix hp)
  refine ⟨fun pins s σ H Q I h => ?_⟩
  obtain ⟨S, ρ, d, r, e, q⟩ := h
  simp only [ev] at e
  obtain ⟨dx, e1, e⟩ := bind_some e
  obtain ⟨dy, e2, e⟩ := bind_some e
  unfold idxD at e
  split at e
  · refine seq.run pins s σ H Q I (tE_run r e1 fun x H1 s1 r1 hx => tE_run r1 e2 fun y H2 s2 r2 hy => .inr ?_)
    cases hy
    cases hx with
    | @tup a0 vs _ n0 h0 r0 =>
      obtain ⟨v, h1, h2⟩ := RpA.atI (r0.same s2) e
      exact ⟨_, _, _, v, rfl, rfl, .inl (.inl (s2 _ _ h0)), h1, q v H2 (s1.trans s2) h2⟩
  · refine seq.run pins s σ H Q I (tE_run r e1 fun x H1 s1 r1 hx => tE_run r1 e2 fun y H2 s2 r2 hy => .inl ?_)
    cases hy
    cases hx with
    | @lst a0 vs _ n0 h0 r0 =>
      obtain ⟨v, h1, h2⟩ := RpA.atI (r0.same s2) e
      exact ⟨_, _, _, v, rfl, rfl, .inl (.inl (s2 _ _ h0)), h1, q v H2 (s1.trans s2) h2⟩
  · refine seq.run pins s σ H Q I (tE_run r e1 fun x H1 s1 r1 hx => tE_run r1 e2 fun y H2 s2 r2 hy => .inl ?_)
    cases hy
    obtain ⟨a0, rfl, h2⟩ := hx.scrL
    obtain ⟨k, h3, rfl⟩ := map_some e
    refine ⟨_, _, _, .int k, rfl, rfl, M.K ▸ h2 H2 (Same.ext s2), ?_, q _ H2 (s1.trans s2) (.int _)⟩
    rw [atI_map, h3]
    rfl
  · refine seq.run pins s σ H Q I (tE_run r e1 fun x H1 s1 r1 hx => tE_run r1 e2 fun y H2 s2 r2 hy => .inr ?_)
    cases hy
    cases hx with
    | @ptp a0 o _ q0 z0 =>
      obtain ⟨k, h3, rfl⟩ := map_some e
      refine ⟨_, _, _, .int k, rfl, rfl, .inl (.inr ⟨o, s2 _ _ q0⟩), ?_, q _ H2 (s1.trans s2) (.int _)⟩
      rw [atI_map, h3]
      rfl
  · obtain ⟨C, f, fd, ps, g1, Hs, Mt, fn, ne, ar⟩ := me_call M e
    have ha2 := Mt.at_
    rw [M.an2] at ha2
    refine (pe_ixOwn Hs.ok (M.room.mono (by omega)) ha2 fn Mt.fn Hs.b pass0 ha hb (plain_own hp)).run pins s σ H Q I (tE_run r e1 fun x H1 s1 r1 hx => tE_run r1 e2 fun y H2 s2 r2 hy => ?_)
    have hx2 := hx.same s2
    cases hx2 with
    | @obj a0 C0 dx vs _ _ n0 h0 g0 r0 =>
      rw [g1] at g0
      cases g0
      exact ⟨a0, dx, vs, rfl, h0, ar, S, _, _, r2.dom, .cons (.obj n0 h0 g1 r0) (.cons hy .nil), e, fun v H' s h => q v H' ((s1.trans s2).trans s) h⟩
  · refine (pe_dget (by have := M.room.un; omega) ha hb (plain_nosl hp)).run pins s σ H Q I (tE_run r e1 fun x H1 s1 r1 hx => tE_run r1 e2 fun y H2 s2 r2 hy => ?_)
    obtain ⟨o, eo, e⟩ := bind_some e
    cases e
    obtain ⟨p, rr, rfl, g, g1, g2⟩ := (hx.same s2).dget hy eo
    obtain ⟨w, rfl, hw⟩ := g2 _ rfl
    exact ⟨p, w, rfl, g, q w H2 (s1.trans s2) hw⟩
  · refine (pe_dget (by have := M.room.un; omega) ha hb (plain_nosl hp)).run pins s σ H Q I (tE_run r e1 fun x H1 s1 r1 hx => tE_run r1 e2 fun y H2 s2 r2 hy => ?_)
    obtain ⟨o, eo, e⟩ := bind_some e
    cases e
    obtain ⟨p, rr, rfl, g, g1, g2⟩ := (hx.same s2).dget hy eo
    obtain ⟨w, rfl, hw⟩ := g2 _ rfl
    exact ⟨p, w, rfl, g, q w H2 (s1.trans s2) hw⟩
  · cases e
theorem o_non : PO X none (tO G mo .non) := po_none.imp fun σ H Q h => by
  obtain ⟨S, ρ, o, r, e, q⟩ := h
  simp only [evo] at e
  cases e
  exact q H (Same.refl _)
theorem o_som (ha : PE X a (tE G mo ea)) : PO X (some a) (tO G mo (.som ea)) := (po_some ha).imp fun σ H Q h => by
  obtain ⟨S, ρ, o, r, e, q⟩ := h
  simp only [evo] at e
  obtain ⟨dx, e1, e⟩ := bind_some e
  refine tE_run r e1 fun x H1 s1 r1 hx => ?_
  split at e
  · cases hx; cases e
    exact ⟨_, rfl, q H1 s1⟩
  · cases e
theorem RpA.cut {ds : List D} {vs : List V} (h : RpA G S H vs ds) (lo hi : Option Int) : RpA G S H (cutV vs lo hi) (cutD ds lo hi) := by
  unfold cutV cutD
  rw [h.length]
  exact (h.drop _).take _
/-- t[lo:hi], t a plain tuple -/
def rSlP : V → Option Int → Option Int → Hp → VK → Prop := fun x lo hi H Q => ∃ a o xs, x = .ref a ∧ H a = some (.frz o (.tup xs)) ∧
  (HT.sIx xs.length 0 lo = 0 ∧ HT.sIx xs.length xs.length hi = xs.length → Q (.ref a) H) ∧ (¬ (HT.sIx xs.length 0 lo = 0 ∧ HT.sIx xs.length xs.length hi = xs.length) → ∀ p o', H p = none → o'.dict = none → Q (.ref p) (upd H p (.frz o' (.tup (cutV xs lo hi)))))
theorem sl_ptp : SlR X rSlP := by
  intro pins s σ H x v vl vu lo hi sl Q I rx hs pl pu h
  obtain ⟨a, o, xs, rfl, hx, q1, q2⟩ := h
  by_cases hw : HT.sIx xs.length 0 lo = 0 ∧ HT.sIx xs.length xs.length hi = xs.length
  · exact sl_tupA pins s σ H _ v vl vu lo hi sl Q I rx hs pl pu ⟨a, xs, rfl, .inl (.inr ⟨o, hx⟩), q1, fun z => absurd hw z⟩
  · cases rx
    obtain ⟨its, r, ht, hz⟩ := I.tuple (.inl (.inr ⟨o, hx⟩))
    have hlen : its.toArray.size = xs.length := by rw [List.size_toArray]; exact r.length.symm
    refine ⟨"tuple", _, PyProof.Rows.slot_tuple_getitem.lookup, ht.typeIs, ?_⟩
    refine HT.getItem_tuple_cut ht hs pl pu (by rw [hlen]; exact hw) ?_ (by rw [hlen]; exact hz)
    rw [hlen]
    refine ⟨.ref s.heap.objs.size, _, I.laid (t' := s.toks) (o := .frz { cls := .type "tuple", data := .seq ((its.toArray.toList.drop (HT.sIx xs.length 0 lo)).take (HT.sIx xs.length xs.length hi - HT.sIx xs.length 0 lo)).toArray } (.tup (cutV xs lo hi))) (fun b ob q => Heap.get?_push_of_some _ q) (Nat.le_refl _) ?_, rfl, q2 hw _ _ (I.hok.fresh (Nat.le_refl _)) rfl⟩
    exact ⟨Heap.get?_push_size _ rfl, Nat.le_trans (cutV_length xs lo hi) hz, _, (r.drop (HT.sIx xs.length 0 lo)).take (HT.sIx xs.length xs.length hi - HT.sIx xs.length 0 lo), IsTup.new _ _⟩
theorem cut_ints (ns : List Int) (lo hi : Option Int) : cutV (ns.map V.int) lo hi = (((ns.drop (HT.sIx ns.length 0 lo)).take (HT.sIx ns.length ns.length hi - HT.sIx ns.length 0 lo))).map V.int := by
  unfold cutV
  rw [List.length_map, List.map_take, List.map_drop]
theorem s_slc {lo hi : Option Expr} {el eh : Eo} {p2 : Pos} (M : MoOk X G Γ mo n) (ha : PE X a (tE G mo ea)) (hl : PO X lo (tO G mo el)) (hh : PO X hi (tO G mo eh)) : PE X (.Subscript a (.Slice lo hi none p2) pos) (tE G mo (.slc ea el eh)) := by
  refine (pe_slice (((sl_list (X := X)).or sl_tupA).or sl_ptp) ha hl hh).imp fun σ H Q h => ?_
  obtain ⟨S, ρ, d, r, e, q⟩ := h
  simp only [ev] at e
  obtain ⟨dx, e1, e⟩ := bind_some e
  obtain ⟨l, e2, e⟩ := bind_some e
  obtain ⟨u, e3, e⟩ := bind_some e
  refine tE_run r e1 fun x H1 s1 r1 hx => tO_run r1 e2 fun H2 s2 r2 => tO_run r2 e3 fun H3 s3 r3 => ?_
  have hx3 := (hx.same s2).same s3
  have s13 := (s1.trans s2).trans s3
  cases dx with
  | tup xs0 =>
    cases e
    cases hx3 with
    | @tup a0 vs dd n0 h0 r0 =>
      refine .inl (.inr ⟨a0, vs, rfl, .inl (.inl h0), fun z => q _ H3 s13 ?_, fun _ p np => q _ _ (s13.trans (same_new np)) (new_tup r3.dom np (r0.cut l u))⟩)
      have : cutD xs0 l u = xs0 := by
        unfold cutD
        rw [← r0.length, z.1, z.2]
        simp [r0.length]
      rw [this]
      exact .tup n0 h0 r0
  | lst xs0 =>
    cases e
    cases hx3 with
    | @lst a0 vs ds n0 h0 r0 => exact .inl (.inl ⟨a0, vs, rfl, .inl (.inl h0), fun p np => q _ _ (s13.trans (same_new np)) (new_lst r3.dom np (r0.cut l u))⟩)
  | scr ns =>
    cases e
    obtain ⟨a0, rfl, h2⟩ := hx3.scrL
    exact .inl (.inl ⟨a0, _, rfl, M.K ▸ h2 H3 Ext.refl, fun p np => q _ _ (s13.trans (same_new np)) (new_lst r3.dom np ((RpA.of_ints _).cut l u))⟩)
  | ptp ns =>
    cases e
    cases hx3 with
    | @ptp a0 o _ q0 z0 =>
      refine .inr ⟨a0, o, _, rfl, q0, fun z => ?_, fun _ p o' np nd => ?_⟩
      · refine q _ H3 s13 ?_
        rw [List.length_map] at z
        have : (ns.drop (HT.sIx ns.length 0 l)).take (HT.sIx ns.length ns.length u - HT.sIx ns.length 0 l) = ns := by rw [z.1, z.2]; simp
        rw [this]
        exact .ptp q0 z0
      · refine q _ _ (s13.trans (same_new np)) (.ptp ?_ nd)
        rw [cut_ints]
        exact upd_same
  | _ => cases e
theorem s_rev {k : Nat} {p1 p2 p3 : Pos} (M : MoOk X G Γ mo n) (ha : PE X a (tE G mo ea)) : PE X (.Subscript a (.Slice none none (some (.UnaryOp .USub (.Constant (.int 1) k p1) p2)) p3) pos) (tE G mo (.rev ea)) := by
  refine ((pe_revL ha).orE (pe_revT ha)).imp fun σ H Q h => ?_
  obtain ⟨S, ρ, d, r, e, q⟩ := h
  simp only [ev] at e
  obtain ⟨dx, e1, e⟩ := bind_some e
  cases dx with
  | tup xs0 =>
    cases e
    refine .inr (tE_run r e1 fun x H1 s1 r1 hx => ?_)
    cases hx with
    | @tup a0 vs dd n0 h0 r0 => exact ⟨a0, vs, rfl, .inl (.inl h0), fun p np => q _ _ (s1.trans (same_new np)) (new_tup r1.dom np r0.rev)⟩
  | lst xs0 =>
    cases e
    refine .inl (tE_run r e1 fun x H1 s1 r1 hx => ?_)
    cases hx with
    | @lst a0 vs dd n0 h0 r0 => exact ⟨a0, vs, rfl, .inl (.inl h0), fun p np => q _ _ (s1.trans (same_new np)) (new_lst r1.dom np r0.rev)⟩
  | scr ns =>
    cases e
    refine .inl (tE_run r e1 fun x H1 s1 r1 hx => ?_)
    obtain ⟨a0, rfl, h2⟩ := hx.scrL
    exact ⟨a0, _, rfl, M.K ▸ h2 H1 Ext.refl, fun p np => q _ _ (s1.trans (same_new np)) (new_lst r1.dom np (RpA.of_ints _).rev)⟩
  | _ => cases e
theorem RpF.look (inj : ∀ i j, G.an i = G.an j → i = j) : ∀ {fs : List (Nat × D)} {vs : List (Str × V)} {k : Nat} {d : D}, RpF G S H vs fs → fs.lookup k = some d → ∃ v, vs.lookup (G.an k) = some v ∧ Rp G S H v d
  | [], _, _, _, h, e => by simp at e
  | (j, d0) :: fs, _, k, d, h, e => by
    cases h with
    | cons h0 hr =>
      rw [List.lookup_cons] at e
      rw [List.lookup_cons]
      by_cases z : k = j
      · subst z
        simp at e
        subst e
        simp
        exact h0
      · have z1 : (k == j) = false := by simpa using z
        have z2 : (G.an k == G.an j) = false := by
          have : G.an k ≠ G.an j := fun q => z (inj _ _ q)
          simpa using this
        rw [z1] at e
        rw [z2]
        exact RpF.look inj hr e
theorem RpF.looknone (inj : ∀ i j, G.an i = G.an j → i = j) : ∀ {fs : List (Nat × D)} {vs : List (Str × V)} {k : Nat}, RpF G S H vs fs → fs.lookup k = none → vs.lookup (G.an k) = none
  | [], _, _, h, e => by cases h; rfl
  | (j, d0) :: fs, _, k, h, e => by
    cases h with
    | cons h0 hr =>
      rw [List.lookup_cons] at e
      rw [List.lookup_cons]
      by_cases z : k = j
      · subst z
        simp at e
      · have z1 : (k == j) = false := by simpa using z
        have z2 : (G.an k == G.an j) = false := by
          have : G.an k ≠ G.an j := fun q => z (inj _ _ q)
          simpa using this
        rw [z1] at e
        rw [z2]
        exact RpF.looknone inj hr e
theorem s_fld (M : MoOk X G Γ mo n) {k : Nat} {f : Str} (hf : G.an k = f) (ha : PE X a (tE G mo ea)) (hb : noCall0 a = true) : PE X (.Attribute a f pos) (tE G mo (.fld ea k)) := by
  refine (pe_fld ha (base_eq hb)).imp fun σ H Q h => ?_
  obtain ⟨S, ρ, d, r, e, q⟩ := h
  simp only [ev] at e
  obtain ⟨dx, e1, e⟩ := bind_some e
  refine tE_run r e1 fun x H1 s1 r1 hx => ?_
  unfold fldD at e
  split at e
  · split at e
    · rename_i c fs hfl
      cases hx with
      | @obj a0 C dx vs _ _ n0 h0 g0 r0 =>
        obtain ⟨v, h1, h2⟩ := r0.look M.inj e
        subst hf
        exact ⟨a0, C, dx, vs, v, rfl, h0, (M.cl _ _ g0).cl, M.na _ _ _ g0 hfl, h1, q v H1 s1 h2⟩
    · cases e
  · cases e
/-! ### calls -/
theorem gl_of {x : Str} (h : X.env.scope.names.lookup x = some .globalImplicit) : Gl X x := h
theorem s_call (M : MoOk X G Γ mo n) {k : Nat} {x : Str} {f : Addr} {fd : FuncData} {ps : List Str} (Hs : Has X G n (mo.fn k) f fd ps) (hm : X.mg x = some (.ref f)) (hg : Gl X x) (hdb : (x == ("__debug__" : Str)) = false)
    (he : noStar a = true) (hes : es.all noStar = true) (h : PA X (a :: es) (tA G mo ees)) : PE X (.Call (.Name x p) (a :: es) [] pos) (tE G mo (.call k ees)) := by
  refine (pe_call Hs.ok (M.room.mono (by omega)) hg hm Hs.kp Hs.b .nil pass0 h hdb (star_cons he) (star_any hes)).imp fun σ H Q h => ?_
  obtain ⟨S, ρ, d, r, e, q⟩ := h
  simp only [ev] at e
  obtain ⟨ds, e1, e⟩ := bind_some e
  refine tA_run r e1 fun vs H1 s1 r1 hv => ⟨?_, S, ds, d, r1.dom, by rw [List.append_nil]; exact hv, e, fun v H' s h => q v H' (s1.trans s) h⟩
  rw [List.append_nil, hv.length]
  exact Hs.ar _ _ e
theorem s_call0 (M : MoOk X G Γ mo n) {k : Nat} {x : Str} {f : Addr} {fd : FuncData} {ps : List Str} (Hs : Has X G n (mo.fn k) f fd ps) (hm : X.mg x = some (.ref f)) (hg : Gl X x) (hdb : (x == ("__debug__" : Str)) = false) :
    PE X (.Call (.Name x p) [] [] pos) (tE G mo (.call k .nil)) := by
  refine (pe_call0 Hs.ok (M.room.mono (by omega)) hg hm Hs.kp Hs.b .nil pass0 hdb).imp fun σ H Q h => ?_
  obtain ⟨S, ρ, d, r, e, q⟩ := h
  simp only [ev, evs] at e
  exact ⟨Hs.ar _ _ e, S, [], d, r.dom, .nil, e, q⟩
theorem s_mk (M : MoOk X G Γ mo n) {c : Nat} {x : Str} {C f : Addr} {fd : FuncData} {ps : List Str} (gc : G.cls c = some C) (hm : X.mg x = some (.ref C)) (Mkk : Mk X.K C f) (Hi : HasI X G n c (mo.mkD c) f fd ps) (hg : Gl X x) (hdb : (x == ("__debug__" : Str)) = false)
    (he : noStar a = true) (hes : es.all noStar = true) (h : PA X (a :: es) (tA G mo ees)) : PE X (.Call (.Name x p) (a :: es) [] pos) (tE G mo (.mk c ees)) := by
  refine (pe_make Mkk Hi.ok (M.room.mono (by omega)) hg hm Hi.b .nil pass0 h hdb (star_cons he) (star_any hes)).imp fun σ H Q h => ?_
  obtain ⟨S, ρ, d, r, e, q⟩ := h
  simp only [ev] at e
  obtain ⟨ds, e1, e⟩ := bind_some e
  obtain ⟨ar, fs, rfl⟩ := Hi.ar _ _ e
  refine tA_run r e1 fun vs H1 s1 r1 hv => fun y dy ny ndy hne => ?_
  rw [List.append_nil]
  have s2 : Same H1 (upd H1 dy (.own y)) := same_new ndy
  have ny2 : (upd H1 dy (.own y)) y = none := by rw [upd_ne (Ne.symm hne)]; exact ny
  have s3 : Same (upd H1 dy (.own y)) (upd (upd H1 dy (.own y)) y (.ins C dy [])) := same_new ny2
  have s23 := s2.trans s3
  refine ⟨by simp only [List.length_cons]; rw [hv.length]; exact ar, S, y, C, dy, vs, ds, fs, rfl, (r1.same s23).dom, r1.dom.free ny, gc, upd_same, ?_, e, fun H' k hr => ⟨rfl, q _ H' ?_ hr⟩⟩
  · exact hv.move (fun a0 n0 hs z => z.elim n0 fun z => by subst z; rw [ny] at hs; cases hs) (Same.ext s23)
  · exact fun b0 o hb => k b0 o (fun z => by subst z; have := s1 _ _ hb; rw [ny] at this; cases this) (s23 _ _ (s1 _ _ hb))
theorem star_all {env : Env} {pos : Pos} : ∀ {es : List Expr}, es.all noStar = true → (backTo pos (starEach es env)).all (fun x => !x.1) = true
  | [], _ => rfl
  | e :: es, h => by
    rw [List.all_cons, Bool.and_eq_true] at h
    rw [star_cons h.1]
    show (true && (backTo pos (starEach es env)).all (fun x => !x.1)) = true
    rw [star_all h.2]
    rfl
theorem meth_eval {o : Expr} {m : Str} {apos pos : Pos} {es : List Expr} {env : Env} (hb : noCall0 o = true) (hes : es.all noStar = true) (hl : (apos.endLine == pos.line) = true) (hfew : es.length < 20) :
    eval (.Call (.Attribute o m apos) es [] pos) env = (do
      let ov ← eval o env
      standAt apos.atName
      let (f, first) ← holding [ov] (getMethod ov m (do return (← importBound o env).getD true))
      callWith pos f first (backTo pos (starEach es env)) (backToKw pos (keywordEach [] env))) := by
  rw [arm_eval_Call, base_eq hb]
  have form : methodCallForm (es.length + ([] : List Keyword).length) (backTo pos (starEach es env)) (backToKw pos (keywordEach [] env)) = true := by
    unfold methodCallForm
    rw [star_all hes]
    show (true && true && decide (es.length + 0 + 0 < 30)) = true
    simp
    omega
  unfold methodCall
  rw [form]
  unfold calleeOf methodCallPos
  simp only [if_true, Bool.not_true, Bool.false_or, hl, pure_bind]
theorem s_me (M : MoOk X G Γ mo n) {k : Nat} {m : Str} {apos : Pos} {e0 : Expr} (hk : G.an k = m) (ha : PE X a (tE G mo ea)) (hb : noCall0 a = true) (h : PA X (e0 :: es) (tA G mo ees)) (hes : (e0 :: es).all noStar = true)
    (hl : (apos.endLine == pos.line) = true) (hfew : (e0 :: es).length < 20) : PE X (.Call (.Attribute a m apos) (e0 :: es) [] pos) (tE G mo (.me k ea ees)) := by
  refine ⟨fun pins s σ H Q I hh => ?_⟩
  obtain ⟨S, ρ, d, r, e, q⟩ := hh
  simp only [ev] at e
  obtain ⟨dx, e1, e⟩ := bind_some e
  obtain ⟨ds, e2, e⟩ := bind_some e
  cases dx with
  | obj c fs =>
    by_cases hnm : fs.lookup k = none
    · simp only [hnm, if_true] at e
      obtain ⟨C, f, fd, ps, g1, Hs, Mt, fn, ne, ar⟩ := me_call M e
      rw [hk] at Mt
      have fin : tMeth C m (spD G ps.length (mo.me c k)) [] E0 (tE G mo ea) (tA G mo ees) σ H Q := by
        refine tE_run r e1 fun x H1 s1 r1 hx => ?_
        cases hx with
        | @obj a0 C0 dx vs _ _ n0 h0 g0 r0 =>
          rw [g1] at g0
          cases g0
          have lk : vs.lookup m = none := by rw [← hk]; exact r0.looknone M.inj hnm
          refine ⟨a0, dx, vs, rfl, h0, lk, tA_run r1 e2 fun ws H2 s2 r2 hv => ?_⟩
          rw [List.append_nil]
          refine ⟨?_, S, _, d, r2.dom, .cons ((Rp.obj n0 h0 g1 r0).same s2) hv, e, fun v H' s h => q v H' ((s1.trans s2).trans s) h⟩
          rw [List.length_cons, hv.length]
          exact ar
      exact (pe_meth ha (M.cl _ _ g1).cl Mt Hs.ok (M.room.mono (by omega)) Hs.b .nil pass0 h (star_cons (by rw [List.all_cons, Bool.and_eq_true] at hes; exact hes.1)) (star_any (by rw [List.all_cons, Bool.and_eq_true] at hes; exact hes.2)) (meth_eval hb hes hl hfew)).run pins s σ H Q I fin
    · simp only [hnm, if_false] at e
      cases e
  | _ => cases e
theorem s_me0 (M : MoOk X G Γ mo n) {k : Nat} {m : Str} {apos : Pos} (hk : G.an k = m) (ha : PE X a (tE G mo ea)) (hb : noCall0 a = true)
    (hl : (apos.endLine == pos.line) = true) : PE X (.Call (.Attribute a m apos) [] [] pos) (tE G mo (.me k ea .nil)) := by
  refine ⟨fun pins s σ H Q I hh => ?_⟩
  obtain ⟨S, ρ, d, r, e, q⟩ := hh
  simp only [ev, evs] at e
  obtain ⟨dx, e1, e⟩ := bind_some e
  obtain ⟨ds, e2, e⟩ := bind_some e
  cases e2
  cases dx with
  | obj c fs =>
    by_cases hnm : fs.lookup k = none
    · simp only [hnm, if_true] at e
      obtain ⟨C, f, fd, ps, g1, Hs, Mt, fn, ne, ar⟩ := me_call M e
      rw [hk] at Mt
      have fin : tMeth C m (spD G ps.length (mo.me c k)) [] E0 (tE G mo ea) tNil σ H Q := by
        refine tE_run r e1 fun x H1 s1 r1 hx => ?_
        cases hx with
        | @obj a0 C0 dx vs _ _ n0 h0 g0 r0 =>
          rw [g1] at g0
          cases g0
          have lk : vs.lookup m = none := by rw [← hk]; exact r0.looknone M.inj hnm
          exact ⟨a0, dx, vs, rfl, h0, lk, ar, S, _, d, r1.dom, .cons (Rp.obj n0 h0 g1 r0) .nil, e, fun v H' s h => q v H' (s1.trans s) h⟩
      exact (pe_meth0 ha (M.cl _ _ g1).cl Mt Hs.ok (M.room.mono (by omega)) Hs.b .nil pass0 (meth_eval hb rfl hl (by decide))).run pins s σ H Q I fin
    · simp only [hnm, if_false] at e
      cases e
  | _ => cases e
/-- t.count(j), t a plain tuple of ints -/
def tCntP (to te : TE) : TE := fun σ H Q => to σ H fun x H1 => ∃ (a : Addr) (o : Obj) (ns : List Int), x = .ref a ∧ H1 a = some (.frz o (.tup (ns.map V.int))) ∧ o.dict = none ∧ te σ H1 fun y H2 => ∃ j : Int, H2 a = some (.frz o (.tup (ns.map V.int))) ∧ y = .int j ∧ Q (.int (ns.count j : Nat)) H2
theorem pe_tcntP {o e : Expr} {apos cpos : Pos} {td ty : TE} (ho : PE X o td) (he : PE X e ty) (m : M1 X o "count" apos e cpos) : PE X (.Call (.Attribute o "count" apos) [e] [] cpos) (tCntP td ty) := by
  refine ⟨fun pins s σ H Q I h => ?_⟩
  refine wpAny_Call_method m.base m.few m.line PySem.F.plainAttrs_tuple PySem.F.slot_tuple_count PySem.F.type_tuple_count (thn (ho.run pins s σ H _ I h) fun u s1 ⟨x, H1, I1, rx, a, ob, ns, ex, hs, hd, q1⟩ => ?_)
  subst ex
  obtain rfl : u = Value.ref a := rx
  obtain ⟨its, rv, hl, _⟩ := I1.tuple (.inl (.inr ⟨ob, hs⟩))
  have it1 : s1.heap.IsTuple a its.toArray := hl
  have z1 := (show ObjOk X.prog X.w H1 s1.heap a (.frz ob (.tup (ns.map V.int))) from I1.hok a _ hs).1
  refine ⟨it1.typeIs, fun b z => ?_, ?_⟩
  · cases z
    exact ⟨ob, z1, hd⟩
  · rw [m.trees]
    refine Calls.callWith_builtin rfl (Calls.evalArgs_plain (Calls.spliced_cons (thn (he.run pins s1 σ H1 _ I1 q1) fun iv s2 ⟨y, H2, I2, ry, j, hs2, ey, q2⟩ => Calls.spliced_nil ?_)))
    subst ey
    obtain ⟨tk, rfl⟩ := (show ∃ t, iv = Value.int j t from ry)
    obtain ⟨its2, rv2, hl2, _⟩ := I2.tuple (.inl (.inr ⟨ob, hs2⟩))
    exact BK.countT_raw (show s2.heap.IsTuple a its2.toArray from hl2) rv2.ints ⟨.int _, H2, I2.tok _, ⟨_, rfl⟩, q2⟩
end
end PV
namespace PV
open PySem PySem.Spec PyProof.Rows L2 BK
def biName : BI → Str
  | .len => "len" | .sum => "sum" | .min => "min" | .max => "max" | .all => "all" | .any => "any" | .abs => "abs" | .int => "int" | .list => "list" | .tuple => "tuple" | .sorted => "sorted" | .gcd => "gcd"
/-- a built-in function that the module imports -/
def biImp : BI → Option String
  | .gcd => some "math.gcd"
  | _ => none
theorem blsD_eq : ∀ {xs : List D} {ns : List Bool}, blsD xs = some ns → xs = ns.map D.bl
  | [], _, h => by simp only [blsD] at h; cases h; rfl
  | .bl i :: r, _, h => by
    simp only [blsD] at h
    obtain ⟨ms, h1, rfl⟩ := map_some h
    rw [blsD_eq h1]; rfl
  | .non :: _, _, h => by simp [blsD] at h
  | .int _ :: _, _, h => by simp [blsD] at h
  | .str _ :: _, _, h => by simp [blsD] at h
  | .tup _ :: _, _, h => by simp [blsD] at h
  | .lst _ :: _, _, h => by simp [blsD] at h
  | .scr _ :: _, _, h => by simp [blsD] at h
  | .ktp _ :: _, _, h => by simp [blsD] at h
  | .ptp _ :: _, _, h => by simp [blsD] at h
  | .dic _ :: _, _, h => by simp [blsD] at h
  | .dit _ :: _, _, h => by simp [blsD] at h
  | .obj _ _ :: _, _, h => by simp [blsD] at h
  | .drw _ _ _ :: _, _, h => by simp [blsD] at h
/-! max, min, sorted -/
theorem foldl_max : ∀ (r : List Int) (x : Int), (r.foldl max x = x ∨ r.foldl max x ∈ r) ∧ x ≤ r.foldl max x ∧ ∀ y ∈ r, y ≤ r.foldl max x
  | [], x => ⟨.inl rfl, Int.le_refl _, fun y h => by cases h⟩
  | a :: r, x => by
    obtain ⟨h1, h2, h3⟩ := foldl_max r (max x a)
    rw [List.foldl_cons]
    refine ⟨?_, by omega, fun y hy => ?_⟩
    · rcases h1 with h1 | h1
      · rw [h1]
        rcases Int.le_total x a with h | h
        · right; rw [Int.max_eq_right h]; simp
        · left; rw [Int.max_eq_left h]
      · right; exact List.mem_cons_of_mem _ h1
    · rcases List.mem_cons.mp hy with rfl | hy
      · omega
      · exact h3 y hy
theorem foldl_min : ∀ (r : List Int) (x : Int), (r.foldl min x = x ∨ r.foldl min x ∈ r) ∧ r.foldl min x ≤ x ∧ ∀ y ∈ r, r.foldl min x ≤ y
  | [], x => ⟨.inl rfl, Int.le_refl _, fun y h => by cases h⟩
  | a :: r, x => by
    obtain ⟨h1, h2, h3⟩ := foldl_min r (min x a)
    rw [List.foldl_cons]
    refine ⟨?_, by omega, fun y hy => ?_⟩
    · rcases h1 with h1 | h1
      · rw [h1]
        rcases Int.le_total x a with h | h
        · left; rw [Int.min_eq_left h]
        · right; rw [Int.min_eq_right h]; simp
      · right; exact List.mem_cons_of_mem _ h1
    · rcases List.mem_cons.mp hy with rfl | hy
      · omega
      · exact h3 y hy
theorem maxI_mem {ns : List Int} (h : ns ≠ []) : maxI ns ∈ ns := by
  cases ns with
  | nil => exact absurd rfl h
  | cons a r =>
    rcases (foldl_max r a).1 with e | e
    · show r.foldl max a ∈ a :: r
      rw [e]; exact List.mem_cons_self
    · exact List.mem_cons_of_mem _ e
theorem le_maxI {ns : List Int} {y : Int} (h : y ∈ ns) : y ≤ maxI ns := by
  cases ns with
  | nil => cases h
  | cons a r =>
    rcases List.mem_cons.mp h with rfl | h
    · exact (foldl_max r y).2.1
    · exact (foldl_max r a).2.2 y h
theorem minI_mem {ns : List Int} (h : ns ≠ []) : minI ns ∈ ns := by
  cases ns with
  | nil => exact absurd rfl h
  | cons a r =>
    rcases (foldl_min r a).1 with e | e
    · show r.foldl min a ∈ a :: r
      rw [e]; exact List.mem_cons_self
    · exact List.mem_cons_of_mem _ e
theorem minI_le {ns : List Int} {y : Int} (h : y ∈ ns) : minI ns ≤ y := by
  cases ns with
  | nil => cases h
  | cons a r =>
    rcases List.mem_cons.mp h with rfl | h
    · exact (foldl_min r y).2.1
    · exact (foldl_min r a).2.2 y h
theorem maxI_of {ns : List Int} {m : Int} (h : m ∈ ns) (g : ∀ y ∈ ns, y ≤ m) : m = maxI ns :=
  Int.le_antisymm (le_maxI h) (g _ (maxI_mem (List.ne_nil_of_mem h)))
theorem minI_of {ns : List Int} {m : Int} (h : m ∈ ns) (g : ∀ y ∈ ns, m ≤ y) : m = minI ns :=
  Int.le_antisymm (g _ (minI_mem (List.ne_nil_of_mem h))) (minI_le h)
theorem insI_perm (x : Int) : ∀ r : List Int, (insI x r).Perm (x :: r)
  | [] => .refl _
  | y :: r => by
    unfold insI
    split
    · exact .refl _
    · exact ((insI_perm x r).cons y).trans (.swap x y r)
theorem sortI_perm : ∀ r : List Int, (sortI r).Perm r
  | [] => .refl _
  | x :: r => (insI_perm x _).trans ((sortI_perm r).cons x)
theorem insI_sorted (x : Int) : ∀ {r : List Int}, r.Pairwise (· ≤ ·) → (insI x r).Pairwise (· ≤ ·)
  | [], _ => by simp [insI]
  | y :: r, h => by
    unfold insI
    rw [List.pairwise_cons] at h
    split
    · rename_i z
      rw [List.pairwise_cons]
      refine ⟨fun a ha => ?_, List.pairwise_cons.mpr h⟩
      rcases List.mem_cons.mp ha with rfl | ha
      · exact z
      · exact Int.le_trans z (h.1 a ha)
    · rename_i z
      rw [List.pairwise_cons]
      refine ⟨fun a ha => ?_, insI_sorted x h.2⟩
      rcases List.mem_cons.mp ((insI_perm x r).mem_iff.mp ha) with rfl | ha
      · omega
      · exact h.1 a ha
theorem sortI_sorted : ∀ r : List Int, (sortI r).Pairwise (· ≤ ·)
  | [] => .nil
  | x :: r => insI_sorted x (sortI_sorted r)
theorem sorted_uniq {ns ms : List Int} (p : ns.Perm ms) (h1 : ns.Pairwise (· ≤ ·)) (h2 : ms.Pairwise (· ≤ ·)) : ns = ms :=
  p.eq_of_pairwise (fun a b _ _ x y => Int.le_antisymm x y) h1 h2
section
variable {X : Cx} {G : Gm} {Γ : Nm} {mo : Mo} {n : Nat} {S : Addr → Prop} {H H' : Hp} {a b c : Expr} {ea eb ec : E} {pos p : Pos} {es : List Expr} {ees : Es}
def rB (G : Gm) (mo : Mo) (f : BI) : List V → Hp → VK → Prop := fun vs H Q => ∃ S ds d, Dom S H ∧ RpA G S H vs ds ∧ biD mo f ds = some d ∧ ∀ v H', Same H H' → Rp G S H' v d → Q v H'
theorem cl_len (M : MoOk X G Γ mo n) : CallR X (.builtin "len") (rB G mo .len) := by
  intro pins s σ H xs us Q I r h
  obtain ⟨S, ds, d, dom, hA, e, q⟩ := h
  rcases ds with _ | ⟨d0, _ | ⟨d1, ds⟩⟩ <;> simp only [biD] at e
  · cases e
  · cases hA with
    | cons h0 hr =>
      cases hr
      cases d0 with
      | tup xs0 =>
        cases e
        cases h0 with
        | @tup a vs _ n0 q0 r0 => exact call_len_seq pins s σ H _ us Q I r ⟨a, vs, rfl, .inr (.inl (.inl q0)), by rw [r0.length]; exact q _ H (Same.refl _) (.int _)⟩
      | lst xs0 =>
        cases e
        cases h0 with
        | @lst a vs _ n0 q0 r0 => exact call_len_seq pins s σ H _ us Q I r ⟨a, vs, rfl, .inl (.inl (.inl q0)), by rw [r0.length]; exact q _ H (Same.refl _) (.int _)⟩
      | scr ns =>
        cases e
        obtain ⟨a, rfl, h2⟩ := h0.scrL
        exact call_len_seq pins s σ H _ us Q I r ⟨a, _, rfl, .inl (M.K ▸ h2 H Ext.refl), by rw [List.length_map]; exact q _ H (Same.refl _) (.int _)⟩
      | ptp ns =>
        cases e
        cases h0 with
        | @ptp a o _ q0 z0 => exact call_len_seq pins s σ H _ us Q I r ⟨a, _, rfl, .inr (.inl (.inr ⟨o, q0⟩)), by rw [List.length_map]; exact q _ H (Same.refl _) (.int _)⟩
      | dic kvs =>
        cases e
        cases h0 with
        | @dic a ks _ n0 q0 r0 =>
          obtain ⟨u, rfl, ru⟩ := vals1 r
          obtain rfl : u = Value.ref a := ru
          exact d_len I (.inl q0) fun t s' I' => ⟨.int ks.length, H, I', ⟨t, rfl⟩, by rw [r0.length]; exact q _ H (Same.refl _) (.int _)⟩
      | dit kvs =>
        cases e
        cases h0 with
        | @dit a ks _ n0 q0 r0 =>
          exact call_len_dT pins s σ H _ us Q I r ⟨a, ks, rfl, q0, by rw [r0.length]; exact q _ H (Same.refl _) (.int _)⟩
      | str x =>
        simp only [lenD] at e
        split at e
        · rename_i hl
          cases e
          cases h0
          exact call_len pins s σ H _ us Q I r ⟨_, _, rfl, ⟨Nat.le_of_lt (lim_line hl), rfl⟩, q _ H (Same.refl _) (.int _)⟩
        · cases e
      | obj c fs =>
        simp only [lenD] at e
        split at e
        · rename_i k hk
          split at e
          · rename_i hb
            rw [Bool.and_eq_true] at hb
            cases e
            obtain ⟨C, f, fd, ps, g1, Hs, Mt, fn, ne, ar⟩ := me_call M hk
            have ha2 := Mt.at_
            rw [M.an0] at ha2
            cases h0 with
            | @obj a0 C0 dx vs _ _ n0 h0 g0 r0 =>
              rw [g1] at g0
              cases g0
              exact call_lenOwn Hs.ok (M.room.mono (by omega)) ha2 Mt.fn Hs.b pass0 pins s σ H _ us Q I r ⟨a0, dx, vs, rfl, h0, ar, S, _, _, dom, .cons (.obj n0 h0 g1 r0) .nil, hk, fun v H' s h => by
                cases h
                exact ⟨k, rfl, of_decide_eq_true hb.1, of_decide_eq_true hb.2, q _ H' s (.int _)⟩⟩
          · cases e
        · cases e
      | _ => cases e
  · cases e
theorem cl_seqI (M : MoOk X G Γ mo n) {id : String} {f : BI} {g : List Int → Option D} (hL : ∀ (pins : List (Addr × Obj)) (s : Shared) (σ : L2.St) (H : Hp) (a : Addr) (ns : List Int) (k : Bool) (us : List Value) (Q : VK) (d : D), Inv X pins σ H s → Vals [.ref a] us → SqB X.K H a (ns.map V.int) k → g ns = some d →
      (∀ v H', Same H H' → Rp G (fun _ => False) H' v d → Q v H') → wpAny (model X.prog X.w) X.A (call (.builtin id) us) (EP X pins σ Q) X.xe s) (hf : ∀ d0, biD mo f [d0] = (itemsD d0).bind fun xs => (intsD xs).bind g) (hd : ∀ ns d, g ns = some d → ∃ i, d = .int i) :
    ∀ pins s σ H x us Q d0 d S, Inv X pins σ H s → Vals [x] us → Rp G S H x d0 → biD mo f [d0] = some d → (∀ v H', Same H H' → Rp G S H' v d → Q v H') → wpAny (model X.prog X.w) X.A (call (.builtin id) us) (EP X pins σ Q) X.xe s := by
  intro pins s σ H x us Q d0 d S I r h0 e q
  rw [hf] at e
  obtain ⟨xs, e1, e⟩ := bind_some e
  obtain ⟨ns, e2, e⟩ := bind_some e
  obtain ⟨a, vs, k, rfl, h1, h2⟩ := h0.items e1
  rw [intsD_eq e2] at h2
  rw [h2.ints] at h1
  obtain ⟨i, rfl⟩ := hd _ _ e
  exact hL pins s σ H a ns k us Q _ I r (M.K ▸ h1 H Ext.refl) e fun v H' s h => q v H' s (by cases h; exact .int _)
theorem cl_sum (M : MoOk X G Γ mo n) : CallR X (.builtin "sum") (rB G mo .sum) := by
  intro pins s σ H xs us Q I r h
  obtain ⟨S, ds, d, dom, hA, e, q⟩ := h
  rcases ds with _ | ⟨d0, _ | ⟨d1, ds⟩⟩
  · simp only [biD] at e; cases e
  · cases hA with
    | cons h0 hr =>
      cases hr
      refine cl_seqI M (f := .sum) (g := fun ns => some (.int ns.sum)) (fun pins s σ H a ns k us Q d I r hs hd q => ?_) (fun d0 => by simp only [biD]) (fun ns d h => by cases h; exact ⟨_, rfl⟩) pins s σ H _ us Q d0 d S I r h0 e q
      cases hd
      cases k with
      | true => exact cr_sum M.calm pins s σ H _ us Q I r ⟨a, ns, rfl, hs, q _ H (Same.refl _) (.int _)⟩
      | false => exact cr_sumT M.calm pins s σ H _ us Q I r ⟨a, ns, rfl, hs, q _ H (Same.refl _) (.int _)⟩
  · simp only [biD] at e; cases e
theorem SqB_or {K : PySem.W.Frag} {a : Addr} {vs : List V} {k : Bool} (h : SqB K H a vs k) : SqL K H a vs ∨ SqT K H a vs := by
  cases k with
  | true => exact .inl h
  | false => exact .inr h
theorem cl_max (M : MoOk X G Γ mo n) : CallR X (.builtin "max") (rB G mo .max) := by
  intro pins s σ H xs us Q I r h
  obtain ⟨S, ds, d, dom, hA, e, q⟩ := h
  rcases ds with _ | ⟨d0, _ | ⟨d1, _ | ⟨d2, ds⟩⟩⟩
  · simp only [biD] at e; cases e
  · cases hA with
    | cons h0 hr =>
      cases hr
      refine cl_seqI M (f := .max) (g := fun ns => if 0 < ns.length then some (.int (maxI ns)) else none) (fun pins s σ H a ns k us Q d I r hs hd q => ?_) (fun d0 => by simp only [biD]) (fun ns d h => by split at h <;> cases h; exact ⟨_, rfl⟩) pins s σ H _ us Q d0 d S I r h0 e q
      split at hd
      · rename_i hl
        cases hd
        exact cr_maxT M.calm pins s σ H _ us Q I r ⟨a, ns, rfl, SqB_or hs, hl, fun m h1 h2 => by rw [maxI_of h1 h2]; exact q _ H (Same.refl _) (.int _)⟩
      · cases hd
  · cases hA with
    | cons h0 hr =>
      cases hr with
      | cons h1 hr =>
        cases hr
        simp only [biD] at e
        unfold max2D at e
        split at e
        · cases h0
          cases h1
          cases e
          exact call_max2 M.calm pins s σ H _ us Q I r ⟨_, _, rfl, q _ H (Same.refl _) (.int _)⟩
        · cases e
  · simp only [biD] at e; cases e
theorem cl_min (M : MoOk X G Γ mo n) : CallR X (.builtin "min") (rB G mo .min) := by
  intro pins s σ H xs us Q I r h
  obtain ⟨S, ds, d, dom, hA, e, q⟩ := h
  rcases ds with _ | ⟨d0, _ | ⟨d1, _ | ⟨d2, ds⟩⟩⟩
  · simp only [biD] at e; cases e
  · cases hA with
    | cons h0 hr =>
      cases hr
      refine cl_seqI M (f := .min) (g := fun ns => if 0 < ns.length then some (.int (minI ns)) else none) (fun pins s σ H a ns k us Q d I r hs hd q => ?_) (fun d0 => by simp only [biD]) (fun ns d h => by split at h <;> cases h; exact ⟨_, rfl⟩) pins s σ H _ us Q d0 d S I r h0 e q
      split at hd
      · rename_i hl
        cases hd
        exact cr_minT M.calm pins s σ H _ us Q I r ⟨a, ns, rfl, SqB_or hs, hl, fun m h1 h2 => by rw [minI_of h1 h2]; exact q _ H (Same.refl _) (.int _)⟩
      · cases hd
  · cases hA with
    | cons h0 hr =>
      cases hr with
      | cons h1 hr =>
        cases hr
        simp only [biD] at e
        unfold min2D at e
        split at e
        · cases h0
          cases h1
          cases e
          exact call_min2 M.calm pins s σ H _ us Q I r ⟨_, _, rfl, q _ H (Same.refl _) (.int _)⟩
        · cases e
  · simp only [biD] at e; cases e
theorem one_arg {f : BI} {g : D → Option D} {v : Value} {R : List V → Hp → VK → Prop} (hf : ∀ ds, biD mo f ds = match ds with | [d] => g d | _ => none)
    (h : ∀ (pins : List (Addr × Obj)) (s : Shared) (σ : L2.St) (H : Hp) (S : Addr → Prop) (x : V) (us : List Value) (Q : VK) (d0 d : D), Inv X pins σ H s → Vals [x] us → Dom S H → Rp G S H x d0 → g d0 = some d → (∀ v H', Same H H' → Rp G S H' v d → Q v H') →
      wpAny (model X.prog X.w) X.A (call v us) (EP X pins σ Q) X.xe s) : CallR X v (rB G mo f) := by
  intro pins s σ H xs us Q I r hh
  obtain ⟨S, ds, d, dom, hA, e, q⟩ := hh
  rw [hf] at e
  rcases ds with _ | ⟨d0, _ | ⟨d1, ds⟩⟩
  · cases e
  · cases hA with
    | cons h0 hr =>
      cases hr
      exact h pins s σ H S _ us Q d0 d I r dom h0 e q
  · cases e
theorem cl_all (M : MoOk X G Γ mo n) : CallR X (.builtin "all") (rB G mo .all) := one_arg (R := fun _ _ _ => True) (g := allD) (fun ds => by rcases ds with _ | ⟨d0, _ | ⟨d1, ds⟩⟩ <;> simp only [biD]) fun pins s σ H S x us Q d0 d I r dom h0 e q => by
  unfold allD at e
  split at e
  · obtain ⟨bs, e1, e⟩ := bind_some e
    cases e
    rw [blsD_eq e1] at h0
    cases h0 with
    | @lst a vs _ n0 q0 r0 => exact cr_all M.calm pins s σ H _ us Q I r ⟨a, bs, rfl, .inl (.inl (by rw [q0, r0.bls])), q _ H (Same.refl _) (.bl _)⟩
  · cases e
theorem cl_any (M : MoOk X G Γ mo n) : CallR X (.builtin "any") (rB G mo .any) := one_arg (R := fun _ _ _ => True) (g := anyD) (fun ds => by rcases ds with _ | ⟨d0, _ | ⟨d1, ds⟩⟩ <;> simp only [biD]) fun pins s σ H S x us Q d0 d I r dom h0 e q => by
  unfold anyD at e
  split at e
  · obtain ⟨bs, e1, e⟩ := bind_some e
    cases e
    rw [blsD_eq e1] at h0
    cases h0 with
    | @lst a vs _ n0 q0 r0 => exact cr_any M.calm pins s σ H _ us Q I r ⟨a, bs, rfl, .inl (.inl (by rw [q0, r0.bls])), q _ H (Same.refl _) (.bl _)⟩
  · cases e
theorem cl_abs (M : MoOk X G Γ mo n) : CallR X (.builtin "abs") (rB G mo .abs) := one_arg (R := fun _ _ _ => True) (g := absD) (fun ds => by rcases ds with _ | ⟨d0, _ | ⟨d1, ds⟩⟩ <;> simp only [biD]) fun pins s σ H S x us Q d0 d I r dom h0 e q => by
  unfold absD at e
  split at e
  · cases h0; cases e
    exact call_abs pins s σ H _ us Q I r ⟨_, rfl, q _ H (Same.refl _) (.int _)⟩
  · cases e
theorem cl_int (M : MoOk X G Γ mo n) : CallR X (.type "int") (rB G mo .int) := one_arg (R := fun _ _ _ => True) (g := intD) (fun ds => by rcases ds with _ | ⟨d0, _ | ⟨d1, ds⟩⟩ <;> simp only [biD]) fun pins s σ H S x us Q d0 d I r dom h0 e q => by
  unfold intD at e
  split at e
  · cases h0; cases e
    exact call_int1 pins s σ H _ us Q I r (.inl ⟨_, rfl, q _ H (Same.refl _) (.int _)⟩)
  · cases e
theorem cl_list (M : MoOk X G Γ mo n) : CallR X (.type "list") (rB G mo .list) := one_arg (R := fun _ _ _ => True) (g := fun d => (itemsD d).map D.lst) (fun ds => by rcases ds with _ | ⟨d0, _ | ⟨d1, ds⟩⟩ <;> simp only [biD]) fun pins s σ H S x us Q d0 d I r dom h0 e q => by
  obtain ⟨xs, e1, rfl⟩ := map_some e
  obtain ⟨a, vs, k, rfl, h1, h2⟩ := h0.items e1
  exact call_list_of pins s σ H _ us Q I r ⟨a, vs, rfl, SqB_or (M.K ▸ h1 H Ext.refl), fun l nl => q _ _ (same_new nl) (new_lst dom nl h2)⟩
theorem cl_tuple (M : MoOk X G Γ mo n) : CallR X (.type "tuple") (rB G mo .tuple) := one_arg (R := fun _ _ _ => True) (g := tupleD) (fun ds => by rcases ds with _ | ⟨d0, _ | ⟨d1, ds⟩⟩ <;> simp only [biD]) fun pins s σ H S x us Q d0 d I r dom h0 e q => by
  cases d0 with
  | ptp ns =>
    cases e
    cases h0 with
    | @ptp a o _ q0 z0 => exact call_tuple_of pins s σ H _ us Q I r ⟨a, _, rfl, .inr ⟨.inl (.inr ⟨o, q0⟩), q _ H (Same.refl _) (.ptp q0 z0)⟩⟩
  | tup xs0 =>
    have e : some (D.tup (xs0)) = some d := e
    cases e
    cases h0 with
    | @tup a vs _ n0 q0 r0 => exact call_tuple_of pins s σ H _ us Q I r ⟨a, vs, rfl, .inr ⟨.inl (.inl q0), q _ H (Same.refl _) (.tup n0 q0 r0)⟩⟩
  | lst xs0 =>
    have e : some (D.tup (xs0)) = some d := e
    cases e
    cases h0 with
    | @lst a vs _ n0 q0 r0 => exact call_tuple_of pins s σ H _ us Q I r ⟨a, vs, rfl, .inl ⟨.inl (.inl q0), fun l nl => q _ _ (same_new nl) (new_tup dom nl r0)⟩⟩
  | scr ns =>
    have e : some (D.tup (ns.map D.int)) = some d := e
    cases e
    obtain ⟨a, rfl, h2⟩ := h0.scrL
    exact call_tuple_of pins s σ H _ us Q I r ⟨a, _, rfl, .inl ⟨M.K ▸ h2 H Ext.refl, fun l nl => q _ _ (same_new nl) (new_tup dom nl (RpA.of_ints ns))⟩⟩
  | _ => cases e
theorem insT_perm (x : List Int) : ∀ r : List (List Int), (insT x r).Perm (x :: r)
  | [] => .refl _
  | y :: r => by
    unfold insT
    split
    · exact ((insT_perm x r).cons y).trans (.swap x y r)
    · exact .refl _
theorem sortT_perm : ∀ r : List (List Int), (sortT r).Perm r
  | [] => .refl _
  | x :: r => (insT_perm x _).trans ((sortT_perm r).cons x)
abbrev SrtT (l : List (List Int)) : Prop := l.Pairwise fun x y => lexI y x = false
theorem insT_sorted (x : List Int) : ∀ {r : List (List Int)}, SrtT r → SrtT (insT x r)
  | [], _ => List.pairwise_singleton _ _
  | y :: r, h => by
    have h' := List.pairwise_cons.mp h
    unfold insT
    split
    · rename_i z
      refine List.pairwise_cons.mpr ⟨fun a ha => ?_, insT_sorted x h'.2⟩
      rcases List.mem_cons.mp ((insT_perm x r).mem_iff.mp ha) with rfl | ha
      · exact lexI_asym _ _ z
      · exact h'.1 a ha
    · rename_i z
      have z : lexI y x = false := by simpa using z
      refine List.pairwise_cons.mpr ⟨fun a ha => ?_, h⟩
      rcases List.mem_cons.mp ha with rfl | ha
      · exact z
      · exact lexI_tr _ _ _ z (h'.1 a ha)
theorem sortT_sorted : ∀ r : List (List Int), SrtT (sortT r)
  | [] => .nil
  | x :: r => insT_sorted x (sortT_sorted r)
theorem sortT_uniq {ns ms : List (List Int)} (p : ns.Perm ms) (h1 : SrtT ns) (h2 : SrtT ms) : ns = ms :=
  p.eq_of_pairwise (fun a b _ _ x y => lexI_anti a b y x) h1 h2
def intsV (vs : List V) : List Int := vs.filterMap fun v => match v with | .int i => some i | _ => none
theorem intsV_map (ns : List Int) : intsV (ns.map V.int) = ns := by
  induction ns with
  | nil => rfl
  | cons n ns ih => show n :: intsV (ns.map V.int) = n :: ns; rw [ih]
def kOf (H : Hp) (v : V) : List Int := match v with
  | .ref t => match H t with
    | some (.tup ws) => intsV ws
    | _ => []
  | _ => []
theorem tupI_some {d : D} {ns : List Int} (h : tupI d = some ns) : d = .tup (ns.map D.int) ∧ ns ≠ [] := by
  unfold tupI at h
  split at h
  · split at h
    · rename_i e; cases h; rw [intsD_eq e]; exact ⟨rfl, by simp⟩
    · cases h
  · cases h
theorem tupsI_some : ∀ {xs : List D} {nss : List (List Int)}, tupsI xs = some nss → xs = nss.map (fun ns => D.tup (ns.map D.int)) ∧ ∀ ns ∈ nss, ns ≠ []
  | [], _, h => by simp [tupsI] at h; subst h; exact ⟨rfl, fun _ z => by cases z⟩
  | x :: r, nss, h => by
    unfold tupsI at h
    split at h
    · rename_i p q h1 h2
      cases h
      obtain ⟨e1, e2⟩ := tupI_some h1
      obtain ⟨e3, e4⟩ := tupsI_some h2
      refine ⟨by rw [e1, e3]; rfl, fun ns z => ?_⟩
      rcases List.mem_cons.mp z with rfl | z
      · exact e2
      · exact e4 ns z
    · cases h
theorem RpA.tups {H : Hp} : ∀ {nss : List (List Int)} {vs : List V}, RpA G S H vs (nss.map fun ns => D.tup (ns.map D.int)) → vs.map (kOf H) = nss ∧ ∀ v ∈ vs, ∃ t, v = .ref t ∧ H t = some (.tup ((kOf H v).map V.int)) ∧ Rp G S H v (.tup ((kOf H v).map D.int))
  | [], _, h => by cases h; exact ⟨rfl, fun _ z => by cases z⟩
  | ns :: nss, _, h => by
    cases h with
    | @cons v vs _ _ a b =>
      obtain ⟨e1, e2⟩ := RpA.tups b
      have a0 := a
      cases a with
      | @tup t ws _ n0 q0 r0 =>
        have ew := r0.ints
        have ek : kOf H (.ref t) = ns := by
          unfold kOf; dsimp only; rw [q0]; dsimp only; rw [ew, intsV_map]
        refine ⟨by rw [List.map_cons, e1, ek], fun v z => ?_⟩
        rcases List.mem_cons.mp z with rfl | z
        · refine ⟨t, rfl, ?_, ?_⟩
          · rw [ek, q0, ew]
          · rw [ek]; exact a0
        · exact e2 v z
theorem RpA.of_all {H : Hp} {f : V → D} : ∀ {vs : List V}, (∀ v ∈ vs, Rp G S H v (f v)) → RpA G S H vs (vs.map f)
  | [], _ => .nil
  | v :: vs, h => .cons (h v List.mem_cons_self) (RpA.of_all fun u hu => h u (List.mem_cons_of_mem _ hu))
/-- sorted of ints, or of tuples of ints -/
def rSrt (K : PySem.W.Frag) : List V → Hp → VK → Prop := fun vs H Q => rSortedI K vs H Q ∨ rSortedT K vs H Q
theorem cr_srt : CallR X (.builtin "sorted") (rSrt X.K) := fun pins s σ H vs us Q I r h => h.elim (cr_sortedI pins s σ H vs us Q I r) (cr_sortedT pins s σ H vs us Q I r)
theorem sorted_ask {K : PySem.W.Frag} {x : V} {d0 d : D} {Q : VK} (h0 : Rp G S H x d0) (e : sortedD d0 = some d) (q : ∀ p ws ds, H p = none → d = .lst ds → RpA G S H ws ds → Q (.ref p) (upd H p (.lst ws))) : rSrt K [x] H Q := by
  unfold sortedD at e
  split at e
  · split at e
    · rename_i ns e1
      cases e
      rw [intsD_eq e1] at h0
      cases h0 with
      | @lst a vs _ n0 q0 r0 =>
        refine .inl ⟨a, ns, rfl, .inl (.inl (by rw [q0, r0.ints])), fun ms p hp hs np => ?_⟩
        have : ms = sortI ns := sorted_uniq (hp.trans (sortI_perm ns).symm) hs (sortI_sorted ns)
        rw [this]
        exact q _ _ _ np rfl (RpA.of_ints _)
    · split at e
      · rename_i nss e1
        cases e
        obtain ⟨e2, e3⟩ := tupsI_some e1
        subst e2
        cases h0 with
        | @lst a vs _ n0 q0 r0 =>
          obtain ⟨k1, k2⟩ := r0.tups
          refine .inr ⟨a, vs, kOf H, rfl, .inl (.inl q0), fun x hx => ?_, fun ys p hp hs np => ?_⟩
          · obtain ⟨t, e4, e5, _⟩ := k2 x hx
            refine ⟨e3 _ ?_, t, e4, e5⟩
            rw [← k1]; exact List.mem_map.mpr ⟨x, hx, rfl⟩
          · have es : ys.map (kOf H) = sortT nss := sortT_uniq ((hp.map _).trans (k1 ▸ (sortT_perm nss).symm)) (List.pairwise_map.mpr hs) (sortT_sorted nss)
            refine q _ _ _ np rfl ?_
            rw [← es, List.map_map]
            exact RpA.of_all fun v hv => (k2 v (hp.mem_iff.mp hv)).choose_spec.2.2
      · cases e
  · cases e
theorem cl_sorted (M : MoOk X G Γ mo n) : CallR X (.builtin "sorted") (rB G mo .sorted) := one_arg (R := fun _ _ _ => True) (g := sortedD) (fun ds => by rcases ds with _ | ⟨d0, _ | ⟨d1, ds⟩⟩ <;> simp only [biD]) fun pins s σ H S x us Q d0 d I r dom h0 e q =>
  cr_srt pins s σ H _ us Q I r (sorted_ask h0 e fun p ws ds np ed hA => by subst ed; exact q _ _ (same_new np) (new_lst dom np hA))
theorem s_biB {f : BI} {id : String} {x : Str} (hc : CallR X (.builtin id) (rB G mo f)) (hg : Gl X x) (hm : X.mg x = none) (hv : bootBuiltins x = some (.builtin id)) (hn : x ≠ "__name__") (hdb : (x == ("__debug__" : Str)) = false)
    (he : noStar a = true) (hes : es.all noStar = true) (h : PA X (a :: es) (tA G mo ees)) : PE X (.Call (.Name x p) (a :: es) [] pos) (tE G mo (.bi f ees)) := by
  refine (pe_callB hc hg hm hv h hn hdb (star_cons he) (star_any hes)).imp fun σ H Q h => ?_
  obtain ⟨S, ρ, d, r, e, q⟩ := h
  simp only [ev] at e
  obtain ⟨ds, e1, e⟩ := bind_some e
  exact tA_run r e1 fun vs H1 s1 r1 hv => ⟨S, ds, d, r1.dom, hv, e, fun v H' s h => q v H' (s1.trans s) h⟩
theorem s_biT {f : BI} {id : String} {x : Str} (hc : CallR X (.type id) (rB G mo f)) (hg : Gl X x) (hm : X.mg x = none) (hv : bootBuiltins x = some (.type id)) (hn : x ≠ "__name__") (hdb : (x == ("__debug__" : Str)) = false)
    (he : noStar a = true) (hes : es.all noStar = true) (h : PA X (a :: es) (tA G mo ees)) : PE X (.Call (.Name x p) (a :: es) [] pos) (tE G mo (.bi f ees)) := by
  refine (pe_callTy hc hg hm hv h hn hdb (star_cons he) (star_any hes)).imp fun σ H Q h => ?_
  obtain ⟨S, ρ, d, r, e, q⟩ := h
  simp only [ev] at e
  obtain ⟨ds, e1, e⟩ := bind_some e
  exact tA_run r e1 fun vs H1 s1 r1 hv => ⟨S, ds, d, r1.dom, hv, e, fun v H' s h => q v H' (s1.trans s) h⟩
theorem cl_gcd (M : MoOk X G Γ mo n) : CallR X (.builtin "math.gcd") (rB G mo .gcd) := by
  intro pins s σ H xs us Q I r h
  obtain ⟨S, ds, d, dom, hA, e, q⟩ := h
  unfold biD at e
  split at e <;> first | (rename_i z; cases z; done) | skip
  all_goals (first | (rename_i z _; cases z; done) | skip)
  all_goals (first
    | (cases e
       cases hA with
       | cons h0 hr =>
         cases hr with
         | cons h1 hr2 =>
           cases hr2
           cases h0
           cases h1
           exact cr_gcd pins s σ H _ us Q I r ⟨_, _, rfl, q _ H (Same.refl _) (.int _)⟩)
    | cases e)
theorem s_bi (M : MoOk X G Γ mo n) (f : BI) (hi : ∀ id, biImp f = some id → (biName f, id) ∈ Γ.imps) (hg : Gl X (biName f)) (he : noStar a = true) (hes : es.all noStar = true) (h : PA X (a :: es) (tA G mo ees)) : PE X (.Call (.Name (biName f) p) (a :: es) [] pos) (tE G mo (.bi f ees)) := by
  have hm : biImp f = none → X.mg (biName f) = none := fun z => M.bl _ (by cases f <;> first | decide +kernel | cases z)
  have hm2 := hm
  cases f with
  | gcd =>
    refine (pe_callBfun (cl_gcd M) hg (M.imp _ _ (hi _ rfl)) h (by decide) (star_cons he) (star_any hes)).imp fun σ H Q h => ?_
    obtain ⟨S, ρ, d, r, e, q⟩ := h
    simp only [ev] at e
    obtain ⟨ds, e1, e2⟩ := bind_some e
    exact tA_run r e1 fun vs H1 s1 r1 hA => ⟨S, ds, d, r1.dom, hA, e2, fun v H' s h => q v H' (s1.trans s) h⟩
  | len => exact s_biB (cl_len M) hg (hm2 rfl) PySem.boot_len (by decide) (by decide) he hes h
  | sum => exact s_biB (cl_sum M) hg (hm2 rfl) (by decide +kernel) (by decide) (by decide) he hes h
  | max => exact s_biB (cl_max M) hg (hm2 rfl) (by decide +kernel) (by decide) (by decide) he hes h
  | min => exact s_biB (cl_min M) hg (hm2 rfl) (by decide +kernel) (by decide) (by decide) he hes h
  | all => exact s_biB (cl_all M) hg (hm2 rfl) (by decide +kernel) (by decide) (by decide) he hes h
  | any => exact s_biB (cl_any M) hg (hm2 rfl) (by decide +kernel) (by decide) (by decide) he hes h
  | abs => exact s_biB (cl_abs M) hg (hm2 rfl) (by decide +kernel) (by decide) (by decide) he hes h
  | int => exact s_biT (cl_int M) hg (hm2 rfl) (by decide +kernel) (by decide) (by decide) he hes h
  | list => exact s_biT (cl_list M) hg (hm2 rfl) (by decide +kernel) (by decide) (by decide) he hes h
  | tuple => exact s_biT (cl_tuple M) hg (hm2 rfl) (by decide +kernel) (by decide) (by decide) he hes h
  | sorted => exact s_biB (cl_sorted M) hg (hm2 rfl) (by decide +kernel) (by decide) (by decide) he hes h
/-! ### isinstance -/
theorem Rp.ty (M : MoOk X G Γ mo n) {d : D} {v : V} {u : Value} (h : Rp G S H v d) (hu : tyVal G (tyD d) = some u) : TyX X.K H v u := by
  cases h with
  | non => cases hu; exact .base .non
  | bl b => cases hu; exact .base (.bl b)
  | int i => cases hu; exact .base (.int i)
  | str x => cases hu; exact .base (.str x)
  | tup n0 q r => cases hu; exact .base (.tup q)
  | lst n0 q r => cases hu; exact .base (.lst q)
  | scr0 n0 q => cases hu; exact .base (.lst q)
  | scr1 q => cases hu; exact .base (.frz q)
  | scr2 q =>
    cases hu
    rcases q with (q | ⟨o, q⟩) | ⟨o, its, m, h1, h2, _⟩
    · cases q
    · cases q
    · exact .kList (M.K ▸ h1) h2
  | ktp q =>
    cases hu
    rcases q with (q | ⟨o, q⟩) | ⟨o, its, m, h1, h2, _⟩
    · cases q
    · cases q
    · exact .kTuple (M.K ▸ h1) h2
  | ptp q z => cases hu; exact .fTuple q
  | dic n0 q r => cases hu; exact .base (.dK q)
  | dit n0 q r => cases hu; exact .base (.dT q)
  | obj n0 q g r =>
    simp only [tyD, tyVal, g] at hu
    cases hu
    have c := M.cl _ _ g
    exact .base (.ins q c.cl c.ha c.hn c.htk c.hm)
  | drw _ _ _ => cases hu
theorem isi_one (M : MoOk X G Γ mo n) {t c : Ty} {b : Bool} (h : isiD mo t [c] = some b) : ∃ u v, tyVal G t = some u ∧ tyVal G c = some v ∧ PySem.W.kitOne X.K u v = some b := by
  simp only [isiD] at h
  split at h
  · rename_i h1; cases h; exact M.isi _ _ _ h1
  · rename_i h1
    split at h
    · cases h
    · cases h; exact M.isi _ _ _ h1
  · cases h
theorem isi_unk (M : MoOk X G Γ mo n) : ∀ {cs : List Ty} {b : Bool}, isiD mo .unk cs = some b → False
  | [], _, h => by cases h
  | c :: cs, b, h => by
    simp only [isiD] at h
    split at h
    · rename_i h1
      obtain ⟨u, v, g, _⟩ := M.isi _ _ _ h1
      cases g
    · rename_i h1
      obtain ⟨u, v, g, _⟩ := M.isi _ _ _ h1
      cases g
    · cases h
theorem isi_any (M : MoOk X G Γ mo n) {t : Ty} {u : Value} (hu : tyVal G t = some u) : ∀ {cs : List Ty} {b : Bool}, isiD mo t cs = some b → ∀ {vs : List Value}, cs.map (tyVal G) = vs.map some → PySem.W.kitAny X.K u vs = some b
  | [], _, h, vs, e => by
    cases vs with
    | nil =>
      simp only [isiD] at h
      split at h
      · cases hu
      · cases h; rfl
    | cons v r => cases e
  | c :: cs, b, h, vs, e => by
    cases vs with
    | nil => cases e
    | cons v r =>
      rw [List.map_cons, List.map_cons, List.cons.injEq] at e
      simp only [isiD] at h
      unfold PySem.W.kitAny
      split at h
      · rename_i h1
        obtain ⟨u', v', g1, g2, g3⟩ := M.isi _ _ _ h1
        rw [hu] at g1; cases g1
        rw [e.1] at g2; cases g2
        rw [g3]; exact h
      · rename_i h1
        obtain ⟨u', v', g1, g2, g3⟩ := M.isi _ _ _ h1
        rw [hu] at g1; cases g1
        rw [e.1] at g2; cases g2
        rw [g3]; exact isi_any M hu h e.2
      · cases h
/-- a class as it is written: a built-in type or an own class -/
def tyE (G : Gm) (Γ : Nm) (t : Ty) : V → Prop := fun v => match t with
  | .bi n => v = .ty n
  | .own c => ∃ C, G.cls c = some C ∧ v = .ref C
  | .unk => False
theorem tyE_val {t : Ty} {v : V} (h : tyE G Γ t v) : ∃ u, tyVal G t = some u ∧ ClsV v u := by
  cases t with
  | bi n => cases h; exact ⟨_, rfl, .ty n⟩
  | own c =>
    obtain ⟨C, g, rfl⟩ := h
    exact ⟨.ref C, by simp [tyVal, g], .own C⟩
  | unk => exact h.elim
theorem s_isi (M : MoOk X G Γ mo n) {t : Ty} {v : V} (hg : Gl X "isinstance") (ha : PE X a (tE G mo ea)) (hb : PE X b (tC v)) (hv : tyE G Γ t v) (h1 : noStar a = true) (h2 : noStar b = true) :
    PE X (.Call (.Name "isinstance" p) [a, b] [] pos) (tE G mo (.isi ea [t])) := by
  refine (pe_callB call_isi hg (M.bl _ (by decide +kernel)) (by decide +kernel) (pa_cons ha (pa_cons hb pa_nil (star_cons h2)) (star_cons h1)) (by decide) (by decide) (star_cons h1) (star_any (by simp [h2]))).imp fun σ H Q h => ?_
  obtain ⟨S, ρ, d, r, e, q⟩ := h
  simp only [ev] at e
  obtain ⟨dx, e1, e⟩ := bind_some e
  obtain ⟨k, e2, rfl⟩ := map_some e
  obtain ⟨u, w', g1, g2, g3⟩ := isi_one M e2
  obtain ⟨u2, g4, cv⟩ := tyE_val hv
  rw [g2] at g4; cases g4
  exact tE_run r e1 fun x H1 s1 r1 hx => ⟨x, v, u, w', k, rfl, cv, hx.ty M g1, g3, q _ H1 s1 (.bl _)⟩
end
end PV
namespace PV
open PySem PySem.Spec PyProof.Rows L2 BK
def Cd (S S' : Addr → Prop) (H : Hp) : Prop := ∀ a, ¬ S a → (H a).isSome = true → ¬ S' a
theorem Cd.refl {S : Addr → Prop} {H : Hp} : Cd S S H := fun _ n _ => n
/-- an iterator walks xs -/
def Wk (G : Gm) (S : Addr → Prop) (H1 : Hp) (J : It) (xs : List D) : Prop :=
  Walk J xs.length (fun H => ∃ S', Cd S S' H1 ∧ Ext S' H1 H ∧ Dom S' H) (fun i H x H' => Same H H' ∧ ∀ S', Cd S S' H1 → Ext S' H1 H → Dom S' H → ∃ d, xs[i]? = some d ∧ Rp G S' H' x d)
def tI (G : Gm) (mo : Mo) (it : I) : TI := fun σ H R => ∃ S ρ xs, RV G S H ρ σ ∧ evI mo it ρ = some xs ∧ ∀ J H1, Same H H1 → Wk G S H1 J xs → R J H1
theorem zipD_len : ∀ xs ys : List D, (zipD xs ys).length = min xs.length ys.length
  | [], ys => by simp [zipD]
  | x :: xs, [] => by simp [zipD]
  | x :: xs, y :: ys => by simp [zipD, zipD_len xs ys] <;> omega
theorem zipD_get : ∀ (xs ys : List D) (i : Nat) (x y : D), xs[i]? = some x → ys[i]? = some y → (zipD xs ys)[i]? = some (.tup [x, y])
  | x :: xs, y :: ys, 0, _, _, h1, h2 => by simp at h1 h2; subst h1 h2; rfl
  | x :: xs, y :: ys, i + 1, _, _, h1, h2 => by simp at h1 h2; simpa [zipD] using zipD_get xs ys i _ _ h1 h2
  | [], _, _, _, _, h1, _ => by simp at h1
  | _ :: _, [], _, _, _, _, h2 => by simp at h2
theorem zip3D_len : ∀ xs ys zs : List D, (zip3D xs ys zs).length = min (min xs.length ys.length) zs.length
  | [], ys, zs => by simp [zip3D]
  | x :: xs, [], zs => by simp [zip3D]
  | x :: xs, y :: ys, [] => by simp [zip3D]
  | x :: xs, y :: ys, z :: zs => by simp [zip3D, zip3D_len xs ys zs] <;> omega
theorem zip3D_get : ∀ (xs ys zs : List D) (i : Nat) (x y z : D), xs[i]? = some x → ys[i]? = some y → zs[i]? = some z → (zip3D xs ys zs)[i]? = some (.tup [x, y, z])
  | x :: xs, y :: ys, z :: zs, 0, _, _, _, h1, h2, h3 => by simp at h1 h2 h3; subst h1 h2 h3; rfl
  | x :: xs, y :: ys, z :: zs, i + 1, _, _, _, h1, h2, h3 => by simp at h1 h2 h3; simpa [zip3D] using zip3D_get xs ys zs i _ _ _ h1 h2 h3
  | [], _, _, _, _, _, _, h1, _, _ => by simp at h1
  | _ :: _, [], _, _, _, _, _, _, h2, _ => by simp at h2
  | _ :: _, _ :: _, [], _, _, _, _, _, _, h3 => by simp at h3
theorem enuD_len : ∀ (n : Nat) (xs : List D), (enuD n xs).length = xs.length
  | _, [] => rfl
  | n, x :: xs => by simp [enuD, enuD_len (n + 1) xs]
theorem enuD_get : ∀ (n : Nat) (xs : List D) (i : Nat) (x : D), xs[i]? = some x → (enuD n xs)[i]? = some (.tup [.int ((n + i : Nat) : Int), x])
  | n, x :: xs, 0, _, h => by simp at h; subst h; rfl
  | n, x :: xs, i + 1, _, h => by
    simp at h
    have := enuD_get (n + 1) xs i _ h
    simp only [enuD, List.getElem?_cons_succ]
    rw [this, show n + 1 + i = n + (i + 1) by omega]
  | _, [], _, _, h => by simp at h
section
variable {X : Cx} {G : Gm} {Γ : Nm} {mo : Mo} {n : Nat} {S : Addr → Prop} {H H' : Hp} {a b c : Expr} {ea eb ec : E} {pos p : Pos} {es : List Expr} {ees : Es}
theorem Rp.scrS {v : V} {ns : List Int} (h : Rp G S H v (.scr ns)) : ∃ a, v = .ref a ∧ ∀ S' H', Cd S S' H → Ext S' H H' → SqL G.K H' a (ns.map V.int) := by
  cases h with
  | @scr0 a _ n q => exact ⟨a, rfl, fun S' H' c e => .inl (.inl (e.1 _ _ (c _ n (by rw [q]; rfl)) q))⟩
  | @scr1 a o _ q => exact ⟨a, rfl, fun S' H' c e => .inl (.inr ⟨_, e.2 _ _ _ q⟩)⟩
  | @scr2 a _ q =>
    refine ⟨a, rfl, fun S' H' c e => ?_⟩
    rcases q with (q | ⟨o, q⟩) | q
    · cases q
    · cases q
    · exact .inr q
theorem Rp.itemsS {v : V} {d : D} {xs : List D} (h : Rp G S H v d) (e : itemsD d = some xs) : ∃ a vs k, v = .ref a ∧ ∀ S' H', Cd S S' H → Ext S' H H' → SqB G.K H' a vs k ∧ RpA G S' H' vs xs := by
  cases d with
  | tup ds =>
    cases e
    cases h with
    | @tup a vs _ n q r => exact ⟨a, vs, false, rfl, fun S' H' c e => ⟨.inl (.inl (e.1 _ _ (c _ n (by rw [q]; rfl)) q)), r.move c e⟩⟩
  | lst ds =>
    cases e
    cases h with
    | @lst a vs _ n q r => exact ⟨a, vs, true, rfl, fun S' H' c e => ⟨.inl (.inl (e.1 _ _ (c _ n (by rw [q]; rfl)) q)), r.move c e⟩⟩
  | scr ns =>
    cases e
    obtain ⟨a, rfl, h2⟩ := h.scrS
    exact ⟨a, ns.map V.int, true, rfl, fun S' H' c e => ⟨h2 S' H' c e, RpA.of_ints ns⟩⟩
  | ptp ns =>
    cases e
    cases h with
    | @ptp a o _ q z => exact ⟨a, ns.map V.int, false, rfl, fun S' H' c e => ⟨.inl (.inr ⟨o, e.2 _ _ _ q⟩), RpA.of_ints ns⟩⟩
  | _ => cases e
theorem tI_run {it : I} {ρ : Rho} {σ : L2.St} {xs : List D} {R : It → Hp → Prop} (r : RV G S H ρ σ) (e1 : evI mo it ρ = some xs) (q : ∀ J H', Same H H' → RV G S H' ρ σ → Wk G S H' J xs → R J H') : tI G mo it σ H R := ⟨S, ρ, xs, r, e1, fun J H' s h => q J H' s (r.same s) h⟩
/-! ### iterators -/
variable {tg : Expr}
theorem i_of (M : MoOk X G Γ mo n) (ha : PE X a (tE G mo ea)) : PI X tg a (tI G mo (.of ea)) := by
  refine (BK.PI.or (pi_list ha) (pi_tup ha)).imp fun σ H R h => ?_
  obtain ⟨S, ρ, xs, r, e, q⟩ := h
  simp only [evI] at e
  obtain ⟨dx, e1, e⟩ := bind_some e
  have key : ∀ k, (∀ v H', Same H H' → Rp G S H' v dx → ∃ a vs, v = .ref a ∧ (∀ S' H2, Cd S S' H' → Ext S' H' H2 → SqB G.K H2 a vs k ∧ RpA G S' H2 vs xs)) → (if k = true then iList X.K (tE G mo ea) σ H R else iTup X.K (tE G mo ea) σ H R) := by
    intro k hk
    cases k with
    | true =>
      refine iteT (tE_run r e1 fun x H1 s1 r1 hx => ?_)
      obtain ⟨a, vs, rfl, h2⟩ := hk x H1 s1 hx
      refine ⟨a, rfl, ⟨vs, M.K ▸ (h2 S H1 Cd.refl Ext.refl).1⟩, q _ H1 s1 ?_⟩
      have hl := (h2 S H1 Cd.refl Ext.refl).2.length
      unfold Wk
      rw [← hl]
      refine (walk_list (K := X.K) (a := a) (xs := vs)).mono (fun H2 h => ?_) (fun i H2 x H3 hi h y => ?_)
      · obtain ⟨S', c, e', _⟩ := h
        exact M.K ▸ (h2 S' H2 c e').1
      · obtain ⟨rfl, hv⟩ := y
        refine ⟨Same.refl _, fun S' c e' _ => ?_⟩
        have hA := (h2 S' H3 c e').2
        have hi2 : i < xs.length := by rw [← hA.length]; exact hi
        refine ⟨xs[i], by simp [hi2], ?_⟩
        obtain ⟨v, g1, g2⟩ := hA.get (i := i) (d := xs[i]) (by simp [hi2])
        rw [hv] at g1; cases g1
        exact g2
    | false =>
      refine iteF (tE_run r e1 fun x H1 s1 r1 hx => ?_)
      obtain ⟨a, vs, rfl, h2⟩ := hk x H1 s1 hx
      refine ⟨a, rfl, ⟨vs, M.K ▸ (h2 S H1 Cd.refl Ext.refl).1⟩, q _ H1 s1 ?_⟩
      have hl := (h2 S H1 Cd.refl Ext.refl).2.length
      unfold Wk
      rw [← hl]
      refine (walk_tup (K := X.K) (a := a) (xs := vs)).mono (fun H2 h => ?_) (fun i H2 x H3 hi h y => ?_)
      · obtain ⟨S', c, e', _⟩ := h
        exact M.K ▸ (h2 S' H2 c e').1
      · obtain ⟨rfl, hv⟩ := y
        refine ⟨Same.refl _, fun S' c e' _ => ?_⟩
        have hA := (h2 S' H3 c e').2
        have hi2 : i < xs.length := by rw [← hA.length]; exact hi
        refine ⟨xs[i], by simp [hi2], ?_⟩
        obtain ⟨v, g1, g2⟩ := hA.get (i := i) (d := xs[i]) (by simp [hi2])
        rw [hv] at g1; cases g1
        exact g2
  cases dx with
  | tup ds =>
    refine .inr (key false fun v H' s hx => ?_)
    cases e
    cases hx with
    | @tup a vs _ n q r => exact ⟨a, vs, rfl, fun S' H2 c e => ⟨.inl (.inl (e.1 _ _ (c _ n (by rw [q]; rfl)) q)), r.move c e⟩⟩
  | lst ds =>
    refine .inl (key true fun v H' s hx => ?_)
    cases e
    cases hx with
    | @lst a vs _ n q r => exact ⟨a, vs, rfl, fun S' H2 c e => ⟨.inl (.inl (e.1 _ _ (c _ n (by rw [q]; rfl)) q)), r.move c e⟩⟩
  | scr ns =>
    refine .inl (key true fun v H' s hx => ?_)
    cases e
    obtain ⟨a, rfl, h2⟩ := hx.scrS
    exact ⟨a, ns.map V.int, rfl, fun S' H' c e => ⟨h2 S' H' c e, RpA.of_ints ns⟩⟩
  | ptp ns =>
    refine .inr (key false fun v H' s hx => ?_)
    cases e
    cases hx with
    | @ptp a o _ q z => exact ⟨a, ns.map V.int, rfl, fun S' H2 c e => ⟨.inl (.inr ⟨o, e.2 _ _ _ q⟩), RpA.of_ints ns⟩⟩
  | _ => cases e
theorem fits_of {i : Int} (h : fitsB i = true) : -(2 ^ 62) ≤ i ∧ i < 2 ^ 62 := by
  have := inB_ok h; omega
theorem wk_range {H1 : Hp} (lo : Int) (m : Nat) : Wk G S H1 (Itr lo m) (rngD lo m) := by
  have hl : (rngD lo m).length = m := by simp [rngD]
  unfold Wk
  rw [hl]
  refine (walk_range (lo := lo) (n := m)).mono (fun _ _ => trivial) fun i H x H' hi h y => ?_
  obtain ⟨rfl, rfl⟩ := y
  exact ⟨Same.refl _, fun S' c e' _ => ⟨.int (lo + i), by simp [rngD, hi], .int _⟩⟩
theorem i_rng1 (M : MoOk X G Γ mo n) (hg : Gl X "range") (ha : PE X a (tE G mo ea)) (h1 : noStar a = true) : PI X tg (.Call (.Name "range" p) [a] [] pos) (tI G mo (.rng1 ea)) := by
  refine (pi_range1 hg (M.bl _ (by decide +kernel)) (pa_cons ha pa_nil (star_cons h1)) (star_cons h1)).imp fun σ H R h => ?_
  obtain ⟨S, ρ, xs, r, e, q⟩ := h
  simp only [evI] at e
  obtain ⟨dx, e1, e⟩ := bind_some e
  refine tE_run r e1 fun x H1 s1 r1 hx => ?_
  cases dx with
  | int j =>
    dsimp only at e
    split at e
    · rename_i hf
      cases hx; cases e
      obtain ⟨f1, f2⟩ := fits_of hf
      exact ⟨j, rfl, f1, f2, q _ H1 s1 (wk_range 0 _)⟩
    · cases e
  | _ => cases e
theorem i_rng2 (M : MoOk X G Γ mo n) (hg : Gl X "range") (ha : PE X a (tE G mo ea)) (hb : PE X b (tE G mo eb)) (h1 : noStar a = true) (h2 : noStar b = true) : PI X tg (.Call (.Name "range" p) [a, b] [] pos) (tI G mo (.rng2 ea eb)) := by
  refine (pi_range2 hg (M.bl _ (by decide +kernel)) (pa_cons ha (pa_cons hb pa_nil (star_cons h2)) (star_cons h1)) (by rw [star_cons h1, star_cons h2]; rfl) (star_cons h2)).imp fun σ H R h => ?_
  obtain ⟨S, ρ, xs, r, e, q⟩ := h
  simp only [evI] at e
  obtain ⟨dx, e1, e⟩ := bind_some e
  obtain ⟨dy, e2, e⟩ := bind_some e
  refine tE_run r e1 fun x H1 s1 r1 hx => tE_run r1 e2 fun y H2 s2 r2 hy => ?_
  cases dx with
  | int i =>
    cases dy with
    | int j =>
      dsimp only at e
      split at e
      · rename_i hf
        rw [Bool.and_eq_true] at hf
        cases hx; cases hy; cases e
        obtain ⟨f1, f2⟩ := fits_of hf.1
        obtain ⟨f3, f4⟩ := fits_of hf.2
        exact ⟨i, j, rfl, ⟨f1, f2, f3, f4⟩, q _ H2 (s1.trans s2) (wk_range i _)⟩
      · cases e
    | _ => cases e
  | _ => cases e
theorem wk_down {H1 : Hp} (lo : Int) (m : Nat) : Wk G S H1 (Itc lo (-1) m) (dwnD lo m) := by
  have hl : (dwnD lo m).length = m := by simp [dwnD]
  unfold Wk
  rw [hl]
  refine (walk_rangeC (lo := lo) (c := -1) (n := m)).mono (fun _ _ => trivial) fun i H x H' hi h y => ?_
  obtain ⟨rfl, rfl⟩ := y
  exact ⟨Same.refl _, fun S' c e' _ => ⟨.int (lo + i * (-1)), by simp [dwnD, hi], .int _⟩⟩
theorem i_rngd (M : MoOk X G Γ mo n) (hg : Gl X "range") (ha : PE X a (tE G mo ea)) (hb : PE X b (tE G mo eb)) (hc : PE X c (tE G mo ec)) (h1 : noStar a = true) (h2 : noStar b = true) (h3 : noStar c = true) : PI X tg (.Call (.Name "range" p) [a, b, c] [] pos) (tI G mo (.rngd ea eb ec)) := by
  refine (pi_range3 hg (M.bl _ (by decide +kernel)) (pa_cons ha (pa_cons hb (pa_cons hc pa_nil (star_cons h3)) (star_cons h2)) (star_cons h1)) (star_cons h1) (star_any (by simp [h2, h3]))).imp fun σ H R h => ?_
  obtain ⟨S, ρ, xs, r, e, q⟩ := h
  simp only [evI] at e
  obtain ⟨dx, e1, e⟩ := bind_some e
  obtain ⟨dy, e2, e⟩ := bind_some e
  obtain ⟨dz, e3, e⟩ := bind_some e
  refine tE_run r e1 fun x H1 s1 r1 hx => tE_run r1 e2 fun y H2 s2 r2 hy => tE_run r2 e3 fun z H3 s3 r3 hz => ?_
  split at e
  · rename_i i j k _ _
    split at e
    · rename_i hf
      rw [Bool.and_eq_true, Bool.and_eq_true] at hf
      cases hx; cases hy; cases hz; cases e
      obtain ⟨f1, f2⟩ := fits_of hf.1.1
      obtain ⟨f3, f4⟩ := fits_of hf.1.2
      have hk : k = -1 := of_decide_eq_true hf.2
      subst hk
      exact ⟨i, j, -1, _, rfl, RgC.neg f1 f2 f3 f4, q _ H3 ((s1.trans s2).trans s3) (wk_down i _)⟩
    · cases e
  · cases e
variable {elts : List Expr} {kk : Nat} {tpos : Pos}
theorem i_zip2 (M : MoOk X G Γ mo n) (hg : Gl X "zip") (ha : PE X a (tE G mo ea)) (hb : PE X b (tE G mo eb)) (h1 : noStar a = true) (h2 : noStar b = true) : PI X (.Tuple elts kk tpos) (.Call (.Name "zip" p) [a, b] [] pos) (tI G mo (.zip2 ea eb)) := by
  refine (pi_zipB hg (M.bl _ (by decide +kernel)) (pa_cons ha (pa_cons hb pa_nil (star_cons h2)) (star_cons h1)) (star_cons h1) (star_any (by simp [h2]))).imp fun σ H R h => ?_
  obtain ⟨S, ρ, zs, r, e, q⟩ := h
  simp only [evI] at e
  obtain ⟨dx, e1, e⟩ := bind_some e
  obtain ⟨dy, e2, e⟩ := bind_some e
  obtain ⟨xs, e3, e⟩ := bind_some e
  obtain ⟨ys, e4, e⟩ := bind_some e
  cases e
  refine tE_run r e1 fun x H1 s1 r1 hx => tE_run r1 e2 fun y H2 s2 r2 hy => ?_
  obtain ⟨a, vs, k1, rfl, ga⟩ := (hx.same s2).itemsS e3
  obtain ⟨b, ws, k2, rfl, gb⟩ := hy.itemsS e4
  have g0 := ga S H2 Cd.refl Ext.refl
  have g1 := gb S H2 Cd.refl Ext.refl
  refine ⟨a, b, vs, ws, k1, k2, rfl, M.K ▸ g0.1, M.K ▸ g1.1, q _ H2 (s1.trans s2) ?_⟩
  unfold Wk
  refine (walk_zipB (K := X.K) (a := a) (b := b) (xs := vs) (ys := ws) (k1 := k1) (k2 := k2) (n := (zipD xs ys).length) (by rw [zipD_len, g0.2.length, g1.2.length])).mono (fun H3 h => ?_) fun i H3 v H4 hi h y => ?_
  · obtain ⟨S', c, e', _⟩ := h
    exact ⟨M.K ▸ (ga S' H3 c e').1, M.K ▸ (gb S' H3 c e').1⟩
  · obtain ⟨T, x, z, rfl, nT, rfl, g4, g5⟩ := y
    dsimp only at g4 g5
    refine ⟨same_new nT, fun S' c e' hd => ?_⟩
    have hA := (ga S' H3 c e').2
    have hB := (gb S' H3 c e').2
    rw [zipD_len] at hi
    have i1 : i < xs.length := by omega
    have i2 : i < ys.length := by omega
    obtain ⟨v1, m1, m2⟩ := hA.get (i := i) (d := xs[i]) (by simp [i1])
    obtain ⟨v2, m3, m4⟩ := hB.get (i := i) (d := ys[i]) (by simp [i2])
    rw [m1] at g4; cases g4
    rw [m3] at g5; cases g5
    exact ⟨_, zipD_get xs ys i _ _ (by simp [i1]) (by simp [i2]), new_tup hd nT (.cons m2 (.cons m4 .nil))⟩
theorem i_zip3 (M : MoOk X G Γ mo n) (hg : Gl X "zip") (ha : PE X a (tE G mo ea)) (hb : PE X b (tE G mo eb)) (hc : PE X c (tE G mo ec)) (h1 : noStar a = true) (h2 : noStar b = true) (h3 : noStar c = true) : PI X (.Tuple elts kk tpos) (.Call (.Name "zip" p) [a, b, c] [] pos) (tI G mo (.zip3 ea eb ec)) := by
  refine (pi_zipC hg (M.bl _ (by decide +kernel)) (pa_cons ha (pa_cons hb (pa_cons hc pa_nil (star_cons h3)) (star_cons h2)) (star_cons h1)) (star_cons h1) (star_any (by simp [h2, h3]))).imp fun σ H R h => ?_
  obtain ⟨S, ρ, zs0, r, e, q⟩ := h
  simp only [evI] at e
  obtain ⟨dx, e1, e⟩ := bind_some e
  obtain ⟨dy, e2, e⟩ := bind_some e
  obtain ⟨dz, e2', e⟩ := bind_some e
  obtain ⟨xs, e3, e⟩ := bind_some e
  obtain ⟨ys, e4, e⟩ := bind_some e
  obtain ⟨zs, e5, e⟩ := bind_some e
  cases e
  refine tE_run r e1 fun x H1 s1 r1 hx => tE_run r1 e2 fun y H2 s2 r2 hy => tE_run r2 e2' fun z H3 s3 r3 hz => ?_
  obtain ⟨a, vs, k1, rfl, ga⟩ := ((hx.same s2).same s3).itemsS e3
  obtain ⟨b, ws, k2, rfl, gb⟩ := (hy.same s3).itemsS e4
  obtain ⟨c, us, k3, rfl, gc⟩ := hz.itemsS e5
  have g0 := ga S H3 Cd.refl Ext.refl
  have g1 := gb S H3 Cd.refl Ext.refl
  have g2 := gc S H3 Cd.refl Ext.refl
  refine ⟨a, b, c, vs, ws, us, k1, k2, k3, rfl, M.K ▸ g0.1, M.K ▸ g1.1, M.K ▸ g2.1, q _ H3 ((s1.trans s2).trans s3) ?_⟩
  unfold Wk
  refine (walk_zipC (K := X.K) (a := a) (b := b) (c := c) (xs := vs) (ys := ws) (zs := us) (k1 := k1) (k2 := k2) (k3 := k3) (n := (zip3D xs ys zs).length) (by rw [zip3D_len, g0.2.length, g1.2.length, g2.2.length])).mono (fun H4 h => ?_) fun i H4 v H5 hi h y => ?_
  · obtain ⟨S', c, e', _⟩ := h
    exact ⟨M.K ▸ (ga S' H4 c e').1, M.K ▸ (gb S' H4 c e').1, M.K ▸ (gc S' H4 c e').1⟩
  · obtain ⟨T, x, z, u, rfl, nT, rfl, g4, g5, g6⟩ := y
    dsimp only at g4 g5 g6
    refine ⟨same_new nT, fun S' c e' hd => ?_⟩
    have hA := (ga S' H4 c e').2
    have hB := (gb S' H4 c e').2
    have hC := (gc S' H4 c e').2
    rw [zip3D_len] at hi
    have i1 : i < xs.length := by omega
    have i2 : i < ys.length := by omega
    have i3 : i < zs.length := by omega
    obtain ⟨v1, m1, m2⟩ := hA.get (i := i) (d := xs[i]) (by simp [i1])
    obtain ⟨v2, m3, m4⟩ := hB.get (i := i) (d := ys[i]) (by simp [i2])
    obtain ⟨v3, m5, m6⟩ := hC.get (i := i) (d := zs[i]) (by simp [i3])
    rw [m1] at g4; cases g4
    rw [m3] at g5; cases g5
    rw [m5] at g6; cases g6
    exact ⟨_, zip3D_get xs ys zs i _ _ _ (by simp [i1]) (by simp [i2]) (by simp [i3]), new_tup hd nT (.cons m2 (.cons m4 (.cons m6 .nil)))⟩
theorem i_enu (M : MoOk X G Γ mo n) (hg : Gl X "enumerate") (ha : PE X a (tE G mo ea)) (h1 : noStar a = true) : PI X (.Tuple elts kk tpos) (.Call (.Name "enumerate" p) [a] [] pos) (tI G mo (.enu ea)) := by
  have hm : X.mg "enumerate" = none := M.bl _ (by decide +kernel)
  refine (BK.PI.or (pi_enum hg hm (pa_cons ha pa_nil (star_cons h1)) (star_cons h1)) (pi_enumT hg hm (pa_cons ha pa_nil (star_cons h1)) (star_cons h1))).imp fun σ H R h => ?_
  obtain ⟨S, ρ, zs, r, e, q⟩ := h
  simp only [evI] at e
  obtain ⟨dx, e1, e⟩ := bind_some e
  obtain ⟨xs, e3, e⟩ := bind_some e
  cases e
  have fin : ∀ {H2 : Hp} {a : Addr} {vs : List V} {k : Bool} {J : It}, (∀ S' H', Cd S S' H2 → Ext S' H2 H' → SqB G.K H' a vs k ∧ RpA G S' H' vs xs) → Walk J vs.length (fun H => SqB X.K H a vs k) (YPair (fun i => some (.int (i : Nat))) (fun i => vs[i]?)) → Wk G S H2 J (enuD 0 xs) := by
    intro H2 a vs k J ga w
    have g0 := ga S H2 Cd.refl Ext.refl
    unfold Wk
    rw [enuD_len, ← g0.2.length]
    refine w.mono (fun H3 h => ?_) fun i H3 v H4 hi h y => ?_
    · obtain ⟨S', c, e', _⟩ := h
      exact M.K ▸ (ga S' H3 c e').1
    · obtain ⟨T, x, z, rfl, nT, rfl, g4, g5⟩ := y
      dsimp only at g4 g5
      refine ⟨same_new nT, fun S' c e' hd => ?_⟩
      have hA := (ga S' H3 c e').2
      rw [hA.length] at hi
      obtain ⟨v1, m1, m2⟩ := hA.get (i := i) (d := xs[i]) (by simp [hi])
      rw [m1] at g5; cases g5
      cases g4
      refine ⟨_, enuD_get 0 xs i _ (by simp [hi]), new_tup hd nT (.cons ?_ (.cons m2 .nil))⟩
      rw [Nat.zero_add]
      exact .int _
  cases dx with
  | tup ds =>
    refine .inr (tE_run r e1 fun x H1 s1 r1 hx => ?_)
    cases e3
    cases hx with
    | @tup a vs _ n0 q0 r0 =>
      refine ⟨a, vs, rfl, .inl (.inl q0), q _ H1 s1 (fin (k := false) (fun S' H2 c e => ⟨.inl (.inl (e.1 _ _ (c _ n0 (by rw [q0]; rfl)) q0)), r0.move c e⟩) walk_enumT)⟩
  | lst ds =>
    refine .inl (tE_run r e1 fun x H1 s1 r1 hx => ?_)
    cases e3
    cases hx with
    | @lst a vs _ n0 q0 r0 =>
      refine ⟨a, vs, rfl, .inl (.inl q0), q _ H1 s1 (fin (k := true) (fun S' H2 c e => ⟨.inl (.inl (e.1 _ _ (c _ n0 (by rw [q0]; rfl)) q0)), r0.move c e⟩) walk_enum)⟩
  | scr ns =>
    refine .inl (tE_run r e1 fun x H1 s1 r1 hx => ?_)
    cases e3
    obtain ⟨a, rfl, h2⟩ := hx.scrS
    exact ⟨a, ns.map V.int, rfl, M.K ▸ h2 S H1 Cd.refl Ext.refl, q _ H1 s1 (fin (k := true) (fun S' H2 c e => ⟨h2 S' H2 c e, RpA.of_ints ns⟩) walk_enum)⟩
  | ptp ns =>
    refine .inr (tE_run r e1 fun x H1 s1 r1 hx => ?_)
    cases e3
    cases hx with
    | @ptp a o _ q0 z0 =>
      refine ⟨a, ns.map V.int, rfl, .inl (.inr ⟨o, q0⟩), q _ H1 s1 (fin (k := false) (fun S' H2 c e => ⟨.inl (.inr ⟨o, e.2 _ _ _ q0⟩), RpA.of_ints ns⟩) walk_enumT)⟩
  | _ => cases e3
end
end PV
namespace PV
open PySem PySem.Spec PyProof.Rows L2 BK
/-! ### targets -/
def Ts.len : Ts → Nat
  | .nil => 0
  | .cons _ r => r.len + 1
mutual
def gOf (K : PySem.W.Frag) : T → TG
  | .nm i => gName i
  | .tp ts => gTup K ts.len (gOfs K ts)
def gOfs (K : PySem.W.Frag) : Ts → TGs
  | .nil => gNil
  | .cons t r => gCons (gOf K t) (gOfs K r)
end
mutual
def tsl : T → List Nat
  | .nm i => [i]
  | .tp ts => tsls ts
def tsls : Ts → List Nat
  | .nil => []
  | .cons t r => tsl t ++ tsls r
end
section
variable {X : Cx} {G : Gm} {Γ : Nm} {mo : Mo} {n : Nat} {S : Addr → Prop} {H H' : Hp} {a b c : Expr} {ea eb ec : E} {pos p : Pos} {es : List Expr} {ees : Es}
theorem RV.set {ρ : Rho} {σ : L2.St} {v : V} {d : D} (r : RV G S H ρ σ) (h : Rp G S H v d) (i : Nat) : RV G S H (ρ.set i (some d)) (σ.set i (some v)) := by
  refine ⟨by simp [r.len], r.dom, fun j d' e => ?_⟩
  by_cases hj : j = i
  · subst hj
    by_cases hl : j < ρ.length
    · rw [List.getElem?_set_self hl] at e
      cases e
      exact ⟨v, List.getElem?_set_self (by rw [r.len]; exact hl), h⟩
    · rw [List.getElem?_eq_none (by simpa using hl)] at e
      cases e
  · rw [List.getElem?_set_ne (Ne.symm hj)] at e ⊢
    exact r.get j d' e
theorem bindTs_len : ∀ {ts : Ts} {ds : List D} {ρ ρ2 : Rho}, bindTs ts ds ρ = some ρ2 → ds.length = ts.len
  | .nil, [], _, _, _ => rfl
  | .nil, _ :: _, _, _, h => by simp [bindTs] at h
  | .cons _ _, [], _, _, h => by simp [bindTs] at h
  | .cons t r, d :: ds, ρ, ρ2, h => by
    simp only [bindTs] at h
    obtain ⟨ρ1, _, h2⟩ := bind_some h
    simp only [List.length_cons, Ts.len, bindTs_len h2]
mutual
theorem g_run (K : PySem.W.Frag) : ∀ (t : T) {d : D} {v : V} {ρ ρ2 : Rho} {σ : L2.St} {Q : L2.St → Hp → Prop}, bindT t d ρ = some ρ2 → Rp G S H v d → RV G S H ρ σ →
    (∀ σ2, RV G S H ρ2 σ2 → (∀ i, i ∉ tsl t → σ2[i]? = σ[i]?) → Q σ2 H) → gOf K t v σ H Q
  | .nm i, d, v, ρ, ρ2, σ, Q, e, h, r, q => by
    simp only [bindT] at e
    cases e
    refine q _ (r.set h i) fun j hj => ?_
    simp only [tsl, List.mem_singleton] at hj
    exact List.getElem?_set_ne (Ne.symm hj)
  | .tp ts, d, v, ρ, ρ2, σ, Q, e, h, r, q => by
    simp only [bindT] at e
    split at e
    · cases h with
      | @tup a vs ds n0 h0 r0 =>
        exact ⟨a, vs, rfl, .inl (.inl h0), by rw [r0.length]; exact bindTs_len e, gs_run K ts e r0 r fun σ2 r2 hk => q σ2 r2 (by simpa only [tsl] using hk)⟩
    · cases e
theorem gs_run (K : PySem.W.Frag) : ∀ (ts : Ts) {ds : List D} {vs : List V} {ρ ρ2 : Rho} {σ : L2.St} {Q : L2.St → Hp → Prop}, bindTs ts ds ρ = some ρ2 → RpA G S H vs ds → RV G S H ρ σ →
    (∀ σ2, RV G S H ρ2 σ2 → (∀ i, i ∉ tsls ts → σ2[i]? = σ[i]?) → Q σ2 H) → gOfs K ts vs σ H Q
  | .nil, [], vs, ρ, ρ2, σ, Q, e, h, r, q => by
    simp only [bindTs] at e
    cases e
    cases h
    exact ⟨rfl, q σ r fun _ _ => rfl⟩
  | .nil, _ :: _, _, _, _, _, _, e, _, _, _ => by simp [bindTs] at e
  | .cons _ _, [], _, _, _, _, _, e, _, _, _ => by simp [bindTs] at e
  | .cons t ts, d :: ds, vs, ρ, ρ2, σ, Q, e, h, r, q => by
    simp only [bindTs] at e
    obtain ⟨ρ1, e1, e2⟩ := bind_some e
    cases h with
    | cons h0 hr =>
      refine ⟨_, _, rfl, g_run K t e1 h0 r fun σ1 r1 k1 => gs_run K ts e2 hr r1 fun σ2 r2 k2 => q σ2 r2 fun i hi => ?_⟩
      simp only [tsls, List.mem_append, not_or] at hi
      rw [k2 i hi.2, k1 i hi.1]
end
mutual
theorem bindT_len : ∀ (t : T) {d : D} {ρ ρ2 : Rho}, bindT t d ρ = some ρ2 → ρ2.length = ρ.length
  | .nm i, d, ρ, ρ2, h => by simp only [bindT] at h; cases h; simp
  | .tp ts, d, ρ, ρ2, h => by
    simp only [bindT] at h
    split at h
    · exact bindTs_len' ts h
    · cases h
theorem bindTs_len' : ∀ (t : Ts) {d : List D} {ρ ρ2 : Rho}, bindTs t d ρ = some ρ2 → ρ2.length = ρ.length
  | .nil, [], _, _, h => by simp only [bindTs] at h; cases h; rfl
  | .nil, _ :: _, _, _, h => by simp [bindTs] at h
  | .cons _ _, [], _, _, h => by simp [bindTs] at h
  | .cons t r, d :: ds, ρ, ρ2, h => by
    simp only [bindTs] at h
    obtain ⟨ρ1, h1, h2⟩ := bind_some h
    rw [bindTs_len' r h2, bindT_len t h1]
end
theorem RpA.imp_same {vs : List V} {ds : List D} (h : RpA G S H vs ds) (s : Same H H') : RpA G S H' vs ds := h.same s
theorem wipe_in {σ : L2.St} {i : Nat} : ∀ {vs : List Nat}, i ∈ vs → (wipe σ vs)[i]? = if i < σ.length then some none else none
  | v :: vs, h => by
    unfold wipe
    by_cases hv : v = i
    · subst hv
      by_cases hl : v < σ.length
      · rw [if_pos hl, List.getElem?_set_self (by rw [wipe_length]; exact hl)]
      · rw [if_neg hl]
        exact List.getElem?_eq_none (by rw [List.length_set, wipe_length]; omega)
    · rw [List.getElem?_set_ne hv]
      rcases List.mem_cons.mp h with z | z
      · exact absurd z.symm hv
      · exact wipe_in z
theorem wipeO_len (ρ : Rho) : ∀ vs : List Nat, (wipeO ρ vs).length = ρ.length
  | [] => rfl
  | v :: vs => by unfold wipeO; rw [List.length_set, wipeO_len ρ vs]
theorem wipeO_some {ρ : Rho} {i : Nat} {x : D} : ∀ {vs : List Nat}, (wipeO ρ vs)[i]? = some (some x) → ρ[i]? = some (some x) ∧ i ∉ vs
  | [], h => ⟨h, by simp⟩
  | v :: vs, h => by
    unfold wipeO at h
    by_cases hi : v = i
    · subst hi
      by_cases hv : v < (wipeO ρ vs).length
      · rw [List.getElem?_set_self hv] at h; cases h
      · rw [List.getElem?_eq_none (by simpa using hv)] at h; cases h
    · rw [List.getElem?_set_ne hi] at h
      obtain ⟨h1, h2⟩ := wipeO_some h
      exact ⟨h1, by simp only [List.mem_cons, not_or]; exact ⟨fun e => hi e.symm, h2⟩⟩
theorem RV.wipe {ρ : Rho} {σ : L2.St} (r : RV G S H ρ σ) (vs : List Nat) : RV G S H (wipeO ρ vs) (wipe σ vs) := by
  refine ⟨by rw [wipe_length, wipeO_len, r.len], r.dom, fun i d e => ?_⟩
  obtain ⟨h1, h2⟩ := wipeO_some e
  obtain ⟨v, h3, h4⟩ := r.get i d h1
  exact ⟨v, by rw [wipe_out h2]; exact h3, h4⟩
theorem wipe_eq {σ σ2 : L2.St} {vs : List Nat} (hl : σ2.length = σ.length) (h : ∀ i, i ∉ vs → σ2[i]? = σ[i]?) : wipe σ2 vs = wipe σ vs := by
  apply List.ext_getElem?
  intro i
  by_cases hi : i ∈ vs
  · rw [wipe_in hi, wipe_in hi, hl]
  · rw [wipe_out hi, wipe_out hi, h i hi]
theorem PTs.imp {ifs : List Expr} {t t' : TT} (h : PTs X ifs t) (w : ∀ σ H Q, t' σ H Q → t σ H Q) : PTs X ifs t' := ⟨fun pins s σ H Q I q => h.run pins s σ H Q I (w σ H Q q)⟩
theorem ts_nil : PTs X [] (tT G mo (.cbl true)) := PTs.imp pts_nil fun σ H Q h => by
  obtain ⟨S, ρ, b, r, e, q⟩ := h
  simp only [ev] at e
  cases e
  exact q H (Same.refl _)
theorem ts_one {c : Expr} (h : PT X c (tT G mo ec)) : PTs X [c] (tT G mo ec) := pts_one h
/-! ### comprehensions -/
def lcF (mo : Mo) (t : T) (c e : E) (vs : List Nat) (ρ : Rho) : D → Option (Option D) :=
  fun x => (bindT t x (wipeO ρ vs)).bind fun ρ2 => (tB (ev mo c ρ2)).bind fun k => if k = true then (ev mo e ρ2).map some else some none
theorem tB_some {x : Option D} {k : Bool} (h : tB x = some k) : x = some (.bl k) := by
  unfold tB at h
  split at h
  · cases h; rfl
  · cases h
theorem drop_cons' {α : Type} {xs : List α} {i : Nat} {x : α} (h : xs[i]? = some x) : xs.drop i = x :: xs.drop (i + 1) := by
  obtain ⟨hl, rfl⟩ := List.getElem?_eq_some_iff.mp h
  exact List.drop_eq_getElem_cons hl
def addS (S : Addr → Prop) (p : Addr) : Addr → Prop := fun a => S a ∨ a = p
theorem cd_add {p : Addr} (np : H p = none) : Cd S (addS S p) H := fun a n0 hs z => z.elim n0 fun z => by subst z; rw [np] at hs; cases hs
theorem RV.cd {S' : Addr → Prop} {ρ : Rho} {σ : L2.St} (r : RV G S H ρ σ) (c : Cd S S' H) (s : Ext S' H H') (d : Dom S' H') : RV G S' H' ρ σ :=
  ⟨r.len, d, fun i x e => let ⟨v, h1, h2⟩ := r.get i x e; ⟨v, h1, h2.move c s⟩⟩
theorem ext_upd {p : Addr} {o u : HO} (hp : H p = some u) (hu : ∀ o' x, u ≠ .frz o' x) : Ext (addS S p) H (upd H p o) := by
  refine ⟨fun b x nb e => ?_, fun b x y e => ?_⟩
  · rw [upd_ne fun z => nb (.inr z)]; exact e
  · rw [upd_ne fun z => ?_]
    · exact e
    · subst z; rw [hp] at e; cases e; exact hu _ _ rfl
theorem lc_read {it : I} {t : T} {c e : E} {vs : List Nat} {ρ : Rho} {σ : L2.St} {Q : VK} {d : D} (hsub : ∀ i ∈ tsl t, i ∈ vs) (K : PySem.W.Frag) (r : RV G S H ρ σ) (e1 : ev mo (.lc t it c e vs) ρ = some d)
    (q : ∀ p H' ws ds, H p = none → Same H H' → d = .lst ds → H' p = some (.lst ws) → RpA G (addS S p) H' ws ds → ds.length ≤ LIM → Q (.ref p) H') : tLc (tI G mo it) (gOf K t) (tT G mo c) (tE G mo e) vs σ H Q := by
  simp only [ev] at e1
  obtain ⟨xs, e2, e1⟩ := bind_some e1
  obtain ⟨ds, e3, e1⟩ := bind_some e1
  obtain ⟨rfl, hl⟩ := glst_some e1
  refine tI_run r e2 fun J H1 s1 r1 wk => fun P nP => ?_
  have cd := cd_add (S := S) nP
  have dom' : ∀ {Hc : Hp}, Same H1 Hc → (∃ acc, Hc P = some (.lst acc)) → Dom (addS S P) Hc := by
    intro Hc s ⟨acc, h⟩ a z
    rcases z with z | z
    · exact r1.dom.same s a z
    · subst z; exact ⟨_, h, fun _ z => by cases z⟩
  refine lc_it wk (fun i Hc => Same H1 Hc ∧ ∃ acc dn rest, Hc P = some (.lst acc) ∧ RpA G (addS S P) Hc acc dn ∧ mapO (lcF mo t c e vs ρ) (xs.drop i) = some rest ∧ ds = dn ++ rest)
    ⟨same_new nP, [], [], ds, upd_same, .nil, e3, rfl⟩ (fun i Hc _ h => ⟨addS S P, cd, Same.ext h.1, dom' h.1 (let ⟨acc, _, _, h, _⟩ := h.2; ⟨acc, h⟩)⟩) ?_ ?_
  · rintro i x Hc H2 hi ⟨sc, acc, dn, rest, hP, hA, hm, hds⟩ ⟨s2, hy⟩
    obtain ⟨d0, hx, hr⟩ := hy (addS S P) cd (Same.ext sc) (dom' sc ⟨acc, hP⟩)
    rw [drop_cons' hx] at hm
    simp only [mapO] at hm
    obtain ⟨o, m1, hm⟩ := bind_some hm
    obtain ⟨rest2, m2, hm⟩ := bind_some hm
    cases hm
    unfold lcF at m1
    obtain ⟨ρ2, b1, m1⟩ := bind_some m1
    obtain ⟨k, b2, m1⟩ := bind_some m1
    have hP2 := s2 _ _ hP
    have sc2 := sc.trans s2
    have rv : RV G (addS S P) H2 (wipeO ρ vs) (wipe σ vs) := (r1.cd cd (Same.ext sc2) (dom' sc2 ⟨acc, hP2⟩)).wipe vs
    refine g_run K t b1 hr rv fun σ2 rv2 hk => ⟨?_, ?_⟩
    · refine wipe_eq (by rw [rv2.len, bindT_len t b1, wipeO_len, r.len]) fun j hj => ?_
      rw [hk j fun z => hj (hsub j z), wipe_out hj]
    · refine tT_run rv2 (tB_some b2) fun H3 s3 rv3 => ?_
      have hP3 := s3 _ _ hP2
      have sc3 := sc2.trans s3
      split at m1
      · rename_i hkk
        rw [if_pos hkk]
        obtain ⟨y, m3, rfl⟩ := map_some m1
        refine tE_run rv3 m3 fun v H4 s4 rv4 hv => ?_
        have hP4 := s4 _ _ hP3
        have sc4 := sc3.trans s4
        have hA4 := ((hA.same s2).same s3).same s4
        refine ⟨acc, hP4, ?_, ?_, acc ++ [v], dn ++ [y], rest2, upd_same, ?_, m2, ?_⟩
        · have := congrArg List.length hds
          simp only [List.length_append] at this
          rw [hA.length]
          exact lim_line (by omega)
        · exact fun b x e => by rw [upd_ne (ne_of_none e nP)]; exact sc4 _ _ e
        · exact ((hA4.append (.one hv)).move (fun _ n _ => n) (ext_upd hP4 (fun _ _ z => by cases z)))
        · rw [hds]; simp
      · rename_i hkk
        rw [if_neg hkk]
        cases m1
        exact ⟨sc3, acc, dn, rest2, hP3, (hA.same s2).same s3, m2, hds⟩
  · rintro Hc ⟨sc, acc, dn, rest, hP, hA, hm, hds⟩
    rw [List.drop_length] at hm
    simp only [mapO] at hm
    cases hm
    rw [List.append_nil] at hds
    subst hds
    exact q P Hc acc ds (s1.free nP) (s1.trans sc) rfl hP hA hl
def lcG (mo : Mo) (t1 : T) (c1 e : E) (vs1 : List Nat) (ρ2 : Rho) : D → Option (Option D) := lcF mo t1 c1 e vs1 ρ2
theorem lc2_read {it it1 : I} {t t1 : T} {c c1 e : E} {vs vs1 : List Nat} {ρ : Rho} {σ : L2.St} {Q : VK} {d : D} (hsub : ∀ i ∈ tsl t, i ∈ vs) (hsub1 : ∀ i ∈ tsl t1, i ∈ vs1) (K : PySem.W.Frag) (r : RV G S H ρ σ) (e1 : ev mo (.lc2 t it c t1 it1 c1 e vs vs1) ρ = some d)
    (q : ∀ p H' ws ds, H p = none → Same H H' → d = .lst ds → H' p = some (.lst ws) → RpA G (addS S p) H' ws ds → ds.length ≤ LIM → Q (.ref p) H') : tLc2 (tI G mo it) (gOf K t) (tT G mo c) (tI G mo it1) (gOf K t1) (tT G mo c1) (tE G mo e) vs vs1 σ H Q := by
  simp only [ev] at e1
  obtain ⟨xs, e2, e1⟩ := bind_some e1
  obtain ⟨ds, e3, e1⟩ := bind_some e1
  obtain ⟨rfl, hl⟩ := glst_some e1
  refine tI_run r e2 fun J H1 s1 r1 wk => fun P nP => ?_
  have cd := cd_add (S := S) nP
  have dom' : ∀ {Hc : Hp}, Same H1 Hc → (∃ acc, Hc P = some (.lst acc)) → Dom (addS S P) Hc := by
    intro Hc s ⟨acc, h⟩ a z
    rcases z with z | z
    · exact r1.dom.same s a z
    · subst z; exact ⟨_, h, fun _ z => by cases z⟩
  let f : D → Option (List D) := fun x => (bindT t x (wipeO ρ vs)).bind fun ρ2 => (tB (ev mo c ρ2)).bind fun k => if k = true then
        (evI mo it1 ρ2).bind fun ys => mapO (lcF mo t1 c1 e vs1 ρ2) ys
      else some []
  have e3 : flatO f xs = some ds := e3
  let Pv : Nat → Hp → Prop := fun i Hc => Same H1 Hc ∧ ∃ acc dn rest, Hc P = some (.lst acc) ∧ RpA G (addS S P) Hc acc dn ∧ flatO f (xs.drop i) = some rest ∧ ds = dn ++ rest
  refine ⟨fun i m Hc => m = xs.length - i ∧ i ≤ xs.length ∧ Pv i Hc, ⟨_, rfl, Nat.zero_le _, same_new nP, [], [], ds, upd_same, .nil, e3, rfl⟩, ?_⟩
  rintro i m Hc ⟨rfl, hi, sc, acc, dn, rest, hP, hA, hm, hds⟩
  have hW : ∃ S', Cd S S' H1 ∧ Ext S' H1 Hc ∧ Dom S' Hc := ⟨addS S P, cd, Same.ext sc, dom' sc ⟨acc, hP⟩⟩
  by_cases hlt : i < xs.length
  · refine .inr ⟨wk.goes i Hc hlt hW, Pv (i + 1), fun H' p' => ⟨_, by omega, rfl, hlt, p'⟩, fun x H2 y => ?_⟩
    obtain ⟨s2, hy⟩ := wk.yields i Hc x H2 hlt hW y
    obtain ⟨d0, hx, hr⟩ := hy (addS S P) cd (Same.ext sc) (dom' sc ⟨acc, hP⟩)
    rw [drop_cons' hx] at hm
    simp only [flatO] at hm
    obtain ⟨o, m1, hm⟩ := bind_some hm
    obtain ⟨rest2, m2, hm⟩ := bind_some hm
    cases hm
    simp only [f] at m1
    obtain ⟨ρ2, b1, m1⟩ := bind_some m1
    obtain ⟨k, b2, m1⟩ := bind_some m1
    have hP2 := s2 _ _ hP
    have sc2 := sc.trans s2
    have rv : RV G (addS S P) H2 (wipeO ρ vs) (wipe σ vs) := (r1.cd cd (Same.ext sc2) (dom' sc2 ⟨acc, hP2⟩)).wipe vs
    refine g_run K t b1 hr rv fun σ2 rv2 hk => ⟨?_, ?_⟩
    · refine wipe_eq (by rw [rv2.len, bindT_len t b1, wipeO_len, r.len]) fun j hj => ?_
      rw [hk j fun z => hj (hsub j z), wipe_out hj]
    · refine tT_run rv2 (tB_some b2) fun H3 s3 rv3 => ?_
      have hP3 := s3 _ _ hP2
      have sc3 := sc2.trans s3
      have hA3 := (hA.same s2).same s3
      split at m1
      · rename_i hkk
        rw [if_pos hkk]
        obtain ⟨ys, m3, m4⟩ := bind_some m1
        refine tI_run rv3 m3 fun J1 H4 s4 rv4 wk1 => ?_
        have hP4 := s4 _ _ hP3
        have sc4 := sc3.trans s4
        have hA4 := hA3.same s4
        -- within the turn: the list may grow; all else of H4 stays
        let Pw : Nat → Hp → Prop := fun j Hd => Same H1 Hd ∧ Ext (addS S P) H4 Hd ∧ ∃ acc dn' rest', Hd P = some (.lst acc) ∧ RpA G (addS S P) Hd acc (dn ++ dn') ∧ mapO (lcF mo t1 c1 e vs1 ρ2) (ys.drop j) = some rest' ∧ o = dn' ++ rest'
        refine ⟨fun j m Hd => m = ys.length - j ∧ j ≤ ys.length ∧ Pw j Hd, ⟨_, rfl, Nat.zero_le _, sc4, Ext.refl, acc, [], o, hP4, by rw [List.append_nil]; exact hA4, m4, rfl⟩, ?_⟩
        rintro j m Hd ⟨rfl, hj, sd, xd, acc1, dn', rest', hPd, hAd, hmd, hod⟩
        have hWd : ∃ S', Cd (addS S P) S' H4 ∧ Ext S' H4 Hd ∧ Dom S' Hd := ⟨addS S P, Cd.refl, xd, dom' sd ⟨acc1, hPd⟩⟩
        by_cases hjt : j < ys.length
        · refine .inr ⟨wk1.goes j Hd hjt hWd, Pw (j + 1), fun H' p' => ⟨_, by omega, rfl, hjt, p'⟩, fun x1 H5 y1 => ?_⟩
          obtain ⟨s5, hy1⟩ := wk1.yields j Hd x1 H5 hjt hWd y1
          obtain ⟨d1, hx1, hr1⟩ := hy1 (addS S P) Cd.refl xd (dom' sd ⟨acc1, hPd⟩)
          rw [drop_cons' hx1] at hmd
          simp only [mapO] at hmd
          obtain ⟨o1, n1, hmd⟩ := bind_some hmd
          obtain ⟨rest3, n2, hmd⟩ := bind_some hmd
          cases hmd
          unfold lcF at n1
          obtain ⟨ρ3, b3, n1⟩ := bind_some n1
          obtain ⟨k1, b4, n1⟩ := bind_some n1
          have hP5 := s5 _ _ hPd
          have sc5 := sd.trans s5
          have rv5 : RV G (addS S P) H5 (wipeO ρ2 vs1) (wipe σ2 vs1) := (rv4.cd Cd.refl (xd.trans (Same.ext s5)) (dom' sc5 ⟨acc1, hP5⟩)).wipe vs1
          refine g_run K t1 b3 hr1 rv5 fun σ3 rv6 hk1 => ⟨?_, ?_⟩
          · refine wipe_eq (by rw [rv6.len, bindT_len t1 b3, wipeO_len, rv2.len]) fun j hj => ?_
            rw [hk1 j fun z => hj (hsub1 j z), wipe_out hj]
          · refine tT_run rv6 (tB_some b4) fun H6 s6 rv6' => ?_
            have hP6 := s6 _ _ hP5
            have sc6 := sc5.trans s6
            have x6 := (xd.trans (Same.ext s5)).trans (Same.ext s6)
            split at n1
            · rename_i hkk1
              rw [if_pos hkk1]
              obtain ⟨y, n3, rfl⟩ := map_some n1
              refine tE_run rv6' n3 fun v H7 s7 rv7 hv => ?_
              have hP7 := s7 _ _ hP6
              have sc7 := sc6.trans s7
              have hA7 := ((hAd.same s5).same s6).same s7
              refine ⟨acc1, hP7, ?_, ?_, (x6.trans (Same.ext s7)).trans (ext_upd hP7 (fun _ _ z => by cases z)), acc1 ++ [v], dn' ++ [y], rest3, upd_same, ?_, n2, ?_⟩
              · have h1 := congrArg List.length hds
                have h2 := congrArg List.length hod
                simp only [List.length_append] at h1 h2
                rw [hAd.length, List.length_append]
                exact lim_line (by omega)
              · exact fun b x e => by rw [upd_ne (ne_of_none e nP)]; exact sc7 _ _ e
              · rw [← List.append_assoc]
                exact ((hA7.append (.one hv)).move (fun _ n _ => n) (ext_upd hP7 (fun _ _ z => by cases z)))
              · rw [hod]; simp
            · rename_i hkk1
              rw [if_neg hkk1]
              cases n1
              exact ⟨sc6, x6, acc1, dn', rest3, hP6, (hAd.same s5).same s6, n2, hod⟩
        · have ej : j = ys.length := by omega
          subst ej
          rw [List.drop_length] at hmd
          simp only [mapO] at hmd
          cases hmd
          rw [List.append_nil] at hod
          subst hod
          exact .inl ⟨wk1.stops Hd hWd, sd, acc1, dn ++ o, rest2, hPd, hAd, m2, by rw [hds]; simp⟩
      · rename_i hkk
        rw [if_neg hkk]
        cases m1
        exact ⟨sc3, acc, dn, rest2, hP3, hA3, m2, by rw [hds]; simp⟩
  · have e : i = xs.length := by omega
    subst e
    rw [List.drop_length] at hm
    simp only [flatO] at hm
    cases hm
    rw [List.append_nil] at hds
    subst hds
    exact .inl ⟨wk.stops Hc hW, q P Hc acc ds (s1.free nP) (s1.trans sc) rfl hP hA hl⟩
variable {tg iter tg1 iter1 elt : Expr} {ifs ifs1 : List Expr} {scope : Scope} {own : List (Str × Nat)} {vs1 : List Nat}
theorem lst_of {p : Addr} {ws : List V} {ds : List D} (np : H p = none) (dom : Dom S H) (h : H' p = some (.lst ws)) (hA : RpA G (addS S p) H' ws ds) : Rp G S H' (.ref p) (.lst ds) :=
  .lst (dom.free np) h (hA.weak fun _ z => .inl z)
theorem s_lc (M : MoOk X G Γ mo n) {it : I} {t : T} {ec ee : E} (hi : PI X tg iter (tI G mo it)) (ok : BlkOk X.N X.env.scope scope own)
    (hg : ∀ (s : Shared) (H : Hp) (C : Addr) (cl : List (Str × Addr)) (fp : List Addr), PG (X.blk s H scope (compEnvC scope cl C X.env) fp) tg (gOf X.K t)) (ht : ∀ (s : Shared) (H : Hp) (C : Addr) (cl : List (Str × Addr)) (fp : List Addr), PTs (X.blk s H scope (compEnvC scope cl C X.env) fp) ifs (tT G mo ec))
    (he : ∀ (s : Shared) (H : Hp) (C : Addr) (cl : List (Str × Addr)) (fp : List Addr), PE (X.blk s H scope (compEnvC scope cl C X.env) fp) elt (tE G mo ee)) (hs : ∀ x, foldedSetIterable iter X.env x = pure x) (hsub : ∀ i ∈ tsl t, i ∈ own.map (·.2)) :
    PE X (.ListComp elt [⟨tg, iter, ifs, 0⟩] scope pos) (tE G mo (.lc t it ec ee (own.map (·.2)))) := by
  refine (pe_lc M.calm M.nd hi ok hg ht he hs).imp fun σ H Q h => ?_
  obtain ⟨S, ρ, d, r, e, q⟩ := h
  exact lc_read hsub X.K r e fun p H' ws ds np s hd hp hA _ => by subst hd; exact q _ H' s (lst_of np r.dom hp hA)
theorem s_lc2 (M : MoOk X G Γ mo n) {it it1 : I} {t t1 : T} {ec ec1 ee : E} (hi : PI X tg iter (tI G mo it)) (ok : BlkOk X.N X.env.scope scope own) (hv : ∀ i ∈ vs1, i ∈ own.map (·.2))
    (hg : ∀ (s : Shared) (H : Hp) (C : Addr) (cl : List (Str × Addr)) (fp : List Addr), PG (X.blk s H scope (compEnvC scope cl C X.env) fp) tg (gOf X.K t)) (ht : ∀ (s : Shared) (H : Hp) (C : Addr) (cl : List (Str × Addr)) (fp : List Addr), PTs (X.blk s H scope (compEnvC scope cl C X.env) fp) ifs (tT G mo ec))
    (hi1 : ∀ (s : Shared) (H : Hp) (C : Addr) (cl : List (Str × Addr)) (fp : List Addr), PI (X.blk s H scope (compEnvC scope cl C X.env) fp) tg1 iter1 (tI G mo it1))
    (hg1 : ∀ (s : Shared) (H : Hp) (C : Addr) (cl : List (Str × Addr)) (fp : List Addr), PG (X.blk s H scope (compEnvC scope cl C X.env) fp) tg1 (gOf X.K t1)) (ht1 : ∀ (s : Shared) (H : Hp) (C : Addr) (cl : List (Str × Addr)) (fp : List Addr), PTs (X.blk s H scope (compEnvC scope cl C X.env) fp) ifs1 (tT G mo ec1))
    (he : ∀ (s : Shared) (H : Hp) (C : Addr) (cl : List (Str × Addr)) (fp : List Addr), PE (X.blk s H scope (compEnvC scope cl C X.env) fp) elt (tE G mo ee)) (hs : ∀ x, foldedSetIterable iter X.env x = pure x) (hs1 : ∀ env x, foldedSetIterable iter1 env x = pure x)
    (hsub : ∀ i ∈ tsl t, i ∈ own.map (·.2)) (hsub1 : ∀ i ∈ tsl t1, i ∈ vs1) :
    PE X (.ListComp elt [⟨tg, iter, ifs, 0⟩, ⟨tg1, iter1, ifs1, 0⟩] scope pos) (tE G mo (.lc2 t it ec t1 it1 ec1 ee (own.map (·.2)) vs1)) := by
  refine (pe_lc2 M.calm M.nd hi ok hv hg ht hi1 hg1 ht1 he hs hs1).imp fun σ H Q h => ?_
  obtain ⟨S, ρ, d, r, e, q⟩ := h
  exact lc2_read hsub hsub1 X.K r e fun p H' ws ds np s hd hp hA _ => by subst hd; exact q _ H' s (lst_of np r.dom hp hA)
/-! ### list(zip(a, b)), isinstance(x, (..)) -/
theorem prs_RpA {xs ys : List D} : ∀ {vs ws : List V} {ps : List Addr}, Dom S H → RpA G S H vs xs → RpA G S H ws ys → ps.length = min vs.length ws.length → Prs2 H vs ws ps → (∀ p ∈ ps, ¬ S p) → RpA G S H (ps.map V.ref) (zipD xs ys) := by
  induction xs generalizing ys with
  | nil =>
    intro vs ws ps _ h1 h2 hl _ _
    cases h1
    simp at hl
    subst hl
    simp [zipD]
    exact .nil
  | cons x xs ih =>
    intro vs ws ps dm h1 h2 hl hp hn
    cases h1 with
    | cons a1 b1 =>
      cases h2 with
      | nil =>
        simp at hl
        subst hl
        simp [zipD]
        exact .nil
      | cons a2 b2 =>
        cases ps with
        | nil => simp at hl
        | cons p ps =>
          obtain ⟨x', y', g1, g2, g3⟩ := hp 0 p rfl
          simp at g1 g2
          subst g1 g2
          refine .cons (.tup (hn p List.mem_cons_self) g3 (.cons a1 (.cons a2 .nil))) (ih dm b1 b2 (by simp at hl; omega) (fun k q hk => ?_) fun q hq => hn q (List.mem_cons_of_mem _ hq))
          obtain ⟨x', y', g1, g2, g3⟩ := hp (k + 1) q (by simpa using hk)
          exact ⟨x', y', by simpa using g1, by simpa using g2, g3⟩
theorem s_lz (M : MoOk X G Γ mo n) {p2 pos2 : Pos} (hg : Gl X "list") (hg2 : Gl X "zip") (ha : PE X a (tE G mo ea)) (hb : PE X b (tE G mo eb)) (h1 : noStar a = true) (h2 : noStar b = true) :
    PE X (.Call (.Name "list" p) [.Call (.Name "zip" p2) [a, b] [] pos2] [] pos) (tE G mo (.lz ea eb)) := by
  refine (pe_listZip M.calm hg (M.bl _ (by decide +kernel)) hg2 (M.bl _ (by decide +kernel)) (pa_cons ha (pa_cons hb pa_nil (star_cons h2)) (star_cons h1)) (star_cons h1) (star_any (by simp [h2])) (star_cons rfl)).imp fun σ H Q h => ?_
  obtain ⟨S, ρ, d, r, e, q⟩ := h
  simp only [ev] at e
  obtain ⟨dx, e1, e⟩ := bind_some e
  obtain ⟨dy, e2, e⟩ := bind_some e
  obtain ⟨xs, e3, e⟩ := bind_some e
  obtain ⟨ys, e4, e⟩ := bind_some e
  split at e
  · rename_i hm
    cases e
    refine tE_run r e1 fun x H1 s1 r1 hx => tE_run r1 e2 fun y H2 s2 r2 hy => ?_
    obtain ⟨a, vs, k1, rfl, ga⟩ := (hx.same s2).itemsS e3
    obtain ⟨b, ws, k2, rfl, gb⟩ := hy.itemsS e4
    have g0 := ga S H2 Cd.refl Ext.refl
    have g1 := gb S H2 Cd.refl Ext.refl
    refine ⟨a, b, vs, ws, rfl, SqB_or (M.K ▸ g0.1), SqB_or (M.K ▸ g1.1), by rw [g0.2.length, g1.2.length]; exact hm, fun l ps H' nl s hl hp hpr => q _ H' ((s1.trans s2).trans s) ?_⟩
    refine .lst (r2.dom.free nl) hl (prs_RpA (r2.dom.same s) (g0.2.same s) (g1.2.same s) hp hpr fun p0 hp0 z => ?_)
    obtain ⟨o, h3, h4⟩ := r2.dom p0 z
    obtain ⟨k, hk, rfl⟩ := List.mem_iff_getElem.mp hp0
    obtain ⟨x', y', _, _, g3⟩ := hpr k ps[k] (by simp [hk])
    rw [s _ _ h3] at g3
    exact h4 _ (Option.some.inj g3)
  · cases e
theorem prs3_RpA {xs ys zs : List D} : ∀ {vs ws us : List V} {ps : List Addr}, Dom S H → RpA G S H vs xs → RpA G S H ws ys → RpA G S H us zs → ps.length = min (min vs.length ws.length) us.length → Prs3 H vs ws us ps → (∀ p ∈ ps, ¬ S p) → RpA G S H (ps.map V.ref) (zip3D xs ys zs) := by
  induction xs generalizing ys zs with
  | nil =>
    intro vs ws us ps _ h1 h2 h3 hl _ _
    cases h1
    simp at hl
    subst hl
    simp [zip3D]
    exact .nil
  | cons x xs ih =>
    intro vs ws us ps dm h1 h2 h3 hl hp hn
    cases h1 with
    | cons a1 b1 =>
      cases h2 with
      | nil =>
        simp at hl
        subst hl
        simp [zip3D]
        exact .nil
      | cons a2 b2 =>
        cases h3 with
        | nil =>
          simp at hl
          subst hl
          simp [zip3D]
          exact .nil
        | cons a3 b3 =>
          cases ps with
          | nil => simp at hl <;> omega
          | cons p ps =>
            obtain ⟨x', y', u', g1, g2, g4, g3⟩ := hp 0 p rfl
            simp at g1 g2 g4
            subst g1 g2 g4
            refine .cons (.tup (hn p List.mem_cons_self) g3 (.cons a1 (.cons a2 (.cons a3 .nil)))) (ih dm b1 b2 b3 (by simp at hl; omega) (fun k q hk => ?_) fun q hq => hn q (List.mem_cons_of_mem _ hq))
            obtain ⟨x', y', u', g1, g2, g4, g3⟩ := hp (k + 1) q (by simpa using hk)
            exact ⟨x', y', u', by simpa using g1, by simpa using g2, by simpa using g4, g3⟩
theorem s_lz3 (M : MoOk X G Γ mo n) {c : Expr} {ec : E} {p2 pos2 : Pos} (hg : Gl X "list") (hg2 : Gl X "zip") (ha : PE X a (tE G mo ea)) (hb : PE X b (tE G mo eb)) (hc : PE X c (tE G mo ec)) (h1 : noStar a = true) (h2 : noStar b = true) (h3 : noStar c = true) :
    PE X (.Call (.Name "list" p) [.Call (.Name "zip" p2) [a, b, c] [] pos2] [] pos) (tE G mo (.lz3 ea eb ec)) := by
  refine (pe_listTrip M.calm hg (M.bl _ (by decide +kernel)) hg2 (M.bl _ (by decide +kernel)) (pa_cons ha (pa_cons hb (pa_cons hc pa_nil (star_cons h3)) (star_cons h2)) (star_cons h1)) (star_cons h1) (star_any (by simp [h2, h3])) (star_cons rfl)).imp fun σ H Q h => ?_
  obtain ⟨S, ρ, d, r, e, q⟩ := h
  simp only [ev] at e
  obtain ⟨dx, e1, e⟩ := bind_some e
  obtain ⟨dy, e2, e⟩ := bind_some e
  obtain ⟨dz, e2', e⟩ := bind_some e
  obtain ⟨xs, e3, e⟩ := bind_some e
  obtain ⟨ys, e4, e⟩ := bind_some e
  obtain ⟨zs, e5, e⟩ := bind_some e
  split at e
  · rename_i hm
    cases e
    refine tE_run r e1 fun x H1 s1 r1 hx => tE_run r1 e2 fun y H2 s2 r2 hy => tE_run r2 e2' fun z H3 s3 r3 hz => ?_
    obtain ⟨a, vs, k1, rfl, ga⟩ := ((hx.same s2).same s3).itemsS e3
    obtain ⟨b, ws, k2, rfl, gb⟩ := (hy.same s3).itemsS e4
    obtain ⟨c, us, k3, rfl, gc⟩ := hz.itemsS e5
    have g0 := ga S H3 Cd.refl Ext.refl
    have g1 := gb S H3 Cd.refl Ext.refl
    have g2 := gc S H3 Cd.refl Ext.refl
    refine ⟨a, b, c, vs, ws, us, rfl, SqB_or (M.K ▸ g0.1), SqB_or (M.K ▸ g1.1), SqB_or (M.K ▸ g2.1), by rw [g0.2.length, g1.2.length, g2.2.length]; exact hm, fun l ps H' nl s hl hp hpr => q _ H' (((s1.trans s2).trans s3).trans s) ?_⟩
    refine .lst (r3.dom.free nl) hl (prs3_RpA (r3.dom.same s) (g0.2.same s) (g1.2.same s) (g2.2.same s) hp hpr fun p0 hp0 z => ?_)
    obtain ⟨o, h3, h4⟩ := r3.dom p0 z
    obtain ⟨k, hk, rfl⟩ := List.mem_iff_getElem.mp hp0
    obtain ⟨x', y', u', _, _, _, g3⟩ := hpr k ps[k] (by simp [hk])
    rw [s _ _ h3] at g3
    exact h4 _ (Option.some.inj g3)
  · cases e
/-- written types, in a row -/
def tVs (vs : List V) : TA := fun _ H Q => Q vs H
theorem av_nil : PA X [] (tVs []) := pa_nil.imp fun _ _ _ h => h
theorem av_cons {v : V} {vs : List V} (ha : PE X a (tC v)) (h : PA X es (tVs vs)) (h1 : noStar a = true) : PA X (a :: es) (tVs (v :: vs)) := (pa_cons ha h (star_cons h1)).imp fun _ _ _ h => h
theorem tyE_all {G : Gm} {Γ : Nm} : ∀ {ts : List Ty} {vs : List V}, Paired (tyE G Γ) ts vs → ∃ us, Paired ClsV vs us ∧ ts.map (tyVal G) = us.map some
  | _, _, .nil => ⟨[], .nil, rfl⟩
  | _, _, .cons h t => by
    obtain ⟨us, h1, h2⟩ := tyE_all t
    obtain ⟨u, g1, g2⟩ := tyE_val h
    exact ⟨u :: us, .cons g2 h1, by simp [g1, h2]⟩
theorem s_isiT (M : MoOk X G Γ mo n) {ts : List Ty} {vs : List V} {k : Nat} {pt : Pos} (hg : Gl X "isinstance") (ha : PE X a (tE G mo ea)) (hb : PA X es (tVs vs)) (hv : Paired (tyE G Γ) ts vs) (hl : vs.length ≤ 100) (h1 : noStar a = true) :
    PE X (.Call (.Name "isinstance" p) [a, .Tuple es k pt] [] pos) (tE G mo (.isi ea ts)) := by
  refine (pe_callB call_isiT hg (M.bl _ (by decide +kernel)) (by decide +kernel) (pa_cons ha (pa_cons (pe_tup hb) pa_nil (star_cons rfl)) (star_cons h1)) (by decide) (by decide) (star_cons h1) (star_any rfl)).imp fun σ H Q h => ?_
  obtain ⟨S, ρ, d, r, e, q⟩ := h
  simp only [ev] at e
  obtain ⟨dx, e1, e⟩ := bind_some e
  obtain ⟨b, e2, rfl⟩ := map_some e
  refine tE_run r e1 fun x H1 s1 r1 hx => ⟨by rw [sizeLine_eq]; omega, fun p np => ?_⟩
  obtain ⟨us, g1, g2⟩ := tyE_all hv
  have hx2 := hx.same (same_new (o := .tup vs) np)
  have hu : ∃ u, tyVal G (tyD dx) = some u := by
    cases hx with
    | obj n0 h0 g0 r0 => exact ⟨_, by simp only [tyD, tyVal, g0]; rfl⟩
    | drw _ _ _ => exact (isi_unk M e2).elim
    | _ => exact ⟨_, rfl⟩
  obtain ⟨u, hu⟩ := hu
  exact ⟨x, p, vs, u, us, b, rfl, upd_same, g1, hx2.ty M hu, isi_any M hu e2 g2, q _ _ (s1.trans (same_new np)) (.bl _)⟩
end
end PV
namespace PV
open PySem PySem.Spec PyProof.Rows L2 BK
def OwnAt (G : Gm) (S : Addr → Prop) (H : Hp) (a : Addr) : D → Prop
  | .lst ds => ∃ vs, H a = some (.lst vs) ∧ RpA G S H vs ds
  | .dic ds => ∃ ks, H a = some (.dK ks) ∧ RpK G S H ks ds
  | .dit ds => ∃ ks, H a = some (.dT ks) ∧ RpT G S H ks ds
  | .obj c fs => ∃ C dx vs, H a = some (.ins C dx vs) ∧ G.cls c = some C ∧ RpF G S H vs fs
  | _ => False
section
variable {G : Gm} {S S' : Addr → Prop} {H H' : Hp} {a : Addr} {d : D}
theorem OwnAt.move (h : OwnAt G S H a d) (c : Cd S S' H) (e : Ext S' H H') (k : ∀ o, H a = some o → H' a = some o) : OwnAt G S' H' a d := by
  cases d with
  | lst ds => obtain ⟨vs, h1, h2⟩ := h; exact ⟨vs, k _ h1, h2.move c e⟩
  | dic ds => obtain ⟨vs, h1, h2⟩ := h; exact ⟨vs, k _ h1, h2.move c e⟩
  | dit ds => obtain ⟨vs, h1, h2⟩ := h; exact ⟨vs, k _ h1, h2.move c e⟩
  | obj c fs => obtain ⟨C, dx, vs, h1, g, h2⟩ := h; exact ⟨C, dx, vs, k _ h1, g, h2.move ‹_› e⟩
  | _ => exact h.elim
theorem OwnAt.weak (h : OwnAt G S H a d) (w : ∀ b, S' b → S b) : OwnAt G S' H a d := h.move (fun b n _ z => n (w b z)) Ext.refl fun _ e => e
theorem OwnAt.there (h : OwnAt G S H a d) : ∃ o, H a = some o ∧ (∀ xs, o ≠ .tup xs) ∧ ∀ u x, o ≠ .frz u x := by
  cases d with
  | lst ds => obtain ⟨vs, h1, h2⟩ := h; exact ⟨_, h1, fun _ z => (by cases z), fun _ _ z => (by cases z)⟩
  | dic ds => obtain ⟨vs, h1, h2⟩ := h; exact ⟨_, h1, fun _ z => (by cases z), fun _ _ z => (by cases z)⟩
  | dit ds => obtain ⟨vs, h1, h2⟩ := h; exact ⟨_, h1, fun _ z => (by cases z), fun _ _ z => (by cases z)⟩
  | obj c fs => obtain ⟨C, dx, vs, h1, g, h2⟩ := h; exact ⟨_, h1, fun _ z => (by cases z), fun _ _ z => (by cases z)⟩
  | _ => exact h.elim
theorem OwnAt.rp (h : OwnAt G S H a d) (n : ¬ S a) : Rp G S H (.ref a) d := by
  cases d with
  | lst ds => obtain ⟨vs, h1, h2⟩ := h; exact .lst n h1 h2
  | dic ds => obtain ⟨vs, h1, h2⟩ := h; exact .dic n h1 h2
  | dit ds => obtain ⟨vs, h1, h2⟩ := h; exact .dit n h1 h2
  | obj c fs => obtain ⟨C, dx, vs, h1, g, h2⟩ := h; exact .obj n h1 g h2
  | _ => exact h.elim
mutual
theorem flat_move (hd : Dom S' H) : ∀ {d : D} {v : V}, flatD d = true → Rp G S H v d → Rp G S' H v d
  | .non, _, _, h => by cases h; exact .non
  | .bl _, _, _, h => by cases h; exact .bl _
  | .int _, _, _, h => by cases h; exact .int _
  | .str _, _, _, h => by cases h; exact .str _
  | .tup xs, _, f, h => by
    simp only [flatD] at f
    cases h with
    | tup n q r => exact .tup (fun z => by obtain ⟨o, h1, h2⟩ := hd _ z; rw [q] at h1; exact h2 _ (Option.some.inj h1).symm) q (flats_move hd f r)
  | .lst _, _, f, _ => by simp [flatD] at f
  | .scr _, _, f, _ => by simp [flatD] at f
  | .ktp _, _, f, _ => by simp [flatD] at f
  | .ptp _, _, _, h => by
    cases h with
    | ptp q z => exact .ptp q z
  | .dic _, _, f, _ => by simp [flatD] at f
  | .dit _, _, f, _ => by simp [flatD] at f
  | .obj _ _, _, f, _ => by simp [flatD] at f
  | .drw _ _ _, _, f, _ => by simp [flatD] at f
theorem flats_move (hd : Dom S' H) : ∀ {ds : List D} {vs : List V}, flatDs ds = true → RpA G S H vs ds → RpA G S' H vs ds
  | [], _, _, h => by cases h; exact .nil
  | d :: ds, _, f, h => by
    simp only [flatDs, Bool.and_eq_true] at f
    cases h with
    | cons a b => exact .cons (flat_move hd f.1 a) (flats_move hd f.2 b)
end
end
/-! ### new objects -/
def tF (G : Gm) (mo : Mo) (e : E) : TE := fun σ H Q => ∃ S ρ d, RV G S H ρ σ ∧ ev mo e ρ = some d ∧ ownable d = true ∧ ∀ p H', H p = none → Same H H' → OwnAt G (addS S p) H' p d → Q (.ref p) H'
section
variable {X : Cx} {G : Gm} {Γ : Nm} {mo : Mo} {n : Nat} {S : Addr → Prop} {H H' : Hp} {a b c : Expr} {ea eb ec : E} {pos p : Pos} {es : List Expr} {ees : Es}
theorem own_lst (dom : Dom S H) {p : Addr} {vs : List V} {ds : List D} (np : H p = none) (h : RpA G S H vs ds) : OwnAt G (addS S p) (upd H p (.lst vs)) p (.lst ds) :=
  ⟨vs, upd_same, h.move (cd_add np) (Same.ext (same_new np))⟩
theorem f_lst (h : PA X es (tA G mo ees)) : PE X (.List es pos) (tF G mo (.lst ees)) := by
  refine (pe_lst h).imp fun σ H Q h => ?_
  obtain ⟨S, ρ, d, r, e, _, q⟩ := h
  simp only [ev] at e
  obtain ⟨ds, e1, e⟩ := bind_some e
  obtain ⟨rfl, hl⟩ := glst_some e
  exact tA_run r e1 fun vs H1 s1 r1 hv => ⟨Nat.le_of_lt (lim_line (by rw [hv.length]; exact hl)), fun p np => q p _ (s1.free np) (s1.trans (same_new np)) (own_lst r1.dom np hv)⟩
theorem f_emp (t : Bool) : PE X (.Dict [] [] pos) (tF G mo (.emp t)) := by
  cases t with
  | false =>
    refine pe_dnewK.imp fun σ H Q h => ?_
    obtain ⟨S, ρ, d, r, e, _, q⟩ := h
    simp only [ev] at e
    cases e
    exact fun p np => q p _ np (same_new np) ⟨[], upd_same, .nil⟩
  | true =>
    refine pe_dnewT.imp fun σ H Q h => ?_
    obtain ⟨S, ρ, d, r, e, _, q⟩ := h
    simp only [ev] at e
    cases e
    exact fun p np => q p _ np (same_new np) ⟨[], upd_same, .nil⟩
theorem f_bin (M : MoOk X G Γ mo n) (o : O2) (ha : PE X a (tE G mo ea)) (hb : PE X b (tE G mo eb)) : PE X (.BinOp a (opOf o) b pos) (tF G mo (.bin o ea eb)) := by
  refine ⟨fun pins s σ H Q I h => ?_⟩
  obtain ⟨S, ρ, d, r, e, ho, q⟩ := h
  simp only [ev] at e
  obtain ⟨dx, e1, e⟩ := bind_some e
  obtain ⟨dy, e2, e⟩ := bind_some e
  cases o with
  | add =>
    simp only [binD] at e
    split at e
    · cases e; cases ho
    · obtain ⟨rfl, _⟩ := gtup_some e; cases ho
    · obtain ⟨rfl, hl⟩ := glst_some e
      refine (pe_op op_cat ha hb).run pins s σ H Q I (tE_run r e1 fun x H1 s1 r1 hx => tE_run r1 e2 fun y H2 s2 r2 hy => ?_)
      have hx2 := hx.same s2
      cases hx2 with
      | @lst a xs _ n1 h1 r1' =>
        cases hy with
        | @lst b ys _ n2 h2 r2' =>
          rw [List.length_append, ← r1'.length, ← r2'.length] at hl
          exact ⟨a, b, xs, ys, rfl, rfl, h1, h2, Nat.le_of_lt (lim_line hl), fun p np => q p _ ((s1.trans s2).free np) ((s1.trans s2).trans (same_new np)) (own_lst r2.dom np (r1'.append r2'))⟩
    · split at e
      · cases e; cases ho
      · cases e
    · cases e
  | sub =>
    simp only [binD] at e
    split at e
    · cases e; cases ho
    · cases e
  | mul =>
    cases dx with
    | lst xs0 =>
      cases dy with
      | int k =>
        simp only [binD] at e
        split at e
        · rename_i hl
          have hbk := inB_ok hl
          have h1 : -(2^63) ≤ k := by omega
          have h2 : k < 2^63 := by omega
          obtain ⟨rfl, hz⟩ := glst_some e
          refine (pe_op op_rep ha hb).run pins s σ H Q I (tE_run r e1 fun x H1 s1 r1 hx => tE_run r1 e2 fun y H2 s2 r2 hy => ?_)
          have hx2 := hx.same s2
          cases hx2 with
          | @lst a xs _ n1 h0 r1' =>
            cases hy
            refine ⟨a, k, xs, rfl, rfl, h0, h1, h2, ?_, fun p np => q p _ ((s1.trans s2).free np) ((s1.trans s2).trans (same_new np)) (own_lst r2.dom np (r1'.repl _))⟩
            have : (List.replicate k.toNat xs).flatten.length = xs.length * k.toNat := by simp [Nat.mul_comm]
            rw [← this, (r1'.repl k.toNat).length]
            exact Nat.le_of_lt (lim_line hz)
        · cases e
      | _ => simp only [binD] at e; cases e
    | tup xs0 =>
      cases dy with
      | int k =>
        simp only [binD] at e
        split at e
        · obtain ⟨rfl, _⟩ := gtup_some e
          cases ho
        · cases e
      | _ => simp only [binD] at e; cases e
    | int i =>
      cases dy with
      | int k =>
        simp only [binD] at e
        split at e
        · cases e; cases ho
        · cases e
      | _ => simp only [binD] at e; cases e
    | _ => simp only [binD] at e; cases e
  | fdiv =>
    simp only [binD] at e
    split at e
    · split at e
      · cases e; cases ho
      · cases e
    · cases e
  | mod =>
    simp only [binD] at e
    split at e
    · split at e
      · cases e; cases ho
      · cases e
    · cases e
theorem f_slc {lo hi : Option Expr} {el eh : Eo} {p2 : Pos} (M : MoOk X G Γ mo n) (ha : PE X a (tE G mo ea)) (hl : PO X lo (tO G mo el)) (hh : PO X hi (tO G mo eh)) : PE X (.Subscript a (.Slice lo hi none p2) pos) (tF G mo (.slc ea el eh)) := by
  refine (pe_slice (sl_list (X := X)) ha hl hh).imp fun σ H Q h => ?_
  obtain ⟨S, ρ, d, r, e, ho, q⟩ := h
  simp only [ev] at e
  obtain ⟨dx, e1, e⟩ := bind_some e
  obtain ⟨l, e2, e⟩ := bind_some e
  obtain ⟨u, e3, e⟩ := bind_some e
  refine tE_run r e1 fun x H1 s1 r1 hx => tO_run r1 e2 fun H2 s2 r2 => tO_run r2 e3 fun H3 s3 r3 => ?_
  have hx3 := (hx.same s2).same s3
  have s13 := (s1.trans s2).trans s3
  cases dx with
  | tup xs0 => cases e; cases ho
  | ptp ns => cases e; cases ho
  | lst xs0 =>
    cases e
    cases hx3 with
    | @lst a0 vs ds n0 h0 r0 => exact ⟨a0, vs, rfl, .inl (.inl h0), fun p np => q p _ (s13.free np) (s13.trans (same_new np)) (own_lst r3.dom np (r0.cut l u))⟩
  | scr ns =>
    cases e
    obtain ⟨a0, rfl, h2⟩ := hx3.scrL
    exact ⟨a0, _, rfl, M.K ▸ h2 H3 Ext.refl, fun p np => q p _ (s13.free np) (s13.trans (same_new np)) (own_lst r3.dom np ((RpA.of_ints _).cut l u))⟩
  | _ => cases e
theorem f_list (M : MoOk X G Γ mo n) (hg : Gl X "list") (he : noStar a = true) (ha : PE X a (tE G mo ea)) : PE X (.Call (.Name "list" p) [a] [] pos) (tF G mo (.bi .list (.cons ea .nil))) := by
  refine (pe_callTy call_list_of hg (M.bl _ (by decide +kernel)) (by decide +kernel) (pa_cons ha pa_nil (star_cons he)) (by decide) (by decide) (star_cons he) (star_any rfl)).imp fun σ H Q h => ?_
  obtain ⟨S, ρ, d, r, e, ho, q⟩ := h
  simp only [ev, evs] at e
  obtain ⟨ds, e0, e⟩ := bind_some e
  obtain ⟨dx, e1, e3⟩ := bind_some e0
  cases e3
  clear e0
  simp only [biD] at e
  obtain ⟨xs, e2, rfl⟩ := map_some e
  refine tE_run r e1 fun x H1 s1 r1 hx => ?_
  obtain ⟨a, vs, k, rfl, h1, h2⟩ := hx.items e2
  exact ⟨a, vs, rfl, SqB_or (M.K ▸ h1 H1 Ext.refl), fun p np => q p _ (s1.free np) (s1.trans (same_new np)) (own_lst r1.dom np h2)⟩
theorem f_sorted (M : MoOk X G Γ mo n) (hg : Gl X "sorted") (he : noStar a = true) (ha : PE X a (tE G mo ea)) : PE X (.Call (.Name "sorted" p) [a] [] pos) (tF G mo (.bi .sorted (.cons ea .nil))) := by
  refine (pe_callB cr_srt hg (M.bl _ (by decide +kernel)) (by decide +kernel) (pa_cons ha pa_nil (star_cons he)) (by decide) (by decide) (star_cons he) (star_any rfl)).imp fun σ H Q h => ?_
  obtain ⟨S, ρ, d, r, e, ho, q⟩ := h
  simp only [ev, evs] at e
  obtain ⟨ds, e0, e⟩ := bind_some e
  obtain ⟨dx, e1, e3⟩ := bind_some e0
  cases e3
  clear e0
  simp only [biD] at e
  refine tE_run r e1 fun x H1 s1 r1 hx => sorted_ask hx e fun p ws ds np ed hA => ?_
  subst ed
  exact q p _ (s1.free np) (s1.trans (same_new np)) (own_lst r1.dom np hA)
theorem f_lz (M : MoOk X G Γ mo n) {p2 pos2 : Pos} (hg : Gl X "list") (hg2 : Gl X "zip") (ha : PE X a (tE G mo ea)) (hb : PE X b (tE G mo eb)) (h1 : noStar a = true) (h2 : noStar b = true) :
    PE X (.Call (.Name "list" p) [.Call (.Name "zip" p2) [a, b] [] pos2] [] pos) (tF G mo (.lz ea eb)) := by
  refine (pe_listZip M.calm hg (M.bl _ (by decide +kernel)) hg2 (M.bl _ (by decide +kernel)) (pa_cons ha (pa_cons hb pa_nil (star_cons h2)) (star_cons h1)) (star_cons h1) (star_any (by simp [h2])) (star_cons rfl)).imp fun σ H Q h => ?_
  obtain ⟨S, ρ, d, r, e, ho, q⟩ := h
  simp only [ev] at e
  obtain ⟨dx, e1, e⟩ := bind_some e
  obtain ⟨dy, e2, e⟩ := bind_some e
  obtain ⟨xs, e3, e⟩ := bind_some e
  obtain ⟨ys, e4, e⟩ := bind_some e
  split at e
  · rename_i hm
    cases e
    refine tE_run r e1 fun x H1 s1 r1 hx => tE_run r1 e2 fun y H2 s2 r2 hy => ?_
    obtain ⟨a, vs, k1, rfl, ga⟩ := (hx.same s2).itemsS e3
    obtain ⟨b, ws, k2, rfl, gb⟩ := hy.itemsS e4
    have g0 := ga S H2 Cd.refl Ext.refl
    have g1 := gb S H2 Cd.refl Ext.refl
    refine ⟨a, b, vs, ws, rfl, SqB_or (M.K ▸ g0.1), SqB_or (M.K ▸ g1.1), by rw [g0.2.length, g1.2.length]; exact hm, fun l ps H' nl s hl hp hpr => q l H' ((s1.trans s2).free nl) ((s1.trans s2).trans s) ?_⟩
    have dd : Dom (addS S l) H' := fun a z => z.elim (r2.dom.same s a) fun z => ⟨_, z ▸ hl, fun _ z => by cases z⟩
    refine ⟨_, hl, prs_RpA dd (g0.2.move (cd_add nl) (Same.ext s)) (g1.2.move (cd_add nl) (Same.ext s)) hp hpr fun p0 hp0 z => ?_⟩
    obtain ⟨o, h3, h4⟩ := dd p0 z
    obtain ⟨k, hk, rfl⟩ := List.mem_iff_getElem.mp hp0
    obtain ⟨x', y', _, _, g3⟩ := hpr k ps[k] (by simp [hk])
    rw [h3] at g3
    exact h4 _ (Option.some.inj g3)
  · cases e
theorem f_lz3 (M : MoOk X G Γ mo n) {c : Expr} {ec : E} {p2 pos2 : Pos} (hg : Gl X "list") (hg2 : Gl X "zip") (ha : PE X a (tE G mo ea)) (hb : PE X b (tE G mo eb)) (hc : PE X c (tE G mo ec)) (h1 : noStar a = true) (h2 : noStar b = true) (h3 : noStar c = true) :
    PE X (.Call (.Name "list" p) [.Call (.Name "zip" p2) [a, b, c] [] pos2] [] pos) (tF G mo (.lz3 ea eb ec)) := by
  refine (pe_listTrip M.calm hg (M.bl _ (by decide +kernel)) hg2 (M.bl _ (by decide +kernel)) (pa_cons ha (pa_cons hb (pa_cons hc pa_nil (star_cons h3)) (star_cons h2)) (star_cons h1)) (star_cons h1) (star_any (by simp [h2, h3])) (star_cons rfl)).imp fun σ H Q h => ?_
  obtain ⟨S, ρ, d, r, e, ho, q⟩ := h
  simp only [ev] at e
  obtain ⟨dx, e1, e⟩ := bind_some e
  obtain ⟨dy, e2, e⟩ := bind_some e
  obtain ⟨dz, e2', e⟩ := bind_some e
  obtain ⟨xs, e3, e⟩ := bind_some e
  obtain ⟨ys, e4, e⟩ := bind_some e
  obtain ⟨zs, e5, e⟩ := bind_some e
  split at e
  · rename_i hm
    cases e
    refine tE_run r e1 fun x H1 s1 r1 hx => tE_run r1 e2 fun y H2 s2 r2 hy => tE_run r2 e2' fun z H3 s3 r3 hz => ?_
    obtain ⟨a, vs, k1, rfl, ga⟩ := ((hx.same s2).same s3).itemsS e3
    obtain ⟨b, ws, k2, rfl, gb⟩ := (hy.same s3).itemsS e4
    obtain ⟨c, us, k3, rfl, gc⟩ := hz.itemsS e5
    have g0 := ga S H3 Cd.refl Ext.refl
    have g1 := gb S H3 Cd.refl Ext.refl
    have g2 := gc S H3 Cd.refl Ext.refl
    refine ⟨a, b, c, vs, ws, us, rfl, SqB_or (M.K ▸ g0.1), SqB_or (M.K ▸ g1.1), SqB_or (M.K ▸ g2.1), by rw [g0.2.length, g1.2.length, g2.2.length]; exact hm, fun l ps H' nl s hl hp hpr => q l H' (((s1.trans s2).trans s3).free nl) (((s1.trans s2).trans s3).trans s) ?_⟩
    have dd : Dom (addS S l) H' := fun a z => z.elim (r3.dom.same s a) fun z => ⟨_, z ▸ hl, fun _ z => by cases z⟩
    refine ⟨_, hl, prs3_RpA dd (g0.2.move (cd_add nl) (Same.ext s)) (g1.2.move (cd_add nl) (Same.ext s)) (g2.2.move (cd_add nl) (Same.ext s)) hp hpr fun p0 hp0 z => ?_⟩
    obtain ⟨o, h3, h4⟩ := dd p0 z
    obtain ⟨k, hk, rfl⟩ := List.mem_iff_getElem.mp hp0
    obtain ⟨x', y', u', _, _, _, g3⟩ := hpr k ps[k] (by simp [hk])
    rw [h3] at g3
    exact h4 _ (Option.some.inj g3)
  · cases e
variable {tg iter tg1 iter1 elt : Expr} {ifs ifs1 : List Expr} {scope : Scope} {own : List (Str × Nat)} {vs1 : List Nat}
theorem lcf_read {it : I} {t : T} {c e : E} {vs : List Nat} (hsub : ∀ i ∈ tsl t, i ∈ vs) (K : PySem.W.Frag) {σ : L2.St} {Q : VK} (h : tF G mo (.lc t it c e vs) σ H Q) : tLc (tI G mo it) (gOf K t) (tT G mo c) (tE G mo e) vs σ H Q := by
  obtain ⟨S, ρ, d, r, e, ho, q⟩ := h
  exact lc_read hsub K r e fun p H' ws ds np s hd hp hA _ => by subst hd; exact q p H' np s ⟨ws, hp, hA⟩
theorem lc2f_read {it it1 : I} {t t1 : T} {c c1 e : E} {vs vs1 : List Nat} (hsub : ∀ i ∈ tsl t, i ∈ vs) (hsub1 : ∀ i ∈ tsl t1, i ∈ vs1) (K : PySem.W.Frag) {σ : L2.St} {Q : VK} (h : tF G mo (.lc2 t it c t1 it1 c1 e vs vs1) σ H Q) : tLc2 (tI G mo it) (gOf K t) (tT G mo c) (tI G mo it1) (gOf K t1) (tT G mo c1) (tE G mo e) vs vs1 σ H Q := by
  obtain ⟨S, ρ, d, r, e, ho, q⟩ := h
  exact lc2_read hsub hsub1 K r e fun p H' ws ds np s hd hp hA _ => by subst hd; exact q p H' np s ⟨ws, hp, hA⟩
theorem lce_read {it : I} {t : T} {c e : E} {vs : List Nat} (hsub : ∀ i ∈ tsl t, i ∈ vs) (K : PySem.W.Frag) {σ : L2.St} {Q : VK} (h : tE G mo (.lc t it c e vs) σ H Q) : tLc (tI G mo it) (gOf K t) (tT G mo c) (tE G mo e) vs σ H Q := by
  obtain ⟨S, ρ, d, r, e, q⟩ := h
  exact lc_read hsub K r e fun p H' ws ds np s hd hp hA _ => by subst hd; exact q _ H' s (lst_of np r.dom hp hA)
theorem lc2e_read {it it1 : I} {t t1 : T} {c c1 e : E} {vs vs1 : List Nat} (hsub : ∀ i ∈ tsl t, i ∈ vs) (hsub1 : ∀ i ∈ tsl t1, i ∈ vs1) (K : PySem.W.Frag) {σ : L2.St} {Q : VK} (h : tE G mo (.lc2 t it c t1 it1 c1 e vs vs1) σ H Q) : tLc2 (tI G mo it) (gOf K t) (tT G mo c) (tI G mo it1) (gOf K t1) (tT G mo c1) (tE G mo e) vs vs1 σ H Q := by
  obtain ⟨S, ρ, d, r, e, q⟩ := h
  exact lc2_read hsub hsub1 K r e fun p H' ws ds np s hd hp hA _ => by subst hd; exact q _ H' s (lst_of np r.dom hp hA)
end
end PV
namespace PV
open PySem PySem.Spec PyProof.Rows L2 BK
/-! ### the state between statements -/
abbrev Ads := Nat → Option Addr
def SA (S0 : Addr → Prop) (A : Ads) : Addr → Prop := fun a => S0 a ∨ ∃ i, A i = some a
def without (A : Ads) (us : List Nat) : Ads := fun i => if i ∈ us then none else A i
def dropA (A : Ads) (j : Nat) : Ads := fun i => if i = j then none else A i
def putA (A : Ads) (j : Nat) (a : Addr) : Ads := fun i => if i = j then some a else A i
/-- what stays, and the object that a method may be changing -/
abbrev Zt := (Addr → Prop) × Option Addr
structure SE (G : Gm) (S0 : Addr → Prop) (base : Hp) (Z : Zt) (H : Hp) (A : Ads) (ρ : Ro) (σ : L2.St) : Prop where
  len : σ.length = ρ.length
  s0 : Dom S0 base
  same : Same base H
  dz : Dom Z.1 H
  nb : ∀ i a, A i = some a → base a = none
  inj : ∀ i j a, A i = some a → A j = some a → i = j
  on : ∀ i a, A i = some a → ∃ d, ρ[i]? = some (.ow d)
  va : ∀ (i : Nat) d, ρ[i]? = some (Sl.va d) → ∃ v, σ[i]? = some (some v) ∧ Rp G (SA S0 A) H v d
  ow : ∀ (i : Nat) d, ρ[i]? = some (Sl.ow d) → ∃ a, A i = some a ∧ σ[i]? = some (some (.ref a)) ∧ OwnAt G (SA S0 A) H a d
  pin : ∀ x, Z.2 = some x → ∀ c fs, ρ[0]? = some (Sl.ow (.obj c fs)) → A 0 = some x
section
variable {G : Gm} {S0 : Addr → Prop} {Z : Zt} {base H H' : Hp} {A : Ads} {ρ : Ro} {σ : L2.St}
theorem seen_get {us : List Nat} : ∀ {ρ : Ro} {k i : Nat} {d : D}, (seen us k ρ)[i]? = some (some d) → ρ[i]? = some (.va d) ∨ (ρ[i]? = some (.ow d) ∧ k + i ∈ us)
  | [], _, _, _, h => by simp [seen] at h
  | s :: r, k, 0, d, h => by
    cases s with
    | no => simp [seen] at h
    | va d' => simp [seen] at h; subst h; exact .inl rfl
    | ow d' =>
      simp only [seen, List.getElem?_cons_zero] at h
      split at h
      · rename_i hm; cases h; exact .inr ⟨rfl, by simpa using hm⟩
      · cases h
  | s :: r, k, i + 1, d, h => by
    simp only [seen, List.getElem?_cons_succ] at h
    rcases seen_get h with h | ⟨h, m⟩
    · exact .inl (by simpa using h)
    · exact .inr ⟨by simpa using h, by rw [show k + (i + 1) = k + 1 + i by omega]; exact m⟩
theorem seen_len {us : List Nat} : ∀ (ρ : Ro) (k : Nat), (seen us k ρ).length = ρ.length
  | [], _ => rfl
  | s :: r, k => by simp [seen, seen_len r]
theorem given_len {us : List Nat} : ∀ (ρ : Ro) (k : Nat), (given us k ρ).length = ρ.length
  | [], _ => rfl
  | s :: r, k => by simp [given, given_len r]
theorem given_va {us : List Nat} : ∀ {ρ : Ro} {k i : Nat} {d : D}, (given us k ρ)[i]? = some (.va d) → ρ[i]? = some (.va d) ∨ (ρ[i]? = some (.ow d) ∧ k + i ∈ us)
  | [], _, _, _, h => by simp [given] at h
  | s :: r, k, 0, d, h => by
    cases s with
    | no => simp [given] at h
    | va d' => simp [given] at h; subst h; exact .inl rfl
    | ow d' =>
      simp only [given, List.getElem?_cons_zero] at h
      split at h
      · rename_i hm; cases h; exact .inr ⟨rfl, by simpa using hm⟩
      · cases h
  | s :: r, k, i + 1, d, h => by
    simp only [given, List.getElem?_cons_succ] at h
    rcases given_va h with h | ⟨h, m⟩
    · exact .inl (by simpa using h)
    · exact .inr ⟨by simpa using h, by rw [show k + (i + 1) = k + 1 + i by omega]; exact m⟩
theorem given_ow {us : List Nat} : ∀ {ρ : Ro} {k i : Nat} {d : D}, (given us k ρ)[i]? = some (.ow d) ↔ ρ[i]? = some (.ow d) ∧ ¬ k + i ∈ us
  | [], _, _, _ => by simp [given]
  | s :: r, k, 0, d => by
    cases s with
    | no => simp [given]
    | va d' => simp [given]
    | ow d' =>
      simp only [given, List.getElem?_cons_zero, Nat.add_zero]
      by_cases hm : k ∈ us
      · simp [hm]
      · simp [hm]
  | s :: r, k, i + 1, d => by
    simp only [given, List.getElem?_cons_succ]
    rw [given_ow, show k + (i + 1) = k + 1 + i by omega]
theorem without_some {us : List Nat} {i : Nat} {a : Addr} (h : without A us i = some a) : A i = some a ∧ i ∉ us := by
  unfold without at h
  split at h
  · cases h
  · rename_i hm; exact ⟨h, hm⟩
theorem dropA_some {j i : Nat} {a : Addr} (h : dropA A j i = some a) : A i = some a ∧ i ≠ j := by
  unfold dropA at h
  split at h
  · cases h
  · rename_i hm; exact ⟨h, hm⟩
theorem SA.sub {A B : Ads} (h : ∀ i a, B i = some a → A i = some a) : ∀ a, SA S0 B a → SA S0 A a := fun a z => z.imp id fun ⟨i, e⟩ => ⟨i, h i a e⟩
theorem SE.dom (s : SE G S0 base Z H A ρ σ) : Dom (SA S0 A) H := fun a z => by
  rcases z with z | ⟨i, z⟩
  · exact s.s0.same s.same a z
  · obtain ⟨d, h⟩ := s.on i a z
    obtain ⟨a', h1, _, h3⟩ := s.ow i d h
    rw [z] at h1; cases h1
    obtain ⟨o, h4, h5, _⟩ := h3.there
    exact ⟨o, h4, h5⟩
theorem SE.ns0 (s : SE G S0 base Z H A ρ σ) {i : Nat} {a : Addr} (h : A i = some a) : ¬ S0 a := fun z => by
  obtain ⟨o, h1, _⟩ := s.s0 a z
  rw [s.nb i a h] at h1; cases h1
theorem SE.grow (s : SE G S0 base Z H A ρ σ) (e : Same H H') : SE G S0 base Z H' A ρ σ :=
  ⟨s.len, s.s0, s.same.trans e, s.dz.same e, s.nb, s.inj, s.on, fun i d h => let ⟨v, h1, h2⟩ := s.va i d h; ⟨v, h1, h2.same e⟩,
    fun i d h => let ⟨a, h1, h2, h3⟩ := s.ow i d h; ⟨a, h1, h2, h3.move Cd.refl (Same.ext e) fun o q => e a o q⟩, s.pin⟩
/-- what an expression sees -/
theorem SE.rv (s : SE G S0 base Z H A ρ σ) (us : List Nat) : RV G (SA S0 (without A us)) H (seen us 0 ρ) σ := by
  have sub : ∀ a, SA S0 (without A us) a → SA S0 A a := SA.sub fun i a h => (without_some h).1
  refine ⟨by rw [seen_len]; exact s.len, fun a z => s.dom a (sub a z), fun i d h => ?_⟩
  rcases seen_get h with h | ⟨h, m⟩
  · obtain ⟨v, h1, h2⟩ := s.va i d h
    exact ⟨v, h1, h2.weak sub⟩
  · obtain ⟨a, h1, h2, h3⟩ := s.ow i d h
    refine ⟨_, h2, (h3.weak sub).rp fun z => ?_⟩
    rcases z with z | ⟨j, z⟩
    · exact s.ns0 h1 z
    · obtain ⟨z, nz⟩ := without_some z
      have := s.inj i j a h1 z
      subst this
      exact nz (by simpa using m)
theorem SE.give (s : SE G S0 base Z H A ρ σ) (us : List Nat) : SE G S0 base Z H (without A us) (given us 0 ρ) σ := by
  have sub : ∀ a, SA S0 (without A us) a → SA S0 A a := SA.sub fun i a h => (without_some h).1
  refine ⟨by rw [given_len]; exact s.len, s.s0, s.same, s.dz, fun i a h => s.nb i a (without_some h).1, fun i j a h1 h2 => s.inj i j a (without_some h1).1 (without_some h2).1, fun i a h => ?_, fun i d h => ?_, fun i d h => ?_, fun x hx c fs h => ?_⟩
  · obtain ⟨h1, h2⟩ := without_some h
    obtain ⟨d, h3⟩ := s.on i a h1
    exact ⟨d, given_ow.mpr ⟨h3, by simpa using h2⟩⟩
  · rcases given_va h with h | ⟨h, m⟩
    · obtain ⟨v, h1, h2⟩ := s.va i d h
      exact ⟨v, h1, h2.weak sub⟩
    · obtain ⟨a, h1, h2, h3⟩ := s.ow i d h
      refine ⟨_, h2, (h3.weak sub).rp fun z => ?_⟩
      rcases z with z | ⟨j, z⟩
      · exact s.ns0 h1 z
      · obtain ⟨z, nz⟩ := without_some z
        have := s.inj i j a h1 z
        subst this
        exact nz (by simpa using m)
  · obtain ⟨h1, h2⟩ := given_ow.mp h
    obtain ⟨a, h3, h4, h5⟩ := s.ow i d h1
    refine ⟨a, ?_, h4, h5.weak sub⟩
    unfold without
    rw [if_neg (by simpa using h2)]
    exact h3
  · obtain ⟨h1, h2⟩ := given_ow.mp h
    unfold without
    rw [if_neg (by simpa using h2)]
    exact s.pin x hx c fs h1
theorem set_get {α : Type} {l : List α} {i j : Nat} {x y : α} (h : (l.set i x)[j]? = some y) : (j = i ∧ y = x ∧ i < l.length) ∨ (j ≠ i ∧ l[j]? = some y) := by
  by_cases e : j = i
  · subst e
    by_cases hl : j < l.length
    · rw [List.getElem?_set_self hl] at h
      exact .inl ⟨rfl, (Option.some.inj h).symm, hl⟩
    · rw [List.getElem?_eq_none (by simpa using hl)] at h
      cases h
  · rw [List.getElem?_set_ne (Ne.symm e)] at h
    exact .inr ⟨e, h⟩
/-- a name is stored: a value -/
theorem SE.setV (s : SE G S0 base Z H A ρ σ) {v : V} {d : D} (h : Rp G (SA S0 A) H v d) (i : Nat) : SE G S0 base Z H (dropA A i) (ρ.set i (.va d)) (σ.set i (some v)) := by
  have sub : ∀ a, SA S0 (dropA A i) a → SA S0 A a := SA.sub fun i a h => (dropA_some h).1
  refine ⟨by simp [s.len], s.s0, s.same, s.dz, fun j a h => s.nb j a (dropA_some h).1, fun j k a h1 h2 => s.inj j k a (dropA_some h1).1 (dropA_some h2).1, fun j a h => ?_, fun j d' h' => ?_, fun j d' h' => ?_, fun x hx c fs h' => ?_⟩
  · obtain ⟨h1, h2⟩ := dropA_some h
    obtain ⟨d, h3⟩ := s.on j a h1
    exact ⟨d, by rw [List.getElem?_set_ne (Ne.symm h2)]; exact h3⟩
  · rcases set_get h' with ⟨rfl, e, hl⟩ | ⟨hj, h'⟩
    · cases e
      exact ⟨v, List.getElem?_set_self (by rw [s.len]; exact hl), h.weak sub⟩
    · obtain ⟨w, h1, h2⟩ := s.va j d' h'
      exact ⟨w, by rw [List.getElem?_set_ne (Ne.symm hj)]; exact h1, h2.weak sub⟩
  · rcases set_get h' with ⟨rfl, e, hl⟩ | ⟨hj, h'⟩
    · cases e
    · obtain ⟨a, h1, h2, h3⟩ := s.ow j d' h'
      exact ⟨a, by unfold dropA; rw [if_neg hj]; exact h1, by rw [List.getElem?_set_ne (Ne.symm hj)]; exact h2, h3.weak sub⟩
  · rcases set_get h' with ⟨rfl, e, hl⟩ | ⟨hj, h'⟩
    · cases e
    · unfold dropA
      rw [if_neg hj]
      exact s.pin x hx c fs h'
/-- .. a new object, owned -/
theorem SE.setO (s : SE G S0 base Z H A ρ σ) (e : Same H H') {p : Addr} {d : D} (np : H p = none) (h : OwnAt G (addS (SA S0 A) p) H' p d) (ho : ∀ c fs, d ≠ .obj c fs) (i : Nat) (hi : i < ρ.length) : SE G S0 base Z H' (putA A i p) (ρ.set i (.ow d)) (σ.set i (some (.ref p))) := by
  have nA : ∀ j, A j ≠ some p := fun j z => by
    obtain ⟨o, h1, _⟩ := s.dom p (.inr ⟨j, z⟩)
    rw [np] at h1; cases h1
  have sub : ∀ a, SA S0 (putA A i p) a → addS (SA S0 A) p a := fun a z => by
    rcases z with z | ⟨j, z⟩
    · exact .inl (.inl z)
    · unfold putA at z
      split at z
      · cases z; exact .inr rfl
      · exact .inl (.inr ⟨j, z⟩)
  have cd : Cd (SA S0 A) (SA S0 (putA A i p)) H := fun a n0 hs z => cd_add np a n0 hs (sub a z)
  refine ⟨by simp [s.len], s.s0, s.same.trans e, s.dz.same e, fun j a h => ?_, fun j k a h1 h2 => ?_, fun j a h => ?_, fun j d' h' => ?_, fun j d' h' => ?_, fun x hx c fs h' => ?_⟩
  · unfold putA at h
    split at h
    · cases h
      exact s.same.free np
    · exact s.nb j a h
  · unfold putA at h1 h2
    split at h1
    · rename_i e1
      cases h1
      split at h2
      · rename_i e2; rw [e1, e2]
      · exact absurd h2 (nA k)
    · split at h2
      · cases h2; exact absurd h1 (nA j)
      · exact s.inj j k a h1 h2
  · unfold putA at h
    split at h
    · rename_i e1; subst e1; exact ⟨d, List.getElem?_set_self hi⟩
    · rename_i e1
      obtain ⟨d', h3⟩ := s.on j a h
      exact ⟨d', by rw [List.getElem?_set_ne (Ne.symm e1)]; exact h3⟩
  · rcases set_get h' with ⟨rfl, e, hl⟩ | ⟨hj, h'⟩
    · cases e
    · obtain ⟨w, h1, h2⟩ := s.va j d' h'
      exact ⟨w, by rw [List.getElem?_set_ne (Ne.symm hj)]; exact h1, h2.move cd (Same.ext e)⟩
  · rcases set_get h' with ⟨rfl, e, hl⟩ | ⟨hj, h'⟩
    · cases e
      exact ⟨p, by unfold putA; rw [if_pos rfl], List.getElem?_set_self (by rw [s.len]; exact hl), h.weak sub⟩
    · obtain ⟨a, h1, h2, h3⟩ := s.ow j d' h'
      exact ⟨a, by unfold putA; rw [if_neg hj]; exact h1, by rw [List.getElem?_set_ne (Ne.symm hj)]; exact h2, h3.move cd (Same.ext e) fun o q => e a o q⟩
  · rcases set_get h' with ⟨rfl, e, hl⟩ | ⟨hj, h'⟩
    · exact absurd (by cases e; rfl) (ho c fs)
    · unfold putA
      rw [if_neg hj]
      exact s.pin x hx c fs h'
/-- .. an owned object is changed where it stands -/
theorem SE.write (s : SE G S0 base Z H A ρ σ) {i : Nat} {a : Addr} {d d' : D} {o : HO} (hi : ρ[i]? = some (.ow d)) (ha : A i = some a) (hn : ∀ xs, o ≠ .tup xs)
    (h : OwnAt G (SA S0 A) (upd H a o) a d') (hp : ∀ c fs, d' = .obj c fs → ∃ c0 fs0, d = .obj c0 fs0) : SE G S0 base Z (upd H a o) A (ρ.set i (.ow d')) σ := by
  obtain ⟨a', h1, h2, h3⟩ := s.ow i d hi
  rw [ha] at h1; cases h1
  obtain ⟨u, hu, _, hz⟩ := h3.there
  have il : i < ρ.length := (List.getElem?_eq_some_iff.mp hi).1
  have ex : Ext (SA S0 A) H (upd H a o) := by
    refine ⟨fun b x nb e => ?_, fun b x y e => ?_⟩
    · rw [upd_ne fun z => nb (.inr ⟨i, by rw [z]; exact ha⟩)]; exact e
    · rw [upd_ne fun z => ?_]
      · exact e
      · subst z; rw [hu] at e; cases e; exact hz _ _ rfl
  refine ⟨by simp [s.len], s.s0, fun b x e => ?_, fun b z => ?_, s.nb, s.inj, fun j b h => ?_, fun j d2 h' => ?_, fun j d2 h' => ?_, fun x hx c fs h' => ?_⟩
  · rw [upd_ne fun z => by subst z; rw [s.nb i b ha] at e; cases e]
    exact s.same b x e
  · by_cases hb : b = a
    · subst hb; exact ⟨o, upd_same, hn⟩
    · obtain ⟨x, h1, h2⟩ := s.dz b z
      exact ⟨x, by rw [upd_ne hb]; exact h1, h2⟩
  · by_cases hj : j = i
    · subst hj; exact ⟨d', List.getElem?_set_self il⟩
    · obtain ⟨x, h1⟩ := s.on j b h
      exact ⟨x, by rw [List.getElem?_set_ne (Ne.symm hj)]; exact h1⟩
  · rcases set_get h' with ⟨rfl, e, hl⟩ | ⟨hj, h'⟩
    · cases e
    · obtain ⟨w, h1, h2⟩ := s.va j d2 h'
      exact ⟨w, h1, h2.ext ex⟩
  · rcases set_get h' with ⟨rfl, e, hl⟩ | ⟨hj, h'⟩
    · cases e
      exact ⟨a, ha, h2, h⟩
    · obtain ⟨b, h1, h4, h5⟩ := s.ow j d2 h'
      have nab : b ≠ a := fun z => hj (s.inj j i b h1 (z ▸ ha))
      exact ⟨b, h1, h4, h5.move Cd.refl ex fun x q => by rw [upd_ne nab]; exact q⟩
  · rcases set_get h' with ⟨rfl, e, hl⟩ | ⟨hj, h'⟩
    · have e2 : Sl.ow (.obj c fs) = Sl.ow d' := e
      cases e2
      obtain ⟨c0, fs0, rfl⟩ := hp c fs rfl
      exact s.pin x hx c0 fs0 hi
    · exact s.pin x hx c fs h'
/-! ### statements, as they are read -/
def EndS (G : Gm) (S0 : Addr → Prop) (base : Hp) (Z : Zt) (D' : Ends) : Out → Prop
  | .nx ρ' => ∀ σ' H' A', SE G S0 base Z H' A' ρ' σ' → D'.nx σ' H'
  | .bk ρ' => ∀ σ' H' A', SE G S0 base Z H' A' ρ' σ' → D'.bk σ' H'
  | .ct ρ' => ∀ σ' H' A', SE G S0 base Z H' A' ρ' σ' → D'.ct σ' H'
  | .rt d => ∀ v H', Same base H' → Rp G S0 H' v d → D'.rt v H'
def tS (G : Gm) (mo : Mo) (s : S) : TS := fun D' σ H => ∃ S0 base Z A ρ o, SE G S0 base Z H A ρ σ ∧ ex mo s ρ = some o ∧ EndS G S0 base Z D' o
variable {mo : Mo}
/-- an expression in its mode: the value, the state behind it -/
theorem evM_run {m : Md} {e : E} {d : D} {ρ' : Ro} {Q : VK} (s : SE G S0 base Z H A ρ σ) (h : evM mo m e ρ = some (d, ρ'))
    (q : ∀ v H' A', Same H H' → SE G S0 base Z H' A' ρ' σ → Rp G (SA S0 A') H' v d → (∀ i a, A' i = some a → A i = some a) → Q v H') : tE G mo e σ H Q := by
  unfold evM at h
  obtain ⟨d0, h1, h⟩ := bind_some h
  refine tE_run (s.rv m.us) h1 fun v H' e' r hv => ?_
  split at h
  · split at h
    · rename_i hf
      cases h
      exact q v H' A e' (s.grow e') (flat_move (s.grow e').dom hf hv) fun _ _ h => h
    · cases h
  · cases h
    exact q v H' _ e' ((s.grow e').give m.us) hv fun i a h => (without_some h).1
theorem evN_run {m : Md} {e : E} {d : D} {ρ' : Ro} {Q : VK} (s : SE G S0 base Z H A ρ σ) (h : evN mo m e ρ = some (d, ρ'))
    (q : ∀ p H' A1, H p = none → Same H H' → SE G S0 base Z H A1 ρ' σ → OwnAt G (addS (SA S0 A1) p) H' p d → (∀ c fs, d ≠ .obj c fs) → Q (.ref p) H') : tF G mo e σ H Q := by
  unfold evN at h
  obtain ⟨d0, h1, h⟩ := bind_some h
  split at h
  · cases h
  · rename_i ho
    have ho : ownable d0 = true := by simpa using ho
    refine ⟨_, _, d0, s.rv m.us, h1, ho, fun p H' np e' hv => ?_⟩
    split at h
    · split at h
      · rename_i hf
        cases h
        refine q p H' A np e' s ?_ (fun c fs z => by subst z; cases ho)
        cases d with
        | lst ds =>
          obtain ⟨vs, g1, g2⟩ := hv
          refine ⟨vs, g1, flats_move ?_ hf g2⟩
          intro a z
          rcases z with z | z
          · exact (s.grow e').dom a z
          · subst z; exact ⟨_, g1, fun _ z => by cases z⟩
        | _ => cases hf
      · cases h
    · cases h
      exact q p H' _ np e' (s.give m.us) hv (fun c fs z => by subst z; cases ho)
end
end PV
namespace PV
open PySem PySem.Spec PyProof.Rows L2 BK
section
variable {X : Cx} {G : Gm} {Γ : Nm} {mo : Mo} {n : Nat} {S0 : Addr → Prop} {Z : Zt} {base H H' : Hp} {A : Ads} {ρ : Ro} {σ : L2.St} {a b c e : Expr} {ea eb ec ee : E} {pos p : Pos} {es : List Expr} {ees : Es} {st : Stmt} {rest : List Stmt} {sa sb : S} {m : Md} {i : Nat}
theorem st_nil : PSs X [] (tS G mo .nop) := pss_nil.imp fun D σ H h => by
  obtain ⟨S0, base, Z, A, ρ, o, s, e, q⟩ := h
  simp only [ex] at e
  cases e
  exact q σ H A s
theorem st_cons (h1 : PS X st (tS G mo sa)) (h2 : PSs X rest (tS G mo sb)) : PSs X (st :: rest) (tS G mo (.seq sa sb)) := (pss_cons h1 h2).imp fun D σ H h => by
  obtain ⟨S0, base, Z, A, ρ, o, s, e, q⟩ := h
  simp only [ex] at e
  obtain ⟨o1, e1, e⟩ := bind_some e
  refine ⟨S0, base, Z, A, ρ, o1, s, e1, ?_⟩
  cases o1 with
  | nx ρ1 => exact fun σ' H' A' s' => ⟨S0, base, Z, A', ρ1, o, s', e, q⟩
  | bk ρ1 => cases e; exact q
  | ct ρ1 => cases e; exact q
  | rt d => cases e; exact q
theorem st_set_of {te : TE} (h : PS X st (tAsg te (gName i))) (w : ∀ σ H Q, tE G mo ee σ H Q → te σ H Q) : PS X st (tS G mo (.set i m ee)) := h.imp fun D σ H h => by
  obtain ⟨S0, base, Z, A, ρ, o, s, e, q⟩ := h
  simp only [ex] at e
  obtain ⟨⟨d, ρ'⟩, e1, e⟩ := bind_some e
  cases e
  exact w _ _ _ (evM_run s e1 fun v H' A' _ s' hv _ => q _ H' _ (s'.setV hv i))
theorem st_own_of {te : TE} (h : PS X st (tAsg te (gName i))) (w : ∀ σ H Q, tF G mo ee σ H Q → te σ H Q) (hi : i < X.N.length) (hl : ∀ σ : L2.St, σ.length = X.N.length → True) : PS X st (tS G mo (.own i m ee)) := by
  refine ⟨fun pins s0 σ H D I h' => h.run pins s0 σ H D I ?_⟩
  obtain ⟨S0, base, Z, A, ρ, o, s, e, q⟩ := h'
  simp only [ex] at e
  obtain ⟨⟨d, ρ'⟩, e1, e⟩ := bind_some e
  cases e
  exact w _ _ _ (evN_run s e1 fun p H' A1 np sm s' hv ho => q _ H' _ (s'.setO sm np hv ho i (by rw [← s'.len, I.len]; exact hi)))
mutual
theorem bindS_run (K : PySem.W.Frag) : ∀ (t : T) {d : D} {v : V} {ρ ρ2 : Ro} {σ : L2.St} {A : Ads} {Q : L2.St → Hp → Prop}, bindS t d ρ = some ρ2 → Rp G (SA S0 A) H v d → SE G S0 base Z H A ρ σ →
    (∀ σ2 A2, SE G S0 base Z H A2 ρ2 σ2 → (∀ i a, A2 i = some a → A i = some a) → Q σ2 H) → gOf K t v σ H Q
  | .nm i, d, v, ρ, ρ2, σ, A, Q, e, h, s, q => by
    simp only [bindS] at e
    cases e
    exact q _ _ (s.setV h i) fun j a z => (dropA_some z).1
  | .tp ts, d, v, ρ, ρ2, σ, A, Q, e, h, s, q => by
    simp only [bindS] at e
    split at e
    · cases h with
      | @tup a vs ds n0 h0 r0 =>
        exact ⟨a, vs, rfl, .inl (.inl h0), by rw [r0.length]; exact bindSs_len e, bindSs_run K ts e r0 s q⟩
    · cases e
theorem bindSs_run (K : PySem.W.Frag) : ∀ (ts : Ts) {ds : List D} {vs : List V} {ρ ρ2 : Ro} {σ : L2.St} {A : Ads} {Q : L2.St → Hp → Prop}, bindSs ts ds ρ = some ρ2 → RpA G (SA S0 A) H vs ds → SE G S0 base Z H A ρ σ →
    (∀ σ2 A2, SE G S0 base Z H A2 ρ2 σ2 → (∀ i a, A2 i = some a → A i = some a) → Q σ2 H) → gOfs K ts vs σ H Q
  | .nil, [], vs, ρ, ρ2, σ, A, Q, e, h, s, q => by
    simp only [bindSs] at e
    cases e
    cases h
    exact ⟨rfl, q σ A s fun _ _ z => z⟩
  | .nil, _ :: _, _, _, _, _, _, _, e, _, _, _ => by simp [bindSs] at e
  | .cons _ _, [], _, _, _, _, _, _, e, _, _, _ => by simp [bindSs] at e
  | .cons t ts, d :: ds, vs, ρ, ρ2, σ, A, Q, e, h, s, q => by
    simp only [bindSs] at e
    obtain ⟨ρ1, e1, e2⟩ := bind_some e
    cases h with
    | cons h0 hr =>
      exact ⟨_, _, rfl, bindS_run K t e1 h0 s fun σ1 A1 s1 k1 => bindSs_run K ts e2 (hr.weak (SA.sub k1)) s1 fun σ2 A2 s2 k2 => q σ2 A2 s2 fun i a z => k1 i a (k2 i a z)⟩
theorem bindSs_len : ∀ {ts : Ts} {ds : List D} {ρ ρ2 : Ro}, bindSs ts ds ρ = some ρ2 → ds.length = ts.len
  | .nil, [], _, _, _ => rfl
  | .nil, _ :: _, _, _, h => by simp [bindSs] at h
  | .cons _ _, [], _, _, h => by simp [bindSs] at h
  | .cons t r, d :: ds, ρ, ρ2, h => by
    simp only [bindSs] at h
    obtain ⟨ρ1, _, h2⟩ := bind_some h
    simp only [List.length_cons, Ts.len, bindSs_len h2]
end
theorem st_tgt_of {t : T} {te : TE} (h : PS X st (tAsg te (gOf X.K t))) (w : ∀ σ H Q, tE G mo ee σ H Q → te σ H Q) : PS X st (tS G mo (.tgt t m ee)) := h.imp fun D σ H h => by
  obtain ⟨S0, base, Z, A, ρ, o, s, e, q⟩ := h
  simp only [ex] at e
  obtain ⟨⟨d, ρ'⟩, e1, e⟩ := bind_some e
  obtain ⟨ρ2, e2, e⟩ := bind_some e
  cases e
  exact w _ _ _ (evM_run s e1 fun v H' A' _ s' hv _ => bindS_run X.K t e2 hv s' fun σ2 A2 s2 _ => q σ2 H' A2 s2)
/-- a, b = x, y with plain local names -/
theorem st_par_of {i j : Nat} (h : PS X st (tPar i j (tA G mo (.cons ea (.cons eb .nil))))) : PS X st (tS G mo (.tgt (.tp (.cons (.nm i) (.cons (.nm j) .nil))) m (.tup (.cons ea (.cons eb .nil))))) := h.imp fun D σ H h => by
  obtain ⟨S0, base, Z, A, ρ, o, s, e, q⟩ := h
  simp only [ex] at e
  obtain ⟨⟨d, ρ'⟩, e1, e⟩ := bind_some e
  obtain ⟨ρ2, e2, e⟩ := bind_some e
  cases e
  unfold evM at e1
  obtain ⟨d0, e3, e1⟩ := bind_some e1
  simp only [ev] at e3
  obtain ⟨ds, e4, e3⟩ := bind_some e3
  obtain ⟨rfl, _⟩ := gtup_some e3
  refine tA_run (s.rv m.us) e4 fun vs H' e' r hv => ?_
  -- the two values, and the state behind them
  have key : ∃ A', SE G S0 base Z H' A' ρ' σ ∧ RpA G (SA S0 A') H' vs ds ∧ d = .tup ds := by
    split at e1
    · split at e1
      · rename_i hf
        cases e1
        simp only [flatD] at hf
        exact ⟨A, s.grow e', flats_move (s.grow e').dom hf hv, rfl⟩
      · cases e1
    · cases e1
      exact ⟨_, (s.grow e').give m.us, hv, rfl⟩
  obtain ⟨A', s', hv', rfl⟩ := key
  rcases ds with _ | ⟨d1, _ | ⟨d2, _ | ⟨d3, ds⟩⟩⟩
  · simp [bindS, bindSs] at e2
  · simp [bindS, bindSs] at e2
  · cases hv' with
    | cons h1 hr =>
      cases hr with
      | cons h2 hr =>
        cases hr
        simp [bindS, bindSs] at e2
        subst e2
        refine ⟨_, _, rfl, q _ H' _ ((s'.setV h1 i).setV (h2.weak ?_) j)⟩
        exact SA.sub fun k a z => (dropA_some z).1
  · simp [bindS, bindSs] at e2
theorem pip_bin (M : MoOk X G Γ mo n) (o : O2) : PIp X (opOf o) (fun x y H Q => ∃ i j d, x = .int i ∧ y = .int j ∧ binD o (.int i) (.int j) = some (.int d) ∧ Q (.int d) H) := by
  intro pins s σ H x y v u Q I rx ry h
  obtain ⟨i, j, d, rfl, rfl, e, q⟩ := h
  cases o with
  | add => simp only [binD] at e; cases e; exact iop_add pins s σ H _ _ v u Q I rx ry ⟨_, _, rfl, rfl, q⟩
  | sub => simp only [binD] at e; cases e; exact iop_sub pins s σ H _ _ v u Q I rx ry ⟨_, _, rfl, rfl, q⟩
  | mul =>
    simp only [binD] at e
    split at e
    · rename_i hl
      cases e
      refine iop_mul pins s σ H _ _ v u Q I rx ry ⟨_, _, rfl, rfl, ?_, q⟩
      rw [Bool.or_eq_true] at hl
      exact hl.imp small64_ok small64_ok
    · cases e
  | fdiv =>
    simp only [binD] at e
    split at e
    · rename_i hl
      rw [Bool.and_eq_true] at hl
      cases e
      exact iop_fdiv pins s σ H _ _ v u Q I rx ry ⟨_, _, rfl, rfl, ⟨of_decide_eq_true hl.1, of_decide_eq_true hl.2⟩, q⟩
    · cases e
  | mod =>
    simp only [binD] at e
    split at e
    · rename_i hl
      cases e
      exact iop_mod pins s σ H _ _ v u Q I rx ry ⟨_, _, rfl, rfl, of_decide_eq_true hl, q⟩
    · cases e
theorem binD_int {o : O2} {x y : Int} {z : D} (h : binD o (.int x) (.int y) = some z) : ∃ k, z = .int k := by
  cases o with
  | add => simp only [binD] at h; cases h; exact ⟨_, rfl⟩
  | sub => simp only [binD] at h; cases h; exact ⟨_, rfl⟩
  | mul => simp only [binD] at h; split at h <;> cases h; exact ⟨_, rfl⟩
  | fdiv => simp only [binD] at h; split at h <;> cases h; exact ⟨_, rfl⟩
  | mod => simp only [binD] at h; split at h <;> cases h; exact ⟨_, rfl⟩
theorem st_aug (M : MoOk X G Γ mo n) {x : Str} {pos' : Pos} (o : O2) (hi : X.N[i]? = some x) (hx : Loc X.env.scope x) (he : PE X e (tE G mo ee)) (hf : X.fn x = true ∨ X.env.scope.names.lookup x = some .local) : PS X (.AugAssign (.Name x pos') (opOf o) e pos) (tS G mo (.aug i o m ee)) := by
  refine (ps_aug M.nd hi hx he (pip_bin M o) hf).imp fun D σ H h => ?_
  obtain ⟨S0, base, Z, A, ρ, oo, s, e, q⟩ := h
  simp only [ex] at e
  split at e
  · rename_i x0 hx0
    obtain ⟨⟨d, ρ'⟩, e1, e⟩ := bind_some e
    dsimp only at e
    split at e
    · rename_i y0
      obtain ⟨z, e2, e⟩ := bind_some e
      cases e
      obtain ⟨v, h1, h2⟩ := s.va i _ hx0
      cases h2
      refine ⟨_, h1, evM_run s e1 fun v H' A' _ s' hv _ => ?_⟩
      cases hv
      obtain ⟨k, rfl⟩ := binD_int e2
      exact ⟨x0, y0, k, rfl, rfl, e2, q _ H' _ (s'.setV (.int k) i)⟩
    · cases e
  · cases e
theorem st_app (M : MoOk X G Γ mo n) {x : Str} {px apos cpos : Pos} (hi : X.N[i]? = some x) (hv : Vis X.env.scope x) (hd : (x == ("__debug__" : Str)) = false) (hcd : (x == ("__classdict__" : Str)) = false)
    (he : PE X e (tE G mo ee)) (hn : noStar e = true) (hl : (apos.endLine == cpos.line) = true) : PS X (.Expr (.Call (.Attribute (.Name x px) "append" apos) [e] [] cpos) pos) (tS G mo (.app i m ee)) := by
  refine (ps_expr (pe_bm PySem.F.plainAttrs_list PySem.F.slot_list_append PySem.F.type_list_append mt_append (pe_var hi hv hd hcd) (pa_cons he pa_nil (star_cons hn)) (base_eq rfl)
    (by rw [star_cons hn]; rfl) hl (star_cons hn) rfl) rfl).imp fun D σ H h => ?_
  obtain ⟨S0, base, Z, A, ρ, oo, s, e, q⟩ := h
  simp only [ex] at e
  obtain ⟨⟨d, ρ'⟩, e1, e⟩ := bind_some e
  dsimp only at e
  split at e
  · rename_i xs hxs
    split at e
    · rename_i hlen
      cases e
      -- the slot is owned ahead of it, too
      have own0 : ρ[i]? = some (.ow (.lst xs)) := by
        unfold evM at e1
        obtain ⟨d0, _, e1⟩ := bind_some e1
        split at e1
        · split at e1
          · cases e1; exact hxs
          · cases e1
        · cases e1; exact (given_ow.mp hxs).1
      obtain ⟨l, h1, h2, vs, h3, h4⟩ := s.ow i _ own0
      refine ⟨_, h2, .inl ⟨rfl, _, .inl (.inl h3)⟩, evM_run s e1 fun v H' A' sm s' hv hA' => ?_⟩
      obtain ⟨l', g1, g2, vs', g3, g4⟩ := s'.ow i _ hxs
      rw [h2] at g2
      cases g2
      refine ⟨l, vs', v, rfl, rfl, g3, lim_line (by rw [g4.length]; omega), ?_⟩
      refine q _ _ _ (s'.write hxs g1 (fun _ z => by cases z) ⟨_, upd_same, ?_⟩ fun _ _ z => by cases z)
      have ex : Ext (SA S0 A') H' (upd H' l (.lst (vs' ++ [v]))) := by
        refine ⟨fun b x nb e => ?_, fun b x y e => ?_⟩
        · rw [upd_ne fun z => nb (.inr ⟨i, by rw [z]; exact g1⟩)]; exact e
        · rw [upd_ne fun z => ?_]
          · exact e
          · subst z; rw [g3] at e; cases e
      exact (g4.append (.one hv)).move (fun _ n _ => n) ex
    · cases e
  · cases e
end
end PV
namespace PV
open PySem PySem.Spec PyProof.Rows L2 BK
section
variable {X : Cx} {G : Gm} {Γ : Nm} {mo : Mo} {n : Nat} {S0 : Addr → Prop} {Z : Zt} {base H H' : Hp} {A : Ads} {ρ : Ro} {σ : L2.St} {a b c e : Expr} {ea eb ec ee : E} {pos p : Pos} {es : List Expr} {ees : Es} {st : Stmt} {rest : List Stmt} {sa sb : S} {m : Md} {i : Nat}
theorem own_ext {S : Addr → Prop} {l : Addr} {xs : List V} {o : HO} (h : H l = some (.lst xs)) (hS : S l) : Ext S H (upd H l o) := by
  refine ⟨fun b x nb e => ?_, fun b x y e => ?_⟩
  · rw [upd_ne fun z => nb (by rw [z]; exact hS)]; exact e
  · rw [upd_ne fun z => ?_]
    · exact e
    · subst z; rw [h] at e; cases e
theorem own_extU {S : Addr → Prop} {l : Addr} {u o : HO} (h : H l = some u) (hu : ∀ x y, u ≠ .frz x y) (hS : S l) : Ext S H (upd H l o) := by
  refine ⟨fun b x nb e => ?_, fun b x y e => ?_⟩
  · rw [upd_ne fun z => nb (by rw [z]; exact hS)]; exact e
  · rw [upd_ne fun z => ?_]
    · exact e
    · subst z; rw [h] at e; cases e; exact hu _ _ rfl
theorem keep_own {d d0 : D} {ρ' : Ro} (e1 : evM mo m ee ρ = some (d, ρ')) (h : ρ'[i]? = some (.ow d0)) : ρ[i]? = some (.ow d0) := by
  unfold evM at e1
  obtain ⟨d1, _, e1⟩ := bind_some e1
  split at e1
  · split at e1
    · cases e1; exact h
    · cases e1
  · cases e1; exact (given_ow.mp h).1
theorem keep_ownN {d d0 : D} {ρ' : Ro} (e1 : evN mo m ee ρ = some (d, ρ')) (h : ρ'[i]? = some (.ow d0)) : ρ[i]? = some (.ow d0) := by
  unfold evN at e1
  obtain ⟨d1, _, e1⟩ := bind_some e1
  split at e1
  · cases e1
  · split at e1
    · split at e1
      · cases e1; exact h
      · cases e1
    · cases e1; exact (given_ow.mp h).1
theorem st_ext (M : MoOk X G Γ mo n) {x : Str} {px apos cpos : Pos} (hi : X.N[i]? = some x) (hv : Vis X.env.scope x) (hd : (x == ("__debug__" : Str)) = false) (hcd : (x == ("__classdict__" : Str)) = false)
    (he : PE X e (tE G mo ee)) (hn : noStar e = true) (hl : (apos.endLine == cpos.line) = true) : PS X (.Expr (.Call (.Attribute (.Name x px) "extend" apos) [e] [] cpos) pos) (tS G mo (.ext i m ee)) := by
  refine (ps_expr (pe_bm PySem.F.plainAttrs_list PySem.F.slot_list_extend PySem.F.type_list_extend mt_extend (pe_var hi hv hd hcd) (pa_cons he pa_nil (star_cons hn)) (base_eq rfl)
    (by rw [star_cons hn]; rfl) hl (star_cons hn) rfl) rfl).imp fun D σ H h => ?_
  obtain ⟨S0, base, Z, A, ρ, oo, s, e, q⟩ := h
  simp only [ex] at e
  obtain ⟨⟨d, ρ'⟩, e1, e⟩ := bind_some e
  dsimp only at e
  split at e
  · rename_i xs ys hxs
    split at e
    · rename_i hlen
      cases e
      have own0 := keep_ownN e1 hxs
      obtain ⟨l, h1, h2, vs, h3, h4⟩ := s.ow i _ own0
      refine ⟨_, h2, .inl ⟨rfl, _, .inl (.inl h3)⟩, ?_⟩
      unfold evN at e1
      obtain ⟨d0, e2, e1⟩ := bind_some e1
      refine tE_run (s.rv m.us) e2 fun v H' e' r hv => ?_
      -- the state behind the list, its items
      have key : ∃ A' zs b, SE G S0 base Z H' A' ρ' σ ∧ v = .ref b ∧ H' b = some (.lst zs) ∧ RpA G (SA S0 A') H' zs ys := by
        split at e1
        · cases e1
        · split at e1
          · split at e1
            · rename_i hf
              cases e1
              cases hv with
              | @lst b zs _ n0 q0 r0 => exact ⟨A, zs, b, s.grow e', rfl, q0, flats_move (s.grow e').dom hf r0⟩
            · cases e1
          · cases e1
            cases hv with
            | @lst b zs _ n0 q0 r0 => exact ⟨_, zs, b, (s.grow e').give m.us, rfl, q0, r0⟩
      obtain ⟨A', zs, b, s', rfl, hb, hr⟩ := key
      obtain ⟨l', g1, g2, vs', g3, g4⟩ := s'.ow i _ hxs
      rw [h2] at g2
      cases g2
      refine ⟨l, b, vs', zs, rfl, rfl, g3, hb, by rw [g4.length, hr.length]; exact Nat.le_of_lt (lim_line hlen), ?_⟩
      exact q _ _ _ (s'.write hxs g1 (fun _ z => by cases z) ⟨_, upd_same, (g4.append hr).move (fun _ n _ => n) (own_ext g3 (.inr ⟨i, g1⟩))⟩ fun _ _ z => by cases z)
    · cases e
  · cases e
theorem swap_false {v t : Expr} {ln : Nat} {env : Env} (h : ∀ x p, t ≠ .Name x p) : swapsWith v (some t) ln env = pure false := by
  unfold swapsWith
  split
  · split
    · rename_i z; cases z
    · rename_i z; cases z; exact absurd rfl (h _ _)
    · rfl
  · rfl
/-- an empty dict: its keys may yet be of any kind -/
theorem emp_dT {P : Program} {w : World} {H H' : Hp} {h : Heap} {a : Addr} (x : ObjOk P w H h a (.dK [])) : ObjOk P w H' h a (.dT []) := by
  obtain ⟨z, y, vs, r, o, es, ep, e, ex, d, _, p, _⟩ := x
  cases r
  cases q : es.toList with
  | nil => exact ⟨z, y, [], .nil, o, es, ep, e, ex, d, by rw [q]; rfl, .nil⟩
  | cons a l => rw [q] at p; cases p
def rSetE : TSet := fun o i v H Q => ∃ l, o = .ref l ∧ H l = some (.dK []) ∧ rSetD o i v (upd H l (.dT [])) Q
theorem set_emp (hu : X.A.units + 1 < cLine) : PSet X rSetE := by
  intro pins s σ H o i v ov iv u Q I ro ri rv h
  obtain ⟨l, rfl, hl, h⟩ := h
  have ok := I.hok l _ hl
  obtain ⟨b, hb⟩ : ∃ b, s.heap.get? l = some b := by
    obtain ⟨_, _, _, _, o, _, _, e, _⟩ := ok
    exact ⟨o, e⟩
  have I2 : Inv X pins σ (upd H l (.dT [])) s := I.write (e := l) (t' := s.toks) (by rw [hl]; trivial) (.inl rfl) (fun b u _ hu => hu) ⟨b, hb⟩ (emp_dT ok)
  exact set_dict hu pins s σ _ _ i v ov iv u Q I2 ro ri rv h
theorem st_sto (M : MoOk X G Γ mo n) {x : Str} {px tpos : Pos} {ix : Expr} {ei : E} (hi : X.N[i]? = some x) (hv : Vis X.env.scope x) (hd : (x == ("__debug__" : Str)) = false) (hcd : (x == ("__classdict__" : Str)) = false)
    (hx : PE X ix (tE G mo ei)) (he : PE X e (tE G mo ee)) (hp : plainB ix = true) : PS X (.Assign [.Subscript (.Name x px) ix tpos] e pos) (tS G mo (.sto i m ei ee)) := by
  have ha : ∀ v, assign (.Subscript (.Name x px) ix tpos) X.env v = (do
      let ov ← holding [v] (eval (.Name x px) X.env)
      let iv ← holding [v, ov] (eval ix X.env)
      standAt tpos
      holding [v, ov, iv] (setItem ov iv v)
      release [v, ov, iv] []) := by
    intro v
    cases ix <;> first | rfl | (cases hp)
  have sor : PSet X (fun o i v H Q => rSetL o i v H Q ∨ rSetD o i v H Q ∨ rSetE o i v H Q) := fun pins s σ H o i v ov iv u Q I ro ri rv h =>
    h.elim (set_list pins s σ H o i v ov iv u Q I ro ri rv) fun h => h.elim (set_dict (by have := M.room.un; omega) pins s σ H o i v ov iv u Q I ro ri rv) (set_emp (by have := M.room.un; omega) pins s σ H o i v ov iv u Q I ro ri rv)
  refine (ps_asg he (pg_sub (pe_var hi hv hd hcd) hx sor ha) (by
    show swapsWith e (some (.Subscript (.Name x px) ix tpos)) pos.line X.env = pure false
    exact swap_false fun _ _ z => by cases z) (by cases e <;> rfl) rfl).imp fun D σ H h => ?_
  obtain ⟨S0, base, Z, A, ρ, oo, s, e, q⟩ := h
  simp only [ex] at e
  obtain ⟨⟨d, ρ'⟩, e1, e⟩ := bind_some e
  obtain ⟨k, e2, e⟩ := bind_some e
  dsimp only at e e2
  split at e
  · rename_i xs k hxs
    obtain ⟨j, e3, e⟩ := bind_some e
    cases e
    refine evM_run s e1 fun v H1 A' sm s' hv _ => ?_
    obtain ⟨l, g1, g2, vs', g3, g4⟩ := s'.ow i _ hxs
    refine ⟨_, g2, tE_run (s'.rv m.us) e2 fun kv H2 e' r hk => ?_⟩
    cases hk
    have s2 := s'.grow e'
    obtain ⟨l2, f1, f2, vs2, f3, f4⟩ := s2.ow i _ hxs
    rw [g2] at f2
    cases f2
    refine .inl ⟨l, vs2, _, j, rfl, rfl, f3, by rw [f4.length]; exact e3, ?_⟩
    exact q _ _ _ (s2.write hxs f1 (fun _ z => by cases z) ⟨_, upd_same, (f4.set j (hv.same e')).move (fun _ n _ => n) (own_ext f3 (.inr ⟨i, f1⟩))⟩ fun _ _ z => by cases z)
  · rename_i xs0 hxs
    obtain ⟨kx, e3, e⟩ := bind_some e
    cases e
    refine evM_run s e1 fun v H1 A' sm s' hv _ => ?_
    obtain ⟨l, g1, g2, vs', g3, g4⟩ := s'.ow i _ hxs
    refine ⟨_, g2, tE_run (s'.rv m.us) e2 fun kv H2 e' r hk => ?_⟩
    have s2 := s'.grow e'
    obtain ⟨l2, f1, f2, vs2, f3, f4⟩ := s2.ow i _ hxs
    rw [g2] at f2
    cases f2
    cases f4
    have e4 : keysD (.tup xs0) = some kx := e3
    have ek := keysD_kD e4
    rw [ek] at hk
    cases hk with
    | @tup b bs _ n1 h1 r1 =>
      rw [r1.keys] at h1
      have hbl : b ≠ l := ne_of h1 f3 (fun z => by cases z)
      have h1' : upd H2 l (.dT []) b = some (.tup (kx.map kV)) := by rw [upd_ne hbl]; exact h1
      refine .inr (.inr ⟨l, rfl, f3, l, _, rfl, DPut.t upd_same h1' (by show 0 < sizeLine; rw [sizeLine_eq]; omega), ?_⟩)
      rw [upd_upd]
      refine q _ _ _ (s2.write hxs f1 (fun _ z => by cases z) ⟨_, upd_same, ?_⟩ fun _ _ z => by cases z)
      have e5 : (PV.D.tup xs0) = PV.D.tup (kx.map kD) := ek
      rw [e5]
      exact .cons ((hv.same e').move (fun _ n _ => n) (own_extU f3 (fun _ _ z => by cases z) (.inr ⟨i, f1⟩))) .nil
  · rename_i kvs k hxs _
    obtain ⟨kx, e3, e⟩ := bind_some e
    split at e
    · rename_i hlm
      cases e
      refine evM_run s e1 fun v H1 A' sm s' hv _ => ?_
      obtain ⟨l, g1, g2, vs', g3, g4⟩ := s'.ow i _ hxs
      refine ⟨_, g2, tE_run (s'.rv m.us) e2 fun kv H2 e' r hk => ?_⟩
      have s2 := s'.grow e'
      obtain ⟨l2, f1, f2, vs2, f3, f4⟩ := s2.ow i _ hxs
      rw [g2] at f2
      cases f2
      rw [hk.key e3]
      refine .inr (.inl ⟨l, _, rfl, DPut.k f3 (by rw [f4.length]; exact lim_line (Nat.le_of_lt hlm)), ?_⟩)
      exact q _ _ _ (s2.write hxs f1 (fun _ z => by cases z) ⟨_, upd_same, (f4.put e3 (hv.same e')).move (fun _ n _ => n) (own_extU f3 (fun _ _ z => by cases z) (.inr ⟨i, f1⟩))⟩ fun _ _ z => by cases z)
    · cases e
  · rename_i kvs k hxs
    obtain ⟨kx, e3, e⟩ := bind_some e
    split at e
    · rename_i hlm
      cases e
      refine evM_run s e1 fun v H1 A' sm s' hv _ => ?_
      obtain ⟨l, g1, g2, vs', g3, g4⟩ := s'.ow i _ hxs
      refine ⟨_, g2, tE_run (s'.rv m.us) e2 fun kv H2 e' r hk => ?_⟩
      have s2 := s'.grow e'
      obtain ⟨l2, f1, f2, vs2, f3, f4⟩ := s2.ow i _ hxs
      rw [g2] at f2
      cases f2
      rw [keysD_kD e3] at hk
      cases hk with
      | @tup b bs _ n1 h1 r1 =>
        rw [r1.keys] at h1
        refine .inr (.inl ⟨l, _, rfl, DPut.t f3 h1 (by rw [f4.length]; exact lim_line (Nat.le_of_lt hlm)), ?_⟩)
        refine q _ _ _ (s2.write hxs f1 (fun _ z => by cases z) ⟨_, upd_same, (f4.put ?_ (hv.same e')).move (fun _ n _ => n) (own_extU f3 (fun _ _ z => by cases z) (.inr ⟨i, f1⟩))⟩ fun _ _ z => by cases z)
        exact e3
    · cases e
  · cases e
theorem putF_new {f : Str} {v : V} : ∀ {fs : List (Str × V)}, fs.lookup f = none → putF f v fs = fs ++ [(f, v)]
  | [], _ => rfl
  | (g, w') :: r, h => by
    rw [List.lookup_cons] at h
    cases hb : f == g with
    | true => rw [hb] at h; cases h
    | false =>
      rw [hb] at h
      have : g ≠ f := fun z => by subst z; simp at hb
      unfold putF
      split
      · rename_i z
        first | exact absurd z this | exact absurd z.symm this | (simp at z; first | exact absurd z this | exact absurd z.symm this)
      · rw [putF_new h]; rfl
theorem RpF.append {S : Addr → Prop} : ∀ {fs gs : List (Nat × D)} {vs ws : List (Str × V)}, RpF G S H vs fs → RpF G S H ws gs → RpF G S H (vs ++ ws) (fs ++ gs)
  | [], _, _, _, h, k => by cases h; exact k
  | (j, d) :: fs, _, _, _, h, k => by
    cases h with
    | cons h0 hr => exact .cons h0 (RpF.append hr k)
theorem RpF.length {S : Addr → Prop} : ∀ {fs : List (Nat × D)} {vs : List (Str × V)}, RpF G S H vs fs → vs.length = fs.length
  | [], _, h => by cases h; rfl
  | (j, d) :: fs, _, h => by
    cases h with
    | cons h0 hr => simp [RpF.length hr]
theorem st_fld (M : MoOk X G Γ mo n) {k : Nat} {x f : Str} {px tpos : Pos} (hk : G.an k = f) (hi : X.N[0]? = some x) (hv : Vis X.env.scope x) (hd : (x == ("__debug__" : Str)) = false) (hcd : (x == ("__classdict__" : Str)) = false)
    (he : PE X e (tE G mo ee)) : PS X (.Assign [.Attribute (.Name x px) f tpos] e pos) (tS G mo (.fld k m ee)) := by
  refine (ps_fld (pe_var hi hv hd hcd) he (swap_false fun _ _ z => by cases z)).imp fun D σ H h => ?_
  obtain ⟨S0, base, Z, A, ρ, oo, s, e, q⟩ := h
  simp only [ex] at e
  obtain ⟨⟨d, ρ'⟩, e1, e⟩ := bind_some e
  dsimp only at e
  split at e
  · rename_i c fs hxs
    split at e
    · rename_i hc
      obtain ⟨c1, c2, c3⟩ := hc
      cases e
      refine evM_run s e1 fun v H1 A' sm s' hv _ => ?_
      obtain ⟨l, g1, g2, C, dx, vs, g3, g4, g5⟩ := s'.ow 0 _ hxs
      have lk : vs.lookup f = none := by rw [← hk]; exact g5.looknone M.inj c1
      refine ⟨_, g2, l, C, dx, vs, rfl, g3, (M.cl _ _ g4).cl, hk ▸ M.na _ _ _ g4 c3, by rw [g5.length]; omega, ?_⟩
      rw [putF_new lk]
      refine q _ _ _ (s'.write hxs g1 (fun _ z => by cases z) ⟨C, dx, _, upd_same, g4, ?_⟩ fun _ _ _ => ⟨_, _, rfl⟩)
      have ex : Ext (SA S0 A') H1 (upd H1 l (.ins C dx (vs ++ [(f, v)]))) := by
        refine ⟨fun b x nb e => ?_, fun b x y e => ?_⟩
        · rw [upd_ne fun z => nb (.inr ⟨0, by rw [z]; exact g1⟩)]; exact e
        · rw [upd_ne fun z => ?_]
          · exact e
          · subst z; rw [g3] at e; cases e
      subst hk
      exact RpF.move (fun _ n _ => n) ex (g5.append (.cons hv .nil))
    · cases e
  · cases e
theorem st_drop (he : PE X e (tE G mo ee)) (hs : swapsWith e none pos.line X.env = pure false) : PS X (.Expr e pos) (tS G mo (.drop m ee)) := (ps_expr he hs).imp fun D σ H h => by
  obtain ⟨S0, base, Z, A, ρ, o, s, e, q⟩ := h
  simp only [ex] at e
  obtain ⟨d, e1, e⟩ := bind_some e
  cases e
  exact tE_run (s.rv m.us) e1 fun v H' e' r hv => q σ H' A (s.grow e')
theorem st_ret (he : PE X e (tE G mo ee)) : PS X (.Return (some e) pos) (tS G mo (.ret ee)) := (ps_ret he).imp fun D σ H h => by
  obtain ⟨S0, base, Z, A, ρ, o, s, e, q⟩ := h
  simp only [ex] at e
  obtain ⟨d, e1, e⟩ := bind_some e
  cases e
  exact tE_run (s.rv _) e1 fun v H' e' r hv => q v H' (s.same.trans e') (hv.weak fun a z => .inl z)
theorem st_retN : PS X (.Return none pos) (tS G mo .retN) := ps_retN.imp fun D σ H h => by
  obtain ⟨S0, base, Z, A, ρ, o, s, e, q⟩ := h
  simp only [ex] at e
  cases e
  exact q .non H s.same .non
theorem st_brk : PS X (.Break pos) (tS G mo .brk) := ps_break.imp fun D σ H h => by
  obtain ⟨S0, base, Z, A, ρ, o, s, e, q⟩ := h
  simp only [ex] at e
  cases e
  exact q σ H A s
theorem st_cnt : PS X (.Continue pos) (tS G mo .cnt) := ps_continue.imp fun D σ H h => by
  obtain ⟨S0, base, Z, A, ρ, o, s, e, q⟩ := h
  simp only [ex] at e
  cases e
  exact q σ H A s
theorem st_pass : PS X (.Pass pos) (tS G mo .nop) := ps_pass.imp fun D σ H h => by
  obtain ⟨S0, base, Z, A, ρ, o, s, e, q⟩ := h
  simp only [ex] at e
  cases e
  exact q σ H A s
theorem st_if {aa bb : List Stmt} (hc : PT X c (tT G mo ec)) (ha : PSs X aa (tS G mo sa)) (hb : PSs X bb (tS G mo sb)) : PS X (.If c aa bb pos) (tS G mo (.ife m ec sa sb)) := (ps_if hc ha hb).imp fun D σ H h => by
  obtain ⟨S0, base, Z, A, ρ, o, s, e, q⟩ := h
  simp only [ex] at e
  obtain ⟨k, e1, e⟩ := bind_some e
  refine tT_run (s.rv m.us) (tB_some e1) fun H' e' r => ?_
  split at e
  · rename_i hk
    rw [if_pos hk]
    exact ⟨S0, base, Z, A, ρ, o, s.grow e', e, q⟩
  · rename_i hk
    rw [if_neg hk]
    exact ⟨S0, base, Z, A, ρ, o, s.grow e', e, q⟩
/-- code that is not come to -/
def noS : S := .seq (.app 0 ⟨[], false⟩ (.var 100000)) .nop
theorem st_while {body : List Stmt} (hp : PassesOwn (model X.prog X.w) X.A X.env X.xe) (hc : PT X c (tT G mo ec)) (hb : PSs X body (tS G mo sb)) : PS X (.While c body [] pos) (tS G mo (.whl m ec sb)) := (ps_while hp hc hb).imp fun D σ H h => by
  obtain ⟨S0, base, Z, A, ρ, o, s, e, q⟩ := h
  simp only [ex] at e
  refine ⟨fun k σ' H' => ∃ A' ρ', SE G S0 base Z H' A' ρ' σ' ∧ loopW (fun ρ => (tB (ev mo ec (seen m.us 0 ρ))).map fun k => (k, ρ)) (ex mo sb) k ρ' = some o, ⟨FUEL, A, ρ, s, e⟩, ?_⟩
  rintro k σ1 H1 ⟨A1, ρ1, s1, e1⟩
  cases k with
  | zero => simp [loopW] at e1
  | succ k =>
    simp only [loopW] at e1
    obtain ⟨t, e2, e1⟩ := bind_some e1
    obtain ⟨b, e3, rfl⟩ := map_some e2
    refine tT_run (s1.rv m.us) (tB_some e3) fun H2 g2 r => ?_
    have s2 := s1.grow g2
    dsimp only at e1
    split at e1
    · rename_i hk
      rw [if_pos hk]
      obtain ⟨o2, e4, e1⟩ := bind_some e1
      refine ⟨fun σ' H' => ∃ A' ρ', SE G S0 base Z H' A' ρ' σ' ∧ loopW (fun ρ => (tB (ev mo ec (seen m.us 0 ρ))).map fun k => (k, ρ)) (ex mo sb) k ρ' = some o, fun σ' H' h => ⟨k, Nat.lt_succ_self _, h⟩, ?_⟩
      refine ⟨S0, base, Z, A1, ρ1, o2, s2, e4, ?_⟩
      cases o2 with
      | nx ρ' => exact fun σ' H' A' s' => ⟨A', ρ', s', e1⟩
      | ct ρ' => exact fun σ' H' A' s' => ⟨A', ρ', s', e1⟩
      | bk ρ' =>
        cases e1
        exact fun σ' H' A' s' => q σ' H' A' s'
      | rt d =>
        cases e1
        exact q
    · rename_i hk
      rw [if_neg hk]
      cases e1
      exact q σ1 H2 A1 s2
open Classical in
/-- what is kept through a loop: all but what is owned -/
noncomputable def cutH (H : Hp) (S : Addr → Prop) : Hp := fun a => if S a then none else H a
theorem cutH_some {S : Addr → Prop} {a : Addr} {o : HO} (h : cutH H S a = some o) : ¬ S a ∧ H a = some o := by
  unfold cutH at h
  split at h
  · cases h
  · rename_i n; exact ⟨n, h⟩
theorem cutH_of {S : Addr → Prop} {a : Addr} {o : HO} (n : ¬ S a) (h : H a = some o) : cutH H S a = some o := by
  unfold cutH
  rw [if_neg n]; exact h
def OwnS (A : Ads) : Addr → Prop := fun a => ∃ i, A i = some a
/-- the state, with all that is not owned for its base -/
theorem SE.rebase (s : SE G S0 base Z H A ρ σ) : SE G S0 (cutH H (OwnS A)) (fun a => Z.1 a ∨ OwnS A a, Z.2) H A ρ σ := by
  refine ⟨s.len, fun a z => ?_, fun a o h => (cutH_some h).2, fun a z => ?_, fun i a h => ?_, s.inj, s.on, s.va, s.ow, s.pin⟩
  · obtain ⟨o, h1, h2⟩ := s.s0 a z
    exact ⟨o, cutH_of (fun ⟨i, h⟩ => s.ns0 h z) (s.same _ _ h1), h2⟩
  · rcases z with z | z
    · exact s.dz a z
    · exact s.dom a (.inr z)
  · unfold cutH
    rw [if_pos ⟨i, h⟩]
theorem SE.unbase (s : SE G S0 base Z H A ρ σ) {A' : Ads} {ρ' : Ro} {σ' : L2.St} (s' : SE G S0 (cutH H (OwnS A)) (fun a => Z.1 a ∨ OwnS A a, Z.2) H' A' ρ' σ') : SE G S0 base Z H' A' ρ' σ' := by
  have sub : Same base (cutH H (OwnS A)) := fun a o h => cutH_of (fun ⟨i, h2⟩ => by rw [s.nb i a h2] at h; cases h) (s.same _ _ h)
  refine ⟨s'.len, s.s0, sub.trans s'.same, fun a z => s'.dz a (.inl z), fun i a h => sub.free (s'.nb i a h), s'.inj, s'.on, s'.va, s'.ow, s'.pin⟩
theorem st_for {tg iter : Expr} {body : List Stmt} {t : T} {us : List Nat} {it : I} (M : MoOk X G Γ mo n) (hp : PassesOwn (model X.prog X.w) X.A X.env X.xe) (hi : PI X tg iter (tI G mo it)) (hg : PG X tg (gOf X.K t)) (hb : PSs X body (tS G mo sb)) (hs : ∀ x, foldedSetIterable iter X.env x = pure x) :
    PS X (.For tg iter body [] pos) (tS G mo (.for t us it sb)) := (ps_for hp M.calm hi hg hb hs).imp fun D σ H h => by
  obtain ⟨S0, base, Z, A, ρ, o, s, e, q⟩ := h
  simp only [ex] at e
  obtain ⟨xs, e1, e⟩ := bind_some e
  refine tI_run (s.rv us) e1 fun J H1 g1 r1 wk => ?_
  have s1 := (s.grow g1).give us
  have sb1 := s1.rebase
  refine ⟨fun i k σ' H' => k = xs.length - i ∧ i ≤ xs.length ∧ ∃ A' ρ', SE G S0 (cutH H1 (OwnS (without A us))) (fun a => Z.1 a ∨ OwnS (without A us) a, Z.2) H' A' ρ' σ' ∧ loopF (bindS t) (ex mo sb) (xs.drop i) ρ' = some o,
    ⟨_, rfl, Nat.zero_le _, _, _, sb1, e⟩, ?_⟩
  rintro i k σ1 H2 ⟨rfl, hi, A', ρ', s', e'⟩
  let S' : Addr → Prop := fun a => SA S0 A' a ∨ OwnS (without A us) a
  have cd : Cd (SA S0 (without A us)) S' H1 := by
    intro a na hs z
    rcases z with (z | ⟨j, z⟩) | z
    · exact na (.inl z)
    · obtain ⟨x, hx⟩ := Option.isSome_iff_exists.mp hs
      have := s'.nb j a z
      rw [cutH_of (fun z2 => na (.inr z2)) hx] at this
      cases this
    · exact na (.inr z)
  have ext : Ext S' H1 H2 := by
    refine ⟨fun b x nb h => s'.same _ _ (cutH_of (fun z => nb (.inr z)) h), fun b x y h => ?_⟩
    refine s'.same _ _ (cutH_of (fun ⟨j, z⟩ => ?_) h)
    obtain ⟨d, hd⟩ := s1.on j b z
    obtain ⟨b', z1, _, z3⟩ := s1.ow j d hd
    rw [z] at z1; cases z1
    obtain ⟨u, hu, _, hn⟩ := z3.there
    rw [h] at hu; cases hu
    exact hn _ _ rfl
  have dom : Dom S' H2 := fun a z => z.elim (s'.dom a) fun z => s'.dz a (.inr z)
  have hW : ∃ S', Cd (SA S0 (without A us)) S' H1 ∧ Ext S' H1 H2 ∧ Dom S' H2 := ⟨S', cd, ext, dom⟩
  by_cases hlt : i < xs.length
  · refine .inr ⟨wk.goes i H2 hlt hW, fun σ' H' => ∃ A' ρ', SE G S0 (cutH H1 (OwnS (without A us))) (fun a => Z.1 a ∨ OwnS (without A us) a, Z.2) H' A' ρ' σ' ∧ loopF (bindS t) (ex mo sb) (xs.drop (i + 1)) ρ' = some o,
      fun σ' H' h => ⟨_, by omega, rfl, hlt, h⟩, fun x H3 y => ?_⟩
    obtain ⟨g3, hy⟩ := wk.yields i H2 x H3 hlt hW y
    obtain ⟨d, hd, hr⟩ := hy S' cd ext dom
    rw [drop_cons' hd] at e'
    simp only [loopF] at e'
    obtain ⟨ρ1, b1, e'⟩ := bind_some e'
    obtain ⟨o2, b2, e'⟩ := bind_some e'
    refine bindS_run X.K t b1 (hr.weak fun a z => .inl z) (s'.grow g3) fun σ2 A2 s2 _ => ⟨S0, _, _, A2, ρ1, o2, s2, b2, ?_⟩
    cases o2 with
    | nx ρ' => exact fun σ' H' A' s' => ⟨A', ρ', s', e'⟩
    | ct ρ' => exact fun σ' H' A' s' => ⟨A', ρ', s', e'⟩
    | bk ρ' =>
      cases e'
      exact fun σ' H' A' s' => q σ' H' A' (s1.unbase s')
    | rt d =>
      cases e'
      intro v H' sm hv
      refine q v H' ?_ hv
      exact fun a o h => sm _ _ (cutH_of (fun ⟨j, h2⟩ => by rw [s1.nb j a h2] at h; cases h) (s1.same _ _ h))
  · have ei : i = xs.length := by omega
    subst ei
    rw [List.drop_length] at e'
    simp only [loopF] at e'
    cases e'
    exact .inl ⟨wk.stops H2 hW, q σ1 H2 A' (s1.unbase s')⟩
end
end PV
namespace PV
open PySem PySem.Spec PyProof.Rows L2 BK
/-! ### plain tuples: t.count(j), self.counts = tuple(e) -/
section
variable {X : Cx} {G : Gm} {Γ : Nm} {mo : Mo} {n : Nat} {a b : Expr} {ea eb : E} {pos p apos cpos : Pos}
theorem s_tcn (ha : PE X a (tE G mo ea)) (hb : PE X b (tE G mo eb)) (h0 : noCall0 a = true) (hn : noStar b = true) (hl : (apos.endLine == cpos.line) = true) : PE X (.Call (.Attribute a "count" apos) [b] [] cpos) (tE G mo (.tcn ea eb)) := by
  refine (pe_tcntP ha hb ⟨base_eq h0, by rw [star_cons hn]; rfl, hl, by rw [star_cons hn]; rfl⟩).imp fun σ H Q h => ?_
  obtain ⟨S, ρ, d, r, e, q⟩ := h
  simp only [ev] at e
  obtain ⟨dx, e1, e⟩ := bind_some e
  obtain ⟨dy, e2, e⟩ := bind_some e
  unfold cntD at e
  split at e
  · cases e
    refine tE_run r e1 fun x H1 s1 r1 hx => ?_
    cases hx with
    | @ptp a0 o _ q0 z0 =>
      refine ⟨a0, o, _, rfl, q0, z0, tE_run r1 e2 fun y H2 s2 r2 hy => ?_⟩
      cases hy
      exact ⟨_, s2 _ _ q0, rfl, q _ H2 (s1.trans s2) (.int _)⟩
  · cases e
theorem call_ptu : CallR X (.type "tuple") (fun xs H Q => ∃ p ys, xs = [.ref p] ∧ SqL X.K H p ys ∧ ∀ l o, H l = none → o.dict = none → Q (.ref l) (upd H l (.frz o (.tup ys)))) := by
  intro pins s σ H xs us Q I r h
  obtain ⟨p, ys, rfl, hq, q⟩ := h
  obtain ⟨u, rfl, rx⟩ := vals1 r
  cases rx
  obtain ⟨its, r', pl, hz⟩ := I.list hq
  have hlen := r'.length
  refine call_tuple_list pl.isList (fun h' kp => ?_) (by simp only [List.size_toArray] <;> omega)
  have I1 : Inv X pins σ H { s with heap := h' } := I.kept (t' := s.toks) kp
  have I2 : Inv X pins σ (upd H h'.objs.size (.frz { cls := .type "tuple", data := .seq its.toArray } (.tup ys))) { s with heap := h'.push { cls := .type "tuple", data := .seq its.toArray } } :=
    I1.laid (t' := s.toks) (fun b o e => Heap.get?_push_of_some _ e) (Nat.le_refl _) (show ObjOk X.prog X.w _ _ _ (.frz _ (.tup ys)) from ⟨Heap.get?_push_size _ rfl, hz, its, r', IsTup.new _ _⟩)
  exact ⟨.ref h'.objs.size, _, I2, rfl, q _ _ (I1.hok.fresh (Nat.le_refl _)) rfl⟩
theorem s_ptu (M : MoOk X G Γ mo n) (hg : Gl X "tuple") (he : noStar a = true) (ha : PE X a (tE G mo ea)) : PE X (.Call (.Name "tuple" p) [a] [] pos) (tE G mo (.ptu ea)) := by
  refine (pe_callTy (call_tuple_of.or call_ptu) hg (M.bl _ (by decide +kernel)) (by decide +kernel) (pa_cons ha pa_nil (star_cons he)) (by decide) (by decide) (star_cons he) (star_any rfl)).imp fun σ H Q h => ?_
  obtain ⟨S, ρ, d, r, e, q⟩ := h
  simp only [ev] at e
  obtain ⟨dx, e1, e⟩ := bind_some e
  refine tE_run r e1 fun x H1 s1 r1 hx => ?_
  unfold ptuD at e
  split at e
  · cases e
    cases hx with
    | @ptp a0 o _ q0 z0 => exact .inl ⟨a0, _, rfl, .inr ⟨.inl (.inr ⟨o, q0⟩), q _ H1 s1 (.ptp q0 z0)⟩⟩
  · obtain ⟨ns, e2, e⟩ := bind_some e
    cases e
    rw [intsD_eq e2] at hx
    cases hx with
    | @lst a0 vs _ n0 q0 r0 =>
      have ev := r0.ints
      subst ev
      exact .inr ⟨a0, _, rfl, .inl (.inl q0), fun l o nl nd => q _ _ (s1.trans (same_new nl)) (.ptp upd_same nd)⟩
  · cases e
    cases hx with
    | @tup a0 vs _ n0 q0 r0 => exact .inl ⟨a0, vs, rfl, .inr ⟨.inl (.inl q0), q _ H1 s1 (.tup n0 q0 r0)⟩⟩
  · cases e
end
end PV
namespace PV
open PySem PySem.Spec PyProof.Rows L2 BK
/-! ### from the text to the terms -/
def ixOf (x : Str) : List Str → Option Nat
  | [] => none
  | y :: r => if x = y then some 0 else (ixOf x r).map (· + 1)
theorem ixOf_get {x : Str} : ∀ {N : List Str} {i : Nat}, ixOf x N = some i → N[i]? = some x
  | [], _, h => by cases h
  | y :: r, i, h => by
    unfold ixOf at h
    split at h
    · rename_i e; cases h; rw [e]; rfl
    · obtain ⟨j, h1, rfl⟩ := map_some h
      simpa using ixOf_get h1
theorem lookup_mem {α : Type} {x : Str} {v : α} : ∀ {l : List (Str × α)}, l.lookup x = some v → (x, v) ∈ l
  | [], h => by simp at h
  | (y, w) :: r, h => by
    rw [List.lookup_cons] at h
    cases e : x == y with
    | true =>
      rw [e] at h
      have : x = y := by simpa using e
      cases h; rw [this]; exact List.mem_cons_self
    | false =>
      rw [e] at h
      exact List.mem_cons_of_mem _ (lookup_mem h)
/-- the attributes' names by number -/
def pad (k : Nat) : Str := ⟨(List.replicate (1000 + k) 95).toArray⟩
def anOf (ats : List Str) (k : Nat) : Str := match ats[k]? with | some x => x | none => pad k
def visB (sc : Scope) (x : Str) : Bool := match sc.names.lookup x with
  | some .local => true | some .cell => true | some .free => true | _ => false
def glB (sc : Scope) (x : Str) : Bool := match sc.names.lookup x with
  | some .globalImplicit => true | _ => false
def nameB (x : Str) : Bool := !(x == ("__debug__" : Str)) && !(x == ("__classdict__" : Str))
def o2Of : Operator → Option O2
  | .Add => some .add | .Sub => some .sub | .Mult => some .mul | .FloorDiv => some .fdiv | .Mod => some .mod | _ => none
def cmOfOp : CmpOp → Option Cm
  | .Eq => some .eq | .NotEq => some .ne | .Lt => some .lt | .LtE => some .le | .Gt => some .gt | .GtE => some .ge | .In => some .inn | .NotIn => some .nin | .Is => some .isN | .IsNot => some .notN
def biOf (x : Str) : Option BI := [BI.len, .sum, .min, .max, .all, .any, .abs, .int, .list, .tuple, .sorted, .gcd].find? fun f => decide (biName f = x)
/-- what is imported stands so -/
def impB (Γ : Nm) (f : BI) : Bool := match biImp f with
  | none => true
  | some id => decide (Γ.imps.lookup (biName f) = some id)
structure Cc where
  Γ : Nm
  ats : List Str
  N : List Str
def ownOf (N : List Str) (scope : Scope) : List (Str × Nat) := scope.names.filterMap fun y => match y.2 with
  | .local => (ixOf y.1 N).map fun i => (y.1, i)
  | .cell => (ixOf y.1 N).map fun i => (y.1, i)
  | _ => none
def asgC (scope sc' : Scope) (x : Str) : Bool := match sc'.names.lookup x with
  | some .local => true
  | some .cell => (match scope.names.lookup x with | some .cell => true | _ => false)
  | _ => false
def asgD (sc : Scope) (x : Str) : Bool := match sc.names.lookup x with
  | some .local => true | some .cell => true | _ => false
def notSet : Expr → Bool
  | .Set _ _ _ => false
  | _ => true
def tyOf (Γ : Nm) (sc : Scope) : Expr → Option Ty
  | .Name x _ => if glB sc x = true ∧ nameB x = true then (if x = ("int" : Str) then some (.bi "int") else if x = ("bool" : Str) then some (.bi "bool") else if x = ("str" : Str) then some (.bi "str") else if x = ("list" : Str) then some (.bi "list")
      else if x = ("tuple" : Str) then some (.bi "tuple") else if x = ("dict" : Str) then some (.bi "dict") else (Γ.cls.lookup x).map Ty.own) else none
  | _ => none
def cTg (N : List Str) (asg : Str → Bool) : Nat → Expr → Option T
  | 0, _ => none
  | n + 1, e => match e with
    | .Name x _ => if asg x = true then (ixOf x N).map T.nm else none
    | .Tuple es _ _ => (es.mapM (cTg N asg n)).map fun ts => .tp (ts.foldr Ts.cons .nil)
    | _ => none
/-- what may stand as a test -/
def tst : Nat → Expr → Bool
  | 0, _ => false
  | n + 1, e => match e with
    | .IfExp _ _ _ _ => false
    | .UnaryOp .Not x _ => tst n x
    | .BoolOp _ vs _ => vs.all (tst n)
    | _ => true
def tgTup : Expr → Bool
  | .Tuple _ _ _ => true
  | _ => false
/-- calls of a built-in one on a call of another -/
inductive Sp1 where | sset (a : Expr) | lrg1 (a : Expr) | lrg2 (a b : Expr) | lrs (a b c : Expr)
def specOf (sc : Scope) (x : Str) : List Expr → Option Sp1
  | [.Call (.Name z _) [a] [] _] => if glB sc z = true ∧ noStar a = true then (if x = ("list" : Str) ∧ z = ("range" : Str) then some (.lrg1 a) else if x = ("sorted" : Str) ∧ z = ("set" : Str) then some (.sset a) else none) else none
  | [.Call (.Name z _) [a, b] [] _] => if glB sc z = true ∧ noStar a = true ∧ noStar b = true then (if x = ("list" : Str) ∧ z = ("range" : Str) then some (.lrg2 a b) else none) else none
  | [.Call (.Name z _) [a, b, d] [] _] => if glB sc z = true ∧ noStar a = true ∧ noStar b = true ∧ noStar d = true then (if x = ("list" : Str) ∧ z = ("range" : Str) then some (.lrs a b d) else none) else none
  | _ => none
def noSp : Expr → Bool
  | .Call (.Name z _) _ _ _ => decide (z ≠ ("range" : Str)) && decide (z ≠ ("set" : Str))
  | _ => true
theorem spec_none {sc : Scope} {x : Str} {a : Expr} (h : noSp a = true) : specOf sc x [a] = none := by
  cases a with
  | Call f args kws pos =>
    cases f with
    | Name z pz =>
      simp only [noSp, Bool.and_eq_true, decide_eq_true_eq] at h
      unfold specOf
      split
      · rename_i heq
        cases heq
        split
        · rw [if_neg (fun q => h.1 q.2), if_neg (fun q => h.2 q.2)]
        · rfl
      · rename_i heq
        cases heq
        split
        · rw [if_neg (fun q => h.1 q.2)]
        · rfl
      · rename_i heq
        cases heq
        split
        · rw [if_neg (fun q => h.1 q.2)]
        · rfl
      · rfl
    | _ => rfl
  | _ => rfl
mutual
def cE (c : Cc) : Nat → Scope → Expr → Option E
  | 0, _, _ => none
  | n + 1, sc, e => match e with
    | .Name x _ => if nameB x = true then (if visB sc x = true then (ixOf x c.N).map E.var else if glB sc x = true then c.Γ.csts.lookup x else none) else none
    | .Constant (.int i) _ _ => some (.cint i)
    | .Constant (.bool b) _ _ => some (.cbl b)
    | .Constant .none _ _ => some .cnon
    | .Constant (.str x) _ _ => some (.cstr x)
    | .BinOp a op b _ => (o2Of op).bind fun o => (cE c n sc a).bind fun ea => (cE c n sc b).bind fun eb => some (.bin o ea eb)
    | .UnaryOp .Not a _ => (cE c n sc a).map E.not
    | .UnaryOp .USub a _ => (cE c n sc a).map E.neg
    | .BoolOp op vs _ => cB c n sc op vs
    | .Compare a [op] [b] _ => if behindInMarks op b = false then (cmOfOp op).bind fun o => (cE c n sc a).bind fun ea => (cE c n sc b).bind fun eb => some (.cmp o ea eb) else none
    | .Compare a [op, op'] [b, d] _ => if lastMarks [op, op'] [b, d] = false then (cmOfOp op).bind fun o => (cmOfOp op').bind fun o' => (cE c n sc a).bind fun ea => (cE c n sc b).bind fun eb => (cE c n sc d).bind fun ed => some (.chn o o' ea eb ed) else none
    | .IfExp t a b _ => if tst 40 t = true then (cE c n sc t).bind fun et => (cE c n sc a).bind fun ea => (cE c n sc b).bind fun eb => some (.ite et ea eb) else none
    | .Tuple es _ _ => (cA c n sc es).map E.tup
    | .List es _ => (cA c n sc es).map E.lst
    | .Dict [] [] _ => some (.emp false)
    | .Subscript a (.Slice lo hi none _) _ => (cE c n sc a).bind fun ea => (cO c n sc lo).bind fun el => (cO c n sc hi).bind fun eh => some (.slc ea el eh)
    | .Subscript a (.Slice none none (some (.UnaryOp .USub (.Constant (.int 1) _ _) _)) _) _ => (cE c n sc a).map E.rev
    | .Subscript a i _ => if plainB i = true then (cE c n sc a).bind fun ea => (cE c n sc i).bind fun ei => some (.idx ea ei) else none
    | .Attribute a f _ => if noCall0 a = true then (cE c n sc a).bind fun ea => (ixOf f c.ats).bind fun k => some (.fld ea k) else none
    | .ListComp elt [⟨tg, it, ifs, ia⟩] scope _ =>
      if ia = 0 ∧ blkC c.N sc scope (ownOf c.N scope) = true ∧ notSet it = true then
        (cI c n sc tg it).bind fun i => (cTg c.N (asgC scope (relS scope sc)) 20 tg).bind fun t => (cF c n (relS scope sc) ifs).bind fun f => (cE c n (relS scope sc) elt).bind fun e =>
          if (tsl t).all (fun j => ((ownOf c.N scope).map (·.2)).contains j) = true then some (.lc t i f e ((ownOf c.N scope).map (·.2))) else none
      else none
    | .ListComp elt [⟨tg, it, ifs, ia⟩, ⟨tg1, it1, ifs1, ia1⟩] scope _ =>
      if ia = 0 ∧ ia1 = 0 ∧ blkC c.N sc scope (ownOf c.N scope) = true ∧ notSet it = true ∧ notSet it1 = true then
        (cI c n sc tg it).bind fun i => (cTg c.N (asgC scope (relS scope sc)) 20 tg).bind fun t => (cF c n (relS scope sc) ifs).bind fun f =>
        (cI c n (relS scope sc) tg1 it1).bind fun i1 => (cTg c.N (asgC scope (relS scope sc)) 20 tg1).bind fun t1 => (cF c n (relS scope sc) ifs1).bind fun f1 => (cE c n (relS scope sc) elt).bind fun e =>
          if (tsl t ++ tsl t1).all (fun j => ((ownOf c.N scope).map (·.2)).contains j) = true then some (.lc2 t i f t1 i1 f1 e ((ownOf c.N scope).map (·.2)) (tsl t1)) else none
      else none
    | .Call (.Name x _) args [] _ => if nameB x = true ∧ glB sc x = true ∧ args.all noStar = true then cC c n sc x args else none
    | .Call (.Attribute a m apos) args [] cpos => if noCall0 a = true ∧ args.all noStar = true ∧ (apos.endLine == cpos.line) = true ∧ args.length < 20 then
        (cE c n sc a).bind fun ea => match args with
          | [b] => if m = ("count" : Str) then (cE c n sc b).map fun eb => .tcn ea eb else (ixOf m c.ats).bind fun k => (cA c n sc args).bind fun es => some (.me k ea es)
          | _ => (ixOf m c.ats).bind fun k => (cA c n sc args).bind fun es => some (.me k ea es) else none
    | _ => none
/-- a call by a name of the module or a built-in one -/
def cC (c : Cc) : Nat → Scope → Str → List Expr → Option E
  | 0, _, _, _ => none
  | n + 1, sc, x, args =>
    if x = ("isinstance" : Str) then (match args with
      | [a, .Tuple ts _ _] => (cE c n sc a).bind fun ea => (ts.mapM (tyOf c.Γ sc)).bind fun tys => if ts.all noStar = true ∧ ts.length ≤ 100 then some (.isi ea tys) else none
      | [a, t] => (cE c n sc a).bind fun ea => (tyOf c.Γ sc t).bind fun ty => some (.isi ea [ty])
      | _ => none)
    else match specOf sc x args with
    | some (.sset a) => (cE c n sc a).map E.sset
    | some (.lrg1 a) => (cE c n sc a).map fun e => .lrg (.rng1 e)
    | some (.lrg2 a b) => (cE c n sc a).bind fun ea => (cE c n sc b).bind fun eb => some (.lrg (.rng2 ea eb))
    | some (.lrs a b d) => (cE c n sc a).bind fun ea => (cE c n sc b).bind fun eb => (cE c n sc d).bind fun ed => some (.lrs ea eb ed)
    | none => match biOf x, args with
      | some .list, [.Call (.Name z _) [a, b] [] _] => if z = ("zip" : Str) ∧ glB sc z = true ∧ noStar a = true ∧ noStar b = true then (cE c n sc a).bind fun ea => (cE c n sc b).bind fun eb => some (.lz ea eb)
          else (cA c n sc args).map (E.bi .list)
      | some .list, [.Call (.Name z _) [a, b, d] [] _] => if z = ("zip" : Str) ∧ glB sc z = true ∧ noStar a = true ∧ noStar b = true ∧ noStar d = true then (cE c n sc a).bind fun ea => (cE c n sc b).bind fun eb => (cE c n sc d).bind fun ed => some (.lz3 ea eb ed)
          else (cA c n sc args).map (E.bi .list)
      | some .sorted, [.SetComp elt [⟨tg, it, ifs, ia⟩] scope _] =>
        if ia = 0 ∧ blkC c.N sc scope (ownOf c.N scope) = true ∧ notSet it = true then
          (cI c n sc tg it).bind fun i => (cTg c.N (asgC scope (relS scope sc)) 20 tg).bind fun t => (cF c n (relS scope sc) ifs).bind fun f => (cE c n (relS scope sc) elt).bind fun e =>
            if (tsl t).all (fun j => ((ownOf c.N scope).map (·.2)).contains j) = true then some (.sc .srt t i f e ((ownOf c.N scope).map (·.2))) else none
        else none
      | some .sorted, [.SetComp elt [⟨tg, it, ifs, ia⟩, ⟨tg1, it1, ifs1, ia1⟩] scope _] =>
        if ia = 0 ∧ ia1 = 0 ∧ blkC c.N sc scope (ownOf c.N scope) = true ∧ notSet it = true ∧ notSet it1 = true then
          (cI c n sc tg it).bind fun i => (cTg c.N (asgC scope (relS scope sc)) 20 tg).bind fun t => (cF c n (relS scope sc) ifs).bind fun f =>
          (cI c n (relS scope sc) tg1 it1).bind fun i1 => (cTg c.N (asgC scope (relS scope sc)) 20 tg1).bind fun t1 => (cF c n (relS scope sc) ifs1).bind fun f1 => (cE c n (relS scope sc) elt).bind fun e =>
            if (tsl t ++ tsl t1).all (fun j => ((ownOf c.N scope).map (·.2)).contains j) = true then some (.sc2 t i f t1 i1 f1 e ((ownOf c.N scope).map (·.2)) (tsl t1)) else none
        else none
      | some f, _ :: _ => if impB c.Γ f = true then (cA c n sc args).map (E.bi f) else none
      | some _, [] => none
      | none, _ => match c.Γ.fns.lookup x with
        | some k => (cA c n sc args).map (E.call k)
        | none => match c.Γ.cls.lookup x, args with
          | some k, _ :: _ => (cA c n sc args).map (E.mk k)
          | _, _ => none
def cB (c : Cc) : Nat → Scope → BoolOp → List Expr → Option E
  | 0, _, _, _ => none
  | n + 1, sc, op, vs => match vs with
    | [] => none
    | [a] => cE c n sc a
    | a :: b :: r => (cE c n sc a).bind fun ea => (cB c n sc op (b :: r)).bind fun eb => some (match op with | .And => .and ea eb | .Or => .or ea eb)
def cA (c : Cc) : Nat → Scope → List Expr → Option Es
  | 0, _, _ => none
  | n + 1, sc, es => match es with
    | [] => some .nil
    | a :: r => if noStar a = true then (cE c n sc a).bind fun ea => (cA c n sc r).bind fun er => some (.cons ea er) else none
def cO (c : Cc) : Nat → Scope → Option Expr → Option Eo
  | 0, _, _ => none
  | n + 1, sc, o => match o with
    | none => some .non
    | some e => (cE c n sc e).map Eo.som
def cF (c : Cc) : Nat → Scope → List Expr → Option E
  | 0, _, _ => none
  | n + 1, sc, ifs => match ifs with
    | [] => some (.cbl true)
    | [e] => if tst 40 e = true then cE c n sc e else none
    | _ => none
def cI (c : Cc) : Nat → Scope → Expr → Expr → Option I
  | 0, _, _, _ => none
  | n + 1, sc, tg, it => match it with
    | .Call (.Name x _) args [] _ =>
      if glB sc x = true ∧ x = ("range" : Str) then (match args with
        | [a] => if noStar a = true then (cE c n sc a).map I.rng1 else none
        | [a, b] => if noStar a = true ∧ noStar b = true then (cE c n sc a).bind fun ea => (cE c n sc b).bind fun eb => some (.rng2 ea eb) else none
        | [a, b, d] => if noStar a = true ∧ noStar b = true ∧ noStar d = true then (cE c n sc a).bind fun ea => (cE c n sc b).bind fun eb => (cE c n sc d).bind fun ed => some (.rngd ea eb ed) else none
        | _ => none)
      else if glB sc x = true ∧ x = ("zip" : Str) then (if tgTup tg = true then (match args with
        | [a, b] => if noStar a = true ∧ noStar b = true then (cE c n sc a).bind fun ea => (cE c n sc b).bind fun eb => some (.zip2 ea eb) else none
        | [a, b, d] => if noStar a = true ∧ noStar b = true ∧ noStar d = true then (cE c n sc a).bind fun ea => (cE c n sc b).bind fun eb => (cE c n sc d).bind fun ed => some (.zip3 ea eb ed) else none
        | _ => none) else none)
      else if glB sc x = true ∧ x = ("enumerate" : Str) then (if tgTup tg = true then (match args with
        | [a] => if noStar a = true then (cE c n sc a).map I.enu else none
        | _ => none) else none)
      else (cE c n sc it).map I.of
    | e => (cE c n sc e).map I.of
end
end PV
namespace PV
open PySem PySem.Spec PyProof.Rows L2 BK
/-! ### sorted({elt for target in iter if ..}) of ints -/
theorem insU_mem (x a : Int) : ∀ r : List Int, a ∈ insU x r ↔ a = x ∨ a ∈ r
  | [] => by simp [insU]
  | y :: r => by
    unfold insU
    split
    · simp
    · split
      · rename_i e; subst e; simp
      · rw [List.mem_cons, insU_mem x a r, List.mem_cons]
        constructor
        · rintro (h | h | h)
          · exact .inr (.inl h)
          · exact .inl h
          · exact .inr (.inr h)
        · rintro (h | h | h)
          · exact .inr (.inl h)
          · exact .inl h
          · exact .inr (.inr h)
theorem insU_sorted (x : Int) : ∀ {r : List Int}, r.Pairwise (· < ·) → (insU x r).Pairwise (· < ·)
  | [], _ => by simp [insU]
  | y :: r, h => by
    have h' := List.pairwise_cons.mp h
    unfold insU
    split
    · rename_i z
      refine List.pairwise_cons.mpr ⟨fun a ha => ?_, h⟩
      rcases List.mem_cons.mp ha with rfl | ha
      · exact z
      · exact Int.lt_trans z (h'.1 a ha)
    · split
      · exact h
      · rename_i z1 z2
        refine List.pairwise_cons.mpr ⟨fun a ha => ?_, insU_sorted x h'.2⟩
        rcases (insU_mem x a r).mp ha with rfl | ha
        · omega
        · exact h'.1 a ha
theorem uniqI_mem (a : Int) : ∀ r : List Int, a ∈ uniqI r ↔ a ∈ r
  | [] => by simp [uniqI]
  | x :: r => by unfold uniqI; rw [insU_mem, uniqI_mem a r, List.mem_cons]
theorem uniqI_sorted : ∀ r : List Int, (uniqI r).Pairwise (· < ·)
  | [] => .nil
  | x :: r => insU_sorted x (uniqI_sorted r)
theorem rise_uniq : ∀ {ns ms : List Int}, ns.Pairwise (· < ·) → ms.Pairwise (· < ·) → (∀ a, a ∈ ns ↔ a ∈ ms) → ns = ms
  | [], [], _, _, _ => rfl
  | [], y :: ms, _, _, h => absurd ((h y).mpr List.mem_cons_self) (by simp)
  | x :: ns, [], _, _, h => absurd ((h x).mp List.mem_cons_self) (by simp)
  | x :: ns, y :: ms, h1, h2, h => by
    obtain ⟨a1, a2⟩ := List.pairwise_cons.mp h1
    obtain ⟨b1, b2⟩ := List.pairwise_cons.mp h2
    have e : x = y := by
      rcases List.mem_cons.mp ((h x).mp List.mem_cons_self) with z | z
      · exact z
      · rcases List.mem_cons.mp ((h y).mpr List.mem_cons_self) with w | w
        · exact w.symm
        · have := a1 y w; have := b1 x z; omega
    subst e
    rw [rise_uniq a2 b2 fun a => ?_]
    constructor
    · intro z
      rcases List.mem_cons.mp ((h a).mp (List.mem_cons_of_mem _ z)) with w | w
      · have := a1 a z; omega
      · exact w
    · intro z
      rcases List.mem_cons.mp ((h a).mpr (List.mem_cons_of_mem _ z)) with w | w
      · have := b1 a z; omega
      · exact w
theorem uniqI_app (r : List Int) (k : Int) : uniqI (r ++ [k]) = insU k (uniqI r) :=
  rise_uniq (uniqI_sorted _) (insU_sorted _ (uniqI_sorted _)) fun a => by rw [uniqI_mem, insU_mem, uniqI_mem, List.mem_append, List.mem_singleton]; exact Or.comm
theorem insU_len (x : Int) : ∀ {r : List Int}, r.Pairwise (· < ·) → (insU x r).length = if x ∈ r then r.length else r.length + 1
  | [], _ => by simp [insU]
  | y :: r, h => by
    have h' := List.pairwise_cons.mp h
    unfold insU
    split
    · rename_i z
      have : x ∉ y :: r := fun m => by
        rcases List.mem_cons.mp m with w | w
        · omega
        · have := h'.1 x w; omega
      rw [if_neg this]; rfl
    · split
      · rename_i e; subst e; rw [if_pos List.mem_cons_self]
      · rename_i z1 z2
        rw [List.length_cons, insU_len x h'.2]
        by_cases m : x ∈ r
        · rw [if_pos m, if_pos (List.mem_cons_of_mem _ m)]; rfl
        · rw [if_neg m, if_neg fun w => ?_]; rfl
          rcases List.mem_cons.mp w with w | w
          · exact z2 w
          · exact m w
theorem insU_le (x : Int) : ∀ r : List Int, (insU x r).length ≤ r.length + 1
  | [] => by simp [insU]
  | y :: r => by
    unfold insU
    split
    · simp
    · split
      · simp
      · have := insU_le x r
        rw [List.length_cons, List.length_cons]; omega
theorem uniqI_le : ∀ r : List Int, (uniqI r).length ≤ r.length
  | [] => Nat.le_refl _
  | x :: r => by
    have := insU_le x (uniqI r)
    have := uniqI_le r
    unfold uniqI
    rw [List.length_cons]; omega
section
variable {X : Cx} {G : Gm} {Γ : Nm} {mo : Mo} {n : Nat} {S : Addr → Prop} {H H' : Hp} {pos p : Pos}
def memB (ns : List Int) (j : Int) : Bool := decide (j ∈ ns)
theorem kc_read {it : I} {t : T} {c e : E} {vs : List Nat} {ρ : Rho} {σ : L2.St} {Q : VK} {xs ds : List D} {ns : List Int} (w : World) (hsub : ∀ i ∈ tsl t, i ∈ vs) (K : PySem.W.Frag) (r : RV G S H ρ σ) (e2 : evI mo it ρ = some xs) (e3 : mapO (lcF mo t c e vs ρ) xs = some ds) (e4 : intsD ds = some ns) (hl : ns.length ≤ 1000)
    (q : ∀ p H', H p = none → Same H H' → H' p = some (SetO w p (memB (uniqI ns)) (uniqI ns).length) → Q (.ref p) H') : tKc w (tI G mo it) (gOf K t) (tT G mo c) (tE G mo e) vs σ H Q := by
  have e4 := intsD_eq e4
  subst e4
  refine tI_run r e2 fun J H1 s1 r1 wk => fun P nP => ?_
  have cd := cd_add (S := S) nP
  have dom' : ∀ {Hc : Hp}, Same H1 Hc → (∃ S0 n0, Hc P = some (SetO w P S0 n0)) → Dom (addS S P) Hc := by
    intro Hc s ⟨S0, n0, h⟩ a z
    rcases z with z | z
    · exact r1.dom.same s a z
    · subst z; exact ⟨_, h, fun _ z => by cases z⟩
  let Pv : Nat → Hp → Prop := fun i Hc => Same H1 Hc ∧ ∃ dn rest : List Int, Hc P = some (SetO w P (memB (uniqI dn)) (uniqI dn).length) ∧ mapO (lcF mo t c e vs ρ) (xs.drop i) = some (rest.map D.int) ∧ ns = dn ++ rest
  refine ⟨fun i m Hc => m = xs.length - i ∧ i ≤ xs.length ∧ Pv i Hc, ⟨_, rfl, Nat.zero_le _, same_new nP, [], ns, ?_, e3, rfl⟩, ?_⟩
  · rw [upd_same]; rfl
  rintro i m Hc ⟨rfl, hi, sc, dn, rest, hP, hm, hds⟩
  have hW : ∃ S', Cd S S' H1 ∧ Ext S' H1 Hc ∧ Dom S' Hc := ⟨addS S P, cd, Same.ext sc, dom' sc ⟨_, _, hP⟩⟩
  by_cases hlt : i < xs.length
  · refine .inr ⟨wk.goes i Hc hlt hW, Pv (i + 1), fun H' p' => ⟨_, by omega, rfl, hlt, p'⟩, fun x H2 y => ?_⟩
    obtain ⟨s2, hy⟩ := wk.yields i Hc x H2 hlt hW y
    obtain ⟨d0, hx, hr⟩ := hy (addS S P) cd (Same.ext sc) (dom' sc ⟨_, _, hP⟩)
    rw [drop_cons' hx] at hm
    simp only [mapO] at hm
    obtain ⟨o, m1, hm⟩ := bind_some hm
    obtain ⟨rest2, m2, hm⟩ := bind_some hm
    have hm := Option.some.inj hm
    unfold lcF at m1
    obtain ⟨ρ2, b1, m1⟩ := bind_some m1
    obtain ⟨k, b2, m1⟩ := bind_some m1
    have hP2 := s2 _ _ hP
    have sc2 := sc.trans s2
    have rv : RV G (addS S P) H2 (wipeO ρ vs) (wipe σ vs) := (r1.cd cd (Same.ext sc2) (dom' sc2 ⟨_, _, hP2⟩)).wipe vs
    refine g_run K t b1 hr rv fun σ2 rv2 hk => ⟨?_, ?_⟩
    · refine wipe_eq (by rw [rv2.len, bindT_len t b1, wipeO_len, r.len]) fun j hj => ?_
      rw [hk j fun z => hj (hsub j z), wipe_out hj]
    · refine tT_run rv2 (tB_some b2) fun H3 s3 rv3 => ?_
      have hP3 := s3 _ _ hP2
      have sc3 := sc2.trans s3
      split at m1
      · rename_i hkk
        rw [if_pos hkk]
        obtain ⟨y, m3, rfl⟩ := map_some m1
        cases rest with
        | nil => cases hm
        | cons k0 rest =>
          dsimp only at hm
          rw [List.map_cons] at hm
          injection hm with hm1 hm2
          subst hm1
          refine tE_run rv3 m3 fun v H4 s4 rv4 hv => ?_
          cases hv
          have hP4 := s4 _ _ hP3
          have sc4 := sc3.trans s4
          refine ⟨k0, _, _, rfl, hP4, ?_, ?_, dn ++ [k0], rest, ?_, hm2 ▸ m2, by rw [hds]; simp⟩
          · have l1 := uniqI_le dn
            have l2 := congrArg List.length hds
            rw [List.length_append, List.length_cons] at l2
            show (uniqI dn).length + 1 < 4096
            omega
          · exact fun b x e => by rw [upd_ne (ne_of_none e nP)]; exact sc4 _ _ e
          · rw [upd_same, uniqI_app]
            have e1 : (fun j => memB (uniqI dn) j || decide (j = k0)) = memB (insU k0 (uniqI dn)) := funext fun j => by
              unfold memB
              rw [Bool.eq_iff_iff, Bool.or_eq_true, decide_eq_true_eq, decide_eq_true_eq, decide_eq_true_eq, insU_mem]
              exact Or.comm
            have e2 : (if memB (uniqI dn) k0 = true then (uniqI dn).length else (uniqI dn).length + 1) = (insU k0 (uniqI dn)).length := by
              rw [insU_len k0 (uniqI_sorted dn)]
              unfold memB
              by_cases z : k0 ∈ uniqI dn <;> simp [z]
            rw [e1, e2]
      · rename_i hkk
        rw [if_neg hkk]
        cases m1
        dsimp only at hm
        exact ⟨sc3, dn, rest, hP3, hm ▸ m2, hds⟩
  · have ei : i = xs.length := by omega
    subst ei
    rw [List.drop_length] at hm
    simp only [mapO] at hm
    have hr : rest = [] := by
      cases rest with
      | nil => rfl
      | cons k r => cases hm
    subst hr
    rw [List.append_nil] at hds
    subst hds
    exact .inl ⟨wk.stops Hc hW, q P Hc (s1.free nP) (s1.trans sc) hP⟩
variable {tg iter elt : Expr} {ifs : List Expr} {scope : Scope} {own : List (Str × Nat)}
theorem pe_kc {wi : TI} {g : TG} {tt : TT} {te : TE} (hc : X.calm = true) (hN : X.N.Nodup) (hi : PI X tg iter wi) (ok : BlkOk X.N X.env.scope scope own)
    (hg : ∀ s H C cl fp, PG (X.blk s H scope (compEnvC scope cl C X.env) fp) tg g) (ht : ∀ s H C cl fp, PTs (X.blk s H scope (compEnvC scope cl C X.env) fp) ifs tt)
    (he : ∀ s H C cl fp, PE (X.blk s H scope (compEnvC scope cl C X.env) fp) elt te) (hs : ∀ x, foldedSetIterable iter X.env x = pure x) :
    PE X (.SetComp elt [⟨tg, iter, ifs, 0⟩] scope pos) (tKc X.w wi g tt te (own.map (·.2))) := by
  refine ⟨fun pins s σ H Q I h => ?_⟩
  rw [PpSet.eval_SetComp]
  exact kc_core hc hN I hi ok hg ht he hs h fun D C s' m H' I' q hn ⟨f0, f1, f2, f3, f4, f5⟩ =>
    ⟨m, hn, fun h'' sb => ⟨.ref D, H', I'.turned (t' := s'.toks) (fun b o hb e => (sb.2 b hb).trans e) f0 f1 f3 f4 f5, rfl, q⟩⟩
theorem s_srtsc (M : MoOk X G Γ mo n) {it : I} {t : T} {ec ee : E} {p : Pos} (hgs : Gl X "sorted") (hi : PI X tg iter (tI G mo it)) (ok : BlkOk X.N X.env.scope scope own)
    (hg : ∀ s H C cl fp, PG (X.blk s H scope (compEnvC scope cl C X.env) fp) tg (gOf X.K t)) (ht : ∀ s H C cl fp, PTs (X.blk s H scope (compEnvC scope cl C X.env) fp) ifs (tT G mo ec))
    (he : ∀ s H C cl fp, PE (X.blk s H scope (compEnvC scope cl C X.env) fp) elt (tE G mo ee)) (hs : ∀ x, foldedSetIterable iter X.env x = pure x) (hsub : ∀ i ∈ tsl t, i ∈ own.map (·.2)) {pos' : Pos} :
    PE X (.Call (.Name "sorted" p) [.SetComp elt [⟨tg, iter, ifs, 0⟩] scope pos'] [] pos) (tE G mo (.sc .srt t it ec ee (own.map (·.2)))) := by
  refine (pe_callB (cr_sortedSet M.calm) hgs (M.bl _ (by decide +kernel)) (by decide +kernel) (pa_cons (pe_kc M.calm M.nd hi ok hg ht he hs) pa_nil (star_cons rfl)) (by decide) (by decide) (star_cons rfl) (star_any rfl)).imp fun σ H Q h => ?_
  obtain ⟨S, ρ, d, r, e, q⟩ := h
  simp only [ev] at e
  obtain ⟨xs, e2, e⟩ := bind_some e
  obtain ⟨ds, e3, e⟩ := bind_some e
  obtain ⟨ns, e4, e⟩ := bind_some e
  unfold setK at e
  split at e
  · rename_i hl
    dsimp only at e
    split at e
    · rename_i h64
      cases e
      show tKc X.w _ _ _ _ _ σ H (fun x H1 => rSortedSet X.w [x] H1 Q)
      refine kc_read X.w hsub X.K r e2 e3 e4 hl fun P H1 nP s1 hP => ?_
      refine ⟨P, _, _, rfl, hP, h64, fun ms p hms hmem hlen np => ?_⟩
      have em : ms = uniqI ns := rise_uniq hms (uniqI_sorted ns) fun a => by rw [hmem a]; unfold memB; rw [decide_eq_true_eq]
      rw [em]
      exact q _ _ (s1.trans (same_new np)) (new_lst (r.dom.same s1) np (RpA.of_ints _))
    · cases e
  · cases e
end
end PV
namespace PV
open PySem PySem.Spec PyProof.Rows L2 BK PpSet
/-! ### a set of ints by a comprehension of two clauses -/
section
variable {ea ta ia tb ib : Expr} {fa fb : List Expr} {sc : Scope} {p0 : Pos} {it acc : Value} {env : Env}
abbrev two (ea ta ia tb ib : Expr) (fa fb : List Expr) (sc : Scope) (p0 : Pos) : Expr := .SetComp ea [⟨ta, ia, fa, 0⟩, ⟨tb, ib, fb, 0⟩] sc p0
theorem turn_out : compTurn (two ea ta ia tb ib fa fb sc p0) 0 it acc env = (do
      standAt ia.pos
      match ← pyNext it with
      | none => pure (.done .next)
      | some v =>
        letOwnedTupleGo ta it v
        assign ta env v
        let mut ok := true
        for c in fa do
          if ok then ok ← isTrue c env (eval c env)
        if ok then
          let x ← eval ib env
          standAt ib.pos
          let x ← foldedSetIterable ib env x
          let _ ← runOwn (.compStart (two ea ta ia tb ib fa fb sc p0) 1 (← holding [x] (pyIter x)) acc env) env
        again (.compLoop (two ea ta ia tb ib fa fb sc p0) 0 it acc env)) := by rfl
theorem turn_in : compTurn (two ea ta ia tb ib fa fb sc p0) 1 it acc env = (do
      standAt ib.pos
      match ← pyNext it with
      | none => pure (.done .next)
      | some v =>
        letOwnedTupleGo tb it v
        assign tb env v
        let mut ok := true
        for c in fb do
          if ok then ok ← isTrue c env (eval c env)
        if ok then
          (do let v ← eval ea env; standAt ea.pos; let _ ← call (.builtin "set.add") [acc, v])
        again (.compLoop (two ea ta ia tb ib fa fb sc p0) 1 it acc env)) := by rfl
variable {prog : Program} {w : World} {A : Around} {R : Result → Shared → Prop} {s : Shared}
/-- what an exception does within the block -/
abbrev exR (prog : Program) (w : World) (A : Around) (env : Env) (R : Result → Shared → Prop) : Value → Shared → Prop := notedBy (model prog w) A env fun e s' => R (.error e) s'
/-- the tests of a clause -/
abbrev testsM (fs : List Expr) (env : Env) : Sem Bool := forIn fs true fun c r => if r = true then do let ok ← isTrue c env (eval c env); pure (ForInStep.yield ok) else pure (ForInStep.yield r)
/-- the first clause's loop -/
theorem loop_out (hs : ∀ x, foldedSetIterable ib env x = pure x) (J : Nat → Shared → Prop)
    (step : ∀ n s, J n s → wpAny (model prog w) A (pyNext it) (fun r s1 => match r with
      | none => R (.ok .next) s1
      | some v => wpAny (model prog w) A (letOwnedTupleGo ta it v) (fun _ s2 => wpAny (model prog w) A (assign ta env v) (fun _ s3 => wpAny (model prog w) A (testsM fa env) (fun ok s4 =>
          if ok = true then wpAny (model prog w) A (eval ib env) (fun x s5 => wpAny (model prog w) A (pyIter x) (fun z s6 =>
              codeAny (model prog w) A (.compStart (two ea ta ia tb ib fa fb sc p0) 1 z acc env) (fun r s' => match r with
                | .ok _ => ∃ m, m < n ∧ J m s'
                | .error _ => False) s6) (exR prog w A env R) s5) (exR prog w A env R) s4
          else ∃ m, m < n ∧ J m s4) (exR prog w A env R) s3) (exR prog w A env R) s2) (exR prog w A env R) s1) (exR prog w A env R) s)
    (n : Nat) (h : J n s) : codeAny (model prog w) A (.compLoop (two ea ta ia tb ib fa fb sc p0) 0 it acc env) R s := by
  refine codeAny_loop rfl J (fun n s hJ => ?_) n h
  show wpAny _ A ((compTurn (two ea ta ia tb ib fa fb sc p0) 0 it acc env).onRaise (fun x => do noteFrame x env; theTreesLotGoes x)) _ _ s
  refine wpAny_noted ?_
  rw [turn_out]
  have id2 : ∀ (x : Value) (s : Shared), exR prog w A env R x s → exR prog w A env R x s := fun _ _ z => z
  refine wpAny_bind (wpAny_standAt (wpAny_bind (wpAny_mono (step n s hJ) (fun r s1 h1 => ?_) id2)))
  cases r with
  | none => exact wpAny_pure h1
  | some v =>
    refine wpAny_bind (wpAny_mono h1 (fun _ s2 h2 => ?_) id2)
    refine wpAny_bind (wpAny_mono h2 (fun _ s3 h3 => wpAny_bind (wpAny_mono h3 (fun ok s4 h4 => ?_) id2)) id2)
    cases ok with
    | false => exact wpAny_pure ⟨rfl, h4⟩
    | true =>
      refine wpAny_bind (wpAny_mono h4 (fun x s5 h5 => ?_) id2)
      refine wpAny_bind (wpAny_standAt (wpAny_bind (wpAny_of_eq (hs x) (wpAny_bind (wpAny_holding (wpAny_mono h5 (fun z s6 h6 => ?_) id2))))))
      refine wpAny_bind (wpAny_runOwn ?_)
      rw [Around.mark_none]
      refine codeAny_mono h6 fun r s' hr => ?_
      cases r with
      | ok f =>
        first
          | exact wpAny_pure ⟨rfl, hr⟩
          | exact wpAny_bind (wpAny_pure (wpAny_pure ⟨rfl, hr⟩))
      | error e => exact hr.elim
/-- the second clause's loop -/
theorem loop_in (J : Nat → Shared → Prop)
    (step : ∀ n s, J n s → wpAny (model prog w) A (pyNext it) (fun r s1 => match r with
      | none => R (.ok .next) s1
      | some v => wpAny (model prog w) A (letOwnedTupleGo tb it v) (fun _ s2 => wpAny (model prog w) A (assign tb env v) (fun _ s3 => wpAny (model prog w) A (testsM fb env) (fun ok s4 =>
          if ok = true then wpAny (model prog w) A (eval ea env) (fun x s5 => wpAny (model prog w) A (call (.builtin "set.add") [acc, x]) (fun _ s6 => ∃ m, m < n ∧ J m s6) (exR prog w A env R) s5) (exR prog w A env R) s4
          else ∃ m, m < n ∧ J m s4) (exR prog w A env R) s3) (exR prog w A env R) s2) (exR prog w A env R) s1) (exR prog w A env R) s)
    (n : Nat) (h : J n s) : codeAny (model prog w) A (.compLoop (two ea ta ia tb ib fa fb sc p0) 1 it acc env) R s := by
  refine codeAny_loop rfl J (fun n s hJ => ?_) n h
  show wpAny _ A ((compTurn (two ea ta ia tb ib fa fb sc p0) 1 it acc env).onRaise (fun x => do noteFrame x env; theTreesLotGoes x)) _ _ s
  refine wpAny_noted ?_
  rw [turn_in]
  have id2 : ∀ (x : Value) (s : Shared), exR prog w A env R x s → exR prog w A env R x s := fun _ _ z => z
  refine wpAny_bind (wpAny_standAt (wpAny_bind (wpAny_mono (step n s hJ) (fun r s1 h1 => ?_) id2)))
  cases r with
  | none => exact wpAny_pure h1
  | some v =>
    refine wpAny_bind (wpAny_mono h1 (fun _ s2 h2 => ?_) id2)
    refine wpAny_bind (wpAny_mono h2 (fun _ s3 h3 => wpAny_bind (wpAny_mono h3 (fun ok s4 h4 => ?_) id2)) id2)
    cases ok with
    | false => exact wpAny_pure ⟨rfl, h4⟩
    | true => exact wpAny_bind (wpAny_bind (wpAny_mono h4 (fun x s5 h5 => wpAny_bind (wpAny_standAt (wpAny_bind (wpAny_mono h5 (fun _ s6 h6 => wpAny_pure (wpAny_pure ⟨rfl, h6⟩)) id2)))) id2))
/-- the second clause's start -/
theorem start_in (h0 : codeAny (model prog w) A (.compLoop (two ea ta ia tb ib fa fb sc p0) 1 it acc env) R s)
    (h : wpAny (model prog w) A (pyIter it) (fun z s' => codeAny (model prog w) A (.compLoop (two ea ta ia tb ib fa fb sc p0) 1 z acc env) R s') (exR prog w A env R) s) :
    codeAny (model prog w) A (.compStart (two ea ta ia tb ib fa fb sc p0) 1 it acc env) R s := by
  refine codeAny_of_tree ?_
  show wpAny _ _ ((compStart (two ea ta ia tb ib fa fb sc p0) 1 it acc env).onRaise (fun x => do noteFrame x env; standAt theWindowsPlace)) _ _ s
  refine wpAny_notedAt ?_
  unfold compStart
  show wpAny _ _ (ask >>= _) _ _ s
  refine wpAny_bind (wpAny_askSetting (wpAny_ite ?_))
  split
  · first
      | exact wpAny_bind (wpAny_pure (wpAny_pure (And.intro rfl h0)))
      | exact wpAny_pure (And.intro rfl h0)
  · first
      | exact wpAny_bind (wpAny_rule (wpAny_bind (wpAny_standAt (wpAny_bind (wpAny_mono h (fun z s' h' => wpAny_pure (And.intro rfl h')) fun _ _ x => x)))))
      | (refine wpAny_bind (wpAny_rule ?_); show wpAny _ _ (standAt ib.pos >>= _) _ _ s; exact wpAny_bind (wpAny_standAt (wpAny_bind (wpAny_mono h (fun z s' h' => wpAny_pure (And.intro rfl h')) fun _ _ x => x))))
end
end PV
namespace PV
open PySem PySem.Spec PyProof.Rows L2 BK PpSet
def tKc2 (w : World) (wi : TI) (g : TG) (tt : TT) (wi1 : TI) (g1 : TG) (tt1 : TT) (te : TE) (vs vs1 : List Nat) : TE := fun σ H Q => wi σ H fun J H1 => ∀ D, H1 D = none → ∃ W : Nat → Nat → Hp → Prop,
  (∃ m, W 0 m (upd H1 D (SetO w D (fun _ => false) 0))) ∧ ∀ i m H, W i m H → (J.stop i H ∧ Q (.ref D) H) ∨ (J.go i H ∧ ∃ Nx : Hp → Prop, (∀ H', Nx H' → ∃ m', m' < m ∧ W (i + 1) m' H') ∧
    ∀ x H', J.yld i H x H' → g x (wipe σ vs) H' fun σ2 H2 => wipe σ2 vs = wipe σ vs ∧ tt σ2 H2 fun b H3 => if b = true then wi1 σ2 H3 fun J1 H4 => ∃ W1 : Nat → Nat → Hp → Prop, (∃ m, W1 0 m H4) ∧ ∀ j k H, W1 j k H →
      (J1.stop j H ∧ Nx H) ∨ (J1.go j H ∧ ∃ Ny : Hp → Prop, (∀ H', Ny H' → ∃ k', k' < k ∧ W1 (j + 1) k' H') ∧
        ∀ x H', J1.yld j H x H' → g1 x (wipe σ2 vs1) H' fun σ3 H5 => wipe σ3 vs1 = wipe σ2 vs1 ∧ tt1 σ3 H5 fun b H6 => if b = true then te σ3 H6 (addK w D Ny) else Ny H6)
    else Nx H3)
section
variable {X : Cx}
theorem kc2_core {pins : List (Addr × Obj)} {s : Shared} {σ : L2.St} {H : Hp} {Q : VK} {elt tg iter tg1 iter1 : Expr} {ifs ifs1 : List Expr} {scope : Scope} {own : List (PySem.Str × Nat)} {vs1 : List Nat} {pos pos' : Pos} {wi wi1 : TI} {g g1 : TG} {tt tt1 : TT} {te : TE} {use : Option (Value → Sem Unit)} {Qf : Value → Shared → Prop}
    (hc : X.calm = true) (hN : X.N.Nodup) (I : Inv X pins σ H s) (hi : PI X tg iter wi) (ok : BlkOk X.N X.env.scope scope own) (hv : ∀ i ∈ vs1, i ∈ own.map (·.2))
    (hg : ∀ s H C cl fp, PG (X.blk s H scope (compEnvC scope cl C X.env) fp) tg g) (ht : ∀ s H C cl fp, PTs (X.blk s H scope (compEnvC scope cl C X.env) fp) ifs tt)
    (he : ∀ s H C cl fp, PE (X.blk s H scope (compEnvC scope cl C X.env) fp) elt te) (hs : ∀ x, foldedSetIterable iter X.env x = pure x)
    (hi1 : ∀ s H C cl fp, PI (X.blk s H scope (compEnvC scope cl C X.env) fp) tg1 iter1 wi1) (hg1 : ∀ s H C cl fp, PG (X.blk s H scope (compEnvC scope cl C X.env) fp) tg1 g1)
    (ht1 : ∀ s H C cl fp, PTs (X.blk s H scope (compEnvC scope cl C X.env) fp) ifs1 tt1) (hs1 : ∀ env x, foldedSetIterable iter1 env x = pure x) (h : tKc2 X.w wi g tt wi1 g1 tt1 te (own.map (·.2)) vs1 σ H Q)
    (hEnd : ∀ D C s' m H', Inv X pins σ H' s' → Q (.ref D) H' → s'.heap.Ns C m → FpOk X pins H' C → compPost (model X.prog X.w) X.A X.xe use Qf (.ref D) C (.ok .next) s') :
    wpAny (model X.prog X.w) X.A (comprehension (two elt tg iter tg1 iter1 ifs ifs1 scope pos) scope X.env pos' (newSet (.type "set")) false (eval iter X.env) use) Qf X.xe s := by
  have fr : ∀ y ∈ scope.names, y.2 = .free → ∃ c, X.env.cells.lookup y.1 = some c := fun y hy e =>
    (ok.free y hy e).elim (fun k => I.ok.has _ (.inl k)) fun k => I.ok.has _ (.inr k)
  refine wpAny_comprehension_free (use := use) rfl hs (closure_ok fr) ok.kind (fun y hy e => by rw [ok.uniq y hy, e]) (thn (hi.run pins s σ H _ I h) fun xv s1 hx => thn hx fun itv s2 h2 => ?_)
  obtain ⟨it, fp, tn, J, H2, rfl, I2, T, st2, f2, q⟩ := h2
  refine newSet_ok (newEnv_comp ?_)
  obtain ⟨D, hD⟩ : ∃ D, s2.heap.objs.size = D := ⟨_, rfl⟩
  have nD : H2 D = none := I2.hok.fresh (Nat.le_of_eq hD)
  obtain ⟨W, ⟨m0, w0⟩, turn⟩ := q D nD
  rw [hD]
  obtain ⟨s3, hs3⟩ : ∃ s3 : Shared, s3 = { s2 with heap := s2.heap.push (emptySet X.w) } := ⟨_, rfl⟩
  obtain ⟨H3, hH3⟩ : ∃ H3, H3 = upd H2 D (SetO X.w D (fun _ => false) 0) := ⟨_, rfl⟩
  have h3 : s3.heap = s2.heap.push (emptySet X.w) := by rw [hs3]
  have I3 : Inv X pins σ H3 s3 := by
    rw [hs3, hH3]
    exact I2.laid (t' := s2.toks) (fun b o e => Heap.get?_push_of_some _ e) (Nat.le_of_eq hD) (hD ▸ setO_new (setR_fresh X.w))
  have f3 : ∀ b ∈ fp, FpOk X pins H3 b ∧ b < s3.heap.objs.size := fun b hb => by
    obtain ⟨o, e, _⟩ := T.obj _ _ st2 b hb
    have lt := Heap.lt_size e
    refine ⟨⟨?_, (f2 b hb).2⟩, by rw [h3, Heap.size_push]; exact Nat.lt_succ_of_lt lt⟩
    rw [hH3, upd_ne (by rw [← hD]; exact Nat.ne_of_lt lt)]
    exact (f2 b hb).1
  have st3 : tn 0 s3.heap := T.keep _ _ _ st2 fun b _ o e => by rw [h3]; exact Heap.get?_push_of_some _ e
  have I4 := block_start I3 ok hN f3
  have nfp : ∀ b ∈ fp, H3 b = none := fun b hb => (f3 b hb).1.1
  rw [← hH3] at w0
  obtain ⟨cl, hcl⟩ : ∃ cl, cl = cellsFrom (s3.heap.objs.size + 1) scope.names (cloFrom X.env.cells scope.names []) := ⟨_, rfl⟩
  have pg := hg s3 H3 s3.heap.objs.size cl fp
  have pt := ht s3 H3 s3.heap.objs.size cl fp
  have pe := he s3 H3 s3.heap.objs.size cl fp
  have pi1 := hi1 s3 H3 s3.heap.objs.size cl fp
  have pg1 := hg1 s3 H3 s3.heap.objs.size cl fp
  have pt1 := ht1 s3 H3 s3.heap.objs.size cl fp
  rw [← hcl] at I4
  show codeAny _ _ (.compStart (two elt tg iter tg1 iter1 ifs ifs1 scope pos) 0 (.ref it) (.ref D) (compEnvC scope (cellsFrom ((s2.heap.push (emptySet X.w)).objs.size + 1) scope.names (cloFrom X.env.cells scope.names [])) (s2.heap.push (emptySet X.w)).objs.size X.env))
    (compPost (model X.prog X.w) X.A X.xe use Qf (.ref D) (s2.heap.push (emptySet X.w)).objs.size) { s2 with heap := pushCells ((s2.heap.push (emptySet X.w)).push { cls := .type "dict", data := .dict #[] }) scope.names }
  rw [← h3, ← hcl]
  obtain ⟨ce, hce⟩ : ∃ ce, ce = compEnvC scope cl s3.heap.objs.size X.env := ⟨_, rfl⟩
  have cL : ce.locals = s3.heap.objs.size := by rw [hce]; rfl
  rw [← hce] at I4 pg pt pe pi1 pg1 pt1 ⊢
  obtain ⟨s4, hs4⟩ : ∃ s4 : Shared, s4 = { s3 with heap := pushCells (s3.heap.push { cls := .type "dict", data := .dict #[] }) scope.names } := ⟨_, rfl⟩
  rw [← hs4] at I4
  have e4 : ({ s2 with heap := pushCells (s3.heap.push { cls := .type "dict", data := .dict #[] }) scope.names } : Shared) = s4 := by rw [hs4, hs3]
  rw [e4]
  have st4 : tn 0 s4.heap := T.keep _ _ _ st3 fun b _ o e => by rw [hs4]; exact pushCells_keeps _ _ _ _ (Heap.get?_push_of_some _ e)
  let B := X.blk s3 H3 scope ce fp
  have fpo : ∀ {σ' : L2.St} {H' : Hp} {s' : Shared}, Inv B [] σ' H' s' → (∀ b ∈ fp, H' b = none) → ∀ b ∈ fp, FpOk B [] H' b := fun I' hn b hb =>
    ⟨hn b hb, (I'.ok.exf b hb).1, I'.ok.exfs b hb, .inl hb, fun x c e => (I'.ok.exf b hb).2 x c e, fun p hp => absurd (show p ∈ ([] : List (Addr × Obj)) ++ [] from hp) (by simp)⟩
  refine codeAny_compStart_set ?loop (T.self X.A 0 _ _ _ st4 ?loop)
  refine loop_out (hs1 ce) (fun n s' => ∃ i H', Inv B [] (wipe σ (own.map (·.2))) H' s' ∧ tn i s'.heap ∧ (∀ b ∈ fp, H' b = none) ∧ W i n H') (fun n s5 z => ?_) m0 ⟨0, H3, I4, st4, nfp, w0⟩
  obtain ⟨i, H5, I5, st5, n5, w5⟩ := z
  rcases turn i n H5 w5 with ⟨stop, qq⟩ | ⟨go, Nx, hNx, step⟩
  · refine thnF (T.done B rfl rfl rfl hc i [] s5 _ H5 (fun _ _ => False) I5 (fpo I5 n5) st5 stop) fun r s6 ⟨hr, I6⟩ => ?_
    subst hr
    have I7 : Inv X pins σ H5 s6 := I3.call' (ch := fp) I6.os I6.base I6.hok I6.bare fun b hb => ⟨(f3 b hb).1.2.2.2.1, (f3 b hb).1.2.1, (f3 b hb).1.2.2.2.2.1, (f3 b hb).1.2.2.2.2.2⟩
    have nC : H5 s3.heap.objs.size = none := cL ▸ (show H5 ce.locals = none from I6.free)
    obtain ⟨m, hn, _⟩ := I6.loc
    exact hEnd D s3.heap.objs.size s6 m H5 I7 qq (cL ▸ (show s6.heap.Ns ce.locals m from hn)) (I3.fpOk (Nat.le_refl _) nC)
  · refine thnF (T.item B rfl rfl rfl hc i [] s5 _ H5 (fun _ _ => False) I5 (fpo I5 n5) st5 go) fun r s6 ⟨u, hr, h6⟩ => ?_
    subst hr
    refine thnF h6 fun _ s7 ⟨x, H7, I7, r7, y7, st7, n7⟩ => ?_
    refine thnF (pg.run _ s7 _ H7 x u _ (I7.pinned (fpo I7 n7) (T.obj _ _ st7)) r7 (step x H7 y7)) fun _ s8 ⟨σ8, H8, I8, hw8, q8⟩ => ?_
    refine thnF (pt.run _ s8 σ8 H8 _ I8 q8) fun b s9 ⟨H9, I9, q9⟩ => ?_
    have base8 : (wipe σ (own.map (·.2))).length = σ8.length := by rw [← hw8, wipe_length]
    have know8 : ∀ (j : Nat) v, (wipe σ (own.map (·.2)))[j]? = some (some v) → σ8[j]? = some (some v) := fun j v e => by
      rw [← hw8] at e; exact (wipe_some e).1
    have know9 : ∀ (j : Nat) v, (wipe σ (own.map (·.2)))[j]? = some (some v) → (wipe σ8 vs1)[j]? = some (some v) := fun j v e => by
      rw [← hw8] at e
      obtain ⟨e1, e2⟩ := wipe_some e
      rw [wipe_out fun z => e2 (hv j z)]; exact e1
    have fin : ∀ {σ9 : L2.St} {s' : Shared} {H' : Hp}, Inv B ([] ++ pinsAt fp s7.heap) σ9 H' s' → (wipe σ (own.map (·.2))).length = σ9.length → (∀ (j : Nat) v, (wipe σ (own.map (·.2)))[j]? = some (some v) → σ9[j]? = some (some v)) → Nx H' → ∃ m, m < n ∧ ∃ i H', Inv B [] (wipe σ (own.map (·.2))) H' s' ∧ tn i s'.heap ∧ (∀ b ∈ fp, H' b = none) ∧ W i m H' := fun {σ9 s' H'} I' hl hk nx => by
      obtain ⟨m', hm, w'⟩ := hNx H' nx
      have pin : ∀ b ∈ fp, ∀ o, s7.heap.get? b = some o → s'.heap.get? b = some o ∧ H' b = none := fun b hb o e =>
        have z := I'.pin (b, o) (List.mem_append_right _ (List.mem_append_right _ (mem_pinsAt hb e)))
        ⟨z.1, z.2.1⟩
      refine ⟨m', hm, i + 1, H', (I'.unpinned (pins := [])).weak hl hk, T.keep _ _ _ st7 fun b hb o e => (pin b hb o e).1, fun b hb => ?_, w'⟩
      obtain ⟨o, e, _⟩ := T.obj _ _ st7 b hb
      exact (pin b hb o e).2
    cases b with
    | false => exact fin I9 base8 know8 q9
    | true =>
      refine thnF (pi1.run _ s9 σ8 H9 _ I9 q9) fun xv s10 hx => thnF hx fun itv s11 h11 => ?_
      obtain ⟨it1, fp1, tn1, J1, H11, e11, I11, T1, st11, f11, W1, ⟨m1, w1⟩, turn1⟩ := h11
      subst e11
      have fpo1 : ∀ {H' : Hp}, (∀ b ∈ fp1, H' b = none) → ∀ b ∈ fp1, FpOk B ([] ++ pinsAt fp s7.heap) H' b := fun hn b hb => ⟨hn b hb, (f11 b hb).2⟩
      have inner : codeAny (model X.prog X.w) X.A (.compLoop (two elt tg iter tg1 iter1 ifs ifs1 scope pos) 1 (.ref it1) (.ref D) ce)
          (fun r s' => match r with
            | .ok _ => ∃ m, m < n ∧ ∃ i H', Inv B [] (wipe σ (own.map (·.2))) H' s' ∧ tn i s'.heap ∧ (∀ b ∈ fp, H' b = none) ∧ W i m H'
            | .error _ => False) s11 := by
        refine loop_in (fun k s' => ∃ j H', Inv B ([] ++ pinsAt fp s7.heap) (wipe σ8 vs1) H' s' ∧ tn1 j s'.heap ∧ (∀ b ∈ fp1, H' b = none) ∧ W1 j k H') (fun k s12 z => ?_) m1 ⟨0, H11, I11.weak (wipe_length _ _) (fun j v e => (wipe_some e).1), st11, fun b hb => (f11 b hb).1, w1⟩
        obtain ⟨j, H12, I12, st12, n12, w12⟩ := z
        rcases turn1 j k H12 w12 with ⟨stop1, nx1⟩ | ⟨go1, Nx1, hNx1, step1⟩
        · refine thnF (T1.done B rfl rfl rfl hc j _ s12 (wipe σ8 vs1) H12 (fun _ _ => False) I12 (fpo1 n12) st12 stop1) fun r s13 ⟨hr, I13⟩ => ?_
          subst hr
          exact fin I13 (base8.trans (wipe_length σ8 vs1).symm) know9 nx1
        · refine thnF (T1.item B rfl rfl rfl hc j _ s12 (wipe σ8 vs1) H12 (fun _ _ => False) I12 (fpo1 n12) st12 go1) fun r s13 ⟨u1, hr, h13⟩ => ?_
          subst hr
          refine thnF h13 fun _ s14 ⟨x1, H14, I14, r14, y14, st14, n14⟩ => ?_
          refine thnF (pg1.run _ s14 (wipe σ8 vs1) H14 x1 u1 _ (I14.pinned (fpo1 n14) (T1.obj _ _ st14)) r14 (step1 x1 H14 y14)) fun _ s15 ⟨σ15, H15, I15, hw15, q15⟩ => ?_
          refine thnF (pt1.run _ s15 σ15 H15 _ I15 q15) fun b1 s16 ⟨H16, I16, q16⟩ => ?_
          have fin1 : ∀ {s' : Shared} {H' : Hp}, Inv B (([] ++ pinsAt fp s7.heap) ++ pinsAt fp1 s14.heap) σ15 H' s' → Nx1 H' → ∃ m, m < k ∧ ∃ j H', Inv B ([] ++ pinsAt fp s7.heap) (wipe σ8 vs1) H' s' ∧ tn1 j s'.heap ∧ (∀ b ∈ fp1, H' b = none) ∧ W1 j m H' := fun {s' H'} I' nx => by
            obtain ⟨m', hm, w'⟩ := hNx1 H' nx
            have pin : ∀ b ∈ fp1, ∀ o, s14.heap.get? b = some o → s'.heap.get? b = some o ∧ H' b = none := fun b hb o e =>
              have z := I'.pin (b, o) (List.mem_append_right _ (List.mem_append_right _ (mem_pinsAt hb e)))
              ⟨z.1, z.2.1⟩
            refine ⟨m', hm, j + 1, H', I'.unpinned.weak (by rw [← hw15, wipe_length]) (fun j v e => by rw [← hw15] at e; exact (wipe_some e).1), T1.keep _ _ _ st14 fun b hb o e => (pin b hb o e).1, fun b hb => ?_, w'⟩
            obtain ⟨o, e, _⟩ := T1.obj _ _ st14 b hb
            exact (pin b hb o e).2
          cases b1 with
          | false => exact fin1 I16 q16
          | true =>
            refine thnF (pe.run _ s16 σ15 H16 _ I16 q16) fun z s17 ⟨yv, H17, I17, r17, k0, S0, n0, ey, hD17, room, nx⟩ => ?_
            subst ey
            refine thnF (mt_sadd (X := B) _ s17 σ15 H17 (.ref D) [.int k0] (.ref D) [z] (fun _ H => Nx1 H) I17 rfl (.cons r17 .nil) ⟨D, k0, S0, n0, rfl, rfl, hD17, room, nx⟩) fun _ s18 ⟨_, H18, I18, _, q18⟩ => fin1 I18 q18
      exact start_in inner (T1.self X.A 0 _ _ _ st11 inner)
end
end PV
namespace PV
open PySem PySem.Spec PyProof.Rows L2 BK
/-! ### sorted({elt for .. in .. for .. in ..}) of ints -/
section
variable {X : Cx} {G : Gm} {Γ : Nm} {mo : Mo} {n : Nat} {S : Addr → Prop} {H H' : Hp} {pos p : Pos}
theorem split_map {f : Int → D} : ∀ {o r : List D} {ns : List Int}, o ++ r = ns.map f → ∃ a b, ns = a ++ b ∧ o = a.map f ∧ r = b.map f
  | [], r, ns, h => ⟨[], ns, rfl, rfl, h⟩
  | x :: o, r, [], h => by cases h
  | x :: o, r, k :: ns, h => by
    rw [List.cons_append, List.map_cons, List.cons.injEq] at h
    obtain ⟨a, b, e1, e2, e3⟩ := split_map h.2
    exact ⟨k :: a, b, by rw [e1]; rfl, by rw [e2, h.1]; rfl, e3⟩
theorem kc2_read {it it1 : I} {t t1 : T} {c c1 e : E} {vs vs1 : List Nat} {ρ : Rho} {σ : L2.St} {Q : VK} {xs ds : List D} {ns : List Int} (w : World) (hsub : ∀ i ∈ tsl t, i ∈ vs) (hsub1 : ∀ i ∈ tsl t1, i ∈ vs1) (K : PySem.W.Frag) (r : RV G S H ρ σ) (e2 : evI mo it ρ = some xs)
    (e3 : flatO (fun x => (bindT t x (wipeO ρ vs)).bind fun ρ2 => (tB (ev mo c ρ2)).bind fun k => if k = true then
        (evI mo it1 ρ2).bind fun ys => mapO (lcF mo t1 c1 e vs1 ρ2) ys
      else some []) xs = some ds) (e4 : intsD ds = some ns) (hl : ns.length ≤ 1000)
    (q : ∀ p H', H p = none → Same H H' → H' p = some (SetO w p (memB (uniqI ns)) (uniqI ns).length) → Q (.ref p) H') : tKc2 w (tI G mo it) (gOf K t) (tT G mo c) (tI G mo it1) (gOf K t1) (tT G mo c1) (tE G mo e) vs vs1 σ H Q := by
  have e4 := intsD_eq e4
  subst e4
  refine tI_run r e2 fun J H1 s1 r1 wk => fun P nP => ?_
  have cd := cd_add (S := S) nP
  have dom' : ∀ {Hc : Hp}, Same H1 Hc → (∃ S0 n0, Hc P = some (SetO w P S0 n0)) → Dom (addS S P) Hc := by
    intro Hc s ⟨S0, n0, h⟩ a z
    rcases z with z | z
    · exact r1.dom.same s a z
    · subst z; exact ⟨_, h, fun _ z => by cases z⟩
  let f : D → Option (List D) := fun x => (bindT t x (wipeO ρ vs)).bind fun ρ2 => (tB (ev mo c ρ2)).bind fun k => if k = true then
        (evI mo it1 ρ2).bind fun ys => mapO (lcF mo t1 c1 e vs1 ρ2) ys
      else some []
  have e3 : flatO f xs = some (ns.map D.int) := e3
  let Pv : Nat → Hp → Prop := fun i Hc => Same H1 Hc ∧ ∃ dn rest : List Int, Hc P = some (SetO w P (memB (uniqI dn)) (uniqI dn).length) ∧ flatO f (xs.drop i) = some (rest.map D.int) ∧ ns = dn ++ rest
  refine ⟨fun i m Hc => m = xs.length - i ∧ i ≤ xs.length ∧ Pv i Hc, ⟨_, rfl, Nat.zero_le _, same_new nP, [], ns, ?_, e3, rfl⟩, ?_⟩
  · rw [upd_same]; rfl
  rintro i m Hc ⟨rfl, hi, sc, dn, rest, hP, hm, hds⟩
  have hW : ∃ S', Cd S S' H1 ∧ Ext S' H1 Hc ∧ Dom S' Hc := ⟨addS S P, cd, Same.ext sc, dom' sc ⟨_, _, hP⟩⟩
  by_cases hlt : i < xs.length
  · refine .inr ⟨wk.goes i Hc hlt hW, Pv (i + 1), fun H' p' => ⟨_, by omega, rfl, hlt, p'⟩, fun x H2 y => ?_⟩
    obtain ⟨s2, hy⟩ := wk.yields i Hc x H2 hlt hW y
    obtain ⟨d0, hx, hr⟩ := hy (addS S P) cd (Same.ext sc) (dom' sc ⟨_, _, hP⟩)
    rw [drop_cons' hx] at hm
    simp only [flatO] at hm
    obtain ⟨o, m1, hm⟩ := bind_some hm
    obtain ⟨rest2, m2, hm⟩ := bind_some hm
    obtain ⟨o', rest', er, rfl, rfl⟩ := split_map (Option.some.inj hm)
    subst er
    simp only [f] at m1
    obtain ⟨ρ2, b1, m1⟩ := bind_some m1
    obtain ⟨k, b2, m1⟩ := bind_some m1
    have hP2 := s2 _ _ hP
    have sc2 := sc.trans s2
    have rv : RV G (addS S P) H2 (wipeO ρ vs) (wipe σ vs) := (r1.cd cd (Same.ext sc2) (dom' sc2 ⟨_, _, hP2⟩)).wipe vs
    refine g_run K t b1 hr rv fun σ2 rv2 hk => ⟨?_, ?_⟩
    · refine wipe_eq (by rw [rv2.len, bindT_len t b1, wipeO_len, r.len]) fun j hj => ?_
      rw [hk j fun z => hj (hsub j z), wipe_out hj]
    · refine tT_run rv2 (tB_some b2) fun H3 s3 rv3 => ?_
      have hP3 := s3 _ _ hP2
      have sc3 := sc2.trans s3
      split at m1
      · rename_i hkk
        rw [if_pos hkk]
        obtain ⟨ys, m3, m4⟩ := bind_some m1
        refine tI_run rv3 m3 fun J1 H4 s4 rv4 wk1 => ?_
        have hP4 := s4 _ _ hP3
        have sc4 := sc3.trans s4
        let Pw : Nat → Hp → Prop := fun j Hd => Same H1 Hd ∧ Ext (addS S P) H4 Hd ∧ ∃ dm tail : List Int, Hd P = some (SetO w P (memB (uniqI (dn ++ dm))) (uniqI (dn ++ dm)).length) ∧ mapO (lcF mo t1 c1 e vs1 ρ2) (ys.drop j) = some (tail.map D.int) ∧ o' = dm ++ tail
        refine ⟨fun j m Hd => m = ys.length - j ∧ j ≤ ys.length ∧ Pw j Hd, ⟨_, rfl, Nat.zero_le _, sc4, Ext.refl, [], o', by rw [List.append_nil]; exact hP4, m4, rfl⟩, ?_⟩
        rintro j m Hd ⟨rfl, hj, sd, xd, dm, tail, hPd, hmd, hod⟩
        have hWd : ∃ S', Cd (addS S P) S' H4 ∧ Ext S' H4 Hd ∧ Dom S' Hd := ⟨addS S P, Cd.refl, xd, dom' sd ⟨_, _, hPd⟩⟩
        by_cases hjt : j < ys.length
        · refine .inr ⟨wk1.goes j Hd hjt hWd, Pw (j + 1), fun H' p' => ⟨_, by omega, rfl, hjt, p'⟩, fun x1 H5 y1 => ?_⟩
          obtain ⟨s5, hy1⟩ := wk1.yields j Hd x1 H5 hjt hWd y1
          obtain ⟨d1, hx1, hr1⟩ := hy1 (addS S P) Cd.refl xd (dom' sd ⟨_, _, hPd⟩)
          rw [drop_cons' hx1] at hmd
          simp only [mapO] at hmd
          obtain ⟨o1, n1, hmd⟩ := bind_some hmd
          obtain ⟨rest3, n2, hmd⟩ := bind_some hmd
          have hmd := Option.some.inj hmd
          unfold lcF at n1
          obtain ⟨ρ3, b3, n1⟩ := bind_some n1
          obtain ⟨k1, b4, n1⟩ := bind_some n1
          have hP5 := s5 _ _ hPd
          have sc5 := sd.trans s5
          have rv5 : RV G (addS S P) H5 (wipeO ρ2 vs1) (wipe σ2 vs1) := (rv4.cd Cd.refl (xd.trans (Same.ext s5)) (dom' sc5 ⟨_, _, hP5⟩)).wipe vs1
          refine g_run K t1 b3 hr1 rv5 fun σ3 rv6 hk1 => ⟨?_, ?_⟩
          · refine wipe_eq (by rw [rv6.len, bindT_len t1 b3, wipeO_len, rv2.len]) fun j hj => ?_
            rw [hk1 j fun z => hj (hsub1 j z), wipe_out hj]
          · refine tT_run rv6 (tB_some b4) fun H6 s6 rv6' => ?_
            have hP6 := s6 _ _ hP5
            have sc6 := sc5.trans s6
            have x6 := (xd.trans (Same.ext s5)).trans (Same.ext s6)
            split at n1
            · rename_i hkk1
              rw [if_pos hkk1]
              obtain ⟨y, n3, rfl⟩ := map_some n1
              cases tail with
              | nil => cases hmd
              | cons k0 tail =>
                dsimp only at hmd
                rw [List.map_cons] at hmd
                injection hmd with hm1 hm2
                subst hm1
                refine tE_run rv6' n3 fun v H7 s7 rv7 hv => ?_
                cases hv
                have hP7 := s7 _ _ hP6
                have sc7 := sc6.trans s7
                refine ⟨k0, _, _, rfl, hP7, ?_, ?_, (x6.trans (Same.ext s7)).trans (ext_upd hP7 (fun _ _ z => by cases z)), dm ++ [k0], tail, ?_, hm2 ▸ n2, by rw [hod]; simp⟩
                · have l1 := uniqI_le (dn ++ dm)
                  have l2 := congrArg List.length hds
                  have l3 := congrArg List.length hod
                  simp only [List.length_append, List.length_cons] at l1 l2 l3
                  show (uniqI (dn ++ dm)).length + 1 < 4096
                  omega
                · exact fun b x e => by rw [upd_ne (ne_of_none e nP)]; exact sc7 _ _ e
                · rw [upd_same, ← List.append_assoc, uniqI_app]
                  have e1 : (fun j => memB (uniqI (dn ++ dm)) j || decide (j = k0)) = memB (insU k0 (uniqI (dn ++ dm))) := funext fun j => by
                    unfold memB
                    rw [Bool.eq_iff_iff, Bool.or_eq_true, decide_eq_true_eq, decide_eq_true_eq, decide_eq_true_eq, insU_mem]
                    exact Or.comm
                  have e2 : (if memB (uniqI (dn ++ dm)) k0 = true then (uniqI (dn ++ dm)).length else (uniqI (dn ++ dm)).length + 1) = (insU k0 (uniqI (dn ++ dm))).length := by
                    rw [insU_len k0 (uniqI_sorted (dn ++ dm))]
                    unfold memB
                    by_cases z : k0 ∈ uniqI (dn ++ dm) <;> simp [z]
                  rw [e1, e2]
            · rename_i hkk1
              rw [if_neg hkk1]
              cases n1
              dsimp only at hmd
              exact ⟨sc6, x6, dm, tail, hP6, hmd ▸ n2, hod⟩
        · have ej : j = ys.length := by omega
          subst ej
          rw [List.drop_length] at hmd
          simp only [mapO] at hmd
          have ht : tail = [] := by
            cases tail with
            | nil => rfl
            | cons k r => cases hmd
          subst ht
          rw [List.append_nil] at hod
          subst hod
          exact .inl ⟨wk1.stops Hd hWd, sd, dn ++ o', rest', hPd, m2, by rw [hds, List.append_assoc]⟩
      · rename_i hkk
        rw [if_neg hkk]
        have ho : o' = [] := by
          cases o' with
          | nil => rfl
          | cons k r => cases m1
        subst ho
        exact ⟨sc3, dn, rest', hP3, m2, by rw [hds]; rfl⟩
  · have ei : i = xs.length := by omega
    subst ei
    rw [List.drop_length] at hm
    simp only [flatO] at hm
    have hr : rest = [] := by
      cases rest with
      | nil => rfl
      | cons k r => cases hm
    subst hr
    rw [List.append_nil] at hds
    subst hds
    exact .inl ⟨wk.stops Hc hW, q P Hc (s1.free nP) (s1.trans sc) hP⟩
variable {tg iter tg1 iter1 elt : Expr} {ifs ifs1 : List Expr} {scope : Scope} {own : List (Str × Nat)} {vs1 : List Nat}
theorem pe_kc2 {wi wi1 : TI} {g g1 : TG} {tt tt1 : TT} {te : TE} (hc : X.calm = true) (hN : X.N.Nodup) (hi : PI X tg iter wi) (ok : BlkOk X.N X.env.scope scope own) (hv : ∀ i ∈ vs1, i ∈ own.map (·.2))
    (hg : ∀ s H C cl fp, PG (X.blk s H scope (compEnvC scope cl C X.env) fp) tg g) (ht : ∀ s H C cl fp, PTs (X.blk s H scope (compEnvC scope cl C X.env) fp) ifs tt)
    (hi1 : ∀ s H C cl fp, PI (X.blk s H scope (compEnvC scope cl C X.env) fp) tg1 iter1 wi1) (hg1 : ∀ s H C cl fp, PG (X.blk s H scope (compEnvC scope cl C X.env) fp) tg1 g1)
    (ht1 : ∀ s H C cl fp, PTs (X.blk s H scope (compEnvC scope cl C X.env) fp) ifs1 tt1)
    (he : ∀ s H C cl fp, PE (X.blk s H scope (compEnvC scope cl C X.env) fp) elt te) (hs : ∀ x, foldedSetIterable iter X.env x = pure x) (hs1 : ∀ env x, foldedSetIterable iter1 env x = pure x) :
    PE X (.SetComp elt [⟨tg, iter, ifs, 0⟩, ⟨tg1, iter1, ifs1, 0⟩] scope pos) (tKc2 X.w wi g tt wi1 g1 tt1 te (own.map (·.2)) vs1) := by
  refine ⟨fun pins s σ H Q I h => ?_⟩
  rw [PpSet.eval_SetComp]
  exact kc2_core hc hN I hi ok hv hg ht he hs hi1 hg1 ht1 hs1 h fun D C s' m H' I' q hn ⟨f0, f1, f2, f3, f4, f5⟩ =>
    ⟨m, hn, fun h'' sb => ⟨.ref D, H', I'.turned (t' := s'.toks) (fun b o hb e => (sb.2 b hb).trans e) f0 f1 f3 f4 f5, rfl, q⟩⟩
theorem s_srtsc2 (M : MoOk X G Γ mo n) {it it1 : I} {t t1 : T} {ec ec1 ee : E} {p : Pos} (hgs : Gl X "sorted") (hi : PI X tg iter (tI G mo it)) (ok : BlkOk X.N X.env.scope scope own) (hv : ∀ i ∈ vs1, i ∈ own.map (·.2))
    (hg : ∀ s H C cl fp, PG (X.blk s H scope (compEnvC scope cl C X.env) fp) tg (gOf X.K t)) (ht : ∀ s H C cl fp, PTs (X.blk s H scope (compEnvC scope cl C X.env) fp) ifs (tT G mo ec))
    (hi1 : ∀ s H C cl fp, PI (X.blk s H scope (compEnvC scope cl C X.env) fp) tg1 iter1 (tI G mo it1)) (hg1 : ∀ s H C cl fp, PG (X.blk s H scope (compEnvC scope cl C X.env) fp) tg1 (gOf X.K t1))
    (ht1 : ∀ s H C cl fp, PTs (X.blk s H scope (compEnvC scope cl C X.env) fp) ifs1 (tT G mo ec1))
    (he : ∀ s H C cl fp, PE (X.blk s H scope (compEnvC scope cl C X.env) fp) elt (tE G mo ee)) (hs : ∀ x, foldedSetIterable iter X.env x = pure x) (hs1 : ∀ env x, foldedSetIterable iter1 env x = pure x)
    (hsub : ∀ i ∈ tsl t, i ∈ own.map (·.2)) (hsub1 : ∀ i ∈ tsl t1, i ∈ vs1) {pos' : Pos} :
    PE X (.Call (.Name "sorted" p) [.SetComp elt [⟨tg, iter, ifs, 0⟩, ⟨tg1, iter1, ifs1, 0⟩] scope pos'] [] pos) (tE G mo (.sc2 t it ec t1 it1 ec1 ee (own.map (·.2)) vs1)) := by
  refine (pe_callB (cr_sortedSet M.calm) hgs (M.bl _ (by decide +kernel)) (by decide +kernel) (pa_cons (pe_kc2 M.calm M.nd hi ok hv hg ht hi1 hg1 ht1 he hs hs1) pa_nil (star_cons rfl)) (by decide) (by decide) (star_cons rfl) (star_any rfl)).imp fun σ H Q h => ?_
  obtain ⟨S, ρ, d, r, e, q⟩ := h
  simp only [ev] at e
  obtain ⟨xs, e2, e⟩ := bind_some e
  obtain ⟨ds, e3, e⟩ := bind_some e
  obtain ⟨ns, e4, e⟩ := bind_some e
  unfold setK at e
  split at e
  · rename_i hl
    dsimp only at e
    split at e
    · rename_i h64
      cases e
      show tKc2 X.w _ _ _ _ _ _ _ _ _ σ H (fun x H1 => rSortedSet X.w [x] H1 Q)
      refine kc2_read X.w hsub hsub1 X.K r e2 e3 e4 hl fun P H1 nP s1 hP => ?_
      refine ⟨P, _, _, rfl, hP, h64, fun ms p hms hmem hlen np => ?_⟩
      have em : ms = uniqI ns := rise_uniq hms (uniqI_sorted ns) fun a => by rw [hmem a]; unfold memB; rw [decide_eq_true_eq]
      rw [em]
      exact q _ _ (s1.trans (same_new np)) (new_lst (r.dom.same s1) np (RpA.of_ints _))
    · cases e
  · cases e
end
end PV
namespace PV
open PySem PySem.Spec PyProof.Rows L2 BK PpSet
/-! ### set(xs) of a list of ints: the library has it of a tuple; this goes along that proof -/
def memB0 (ns : List Int) : Int → Bool := fun j => decide (j ∈ ns)
section
variable {P : Program} {w : World} {A : Around} {E : Value → Shared → Prop} {s : Shared}
/-- the state with a set made, and nothing in it yet -/
abbrev sMade (w : World) (s : Shared) : Shared := { s with heap := s.heap.push (emptySet w) }
theorem setL_raw {l : Addr} {its : Array Value} (ns : List Int) {Q : Value → Shared → Prop} (free : A.handled = none) (isl : s.heap.IsList l its) (iz : IntsAre its.toList ns) (few : ns.length + 1 < scanBound)
    (q : ∀ (h' : Heap) (tk c : Nat), SetR w h' s.heap.objs.size (memB0 ns) c → c ≤ ns.length → (∀ b o, s.heap.get? b = some o → h'.get? b = some o) → Q (.ref s.heap.objs.size) { s with heap := h', toks := tk }) :
    wpAny (model P w) A (call (.type "set") [.ref l]) Q E s := by
  have size : its.size = ns.length := by
    have z := IntsAre.length iz
    rwa [Array.length_toList] at z
  obtain ⟨c, tl, hmro⟩ := F.called_set.mro
  have hmade := F.called_set.made
  have hsub := F.called_set.sub
  have h1 := F.called_set.notType
  have h2 := F.called_set.canCreate
  have hct := F.typeCall_set_1 (.ref l)
  refine wpAny_call (codeAny_of_tree ?_)
  show wpAny _ _ (callAny (.type "set") _) _ _ _
  refine wpAny_pure ⟨Code.quiet_builtin _ (by decide +kernel), codeAny_builtin F.entry_type_call ?_⟩
  rw [Around.under_plain (weight_type_call_type "set" [.ref l] []) rfl]
  repeat (any_goals (first | assumption | wp_step))
  refine codeAny_mono (code_set_led1 (.ref l) (E := E) (Q₁ := fun u t => u = .ref s.heap.objs.size ∧ t = sMade w s) ⟨rfl, rfl⟩) fun r t hr => ?_
  cases r with
  | error e => exact hr
  | ok fl =>
    cases fl with
    | next => exact hr.elim
    | brk => exact hr.elim
    | cont => exact hr.elim
    | ret u =>
      obtain ⟨rfl, rfl⟩ := hr
      have gS : (s.heap.push (emptySet w)).get? s.heap.objs.size = some (emptySet w) := Heap.get?_push_size _ rfl
      have ty : Shared.TypeIs (sMade w s) (.ref s.heap.objs.size) "set" := ⟨_, gS, rfl⟩
      have hli := F.called_set.init.lookup
      have hbi := F.called_set.init.bind (.ref s.heap.objs.size)
      repeat (any_goals (first | assumption | wp_step))
      refine codeAny_mono (codeAny_call_builtin (R := wants (fun r t => r = .none ∧ ∃ h' tk c, t = { s with heap := h', toks := tk } ∧ SetR w h' s.heap.objs.size (memB0 ns) c ∧ c ≤ ns.length ∧ (∀ b o, s.heap.get? b = some o → h'.get? b = some o)) E)
        F.called_set.init.plain F.entry_set_init (check_set_init_1 ty ?_)) fun r t hr => ?_
      · obtain ⟨⟨oc, od, dat, osl⟩, go, gc, n, gd⟩ := isl
        simp only at gc gd
        subst gc gd
        have gl : (s.heap.push (emptySet w)).get? l = some { cls := .type "list", dict := od, data := .seq its n, slots := osl } := Heap.get?_push_of_some _ go
        have i1 := F.sub_list_set
        have i2 := F.sub_list_frozenset
        have i3 : (Value.type "list" == Value.type "dict") = false := by decide
        have isl1 : (s.heap.push (emptySet w)).IsList l its := ⟨_, gl, rfl, n, rfl⟩
        unfold Builtin.«set.__init__» noKeywords Builtin.Frozenset.updateFrom
        generalize hPI : pyIter = PI
        wp_walk
        subst hPI
        refine wpAny_pyIter_list isl1 (wpAny_bind (wpAny_runValue ?_))
        have lt := Heap.lt_size go
        have sz : (s.heap.push (emptySet w)).objs.size = s.heap.objs.size + 1 := Heap.size_push ..
        have ne : l ≠ (s.heap.push (emptySet w)).objs.size := by rw [sz]; exact Nat.ne_of_lt (Nat.lt_succ_of_lt lt)
        have nf : s.heap.objs.size ∉ [(s.heap.push (emptySet w)).objs.size, l] := fun m => by
          rw [sz] at m
          rcases List.mem_cons.mp m with z | z
          · exact absurd z (Nat.ne_of_lt (Nat.lt_succ_self _))
          · exact absurd (List.mem_singleton.mp z) (Nat.ne_of_gt lt)
        refine set_update_ints ((Walks.list (by simp [free]) _ l ne its).toS) s.heap.objs.size nf ns size few (fun i v hv => ?_) (its.size - 0) 0 _ (by omega) (Nat.zero_le _)
          ⟨⟨_, Heap.get?_push_size _ rfl, rfl, rfl⟩, (isl1.push _)⟩ ⟨0, Nat.le_refl 0, setR_new_at (Heap.get?_push_of_some _ gS)⟩ fun t c' mv hc' hS => ?_
        · have hi : i < ns.length := size ▸ (Array.getElem?_eq_some_iff.mp hv).1
          obtain ⟨tk, e⟩ := PyProof.Rows.IntsAre.int_at iz i v (by rw [Array.getElem?_toList]; exact hv)
          refine ⟨ns[i], tk, List.getElem?_eq_getElem hi, ?_⟩
          rw [e, List.getD_eq_getElem?_getD, List.getElem?_eq_getElem hi] <;> rfl
        · obtain ⟨h', g2, d', tk', os'⟩ := t
          obtain rfl : g2 = s.gens := mv.gens
          obtain rfl : d' = s.drawn := mv.drawn
          obtain rfl : os' = s.os := mv.os
          show wpAny _ _ _ _ _ _
          refine wpAny_pure ?_
          show wpAny _ _ (ret Value.none) _ _ _
          rw [size] at hc'
          refine wpAny_pure ⟨rfl, h', tk', c', rfl, hS, hc', fun b o e => ?_⟩
          have b0 : b < s.heap.objs.size := Heap.lt_size e
          refine mv.heap b o (fun m => ?_) (Heap.get?_push_of_some _ (Heap.get?_push_of_some _ e))
          rcases List.mem_cons.mp m with z | z
          · exact Nat.ne_of_lt b0 z
          · rw [List.mem_singleton, sz] at z; exact Nat.ne_of_lt (Nat.lt_succ_of_lt b0) z
      · cases r with
        | error e => exact hr
        | ok fl =>
          cases fl with
          | next => exact hr.elim
          | brk => exact hr.elim
          | cont => exact hr.elim
          | ret r =>
            obtain ⟨rfl, h', tk, c', rfl, hS, hc', hk⟩ := hr
            repeat (any_goals (first | assumption | wp_step))
            exact q _ _ _ hS hc' hk
end
/-- its number of members is that of any list of them, each once -/
theorem setR_card {w : World} {h : Heap} {a : Addr} {ns ms : List Int} {c : Nat} (R : SetR w h a (memB0 ns) c) (nd : ms.Nodup) (m : ∀ k, k ∈ ms ↔ k ∈ ns) : ms.length = c := by
  obtain ⟨o, es, ep, t, _, _, _, _, nk, hm, _, _, hn, _⟩ := R
  have pm : ms.Perm (es.toList.map keyOf) := (List.perm_ext_iff_of_nodup nd nk).mpr fun k => by
    rw [m k, ← hm k]
    unfold memB0
    rw [decide_eq_true_eq]
  rw [pm.length_eq, List.length_map, Array.length_toList, hn]
/-! ### list(range(i, j, k)), k > 0 -/
def RgSt (X : Cx) (e : Expr) (ti : L2.St → Hp → (Int → Int → Int → Hp → Prop) → Prop) : Prop :=
  ∀ (pins : List (Addr × Obj)) (s : Shared) (σ : L2.St) (H : Hp) (Q : Int → Int → Int → Hp → Prop), Inv X pins σ H s → ti σ H Q →
    wpAny (model X.prog X.w) X.A (eval e X.env) (fun x s' => ∃ r a b c t u v H', x = .ref r ∧ IsRange s'.heap r a b c t u v ∧ Inv X pins σ H' s' ∧ Q a b c H') X.xe s
def tRgSt (ta : TA) : L2.St → Hp → (Int → Int → Int → Hp → Prop) → Prop := fun σ H Q => ta σ H fun vs H1 => ∃ i j k, vs = [.int i, .int j, .int k] ∧ (k ≠ 0 ∧ k.natAbs < 1073741824) ∧ Q i j k H1
theorem rgSt_3 {X : Cx} {a b d : Expr} {ta : TA} {p pos : Pos} (hg : Gl X "range") (hm : X.mg "range" = none) (ha : PA X [a, b, d] ta)
    (hs : starEach [a, b, d] X.env = (false, eval a X.env) :: starEach [b, d] X.env) (hpl : (backTo pos (starEach [b, d] X.env)).any (·.1) = false) :
    RgSt X (.Call (.Name "range" p) [a, b, d] [] pos) (tRgSt ta) := by
  intro pins s σ H Q I h
  refine Call_ (ld_blt I hg hm boot_range (PyProof.Rows.callWith_type1 (thn (ha.run pos pins s σ H _ I h) fun us s1 ⟨vs, H1, I1, rel, i, j, k, ev, ⟨k0, k1⟩, q⟩ => ?_) hs hpl))
  subst ev
  obtain ⟨t1, t2, t3, rfl⟩ : ∃ t1 t2 t3, us = [.int i t1, .int j t2, .int k t3] := by
    cases rel with
    | cons r rr =>
      obtain ⟨u2, u3, e, ⟨t2, e2⟩, ⟨t3, e3⟩⟩ := vals2 rr
      obtain ⟨t1, e1⟩ := r
      exact ⟨t1, t2, t3, by rw [e, e1, e2, e3]⟩
  exact call_range_3 k0 ⟨_, i, j, k, _, _, _, H1, rfl, IsRange.new _ _ _ _ _ _ _, I1.kept fun b u e => Heap.get?_push_of_some _ e, q⟩ (.inl (PyProof.noPylong_small k1))
def stV (i k : Int) (n : Nat) : List V := (List.range n).map fun m => V.int (i + (m : Nat) * k)
def tLsSt (ti : L2.St → Hp → (Int → Int → Int → Hp → Prop) → Prop) : TE := fun σ H Q => ti σ H fun i j k H1 => ∃ n : Nat, (Builtin.Range.small i j k = true ∧ Builtin.Range.rangeSize i j k = (n : Int) ∧ n ≤ 2 ^ 24) ∧ ∀ q, H1 q = none → Q (.ref q) (upd H1 q (.lst (stV i k n)))
theorem pe_lsSt {X : Cx} {e : Expr} {ti : L2.St → Hp → (Int → Int → Int → Hp → Prop) → Prop} {p pos : Pos} (hc : X.calm = true) (hg : Gl X "list") (hm : X.mg "list" = none) (he : RgSt X e ti) (na : starEach [e] X.env = (false, eval e X.env) :: starEach [] X.env) : PE X (.Call (.Name "list" p) [e] [] pos) (tLsSt ti) := by
  refine ⟨fun pins s σ H Q I h => ?_⟩
  refine Call_ (ld_blt I hg hm boot_list (PyProof.Rows.callWith_type1 (args_cons (thn (he pins s σ H _ I h) fun x s1 ⟨r, i, j, k, t, u, v, H1, ex, hr, I1, n, ⟨b1, b2, b3⟩, q⟩ => args_nil ?_) na) na))
  subst ex
  refine call_list_range (I1.ok.hd hc) hr b1 b2 b3 fun h' tk acc c' hk e' hi => ?_
  have el : acc.toList.length = n := by rw [Array.length_toList]; exact hi.1
  have rel : Vals (stV i k n) acc.toList := by
    unfold stV
    rw [← el]
    exact vals_of_get acc.toList (fun m => V.int (i + (m : Nat) * k)) fun m u hm => hi.2 m u (by rw [← hm, Array.getElem?_toList])
  have new : ObjOk X.prog X.w (upd H1 s1.heap.objs.size (.lst (stV i k n))) h' s1.heap.objs.size (.lst (stV i k n)) := ⟨by show (stV i k n).length ≤ sizeLine; unfold stV; rw [List.length_map, List.length_range, sizeLine_eq]; omega, acc.toList, c', rel, by rw [Array.toArray_toList]; exact e'⟩
  exact ⟨.ref s1.heap.objs.size, _, I1.laid hk (Nat.le_refl _) new, rfl, q _ (I1.hok.fresh (Nat.le_refl _))⟩
/-- set(xs), xs a list or a tuple of ints -/
def rSetI (K : PySem.W.Frag) (w : World) : List V → Hp → VK → Prop := fun vs H Q => ∃ (a : Addr) (ns : List Int), vs = [.ref a] ∧ (SqL K H a (ns.map V.int) ∨ SqT K H a (ns.map V.int)) ∧ ns.length ≤ 1000 ∧
  ∀ (p : Addr) (c : Nat), H p = none → (∀ ms : List Int, ms.Nodup → (∀ k, k ∈ ms ↔ k ∈ ns) → ms.length = c) → Q (.ref p) (upd H p (SetO w p (memB0 ns) c))
theorem cr_setI {X : Cx} (hc : X.calm = true) : CallR X (.type "set") (rSetI X.K X.w) := by
  intro pins s σ H vs us Q I r h
  obtain ⟨a, ns, rfl, hs, hl, q⟩ := h
  have few : ns.length + 1 < scanBound := by show _ < 4096; omega
  rw [Vals.ref1 r]
  have fin : ∀ (h' : Heap) (tk c : Nat), SetR X.w h' s.heap.objs.size (memB0 ns) c → c ≤ ns.length → (∀ b o, s.heap.get? b = some o → h'.get? b = some o) → EP X pins σ Q (.ref s.heap.objs.size) { s with heap := h', toks := tk } := fun h' tk c hS hc hk =>
    ⟨.ref _, _, I.laid hk (Nat.le_refl _) (setO_new hS), rfl, q _ c (I.hok.fresh (Nat.le_refl _)) fun ms nd m => setR_card hS nd m⟩
  rcases hs with hs | hs
  · obtain ⟨its, rv, il, _⟩ := I.list hs
    exact setL_raw ns (I.ok.hd hc) il.isList rv.ints few fin
  · obtain ⟨its, rv, il, _⟩ := I.tuple hs
    exact call_set_tupI ns (I.ok.hd hc) il rv.ints few fin
end PV
namespace PV
open PySem PySem.Spec PyProof.Rows L2 BK
/-! ### sorted(set(xs)); list(range(..)) -/
section
variable {X : Cx} {G : Gm} {Γ : Nm} {mo : Mo} {n : Nat} {S : Addr → Prop} {H H' : Hp} {pos p p2 pos2 : Pos} {a b : Expr} {ea eb : E}
/-- set(xs), whatever the number of members turns out to be; sorted -/
theorem s_sset (M : MoOk X G Γ mo n) (hgs : Gl X "sorted") (hg2 : Gl X "set") (hms : X.mg "set" = none) (h1 : noStar a = true) (ha : PE X a (tE G mo ea)) :
    PE X (.Call (.Name "sorted" p) [.Call (.Name "set" p2) [a] [] pos2] [] pos) (tE G mo (.sset ea)) := by
  refine (pe_callB (cr_sortedSet M.calm) hgs (M.bl _ (by decide +kernel)) (by decide +kernel) (pa_cons (pe_callTy (cr_setI M.calm) hg2 hms (by decide +kernel) (pa_cons ha pa_nil (star_cons h1)) (by decide) (by decide) (star_cons h1) (star_any rfl)) pa_nil (star_cons rfl)) (by decide) (by decide) (star_cons rfl) (star_any rfl)).imp fun σ H Q h => ?_
  obtain ⟨S, ρ, d, r, e, q⟩ := h
  simp only [ev] at e
  obtain ⟨x, e1, e⟩ := bind_some e
  obtain ⟨xs, e2, e⟩ := bind_some e
  obtain ⟨ns, e3, e⟩ := bind_some e
  unfold setK at e
  split at e
  · rename_i hl
    dsimp only at e
    split at e
    · rename_i h64
      cases e
      refine tE_run r e1 fun v H1 s1 r1 hv => ?_
      obtain ⟨t, vs, k, rfl, hs, hA⟩ := hv.items e2
      rw [intsD_eq e3] at hA
      have ev := hA.ints
      subst ev
      refine ⟨t, ns, rfl, SqB_or (M.K ▸ hs H1 Ext.refl), hl, fun P c nP hc => ?_⟩
      have ec : (uniqI ns).length = c := hc _ ((uniqI_sorted ns).imp fun z => Int.ne_of_lt z) fun k => uniqI_mem k ns
      refine ⟨P, _, c, rfl, upd_same, by rw [← ec]; exact h64, fun ms p hms hmem hlen np => ?_⟩
      have em : ms = uniqI ns := rise_uniq hms (uniqI_sorted ns) fun a => by rw [hmem a, uniqI_mem]; unfold memB0; rw [decide_eq_true_eq]
      rw [em]
      have s2 := s1.trans (same_new (o := SetO X.w P (memB0 ns) c) nP)
      exact q _ _ (s2.trans (same_new np)) (new_lst (r.dom.same s2) np (RpA.of_ints _))
    · cases e
  · cases e
theorem RpA.map_ix {α : Type} {f : α → V} {g : α → D} : ∀ {l : List α}, (∀ x ∈ l, Rp G S H (f x) (g x)) → RpA G S H (l.map f) (l.map g)
  | [], _ => .nil
  | x :: l, h => .cons (h x List.mem_cons_self) (RpA.map_ix fun y m => h y (List.mem_cons_of_mem _ m))
theorem rgV_rng (i j : Int) : RpA G S H (rgV i j) (rngD i (j - i).toNat) := by
  unfold rgV rngD
  exact RpA.map_ix fun k _ => .int _
theorem fits_rg {i j : Int} (hi : fitsB i = true) (hj : fitsB j = true) (hl : (rngD i (j - i).toNat).length ≤ LIM) : RgOk i j := by
  have h1 := inB_ok hi
  have h2 := inB_ok hj
  unfold rngD at hl
  rw [List.length_map, List.length_range] at hl
  unfold LIM at hl
  exact ⟨by omega, by omega, by omega, by omega, by omega⟩
theorem s_lrg2 (M : MoOk X G Γ mo n) (hgl : Gl X "list") (hg2 : Gl X "range") (h1 : noStar a = true) (h2 : noStar b = true) (ha : PE X a (tE G mo ea)) (hb : PE X b (tE G mo eb)) :
    PE X (.Call (.Name "list" p) [.Call (.Name "range" p2) [a, b] [] pos2] [] pos) (tE G mo (.lrg (.rng2 ea eb))) := by
  refine (pe_listRg M.calm hgl (M.bl _ (by decide +kernel)) (prg_2 hg2 (M.bl _ (by decide +kernel)) ha hb (star_cons h1) (star_cons h2) (star_any (by simp [h2])))).imp fun σ H Q h => ?_
  obtain ⟨S, ρ, d, r, e, q⟩ := h
  simp only [ev, evI] at e
  obtain ⟨xs, e1, e⟩ := bind_some e
  obtain ⟨x, e2, e1⟩ := bind_some e1
  obtain ⟨y, e3, e1⟩ := bind_some e1
  obtain ⟨rfl, hl⟩ := glst_some e
  split at e1
  · rename_i i j _
    split at e1
    · rename_i hf
      cases e1
      rw [Bool.and_eq_true] at hf
      refine tE_run r e2 fun v H1 s1 r1 hv => tE_run r1 e3 fun v2 H2 s2 r2 hv2 => ?_
      cases hv
      cases hv2
      exact ⟨i, j, rfl, rfl, fits_rg hf.1 hf.2 hl, fun p np => q _ _ ((s1.trans s2).trans (same_new np)) (new_lst r2.dom np (rgV_rng i j))⟩
    · cases e1
  · cases e1
theorem s_lrg1 (M : MoOk X G Γ mo n) (hgl : Gl X "list") (hg2 : Gl X "range") (h1 : noStar a = true) (ha : PE X a (tE G mo ea)) :
    PE X (.Call (.Name "list" p) [.Call (.Name "range" p2) [a] [] pos2] [] pos) (tE G mo (.lrg (.rng1 ea))) := by
  refine (pe_listRg M.calm hgl (M.bl _ (by decide +kernel)) (prg_1 hg2 (M.bl _ (by decide +kernel)) ha (star_cons h1))).imp fun σ H Q h => ?_
  obtain ⟨S, ρ, d, r, e, q⟩ := h
  simp only [ev, evI] at e
  obtain ⟨xs, e1, e⟩ := bind_some e
  obtain ⟨x, e2, e1⟩ := bind_some e1
  obtain ⟨rfl, hl⟩ := glst_some e
  split at e1
  · rename_i j
    split at e1
    · rename_i hf
      cases e1
      refine tE_run r e2 fun v H1 s1 r1 hv => ?_
      cases hv
      have e0 : j.toNat = (j - 0).toNat := by rw [Int.sub_zero]
      rw [e0] at hl q
      exact ⟨j, rfl, fits_rg (by decide) hf hl, fun p np => q _ _ (s1.trans (same_new np)) (new_lst r1.dom np (rgV_rng 0 j))⟩
    · cases e1
  · cases e1
theorem stp_size {i j k : Int} (hk : 0 < k) : Builtin.Range.rangeSize i j k = (stpN i j k : Int) := by
  unfold Builtin.Range.rangeSize stpN
  rw [if_pos hk]
  split
  · have : 0 ≤ (j - i - 1) / k := Int.ediv_nonneg (by omega) (by omega)
    omega
  · rfl
theorem stp_le {i j k : Int} (hk : 0 < k) : (stpN i j k : Int) ≤ (j - i).toNat := by
  unfold stpN
  split
  · have : (j - i - 1) / k ≤ j - i - 1 := Int.ediv_le_self _ (by omega)
    have : 0 ≤ (j - i - 1) / k := Int.ediv_nonneg (by omega) (by omega)
    omega
  · omega
theorem stp_small {i j k : Int} (hk : 0 < k) (hi : inB 1000000 i = true) (hj : inB 1000000 j = true) (hk2 : inB 1000000 k = true) : Builtin.Range.small i j k = true := by
  have h1 := inB_ok hi
  have h2 := inB_ok hj
  have h3 := inB_ok hk2
  have h4 := stp_le (i := i) (j := j) hk
  have h5 : (stpN i j k : Int) * k ≤ 4000000000000 := by
    have a1 : (stpN i j k : Int) ≤ 2000001 := by omega
    have a2 : 0 ≤ (stpN i j k : Int) := by omega
    calc (stpN i j k : Int) * k ≤ (stpN i j k : Int) * 1000000 := Int.mul_le_mul_of_nonneg_left (by omega) a2
      _ ≤ 4000000000000 := by omega
  have h6 : 0 ≤ (stpN i j k : Int) * k := Int.mul_nonneg (by omega) (by omega)
  unfold Builtin.Range.small
  rw [stp_size hk]
  simp only [Builtin.Range.rangeFitsLong, Bool.and_eq_true, Bool.or_eq_true, decide_eq_true_eq, beq_iff_eq, show k > 0 from hk, if_true]
  try split
  all_goals omega
theorem s_lrs {c : Expr} {ec : E} (M : MoOk X G Γ mo n) (hgl : Gl X "list") (hg2 : Gl X "range") (h1 : noStar a = true) (h2 : noStar b = true) (h3 : noStar c = true) (ha : PE X a (tE G mo ea)) (hb : PE X b (tE G mo eb)) (hc : PE X c (tE G mo ec)) :
    PE X (.Call (.Name "list" p) [.Call (.Name "range" p2) [a, b, c] [] pos2] [] pos) (tE G mo (.lrs ea eb ec)) := by
  refine (pe_lsSt M.calm hgl (M.bl _ (by decide +kernel)) (rgSt_3 hg2 (M.bl _ (by decide +kernel)) (pa_cons ha (pa_cons hb (pa_cons hc pa_nil (star_cons h3)) (star_cons h2)) (star_cons h1)) (star_cons h1) (star_any (by simp [h2, h3]))) (star_cons rfl)).imp fun σ H Q h => ?_
  obtain ⟨S, ρ, d, r, e, q⟩ := h
  simp only [ev] at e
  obtain ⟨x, e1, e⟩ := bind_some e
  obtain ⟨y, e2, e⟩ := bind_some e
  obtain ⟨z, e3, e⟩ := bind_some e
  obtain ⟨i, j, k, rfl, rfl, rfl, e9⟩ : ∃ i j k, x = .int i ∧ y = .int j ∧ z = .int k ∧ (if inB 1000000 i && inB 1000000 j && (decide (0 < k) && inB 1000000 k) then glst (stpD i k (stpN i j k)) else none) = some d := by
    split at e
    · exact ⟨_, _, _, rfl, rfl, rfl, e⟩
    · cases e
  · by_cases hf : (inB 1000000 i && inB 1000000 j && (decide (0 < k) && inB 1000000 k)) = true
    · rw [if_pos hf] at e9
      simp only [Bool.and_eq_true, decide_eq_true_eq] at hf
      obtain ⟨⟨f1, f2⟩, f3, f4⟩ := hf
      obtain ⟨rfl, hl⟩ := glst_some e9
      refine tE_run r e1 fun v H1 s1 r1 hv => tE_run r1 e2 fun v2 H2 s2 r2 hv2 => tE_run r2 e3 fun v3 H3 s3 r3 hv3 => ?_
      cases hv
      cases hv2
      cases hv3
      have b3 := inB_ok f4
      refine ⟨i, j, k, rfl, ⟨by omega, by omega⟩, _, ⟨stp_small f3 f1 f2 f4, stp_size f3, ?_⟩, fun q0 nq => q _ _ (((s1.trans s2).trans s3).trans (same_new nq)) (new_lst r3.dom nq ?_)⟩
      · unfold stpD at hl; rw [List.length_map, List.length_range] at hl; unfold LIM at hl; omega
      · exact RpA.map_ix fun m _ => .int _
    · rw [if_neg hf] at e9; cases e9
end
end PV
namespace PV
open PySem PySem.Spec PyProof.Rows L2 BK
section
variable {X : Cx} {G : Gm} {c : Cc} {mo : Mo} {l : Nat} {sc : Scope}
structure XS (X : Cx) (G : Gm) (c : Cc) (mo : Mo) (l : Nat) (sc : Scope) : Prop where
  M : MoOk X G c.Γ mo l
  N : X.N = c.N
  sc : X.env.scope = sc
  an : ∀ k, G.an k = anOf c.ats k
theorem an_ix (h : ∀ k, G.an k = anOf c.ats k) {f : Str} {k : Nat} (e : ixOf f c.ats = some k) : G.an k = f := by
  rw [h]
  unfold anOf
  rw [ixOf_get e]
theorem visB_vis {x : Str} (h : visB sc x = true) (e : X.env.scope = sc) : Vis X.env.scope x := by
  rw [e]
  unfold visB at h
  split at h
  · exact .inl (by assumption)
  · exact .inr (.inl (by assumption))
  · exact .inr (.inr (by assumption))
  · cases h
theorem glB_gl {x : Str} (h : glB sc x = true) (e : X.env.scope = sc) : Gl X x := by
  show X.env.scope.names.lookup x = some .globalImplicit
  rw [e]
  unfold glB at h
  split at h
  · assumption
  · cases h
theorem nameB_of {x : Str} (h : nameB x = true) : (x == ("__debug__" : Str)) = false ∧ (x == ("__classdict__" : Str)) = false := by
  unfold nameB at h
  rw [Bool.and_eq_true] at h
  exact ⟨by simpa using h.1, by simpa using h.2⟩
theorem Has.blk {X' : Cx} {n : Nat} {g : List D → Option D} {f : Addr} {fd : FuncData} {ps : List Str} (h : Has X G n g f fd ps) (h1 : X'.prog = X.prog) (h2 : X'.w = X.w) (h3 : X'.K = X.K) (h4 : X'.mg = X.mg) (h5 : X'.base = X.base) : Has X' G n g f fd ps :=
  ⟨by rw [h1, h2, h3, h4, h5]; exact h.ok, h.ar, by rw [h3]; exact h.b, by rw [h3]; exact h.kp⟩
theorem HasI.blk {X' : Cx} {n c : Nat} {g : List D → Option D} {f : Addr} {fd : FuncData} {ps : List Str} (h : HasI X G n c g f fd ps) (h1 : X'.prog = X.prog) (h2 : X'.w = X.w) (h3 : X'.K = X.K) (h4 : X'.mg = X.mg) (h5 : X'.base = X.base) : HasI X' G n c g f fd ps :=
  ⟨by rw [h1, h2, h3, h4, h5]; exact h.ok, h.ar, by rw [h3]; exact h.b⟩
theorem MoOk.blk {X' : Cx} {Γ : Nm} {n : Nat} (M : MoOk X G Γ mo n) (h1 : X'.prog = X.prog) (h2 : X'.w = X.w) (h3 : X'.K = X.K) (h4 : X'.mg = X.mg) (h5 : X'.base = X.base) (h6 : X'.calm = X.calm) (h7 : X'.N = X.N) (h8 : X'.A = X.A) : MoOk X' G Γ mo n where
  K := by rw [h3]; exact M.K
  calm := by rw [h6]; exact M.calm
  nd := by rw [h7]; exact M.nd
  room := by rw [h8]; exact M.room
  bl := by rw [h4]; exact M.bl
  imp := by rw [h4]; exact M.imp
  an0 := M.an0
  an1 := M.an1
  an2 := M.an2
  inj := M.inj
  fn := fun x k h => let ⟨f, fd, ps, a, b⟩ := M.fn x k h; ⟨f, fd, ps, a.blk h1 h2 h3 h4 h5, by rw [h4]; exact b⟩
  mkc := fun x c h => by
    obtain ⟨C, a, b, d⟩ := M.mkc x c h
    refine ⟨C, a, by rw [h4]; exact b, fun e => ?_⟩
    obtain ⟨f, fd, ps, g1, g2⟩ := d e
    exact ⟨f, fd, ps, by rw [h3]; exact g1, g2.blk h1 h2 h3 h4 h5⟩
  cl := by rw [h3]; exact M.cl
  na := by rw [h3]; exact M.na
  me := fun c m ds d h => by
    obtain ⟨C, f, fd, ps, g1, g2, g3, g4, g5⟩ := M.me c m ds d h
    exact ⟨C, f, fd, ps, g1, g2.blk h1 h2 h3 h4 h5, by rw [h3]; exact g3, by rw [h3]; exact g4, by rw [h3]; exact g5⟩
  isi := by rw [h3]; exact M.isi
  cst := by rw [h4]; exact M.cst
theorem XS.blk (x : XS X G c mo l sc) (s : Shared) (H : Hp) (scope : Scope) (C : Addr) (cl : List (Str × Addr)) (fp : List Addr) : XS (X.blk s H scope (compEnvC scope cl C X.env) fp) G c mo l (relS scope sc) :=
  ⟨x.M.blk rfl rfl rfl rfl rfl rfl rfl rfl, x.N, by rw [← x.sc]; rfl, x.an⟩
/-! ### targets -/
theorem assign_len {env : Env} : ∀ {es : List Expr}, es.all noStar = true → (assignEach es env).length = es.length ∧ (assignEach es env).findIdx? (·.1) = none
  | [], _ => ⟨rfl, rfl⟩
  | e :: es, h => by
    rw [List.all_cons, Bool.and_eq_true] at h
    obtain ⟨h1, h2⟩ := assign_len (env := env) h.2
    have e1 : assignEach (e :: es) env = (false, assign e env) :: assignEach es env := by
      have := h.1
      cases e <;> first | rfl | (cases this)
    rw [e1]
    refine ⟨by simp [h1], ?_⟩
    rw [List.findIdx?_cons]
    simp [h2]
theorem assign_cons {env : Env} {e : Expr} {es : List Expr} (h : noStar e = true) : (assignEach (e :: es) env).map (·.2) = assign e env :: (assignEach es env).map (·.2) := by
  cases e <;> first | rfl | (cases h)
theorem cTg_star {N : List Str} {asg : Str → Bool} {n : Nat} {e : Expr} {t : T} (h : cTg N asg n e = some t) : noStar e = true := by
  cases n with
  | zero => cases h
  | succ n =>
    simp only [cTg] at h
    split at h
    · rfl
    · rfl
    · cases h
theorem mapM_cons {α β : Type} {f : α → Option β} {a : α} {r : List α} {ts : List β} (h : (a :: r).mapM f = some ts) : ∃ t rs, f a = some t ∧ r.mapM f = some rs ∧ ts = t :: rs := by
  rw [List.mapM_cons] at h
  cases e : f a with
  | none => rw [e] at h; cases h
  | some t =>
    rw [e] at h
    cases e2 : r.mapM f with
    | none => rw [e2] at h; cases h
    | some rs => rw [e2] at h; cases h; exact ⟨t, rs, rfl, rfl, rfl⟩
theorem mapM_nil {α β : Type} {f : α → Option β} {ts : List β} (h : ([] : List α).mapM f = some ts) : ts = [] := by
  rw [List.mapM_nil] at h; cases h; rfl
theorem pg_of (x : XS X G c mo l sc) {asg : Str → Bool} (ha : ∀ y, asg y = true → Loc X.env.scope y ∧ (X.fn y = true ∨ X.env.scope.names.lookup y = some .local)) : ∀ (n : Nat) (e : Expr) (t : T), cTg c.N asg n e = some t → PG X e (gOf X.K t) := by
  intro n
  induction n with
  | zero => intro e t h; cases h
  | succ n ih =>
    intro e t h
    simp only [cTg] at h
    split at h
    · split at h
      · rename_i hy
        obtain ⟨i, h1, rfl⟩ := map_some h
        obtain ⟨a1, a2⟩ := ha _ hy
        exact pg_name x.M.nd (by rw [x.N]; exact ixOf_get h1) a1 a2
      · cases h
    · rename_i es k p
      obtain ⟨ts, h1, rfl⟩ := map_some h
      have key : ∀ (es : List Expr) (ts : List T), es.mapM (cTg c.N asg n) = some ts → PGs X es (gOfs X.K (ts.foldr Ts.cons .nil)) ∧ es.all noStar = true ∧ (ts.foldr Ts.cons Ts.nil).len = es.length := by
        intro es
        induction es with
        | nil => intro ts h; rw [mapM_nil h]; exact ⟨pgs_nil, rfl, rfl⟩
        | cons a r ih2 =>
          intro ts h
          obtain ⟨t, rs, g1, g2, rfl⟩ := mapM_cons h
          obtain ⟨k1, k2, k3⟩ := ih2 rs g2
          have st := cTg_star g1
          exact ⟨pgs_cons (ih a t g1) k1 (assign_cons st), by rw [List.all_cons, st, k2]; rfl, by simp only [List.foldr_cons, Ts.len, k3, List.length_cons]⟩
      obtain ⟨k1, k2, k3⟩ := key es ts h1
      obtain ⟨l1, l2⟩ := assign_len (env := X.env) k2
      exact pg_tup x.M.calm k1 (by rw [l1, k3]) l2
    · cases h
theorem asgC_ok (x : XS X G c mo l sc) {scope : Scope} (s : Shared) (H : Hp) (C : Addr) (cl : List (Str × Addr)) (fp : List Addr) : ∀ y, asgC scope (relS scope sc) y = true →
    Loc (X.blk s H scope (compEnvC scope cl C X.env) fp).env.scope y ∧ ((X.blk s H scope (compEnvC scope cl C X.env) fp).fn y = true ∨ (X.blk s H scope (compEnvC scope cl C X.env) fp).env.scope.names.lookup y = some .local) := by
  intro y h
  have e : (X.blk s H scope (compEnvC scope cl C X.env) fp).env.scope = relS scope sc := by rw [← x.sc]; rfl
  rw [e]
  unfold asgC at h
  split at h
  · rename_i h1; exact ⟨.inl h1, .inr h1⟩
  · rename_i h1
    refine ⟨.inr h1, .inl ?_⟩
    show (scope.names.lookup y == some .cell) = true
    split at h
    · rename_i h2; rw [h2]; rfl
    · cases h
  · cases h
end
/-! ### the terms are right -/
structure Snd (G : Gm) (c : Cc) (mo : Mo) (l n : Nat) : Prop where
  e : ∀ (X : Cx) (sc : Scope) (e : Expr) (r : E), XS X G c mo l sc → cE c n sc e = some r → PE X e (tE G mo r)
  t : ∀ (X : Cx) (sc : Scope) (e : Expr) (r : E) (k : Nat), XS X G c mo l sc → cE c n sc e = some r → tst k e = true → PT X e (tT G mo r)
  cl : ∀ (X : Cx) (sc : Scope) (x : Str) (p pos : Pos) (args : List Expr) (r : E), XS X G c mo l sc → nameB x = true → glB sc x = true → args.all noStar = true → cC c n sc x args = some r → PE X (.Call (.Name x p) args [] pos) (tE G mo r)
  b : ∀ (X : Cx) (sc : Scope) (op : BoolOp) (vs : List Expr) (pos : Pos) (r : E), XS X G c mo l sc → cB c n sc op vs = some r → PE X (.BoolOp op vs pos) (tE G mo r)
  w : ∀ (X : Cx) (sc : Scope) (op : BoolOp) (vs : List Expr) (pos : Pos) (r : E) (k : Nat), XS X G c mo l sc → cB c n sc op vs = some r → vs.all (tst k) = true → PW X (.BoolOp op vs pos) (tT G mo r)
  a : ∀ (X : Cx) (sc : Scope) (es : List Expr) (r : Es), XS X G c mo l sc → cA c n sc es = some r → PA X es (tA G mo r)
  o : ∀ (X : Cx) (sc : Scope) (o : Option Expr) (r : Eo), XS X G c mo l sc → cO c n sc o = some r → PO X o (tO G mo r)
  f : ∀ (X : Cx) (sc : Scope) (fs : List Expr) (r : E), XS X G c mo l sc → cF c n sc fs = some r → PTs X fs (tT G mo r)
  i : ∀ (X : Cx) (sc : Scope) (tg it : Expr) (r : I), XS X G c mo l sc → cI c n sc tg it = some r → PI X tg it (tI G mo r)
section
variable {X : Cx} {G : Gm} {c : Cc} {mo : Mo} {l : Nat} {sc : Scope}
theorem o2Of_eq {op : Operator} {o : O2} (h : o2Of op = some o) : op = opOf o := by
  cases op <;> simp only [o2Of] at h <;> cases h <;> rfl
theorem cmOfOp_eq {op : CmpOp} {o : Cm} (h : cmOfOp op = some o) : op = cmOf o := by
  cases op <;> simp only [cmOfOp] at h <;> cases h <;> rfl
theorem impB_ok {Γ : Nm} {f : BI} (h : impB Γ f = true) : ∀ id, biImp f = some id → (biName f, id) ∈ Γ.imps := fun id e => by
  unfold impB at h
  rw [e] at h
  exact lookup_mem (of_decide_eq_true h)
theorem biOf_eq {x : Str} {f : BI} (h : biOf x = some f) : x = biName f := by
  unfold biOf at h
  have := List.find?_some h
  exact (of_decide_eq_true this).symm
theorem tyOf_pe (x : XS X G c mo l sc) {e : Expr} {t : Ty} (h : tyOf c.Γ sc e = some t) : ∃ v, PE X e (tC v) ∧ tyE G c.Γ t v ∧ noStar e = true := by
  unfold tyOf at h
  split at h
  · split at h
    · rename_i y p hg
      have hgl := glB_gl (X := X) hg.1 x.sc
      split at h
      · rename_i e; subst e; cases h
        exact ⟨.ty "int", pe_bltn (v := .ty "int") hgl (x.M.bl _ (by decide +kernel)) (by decide +kernel) rfl, rfl, rfl⟩
      · split at h
        · rename_i e; subst e; cases h
          exact ⟨.ty "bool", pe_bltn (v := .ty "bool") hgl (x.M.bl _ (by decide +kernel)) (by decide +kernel) rfl, rfl, rfl⟩
        · split at h
          · rename_i e; subst e; cases h
            exact ⟨.ty "str", pe_bltn (v := .ty "str") hgl (x.M.bl _ (by decide +kernel)) (by decide +kernel) rfl, rfl, rfl⟩
          · split at h
            · rename_i e; subst e; cases h
              exact ⟨.ty "list", pe_bltn (v := .ty "list") hgl (x.M.bl _ (by decide +kernel)) (by decide +kernel) rfl, rfl, rfl⟩
            · split at h
              · rename_i e; subst e; cases h
                exact ⟨.ty "tuple", pe_bltn (v := .ty "tuple") hgl (x.M.bl _ (by decide +kernel)) (by decide +kernel) rfl, rfl, rfl⟩
              · split at h
                · rename_i e; subst e; cases h
                  exact ⟨.ty "dict", pe_bltn (v := .ty "dict") hgl (x.M.bl _ (by decide +kernel)) (by decide +kernel) rfl, rfl, rfl⟩
                · obtain ⟨k, h1, rfl⟩ := map_some h
                  obtain ⟨C, g1, g2, _⟩ := x.M.mkc _ _ (lookup_mem h1)
                  exact ⟨.ref C, pe_glob (v := .ref C) hgl g2 rfl (nameB_of hg.2).1, ⟨C, g1, rfl⟩, rfl⟩
    · cases h
  · cases h
theorem tys_pa (x : XS X G c mo l sc) : ∀ {ts : List Expr} {tys : List Ty}, ts.mapM (tyOf c.Γ sc) = some tys → ts.all noStar = true → ∃ vs, PA X ts (tVs vs) ∧ Paired (tyE G c.Γ) tys vs ∧ vs.length = ts.length
  | [], tys, h, _ => by rw [mapM_nil h]; exact ⟨[], av_nil, .nil, rfl⟩
  | t :: ts, tys, h, hs => by
    obtain ⟨ty, rs, g1, g2, rfl⟩ := mapM_cons h
    rw [List.all_cons, Bool.and_eq_true] at hs
    obtain ⟨vs, k1, k2, k3⟩ := tys_pa x g2 hs.2
    obtain ⟨v, m1, m2, m3⟩ := tyOf_pe x g1
    exact ⟨v :: vs, av_cons m1 k1 m3, .cons m2 k2, by simp [k3]⟩
theorem st_call (x : XS X G c mo l sc) {y : Str} {p pos : Pos} {args : List Expr} {k : Nat} {es : Es} (hb : nameB y = true) (hg : glB sc y = true) (hs : args.all noStar = true) (h : c.Γ.fns.lookup y = some k) (ha : PA X args (tA G mo es)) (h0 : args = [] → es = .nil) :
    PE X (.Call (.Name y p) args [] pos) (tE G mo (.call k es)) := by
  obtain ⟨f, fd, ps, Hs, hm⟩ := x.M.fn y k (lookup_mem h)
  cases args with
  | nil => rw [h0 rfl]; exact s_call0 x.M Hs hm (glB_gl hg x.sc) (nameB_of hb).1
  | cons a r =>
    rw [List.all_cons, Bool.and_eq_true] at hs
    exact s_call x.M Hs hm (glB_gl hg x.sc) (nameB_of hb).1 hs.1 hs.2 ha
theorem st_mk (x : XS X G c mo l sc) {y : Str} {p pos : Pos} {a : Expr} {r : List Expr} {k : Nat} {es : Es} (hb : nameB y = true) (hg : glB sc y = true) (hs : (a :: r).all noStar = true) (h : c.Γ.cls.lookup y = some k) (ha : PA X (a :: r) (tA G mo es)) :
    PE X (.Call (.Name y p) (a :: r) [] pos) (tE G mo (.mk k es)) := by
  obtain ⟨C, g1, g2, g3⟩ := x.M.mkc y k (lookup_mem h)
  rw [List.all_cons, Bool.and_eq_true] at hs
  refine ⟨fun pins s σ H Q I q => ?_⟩
  obtain ⟨S, ρ, d, rv, e, q'⟩ := id q
  simp only [ev] at e
  obtain ⟨ds, e1, e2⟩ := bind_some e
  obtain ⟨f, fd, ps, Mkk, Hi⟩ := g3 ⟨ds, d, e2⟩
  exact (s_mk x.M g1 g2 Mkk Hi (glB_gl hg x.sc) (nameB_of hb).1 hs.1 hs.2 ha).run pins s σ H Q I q
theorem cst_pe (x : XS X G c mo l sc) {y : Str} {p : Pos} {e : E} (hb : nameB y = true) (hg : glB sc y = true) (h : c.Γ.csts.lookup y = some e) : PE X (.Name y p) (tE G mo e) := by
  have q := x.M.cst y e (lookup_mem h)
  have hgl := glB_gl (X := X) hg x.sc
  have hd := (nameB_of hb).1
  cases e with
  | cint i =>
    obtain ⟨t, hm⟩ := q
    exact s_con (pe_glob (v := .int i) hgl hm ⟨t, rfl⟩ hd) (fun ρ => by simp only [ev]) fun S H => .int i
  | cstr z =>
    obtain ⟨t, hm⟩ := q
    exact s_con (pe_glob (v := .str z) hgl hm ⟨t, rfl⟩ hd) (fun ρ => by simp only [ev]) fun S H => .str z
  | cktp ns =>
    obtain ⟨a, hm, ht⟩ := q
    exact s_con (pe_glob (v := .ref a) hgl hm rfl hd) (fun ρ => by simp only [ev]) fun S H => .ktp ht
  | _ => exact q.elim
theorem fs_of {it : Expr} (h : notSet it = true) : ∀ (env : Env) (x : Value), foldedSetIterable it env x = pure x := by
  intro env x
  cases it <;> first | rfl | (cases h)
theorem all_mem {vs ws : List Nat} (h : vs.all (fun j => ws.contains j) = true) : ∀ i ∈ vs, i ∈ ws := fun i hi => by
  have := List.all_eq_true.mp h i hi
  simpa using this
theorem cA_nil {n : Nat} {es : Es} (h : cA c n sc [] = some es) : es = .nil := by
  cases n with
  | zero => simp [cA] at h
  | succ n => simp only [cA] at h; cases h; rfl
theorem snd (G : Gm) (c : Cc) (mo : Mo) (l : Nat) : ∀ n, Snd G c mo l n := by
  intro n
  induction n with
  | zero => exact ⟨fun _ _ _ _ _ h => by simp [cE] at h, fun _ _ _ _ _ _ h => by simp [cE] at h, fun _ _ _ _ _ _ _ _ _ _ _ h => by simp [cC] at h, fun _ _ _ _ _ _ _ h => by simp [cB] at h, fun _ _ _ _ _ _ _ _ h => by simp [cB] at h,
      fun _ _ _ _ _ h => by simp [cA] at h, fun _ _ _ _ _ h => by simp [cO] at h, fun _ _ _ _ _ h => by simp [cF] at h, fun _ _ _ _ _ _ h => by simp [cI] at h⟩
  | succ n ih =>
    have he : ∀ (X : Cx) (sc : Scope) (e : Expr) (r : E), XS X G c mo l sc → cE c (n + 1) sc e = some r → PE X e (tE G mo r) := by
      intro X sc e r x h
      simp only [cE] at h
      split at h
      · split at h
        · rename_i hb
          split at h
          · rename_i hv
            obtain ⟨i, h1, rfl⟩ := map_some h
            exact s_var (by rw [x.N]; exact ixOf_get h1) (visB_vis hv x.sc) (nameB_of hb).1 (nameB_of hb).2
          · split at h
            · rename_i hg
              exact cst_pe x hb hg h
            · cases h
        · cases h
      · cases h; exact s_con pe_int (fun ρ => by simp only [ev]) fun S H => .int _
      · cases h; exact s_con pe_bl (fun ρ => by simp only [ev]) fun S H => .bl _
      · cases h; exact s_con pe_non (fun ρ => by simp only [ev]) fun S H => .non
      · cases h; exact s_con pe_str (fun ρ => by simp only [ev]) fun S H => .str _
      · obtain ⟨o, h1, h⟩ := bind_some h
        obtain ⟨ea, h2, h⟩ := bind_some h
        obtain ⟨eb, h3, h⟩ := bind_some h
        cases h
        rw [o2Of_eq h1]
        exact s_bin x.M o (ih.e X sc _ _ x h2) (ih.e X sc _ _ x h3)
      · obtain ⟨ea, h1, rfl⟩ := map_some h
        exact s_not (ih.e X sc _ _ x h1)
      · obtain ⟨ea, h1, rfl⟩ := map_some h
        exact s_neg (ih.e X sc _ _ x h1)
      · exact ih.b X sc _ _ _ _ x h
      · split at h
        · rename_i hm
          obtain ⟨o, h1, h⟩ := bind_some h
          obtain ⟨ea, h2, h⟩ := bind_some h
          obtain ⟨eb, h3, h⟩ := bind_some h
          cases h
          rw [cmOfOp_eq h1] at hm ⊢
          exact s_cmp x.M o (ih.e X sc _ _ x h2) (ih.e X sc _ _ x h3) hm
        · cases h
      · split at h
        · rename_i hm
          obtain ⟨o, h1, h⟩ := bind_some h
          obtain ⟨o', h1', h⟩ := bind_some h
          obtain ⟨ea, h2, h⟩ := bind_some h
          obtain ⟨eb, h3, h⟩ := bind_some h
          obtain ⟨ed, h4, h⟩ := bind_some h
          cases h
          rw [cmOfOp_eq h1, cmOfOp_eq h1'] at hm ⊢
          exact s_chn x.M o o' (ih.e X sc _ _ x h2) (ih.e X sc _ _ x h3) (ih.e X sc _ _ x h4) hm
        · cases h
      · split at h
        · rename_i ht
          obtain ⟨et, h1, h⟩ := bind_some h
          obtain ⟨ea, h2, h⟩ := bind_some h
          obtain ⟨eb, h3, h⟩ := bind_some h
          cases h
          exact s_ite (ih.t X sc _ _ _ x h1 ht) (ih.e X sc _ _ x h2) (ih.e X sc _ _ x h3)
        · cases h
      · obtain ⟨es, h1, rfl⟩ := map_some h
        exact s_tup (ih.a X sc _ _ x h1)
      · obtain ⟨es, h1, rfl⟩ := map_some h
        exact s_lst (ih.a X sc _ _ x h1)
      · cases h; exact s_emp false
      · obtain ⟨ea, h1, h⟩ := bind_some h
        obtain ⟨el, h2, h⟩ := bind_some h
        obtain ⟨eh, h3, h⟩ := bind_some h
        cases h
        exact s_slc x.M (ih.e X sc _ _ x h1) (ih.o X sc _ _ x h2) (ih.o X sc _ _ x h3)
      · obtain ⟨ea, h1, rfl⟩ := map_some h
        exact s_rev x.M (ih.e X sc _ _ x h1)
      · split at h
        · rename_i hp
          obtain ⟨ea, h1, h⟩ := bind_some h
          obtain ⟨ei, h2, h⟩ := bind_some h
          cases h
          exact s_idx x.M (ih.e X sc _ _ x h1) (ih.e X sc _ _ x h2) hp
        · cases h
      · split at h
        · rename_i hp
          obtain ⟨ea, h1, h⟩ := bind_some h
          obtain ⟨k, h2, h⟩ := bind_some h
          cases h
          exact s_fld x.M (an_ix x.an h2) (ih.e X sc _ _ x h1) hp
        · cases h
      · split at h
        · rename_i hp
          obtain ⟨p1, p2, p3⟩ := hp
          subst p1
          obtain ⟨i, h1, h⟩ := bind_some h
          obtain ⟨t, h2, h⟩ := bind_some h
          obtain ⟨f, h3, h⟩ := bind_some h
          obtain ⟨e, h4, h⟩ := bind_some h
          split at h
          · rename_i hsub
            cases h
            exact s_lc x.M (ih.i X sc _ _ _ x h1) (by rw [x.N, x.sc]; exact blkOk_by p2) (fun s H C cl fp => pg_of (x.blk s H _ C cl fp) (asgC_ok x s H C cl fp) _ _ _ h2)
              (fun s H C cl fp => ih.f _ _ _ _ (x.blk s H _ C cl fp) h3) (fun s H C cl fp => ih.e _ _ _ _ (x.blk s H _ C cl fp) h4) (fs_of p3 _) (all_mem hsub)
          · cases h
        · cases h
      · split at h
        · rename_i hp
          obtain ⟨p1, p1', p2, p3, p4⟩ := hp
          subst p1 p1'
          obtain ⟨i, h1, h⟩ := bind_some h
          obtain ⟨t, h2, h⟩ := bind_some h
          obtain ⟨f, h3, h⟩ := bind_some h
          obtain ⟨i1, h1', h⟩ := bind_some h
          obtain ⟨t1, h2', h⟩ := bind_some h
          obtain ⟨f1, h3', h⟩ := bind_some h
          obtain ⟨e, h4, h⟩ := bind_some h
          split at h
          · rename_i hsub
            cases h
            have hm := all_mem hsub
            exact s_lc2 x.M (ih.i X sc _ _ _ x h1) (by rw [x.N, x.sc]; exact blkOk_by p2) (fun j hj => hm j (List.mem_append_right _ hj)) (fun s H C cl fp => pg_of (x.blk s H _ C cl fp) (asgC_ok x s H C cl fp) _ _ _ h2)
              (fun s H C cl fp => ih.f _ _ _ _ (x.blk s H _ C cl fp) h3) (fun s H C cl fp => ih.i _ _ _ _ _ (x.blk s H _ C cl fp) h1') (fun s H C cl fp => pg_of (x.blk s H _ C cl fp) (asgC_ok x s H C cl fp) _ _ _ h2')
              (fun s H C cl fp => ih.f _ _ _ _ (x.blk s H _ C cl fp) h3') (fun s H C cl fp => ih.e _ _ _ _ (x.blk s H _ C cl fp) h4) (fs_of p3 _) (fs_of p4) (fun j hj => hm j (List.mem_append_left _ hj)) (fun j hj => hj)
          · cases h
        · cases h
      · split at h
        · rename_i hp
          exact ih.cl X sc _ _ _ _ _ x hp.1 hp.2.1 hp.2.2 h
        · cases h
      · rename_i a m apos args cpos
        split at h
        · rename_i hp
          obtain ⟨p1, p2, p3, p4⟩ := hp
          obtain ⟨ea, h1, h⟩ := bind_some h
          have hco : (∃ b eb, args = [b] ∧ m = ("count" : Str) ∧ cE c n sc b = some eb ∧ r = .tcn ea eb) ∨ ((ixOf m c.ats).bind fun k => (cA c n sc args).bind fun es => some (E.me k ea es)) = some r := by
            split at h
            · split at h
              · rename_i hm
                obtain ⟨eb, e1, e2⟩ := map_some h
                exact .inl ⟨_, eb, rfl, hm, e1, e2.symm⟩
              · exact .inr h
            · exact .inr h
          rcases hco with ⟨b, eb, rfl, rfl, e1, rfl⟩ | h
          · simp only [List.all_cons, List.all_nil, Bool.and_true] at p2
            exact s_tcn (ih.e X sc _ _ x h1) (ih.e X sc _ _ x e1) p1 p2 p3
          obtain ⟨k, h2, h⟩ := bind_some h
          obtain ⟨es, h3, h⟩ := bind_some h
          cases h
          cases args with
          | nil =>
            rw [cA_nil h3]
            exact s_me0 x.M (an_ix x.an h2) (ih.e X sc _ _ x h1) p1 p3
          | cons a0 r0 => exact s_me x.M (an_ix x.an h2) (ih.e X sc _ _ x h1) p1 (ih.a X sc _ _ x h3) p2 p3 p4
        · cases h
      · cases h
    have hb : ∀ (X : Cx) (sc : Scope) (op : BoolOp) (vs : List Expr) (pos : Pos) (r : E), XS X G c mo l sc → cB c (n + 1) sc op vs = some r → PE X (.BoolOp op vs pos) (tE G mo r) := by
      intro X sc op vs pos r x h
      simp only [cB] at h
      split at h
      · cases h
      · exact pe_one (ih.e X sc _ _ x h)
      · obtain ⟨ea, h1, h⟩ := bind_some h
        obtain ⟨eb, h2, h⟩ := bind_some h
        cases h
        cases op with
        | And => exact s_and (ih.e X sc _ _ x h1) (ih.b X sc _ _ _ _ x h2)
        | Or => exact s_or (ih.e X sc _ _ x h1) (ih.b X sc _ _ _ _ x h2)
    have hw : ∀ (X : Cx) (sc : Scope) (op : BoolOp) (vs : List Expr) (pos : Pos) (r : E) (k : Nat), XS X G c mo l sc → cB c (n + 1) sc op vs = some r → vs.all (tst k) = true → PW X (.BoolOp op vs pos) (tT G mo r) := by
      intro X sc op vs pos r k x h ht
      simp only [cB] at h
      split at h
      · cases h
      · rw [List.all_cons, Bool.and_eq_true] at ht
        cases op with
        | And => exact pw_and1 (ih.t X sc _ _ k x h ht.1)
        | Or => exact pw_or1 (ih.t X sc _ _ k x h ht.1)
      · obtain ⟨ea, h1, h⟩ := bind_some h
        obtain ⟨eb, h2, h⟩ := bind_some h
        cases h
        rw [List.all_cons, Bool.and_eq_true] at ht
        cases op with
        | And => exact t_and (ih.t X sc _ _ k x h1 ht.1) (ih.w X sc _ _ _ _ k x h2 ht.2)
        | Or => exact t_or (ih.t X sc _ _ k x h1 ht.1) (ih.w X sc _ _ _ _ k x h2 ht.2)
    have ht : ∀ (X : Cx) (sc : Scope) (e : Expr) (r : E) (k : Nat), XS X G c mo l sc → cE c (n + 1) sc e = some r → tst k e = true → PT X e (tT G mo r) := by
      intro X sc e r k x h ht
      have dflt := he X sc e r x h
      cases k with
      | zero => cases ht
      | succ k =>
        cases e with
        | IfExp _ _ _ _ => cases ht
        | UnaryOp op a pos =>
          cases op with
          | Not =>
            simp only [cE] at h
            obtain ⟨ea, h1, rfl⟩ := map_some h
            exact t_not (ih.t X sc _ _ k x h1 ht)
          | _ => exact t_val dflt fun _ => rfl
        | BoolOp op vs pos =>
          simp only [cE] at h
          exact (ih.w X sc op vs pos r k x h ht).pt
        | Compare a ops cs pos =>
          simp only [cE] at h
          split at h <;> rename_i heq
          all_goals first
            | (cases heq; done)
            | skip
          all_goals try (cases heq)
          · split at h
            · rename_i hm
              obtain ⟨o, h1, h⟩ := bind_some h
              obtain ⟨ea, h2, h⟩ := bind_some h
              obtain ⟨eb, h3, h⟩ := bind_some h
              cases h
              rw [cmOfOp_eq h1] at hm ⊢
              exact t_cmp x.M o (ih.e X sc _ _ x h2) (ih.e X sc _ _ x h3) hm
            · cases h
          · split at h
            · rename_i hm
              obtain ⟨o, h1, h⟩ := bind_some h
              obtain ⟨o', h1', h⟩ := bind_some h
              obtain ⟨ea, h2, h⟩ := bind_some h
              obtain ⟨eb, h3, h⟩ := bind_some h
              obtain ⟨ed, h4, h⟩ := bind_some h
              cases h
              rw [cmOfOp_eq h1, cmOfOp_eq h1'] at hm ⊢
              exact t_chn x.M o o' (ih.e X sc _ _ x h2) (ih.e X sc _ _ x h3) (ih.e X sc _ _ x h4) hm
            · cases h
          · cases h
        | _ => exact t_val dflt fun _ => rfl
    have ha : ∀ (X : Cx) (sc : Scope) (es : List Expr) (r : Es), XS X G c mo l sc → cA c (n + 1) sc es = some r → PA X es (tA G mo r) := by
      intro X sc es r x h
      simp only [cA] at h
      split at h
      · cases h; exact a_nil
      · split at h
        · rename_i hs
          obtain ⟨ea, h1, h⟩ := bind_some h
          obtain ⟨er, h2, h⟩ := bind_some h
          cases h
          exact a_cons (ih.e X sc _ _ x h1) (ih.a X sc _ _ x h2) (star_cons hs)
        · cases h
    have ho : ∀ (X : Cx) (sc : Scope) (o : Option Expr) (r : Eo), XS X G c mo l sc → cO c (n + 1) sc o = some r → PO X o (tO G mo r) := by
      intro X sc o r x h
      simp only [cO] at h
      split at h
      · cases h; exact o_non
      · obtain ⟨ea, h1, rfl⟩ := map_some h
        exact o_som (ih.e X sc _ _ x h1)
    have hf : ∀ (X : Cx) (sc : Scope) (fs : List Expr) (r : E), XS X G c mo l sc → cF c (n + 1) sc fs = some r → PTs X fs (tT G mo r) := by
      intro X sc fs r x h
      simp only [cF] at h
      split at h
      · cases h; exact ts_nil
      · split at h
        · rename_i hs
          exact ts_one (ih.t X sc _ _ _ x h hs)
        · cases h
      · cases h
    have hi : ∀ (X : Cx) (sc : Scope) (tg it : Expr) (r : I), XS X G c mo l sc → cI c (n + 1) sc tg it = some r → PI X tg it (tI G mo r) := by
      intro X sc tg it r x h
      simp only [cI] at h
      split at h
      · split at h
        · rename_i hg
          obtain ⟨hg, rfl⟩ := hg
          split at h
          · split at h
            · rename_i hs
              obtain ⟨ea, h1, rfl⟩ := map_some h
              exact i_rng1 x.M (glB_gl hg x.sc) (ih.e X sc _ _ x h1) hs
            · cases h
          · split at h
            · rename_i hs
              obtain ⟨ea, h1, h⟩ := bind_some h
              obtain ⟨eb, h2, h⟩ := bind_some h
              cases h
              exact i_rng2 x.M (glB_gl hg x.sc) (ih.e X sc _ _ x h1) (ih.e X sc _ _ x h2) hs.1 hs.2
            · cases h
          · split at h
            · rename_i hs
              obtain ⟨ea, h1, h⟩ := bind_some h
              obtain ⟨eb, h2, h⟩ := bind_some h
              obtain ⟨ed, h3, h⟩ := bind_some h
              cases h
              exact i_rngd x.M (glB_gl hg x.sc) (ih.e X sc _ _ x h1) (ih.e X sc _ _ x h2) (ih.e X sc _ _ x h3) hs.1 hs.2.1 hs.2.2
            · cases h
          · cases h
        · split at h
          · rename_i hg
            obtain ⟨hg, rfl⟩ := hg
            split at h
            · rename_i htg
              cases tg with
              | Tuple elts k p =>
                split at h
                · split at h
                  · rename_i hs
                    obtain ⟨ea, h1, h⟩ := bind_some h
                    obtain ⟨eb, h2, h⟩ := bind_some h
                    cases h
                    exact i_zip2 x.M (glB_gl hg x.sc) (ih.e X sc _ _ x h1) (ih.e X sc _ _ x h2) hs.1 hs.2
                  · cases h
                · split at h
                  · rename_i hs
                    obtain ⟨ea, h1, h⟩ := bind_some h
                    obtain ⟨eb, h2, h⟩ := bind_some h
                    obtain ⟨ed, h3, h⟩ := bind_some h
                    cases h
                    exact i_zip3 x.M (glB_gl hg x.sc) (ih.e X sc _ _ x h1) (ih.e X sc _ _ x h2) (ih.e X sc _ _ x h3) hs.1 hs.2.1 hs.2.2
                  · cases h
                · cases h
              | _ => cases htg
            · cases h
          · split at h
            · rename_i hg
              obtain ⟨hg, rfl⟩ := hg
              split at h
              · rename_i htg
                cases tg with
                | Tuple elts k p =>
                  split at h
                  · split at h
                    · rename_i hs
                      obtain ⟨ea, h1, rfl⟩ := map_some h
                      exact i_enu x.M (glB_gl hg x.sc) (ih.e X sc _ _ x h1) hs
                    · cases h
                  · cases h
                | _ => cases htg
              · cases h
            · obtain ⟨ea, h1, rfl⟩ := map_some h
              exact i_of x.M (ih.e X sc _ _ x h1)
      · obtain ⟨ea, h1, rfl⟩ := map_some h
        exact i_of x.M (ih.e X sc _ _ x h1)
    have hc : ∀ (X : Cx) (sc : Scope) (x : Str) (p pos : Pos) (args : List Expr) (r : E), XS X G c mo l sc → nameB x = true → glB sc x = true → args.all noStar = true → cC c (n + 1) sc x args = some r → PE X (.Call (.Name x p) args [] pos) (tE G mo r) := by
      intro X sc y p pos args r x hb hg hs h
      have hgl := glB_gl (X := X) hg x.sc
      simp only [cC] at h
      split at h
      · rename_i e; subst e
        split at h
        · obtain ⟨ea, h1, h⟩ := bind_some h
          obtain ⟨tys, h2, h⟩ := bind_some h
          split at h
          · rename_i hts
            cases h
            obtain ⟨vs, k1, k2, k3⟩ := tys_pa x h2 hts.1
            exact s_isiT x.M hgl (ih.e X sc _ _ x h1) k1 k2 (by rw [k3]; exact hts.2) (by rw [List.all_cons, Bool.and_eq_true] at hs; exact hs.1)
          · cases h
        · obtain ⟨ea, h1, h⟩ := bind_some h
          obtain ⟨ty, h2, h⟩ := bind_some h
          cases h
          obtain ⟨v, m1, m2, m3⟩ := tyOf_pe x h2
          exact s_isi x.M hgl (ih.e X sc _ _ x h1) m1 m2 (by rw [List.all_cons, Bool.and_eq_true] at hs; exact hs.1) m3
        · cases h
      · cases es : specOf sc y args with
        | some s =>
          rw [es] at h
          unfold specOf at es
          split at es
          · split at es
            · rename_i q1
              split at es
              · rename_i q2
                cases es
                obtain ⟨ea, h1, rfl⟩ := map_some h
                obtain ⟨rfl, rfl⟩ := q2
                exact s_lrg1 x.M hgl (glB_gl q1.1 x.sc) q1.2 (ih.e X sc _ _ x h1)
              · split at es
                · rename_i q2
                  cases es
                  obtain ⟨ea, h1, rfl⟩ := map_some h
                  obtain ⟨rfl, rfl⟩ := q2
                  exact s_sset x.M hgl (glB_gl q1.1 x.sc) (x.M.bl _ (by decide +kernel)) q1.2 (ih.e X sc _ _ x h1)
                · cases es
            · cases es
          · split at es
            · rename_i q1
              split at es
              · rename_i q2
                cases es
                obtain ⟨ea, h1, h⟩ := bind_some h
                obtain ⟨eb, h2, h⟩ := bind_some h
                cases h
                obtain ⟨rfl, rfl⟩ := q2
                exact s_lrg2 x.M hgl (glB_gl q1.1 x.sc) q1.2.1 q1.2.2 (ih.e X sc _ _ x h1) (ih.e X sc _ _ x h2)
              · cases es
            · cases es
          · split at es
            · rename_i q1
              split at es
              · rename_i q2
                cases es
                obtain ⟨ea, h1, h⟩ := bind_some h
                obtain ⟨eb, h2, h⟩ := bind_some h
                obtain ⟨ed, h3, h⟩ := bind_some h
                cases h
                obtain ⟨rfl, rfl⟩ := q2
                exact s_lrs x.M hgl (glB_gl q1.1 x.sc) q1.2.1 q1.2.2.1 q1.2.2.2 (ih.e X sc _ _ x h1) (ih.e X sc _ _ x h2) (ih.e X sc _ _ x h3)
              · cases es
            · cases es
          · cases es
        | none =>
        rw [es] at h
        dsimp only at h
        have bi : ∀ {f : BI} {a : Expr} {rr : List Expr} {es : Es}, (∀ id, biImp f = some id → (biName f, id) ∈ c.Γ.imps) → biOf y = some f → (a :: rr).all noStar = true → cA c n sc (a :: rr) = some es → PE X (.Call (.Name y p) (a :: rr) [] pos) (tE G mo (.bi f es)) := by
          intro f a rr es hi hf hs he
          have e := biOf_eq hf
          subst e
          rw [List.all_cons, Bool.and_eq_true] at hs
          exact s_bi x.M f hi hgl hs.1 hs.2 (ih.a X sc _ _ x he)
        split at h
        · rename_i hf
          split at h
          · rename_i hz
            obtain ⟨z1, z2, z3, z4⟩ := hz
            subst z1
            obtain ⟨ea, h1, h⟩ := bind_some h
            obtain ⟨eb, h2, h⟩ := bind_some h
            cases h
            have e := biOf_eq hf
            subst e
            exact s_lz x.M hgl (glB_gl z2 x.sc) (ih.e X sc _ _ x h1) (ih.e X sc _ _ x h2) z3 z4
          · obtain ⟨es, h1, rfl⟩ := map_some h
            exact bi (fun _ z => by cases z) hf hs h1
        · rename_i hf
          split at h
          · rename_i hz
            obtain ⟨z1, z2, z3, z4, z5⟩ := hz
            subst z1
            obtain ⟨ea, h1, h⟩ := bind_some h
            obtain ⟨eb, h2, h⟩ := bind_some h
            obtain ⟨ed, h3, h⟩ := bind_some h
            cases h
            have e := biOf_eq hf
            subst e
            exact s_lz3 x.M hgl (glB_gl z2 x.sc) (ih.e X sc _ _ x h1) (ih.e X sc _ _ x h2) (ih.e X sc _ _ x h3) z3 z4 z5
          · obtain ⟨es, h1, rfl⟩ := map_some h
            exact bi (fun _ z => by cases z) hf hs h1
        · rename_i hf
          have e := biOf_eq hf
          subst e
          split at h
          · rename_i hp
            obtain ⟨p1, p2, p3⟩ := hp
            subst p1
            obtain ⟨i, h1, h⟩ := bind_some h
            obtain ⟨t, h2, h⟩ := bind_some h
            obtain ⟨f, h3, h⟩ := bind_some h
            obtain ⟨e, h4, h⟩ := bind_some h
            split at h
            · rename_i hsub
              cases h
              exact s_srtsc x.M hgl (ih.i X sc _ _ _ x h1) (by rw [x.N, x.sc]; exact blkOk_by p2) (fun s H C cl fp => pg_of (x.blk s H _ C cl fp) (asgC_ok x s H C cl fp) _ _ _ h2)
                (fun s H C cl fp => ih.f _ _ _ _ (x.blk s H _ C cl fp) h3) (fun s H C cl fp => ih.e _ _ _ _ (x.blk s H _ C cl fp) h4) (fs_of p3 _) (all_mem hsub)
            · cases h
          · cases h
        · rename_i hf
          have e := biOf_eq hf
          subst e
          split at h
          · rename_i hp
            obtain ⟨p1, p1', p2, p3, p4⟩ := hp
            subst p1 p1'
            obtain ⟨i, h1, h⟩ := bind_some h
            obtain ⟨t, h2, h⟩ := bind_some h
            obtain ⟨f, h3, h⟩ := bind_some h
            obtain ⟨i1, h1', h⟩ := bind_some h
            obtain ⟨t1, h2', h⟩ := bind_some h
            obtain ⟨f1, h3', h⟩ := bind_some h
            obtain ⟨e, h4, h⟩ := bind_some h
            split at h
            · rename_i hsub
              cases h
              have hm := all_mem hsub
              exact s_srtsc2 x.M hgl (ih.i X sc _ _ _ x h1) (by rw [x.N, x.sc]; exact blkOk_by p2) (fun j hj => hm j (List.mem_append_right _ hj)) (fun s H C cl fp => pg_of (x.blk s H _ C cl fp) (asgC_ok x s H C cl fp) _ _ _ h2)
                (fun s H C cl fp => ih.f _ _ _ _ (x.blk s H _ C cl fp) h3) (fun s H C cl fp => ih.i _ _ _ _ _ (x.blk s H _ C cl fp) h1') (fun s H C cl fp => pg_of (x.blk s H _ C cl fp) (asgC_ok x s H C cl fp) _ _ _ h2')
                (fun s H C cl fp => ih.f _ _ _ _ (x.blk s H _ C cl fp) h3') (fun s H C cl fp => ih.e _ _ _ _ (x.blk s H _ C cl fp) h4) (fs_of p3 _) (fs_of p4) (fun j hj => hm j (List.mem_append_left _ hj)) (fun j hj => hj)
            · cases h
          · cases h
        · rename_i hf
          split at h
          · rename_i hi
            obtain ⟨es, h1, rfl⟩ := map_some h
            exact bi (impB_ok hi) hf hs h1
          · cases h
        · cases h
        · split at h
          · rename_i hk
            obtain ⟨es, h1, rfl⟩ := map_some h
            exact st_call x hb hg hs hk (ih.a X sc _ _ x h1) fun e => by subst e; exact cA_nil h1
          · split at h
            · rename_i hk
              obtain ⟨es, h1, rfl⟩ := map_some h
              exact st_mk x hb hg hs hk (ih.a X sc _ _ x h1)
            · cases h
    exact ⟨he, ht, hc, hb, hw, ha, ho, hf, hi⟩
end
end PV
namespace PV
open PySem PySem.Spec PyProof.Rows L2 BK
/-! ### which names are changed where they stand -/
def mutS : Nat → List Stmt → List Str
  | 0, _ => []
  | _, [] => []
  | n + 1, st :: r => (match st with
    | .Expr (.Call (.Attribute (.Name y _) m _) _ _ _) _ => if m = ("append" : Str) ∨ m = ("extend" : Str) then [y] else []
    | .Assign [.Subscript (.Name y _) _ _] _ _ => [y]
    | .AugAssign (.Subscript (.Name y _) _ _) _ _ _ => [y]
    | .If _ a b _ => mutS n a ++ mutS n b
    | .For _ _ a _ _ => mutS n a
    | .While _ a _ _ => mutS n a
    | _ => []) ++ mutS n r
mutual
def eV : E → List Nat
  | .var i => [i]
  | .bin _ a b => eV a ++ eV b
  | .neg a => eV a
  | .not a => eV a
  | .and a b => eV a ++ eV b
  | .or a b => eV a ++ eV b
  | .cmp _ a b => eV a ++ eV b
  | .chn _ _ a b d => eV a ++ eV b ++ eV d
  | .ite c a b => eV c ++ eV a ++ eV b
  | .tup es => esV es
  | .lst es => esV es
  | .idx a i => eV a ++ eV i
  | .rev a => eV a
  | .slc a lo hi => eV a ++ eoV lo ++ eoV hi
  | .fld a _ => eV a
  | .tcn a b => eV a ++ eV b
  | .ptu a => eV a
  | .bi _ es => esV es
  | .lz a b => eV a ++ eV b
  | .lz3 a b d => eV a ++ eV b ++ eV d
  | .sset a => eV a
  | .lrg it => iV it
  | .lrs a b d => eV a ++ eV b ++ eV d
  | .isi a _ => eV a
  | .call _ es => esV es
  | .mk _ es => esV es
  | .me _ a es => eV a ++ esV es
  | .lc _ it c e _ => iV it ++ eV c ++ eV e
  | .lc2 _ it c _ it1 c1 e _ _ => iV it ++ eV c ++ iV it1 ++ eV c1 ++ eV e
  | .sc _ _ it c e _ => iV it ++ eV c ++ eV e
  | .sc2 _ it c _ it1 c1 e _ _ => iV it ++ eV c ++ iV it1 ++ eV c1 ++ eV e
  | _ => []
def esV : Es → List Nat
  | .nil => []
  | .cons e r => eV e ++ esV r
def eoV : Eo → List Nat
  | .non => []
  | .som e => eV e
def iV : I → List Nat
  | .of e => eV e
  | .rng1 a => eV a
  | .rngd a b c => eV a ++ eV b ++ eV c
  | .rng2 a b => eV a ++ eV b
  | .zip2 a b => eV a ++ eV b
  | .zip3 a b c => eV a ++ eV b ++ eV c
  | .enu a => eV a
end
/-- what may hand on an owned object itself -/
def handsOn : E → Bool
  | .var _ => true
  | .tup _ => true
  | .lst _ => true
  | .mk _ _ => true
  | .bi .list _ => true
  | .ite _ a b => handsOn a || handsOn b
  | .lc _ _ _ _ _ => true
  | .lc2 _ _ _ _ _ _ _ _ _ => true
  | _ => false
def mdOf (M : List Nat) (e : E) : Md := let us := (eV e).filter fun i => M.contains i; ⟨us.eraseDups, !us.isEmpty && !handsOn e⟩
def mdOwn (M : List Nat) (e : E) : Md := ⟨((eV e).filter fun i => M.contains i).eraseDups, false⟩
/-- self.counts = tuple(a) -/
def ptB (c : Cc) (sc : Scope) (f : Str) : Expr → Option E
  | .Call (.Name x _) [a] [] _ => if f = ("counts" : Str) ∧ x = ("tuple" : Str) ∧ glB sc x = true ∧ noStar a = true then (cE c 60 sc a).map E.ptu else none
  | _ => none
def isLc : Expr → Bool
  | .ListComp _ _ _ _ => true
  | .SetComp _ _ _ _ => true
  | .DictComp _ _ _ _ _ => true
  | _ => false
def noSetC : Expr → Bool
  | .SetComp _ _ _ _ => false
  | _ => true
/-- which forms make a new object -/
def frB : Expr → Bool
  | .List _ _ => true
  | .Dict [] [] _ => true
  | .BinOp _ _ _ _ => true
  | .Subscript _ (.Slice _ _ none _) _ => true
  | .Call (.Name x _) [a] [] _ => (decide (x = ("list" : Str)) || (decide (x = ("sorted" : Str)) && noSetC a)) && noSp a
  | .ListComp _ _ _ _ => true
  | _ => false
def swB (sc : Scope) (y : Str) (py : Pos) (scope : Scope) (pos : Pos) : Bool :=
  (match sc.names.lookup y with | some .local => true | _ => false) && py.line == pos.line && !(scope.names.any fun (n, k) => n == y && (k == .local || k == .cell))
def cellB (sc : Scope) (y : Str) : Bool := match sc.names.lookup y with | some .cell => true | _ => false
def localB (sc : Scope) (y : Str) : Bool := match sc.names.lookup y with | some .local => true | _ => false
def notTup : Expr → Bool
  | .Tuple _ _ _ => false
  | _ => true
/-- a, b = x, y: the names stored from the right -/
def swap2 (sc : Scope) (x y : Str) (px py : Pos) (a b : Expr) : Bool :=
  localB sc x && localB sc y && px.line == py.line && decide (x ≠ y) && noStar a && noStar b && !([a, b].all (foldedForSure 8)) && !([a, b].all (constantsAlone 8))
def swap3 (sc : Scope) (x y z : Str) (px py pz : Pos) (a b d : Expr) : Bool :=
  localB sc x && localB sc y && localB sc z && px.line == py.line && px.line == pz.line && decide (x ≠ y) && decide (x ≠ z) && decide (y ≠ z) && noStar a && noStar b && noStar d && !([a, b, d].all (foldedForSure 8)) && !([a, b, d].all (constantsAlone 8))
/-- .. through a tuple: a name among them that is captured, or all of them constants, or more than three -/
def noSwap (sc : Scope) (ts vs : List Expr) : Bool :=
  (!(ts.length == 2 || ts.length == 3)) || (vs.length == ts.length && vs.all noStar && ((ts.any fun t => match t with | .Name x _ => !localB sc x | _ => true) || vs.all (foldedForSure 8)))
mutual
def cS (c : Cc) (M : List Nat) : Nat → Scope → Stmt → S
  | 0, _, _ => .bad
  | n + 1, sc, st => match st with
    | .Assign [.Name y py] e pos =>
      (match ixOf y c.N, cE c 60 sc e with
      | some i, some r => if asgD sc y = true then (match e with
          | .ListComp elt gs scope pos' => if swB sc y py scope pos' = true ∧ localB sc y = true ∧ gs.length ≤ 2 then (if M.contains i then .own i (mdOwn M r) r else .set i (mdOf M r) r) else if cellB sc y = true then .set i (mdOf M r) r else .bad
          | .SetComp _ _ _ _ => .bad
          | .DictComp _ _ _ _ _ => .bad
          | e => if M.contains i = true ∧ frB e = true then .own i (mdOwn M r) r else .set i (mdOf M r) r) else .bad
      | _, _ => .bad)
    | .Assign [.Tuple ts k pt] e pos =>
      (match cTg c.N (asgD sc) 20 (.Tuple ts k pt), cE c 60 sc e with
      | some t, some r => (match e with
          | .Tuple vs _ _ => (match ts, vs with
            | [.Name x px, .Name y py], [a, b] => if swap2 sc x y px py a b = true then .tgt t (mdOf M r) r else if noSwap sc ts vs = true then .tgt t (mdOf M r) r else .bad
            | [.Name x px, .Name y py, .Name z pz], [a, b, d] => if swap3 sc x y z px py pz a b d = true then .tgt t (mdOf M r) r else if noSwap sc ts vs = true then .tgt t (mdOf M r) r else .bad
            | ts, vs => if noSwap sc ts vs = true then .tgt t (mdOf M r) r else .bad)
          | _ => .tgt t (mdOf M r) r)
      | _, _ => .bad)
    | .Assign [.Subscript (.Name y py) ix tp] e pos =>
      (match ixOf y c.N, cE c 60 sc ix, cE c 60 sc e with
      | some i, some x, some r => if visB sc y = true ∧ nameB y = true ∧ plainB ix = true ∧ isLc e = false then .sto i (mdOf M r) x r else .bad
      | _, _, _ => .bad)
    | .Assign [.Attribute (.Name y py) f tp] e pos =>
      (match ixOf y c.N, ixOf f c.ats, cE c 60 sc e with
      | some 0, some k, some r => if visB sc y = true ∧ nameB y = true ∧ isLc e = false then (match ptB c sc f e with
          | some r' => .fld k (mdOf M r') r'
          | none => .fld k (mdOf M r) r) else .bad
      | _, _, _ => .bad)
    | .AugAssign (.Subscript (.Name y py) ix tp) op e pos =>
      (match ixOf y c.N, o2Of op, cE c 60 sc ix, cE c 60 sc e with
      | some i, some o, some x, some r => if visB sc y = true ∧ nameB y = true ∧ plainB ix = true ∧ (o = .add ∨ o = .sub) then .sau i o (mdOf M (.bin .add x r)) x r else .bad
      | _, _, _, _ => .bad)
    | .AugAssign (.Name y py) op e pos =>
      (match ixOf y c.N, o2Of op, cE c 60 sc e with
      | some i, some o, some r => if asgD sc y = true then .aug i o (mdOf M r) r else .bad
      | _, _, _ => .bad)
    | .Expr e pos => (match e with
      | .Constant (.str _) _ _ => .nop
      | .Call (.Attribute (.Name y py) m ap) [a] [] cp =>
        if m = ("append" : Str) ∨ m = ("extend" : Str) then
          (match ixOf y c.N, cE c 60 sc a with
          | some i, some r => if visB sc y = true ∧ nameB y = true ∧ noStar a = true ∧ (ap.endLine == cp.line) = true then (if m = ("append" : Str) then .app i (mdOf M r) r else .ext i (mdOf M r) r) else .bad
          | _, _ => .bad)
        else (match cE c 60 sc e with | some r => .drop (mdOf M r) r | none => .bad)
      | e => if isLc e = true then .bad else (match cE c 60 sc e with | some r => .drop (mdOf M r) r | none => .bad))
    | .Return (some e) _ => (match cE c 60 sc e with | some r => .ret r | none => .bad)
    | .Return none _ => .retN
    | .If t a b _ => (match cE c 60 sc t with
      | some r => if tst 40 t = true then .ife (mdOf M r) r (cL c M n sc a) (cL c M n sc b) else .bad
      | none => .bad)
    | .While t a [] _ => (match cE c 60 sc t with
      | some r => if tst 40 t = true then .whl (mdOf M r) r (cL c M n sc a) else .bad
      | none => .bad)
    | .For tg it a [] _ => (match cTg c.N (asgD sc) 20 tg, cI c 60 sc tg it with
      | some t, some r => if notSet it = true then .for t (((iV r).filter fun i => M.contains i).eraseDups) r (cL c M n sc a) else .bad
      | _, _ => .bad)
    | .Break _ => .brk
    | .Continue _ => .cnt
    | .Pass _ => .nop
    | _ => .bad
def cL (c : Cc) (M : List Nat) : Nat → Scope → List Stmt → S
  | 0, _, _ => .bad
  | n + 1, sc, sts => match sts with
    | [] => .nop
    | st :: r => .seq (cS c M n sc st) (cL c M n sc r)
end
section
variable {X : Cx} {G : Gm} {c : Cc} {mo : Mo} {l : Nat} {sc : Scope} {M : List Nat}
structure YS (X : Cx) (G : Gm) (c : Cc) (mo : Mo) (l : Nat) (sc : Scope) : Prop where
  x : XS X G c mo l sc
  kd : sc.kind = .function
  xe : X.xe = fun _ _ => False
  fn : ∀ y, X.fn y = true
theorem st_bad {st : Stmt} : PS X st (tS G mo .bad) := ps_never.imp fun D σ H h => by
  obtain ⟨S0, base, Z, A, ρ, o, s, e, q⟩ := h
  simp only [ex] at e
  cases e
theorem sts_bad {st : List Stmt} : PSs X st (tS G mo .bad) := pss_never.imp fun D σ H h => by
  obtain ⟨S0, base, Z, A, ρ, o, s, e, q⟩ := h
  simp only [ex] at e
  cases e
theorem asgD_ok (y : YS X G c mo l sc) : ∀ z, asgD sc z = true → Loc X.env.scope z ∧ (X.fn z = true ∨ X.env.scope.names.lookup z = some .local) := by
  intro z h
  rw [y.x.sc]
  refine ⟨?_, .inl (y.fn z)⟩
  unfold asgD at h
  split at h
  · rename_i h1; exact .inl h1
  · rename_i h1; exact .inr h1
  · cases h
theorem swaps_name {e t : Expr} {ln : Nat} {env : Env} (h : isLc e = false) : swapsWith e (some t) ln env = pure false := by
  cases e <;> first | rfl | (cases h)
theorem swaps_none {e : Expr} {ln : Nat} {env : Env} (h : isLc e = false) : swapsWith e none ln env = pure false := by
  cases e <;> first | rfl | (cases h)
theorem localB_of {y : Str} (h : localB sc y = true) : sc.names.lookup y = some .local := by
  unfold localB at h
  split at h
  · assumption
  · cases h
theorem st_setX (y : YS X G c mo l sc) {z : Str} {py pos : Pos} {i : Nat} {m : Md} {e : Expr} {r : E} (hi : ixOf z c.N = some i) (ha : asgD sc z = true) (he : cE c 60 sc e = some r) (hl : isLc e = false) : PS X (.Assign [.Name z py] e pos) (tS G mo (.set i m r)) :=
  st_set_of (ps_set y.x.M.nd (by rw [y.x.N]; exact ixOf_get hi) (asgD_ok y z ha).1 ((snd G c mo l 60).e X sc e r y.x he) (swaps_name hl) (asgD_ok y z ha).2) fun _ _ _ h => h
theorem fr_pe (x : XS X G c mo l sc) {n : Nat} {e : Expr} {r : E} (hf : frB e = true) (hl : isLc e = false) (h : cE c (n + 1) sc e = some r) : PE X e (tF G mo r) := by
  have S := snd G c mo l n
  simp only [cE] at h
  unfold frB at hf
  split at hf
  · obtain ⟨es, h1, rfl⟩ := map_some h
    exact f_lst (S.a X sc _ _ x h1)
  · cases h; exact f_emp false
  · obtain ⟨o, h1, h⟩ := bind_some h
    obtain ⟨ea, h2, h⟩ := bind_some h
    obtain ⟨eb, h3, h⟩ := bind_some h
    cases h
    rw [o2Of_eq h1]
    exact f_bin x.M o (S.e X sc _ _ x h2) (S.e X sc _ _ x h3)
  · obtain ⟨ea, h1, h⟩ := bind_some h
    obtain ⟨el, h2, h⟩ := bind_some h
    obtain ⟨eh, h3, h⟩ := bind_some h
    cases h
    exact f_slc x.M (S.e X sc _ _ x h1) (S.o X sc _ _ x h2) (S.o X sc _ _ x h3)
  · rename_i y p a pos
    dsimp only at h
    split at h
    · rename_i hp
      obtain ⟨hb, hg, hs⟩ := hp
      have hgl := glB_gl (X := X) hg x.sc
      have hs1 : noStar a = true := by simpa using hs
      cases n with
      | zero => simp [cC] at h
      | succ n =>
        have S := snd G c mo l n
        simp only [cC] at h
        rw [Bool.and_eq_true, Bool.or_eq_true] at hf
        obtain ⟨hf, hsp⟩ := hf
        rw [spec_none hsp] at h
        dsimp only at h
        have arg : ∀ {es : Es}, cA c n sc [a] = some es → ∃ ea, es = .cons ea .nil ∧ PE X a (tE G mo ea) := by
          intro es he
          cases n with
          | zero => simp [cA] at he
          | succ n =>
            simp only [cA] at he
            rw [if_pos hs1] at he
            obtain ⟨ea, h1, he⟩ := bind_some he
            obtain ⟨er, h2, he⟩ := bind_some he
            cases he
            rw [cA_nil h2]
            exact ⟨ea, rfl, (snd G c mo l n).e X sc _ _ x h1⟩
        rcases hf with hf | hf
        · have hf := of_decide_eq_true hf
          subst hf
          rw [if_neg (by decide)] at h
          rw [show biOf ("list" : Str) = some BI.list from by decide +kernel] at h
          split at h
          · rename_i z _ a0 b0 _ heq1 heq2
            split at h
            · rename_i hz
              obtain ⟨z1, z2, z3, z4⟩ := hz
              subst z1
              obtain ⟨ea, h1, h⟩ := bind_some h
              obtain ⟨eb, h2, h⟩ := bind_some h
              cases h
              cases heq2
              exact f_lz x.M hgl (glB_gl z2 x.sc) (S.e X sc _ _ x h1) (S.e X sc _ _ x h2) z3 z4
            · obtain ⟨es, h1, rfl⟩ := map_some h
              obtain ⟨ea, rfl, ha⟩ := arg h1
              exact f_list x.M hgl hs1 ha
          · rename_i z _ a0 b0 d0 _ heq1 heq2
            split at h
            · rename_i hz
              obtain ⟨z1, z2, z3, z4, z5⟩ := hz
              subst z1
              obtain ⟨ea, h1, h⟩ := bind_some h
              obtain ⟨eb, h2, h⟩ := bind_some h
              obtain ⟨ed, h3, h⟩ := bind_some h
              cases h
              cases heq2
              exact f_lz3 x.M hgl (glB_gl z2 x.sc) (S.e X sc _ _ x h1) (S.e X sc _ _ x h2) (S.e X sc _ _ x h3) z3 z4 z5
            · obtain ⟨es, h1, rfl⟩ := map_some h
              obtain ⟨ea, rfl, ha⟩ := arg h1
              exact f_list x.M hgl hs1 ha
          · rename_i heq1 heq2
            cases heq1
          · rename_i heq1 heq2
            cases heq1
          · rename_i heq1 heq2
            cases heq1
            obtain ⟨es, h1, rfl⟩ := map_some h
            obtain ⟨ea, rfl, ha⟩ := arg h1
            exact f_list x.M hgl hs1 ha
          all_goals first | (cases h; done) | (rename_i heq1; cases heq1; done) | (rename_i heq1 heq2; first | (cases heq1; done) | (cases heq2; done))
        · rw [Bool.and_eq_true] at hf
          obtain ⟨hf, hns⟩ := hf
          have hf := of_decide_eq_true hf
          subst hf
          rw [if_neg (by decide)] at h
          rw [show biOf ("sorted" : Str) = some BI.sorted from by decide +kernel] at h
          split at h
          · rename_i heq1 heq2
            cases heq1
          · rename_i heq1 heq2
            cases heq1
          · rename_i heq1 heq2
            cases heq2
            cases hns
          · rename_i heq1 heq2
            cases heq2
            cases hns
          · rename_i heq1 heq2
            cases heq1
            obtain ⟨es, h1, rfl⟩ := map_some h
            obtain ⟨ea, rfl, ha⟩ := arg h1
            exact f_sorted x.M hgl hs1 ha
          all_goals first | (cases h; done) | (rename_i heq1; cases heq1; done) | (rename_i heq1 heq2; first | (cases heq1; done) | (cases heq2; done))
    · cases h
  · cases hl
  · cases hf
theorem swB_true {z : Str} {py pos' : Pos} {scope : Scope} {elt : Expr} {gs : List Comprehension} {ln : Nat} (y : YS X G c mo l sc) (h : swB sc z py scope pos' = true) : swapsWith (.ListComp elt gs scope pos') (some (.Name z py)) ln X.env = pure true := by
  unfold swB at h
  rw [Bool.and_eq_true, Bool.and_eq_true] at h
  obtain ⟨⟨h1, h2⟩, h3⟩ := h
  refine sw_true (by rw [y.x.sc]; exact y.kd) ?_ h2 (by simpa using h3)
  rw [y.x.sc]
  split at h1
  · assumption
  · cases h1
theorem st_lcX (y : YS X G c mo l sc) {z : Str} {py pos pos' : Pos} {i : Nat} {elt : Expr} {gs : List Comprehension} {scope : Scope} {n : Nat} {r : E} (hi : ixOf z c.N = some i) (ha : asgD sc z = true) (hl : localB sc z = true) (hsw : swB sc z py scope pos' = true)
    (h : cE c (n + 1) sc (.ListComp elt gs scope pos') = some r) : (∀ m, PS X (.Assign [.Name z py] (.ListComp elt gs scope pos') pos) (tS G mo (.set i m r))) ∧ ∀ m, PS X (.Assign [.Name z py] (.ListComp elt gs scope pos') pos) (tS G mo (.own i m r)) := by
  have S := snd G c mo l n
  have x := y.x
  have hN : X.N[i]? = some z := by rw [x.N]; exact ixOf_get hi
  have hy : X.env.scope.names.lookup z = some .local := by rw [x.sc]; exact localB_of hl
  have iN : i < X.N.length := (List.getElem?_eq_some_iff.mp hN).1
  simp only [cE] at h
  split at h <;> rename_i heq
  all_goals first | (cases heq; done) | skip
  · cases heq
    split at h
    · rename_i hp
      obtain ⟨p1, p2, p3⟩ := hp
      subst p1
      obtain ⟨it, h1, h⟩ := bind_some h
      obtain ⟨t, h2, h⟩ := bind_some h
      obtain ⟨f, h3, h⟩ := bind_some h
      obtain ⟨e, h4, h⟩ := bind_some h
      split at h
      · rename_i hsub
        cases h
        have go := ps_setLc (g := gOf X.K t) (spos := pos) x.M.calm x.M.nd hN hy (swB_true y hsw) (S.i X sc _ _ _ x h1) (by rw [x.N, x.sc]; exact blkOk_by p2) (fun s H C cl fp => pg_of (x.blk s H _ C cl fp) (asgC_ok x s H C cl fp) _ _ _ h2)
              (fun s H C cl fp => S.f _ _ _ _ (x.blk s H _ C cl fp) h3) (fun s H C cl fp => S.e _ _ _ _ (x.blk s H _ C cl fp) h4) (fs_of p3 _)
        exact ⟨fun m => st_set_of go fun σ H Q q => lce_read (all_mem hsub) _ q, fun m => st_own_of go (fun σ H Q q => lcf_read (all_mem hsub) _ q) iN fun _ _ => trivial⟩
      · cases h
    · cases h
  · cases heq
    split at h
    · rename_i hp
      obtain ⟨p1, p1', p2, p3, p4⟩ := hp
      subst p1 p1'
      obtain ⟨it, h1, h⟩ := bind_some h
      obtain ⟨t, h2, h⟩ := bind_some h
      obtain ⟨f, h3, h⟩ := bind_some h
      obtain ⟨i1, h1', h⟩ := bind_some h
      obtain ⟨t1, h2', h⟩ := bind_some h
      obtain ⟨f1, h3', h⟩ := bind_some h
      obtain ⟨e, h4, h⟩ := bind_some h
      split at h
      · rename_i hsub
        cases h
        have hm := all_mem hsub
        have go := ps_setLc2 (g := gOf X.K t) (g1 := gOf X.K t1) (spos := pos) x.M.calm x.M.nd hN hy (swB_true y hsw) (S.i X sc _ _ _ x h1) (by rw [x.N, x.sc]; exact blkOk_by p2) (fun j hj => hm j (List.mem_append_right _ hj)) (fun s H C cl fp => pg_of (x.blk s H _ C cl fp) (asgC_ok x s H C cl fp) _ _ _ h2)
              (fun s H C cl fp => S.f _ _ _ _ (x.blk s H _ C cl fp) h3) (fun s H C cl fp => S.i _ _ _ _ _ (x.blk s H _ C cl fp) h1') (fun s H C cl fp => pg_of (x.blk s H _ C cl fp) (asgC_ok x s H C cl fp) _ _ _ h2')
              (fun s H C cl fp => S.f _ _ _ _ (x.blk s H _ C cl fp) h3') (fun s H C cl fp => S.e _ _ _ _ (x.blk s H _ C cl fp) h4) (fs_of p3 _) (fs_of p4)
        exact ⟨fun m => st_set_of go fun σ H Q q => lc2e_read (fun j hj => hm j (List.mem_append_left _ hj)) (fun j hj => hj) _ q, fun m => st_own_of go (fun σ H Q q => lc2f_read (fun j hj => hm j (List.mem_append_left _ hj)) (fun j hj => hj) _ q) iN fun _ _ => trivial⟩
      · cases h
    · cases h
  all_goals first | (cases h; done) | (cases heq; done) | skip
theorem swN_other {ts : List Expr} {k : Nat} {pt : Pos} {e : Expr} {env : Env} (h : notTup e = true) : swappedStores [.Tuple ts k pt] e env = pure none := by
  cases e <;> first | rfl | (cases h)
theorem blockKind_fn {env : Env} (h : env.scope.kind = .function) : env.blockKind = .function := by unfold Env.blockKind; rw [h]; rfl
theorem any_star : ∀ {vs : List Expr}, vs.all noStar = true → (vs.any fun | .Starred .. => true | _ => false) = false
  | [], _ => rfl
  | v :: vs, h => by
    rw [List.all_cons, Bool.and_eq_true] at h
    rw [List.any_cons, any_star h.2]
    have := h.1
    cases v <;> first | rfl | (cases this)
/-- the names among targets that would be stored from the right -/
def swNames (env : Env) (ts : List Expr) : List Str := ts.filterMap fun
  | .Name id pos => if env.kindOf id == some .local && pos.line == (ts.head?.map (·.pos.line)).getD 0 then some id else none
  | _ => none
theorem swN_eq {ts vs : List Expr} {k k2 : Nat} {pt p2 : Pos} {env : Env} (hb : env.blockKind = .function) : swappedStores [.Tuple ts k pt] (.Tuple vs k2 p2) env =
    (if (!(ts.length == 2 || ts.length == 3) || vs.length != ts.length || env.blockKind != .function) = true then pure none else
      if (vs.any fun | .Starred .. => true | _ => false) = true then pure none else
      if ((swNames env ts).length != ts.length || (swNames env ts).eraseDups.length != (swNames env ts).length) = true then pure none else
      if vs.all (foldedForSure 8) = true then pure none else
      if vs.all (constantsAlone 8) = true then (do unsupported "assign.tuple-of-constant-expressions:order-of-the-stores"; return some (swNames env ts)) else pure (some (swNames env ts))) := by
  unfold swappedStores swNames
  dsimp only
  repeat (first | rfl | (split <;> try simp_all))
theorem localB_kind (x : XS X G c mo l sc) {y : Str} : (X.env.kindOf y == some NameKind.local) = localB sc y := by
  show (X.env.scope.names.lookup y == some NameKind.local) = _
  rw [x.sc]
  unfold localB
  cases h : sc.names.lookup y with
  | none => rfl
  | some k => cases k <;> rfl
theorem noSwap_ok (y : YS X G c mo l sc) {ts vs : List Expr} {k k2 : Nat} {pt p2 : Pos} (h : noSwap sc ts vs = true) : swappedStores [.Tuple ts k pt] (.Tuple vs k2 p2) X.env = pure none := by
  have hb := blockKind_fn (env := X.env) (by rw [y.x.sc]; exact y.kd)
  rw [swN_eq hb]
  unfold noSwap at h
  split
  · rfl
  · rename_i h1
    split
    · rfl
    · split
      · rfl
      · rename_i h3
        rw [Bool.or_eq_true] at h
        rcases h with h | h
        · exact absurd (by rw [h]; rfl) h1
        · rw [Bool.and_eq_true, Bool.and_eq_true, Bool.or_eq_true] at h
          rcases h.2 with h | h
          · exfalso
            apply h3
            have key : ∀ (ln : Nat) (ts : List Expr), (ts.any fun t => match t with | .Name x _ => !localB sc x | _ => true) = true → (ts.filterMap fun
                | .Name id pos => if X.env.kindOf id == some .local && pos.line == ln then some id else none
                | _ => none).length < ts.length := by
              intro ln ts
              induction ts with
              | nil => intro h; cases h
              | cons t r ih =>
                intro h
                have le : ∀ r : List Expr, (r.filterMap fun
                  | .Name id pos => if X.env.kindOf id == some .local && pos.line == ln then some id else none
                  | _ => none).length ≤ r.length := fun r => List.length_filterMap_le _ _
                rw [List.any_cons, Bool.or_eq_true] at h
                rw [List.filterMap_cons]
                rcases h with h | h
                · split
                  · exact Nat.lt_succ_of_le (le r)
                  · rename_i b hb
                    exfalso
                    split at hb
                    · rw [localB_kind y.x] at hb
                      have h : (!localB sc _) = true := h
                      rw [Bool.not_eq_true'] at h
                      rw [h] at hb
                      cases hb
                    · cases hb
                · split
                  · exact Nat.lt_succ_of_lt (ih h)
                  · exact Nat.succ_lt_succ (ih h)
            have := key ((ts.head?.map (·.pos.line)).getD 0) ts h
            rw [Bool.or_eq_true]
            left
            have : (swNames X.env ts).length ≠ ts.length := Nat.ne_of_lt this
            simpa using this
          · rw [if_pos h]
theorem swap2_ok (y : YS X G c mo l sc) {u v : Str} {pu pv pt p2 : Pos} {k k2 : Nat} {a b : Expr} (h : swap2 sc u v pu pv a b = true) : swappedStores [.Tuple [.Name u pu, .Name v pv] k pt] (.Tuple [a, b] k2 p2) X.env = pure (some [u, v]) := by
  have hb := blockKind_fn (env := X.env) (by rw [y.x.sc]; exact y.kd)
  unfold swap2 at h
  simp only [Bool.and_eq_true, decide_eq_true_eq] at h
  obtain ⟨⟨⟨⟨⟨⟨⟨h1, h2⟩, h3⟩, h4⟩, h5⟩, h6⟩, h7⟩, h8⟩ := h
  have e : swNames X.env [.Name u pu, .Name v pv] = [u, v] := by
    unfold swNames
    simp only [List.filterMap_cons, List.filterMap_nil, localB_kind y.x, h1, h2, Bool.true_and]
    have e1 : (pu.line == ((List.head? [Expr.Name u pu, Expr.Name v pv]).map (·.pos.line)).getD 0) = true := by simp [Expr.pos]
    have e2 : (pv.line == ((List.head? [Expr.Name u pu, Expr.Name v pv]).map (·.pos.line)).getD 0) = true := by
      have : pu.line = pv.line := by simpa using h3
      simp [Expr.pos, this]
    rw [e1, e2]
    rfl
  rw [swN_eq hb, e]
  have st : ([a, b].any fun | .Starred .. => true | _ => false) = false := any_star (by simp [h5, h6])
  rw [if_neg (by simp [hb]), st, if_neg (by simp), if_neg ?_, if_neg ?_, if_neg ?_]
  · intro z; rw [z] at h8; cases h8
  · intro z; rw [z] at h7; cases h7
  · have hne : (u == v) = false := by simpa using h4
    have hne2 : (v == u) = false := by simpa using (Ne.symm h4)
    simp [List.eraseDups_cons, hne, hne2]
theorem swap3_ok (y : YS X G c mo l sc) {u v w : Str} {pu pv pw pt p2 : Pos} {k k2 : Nat} {a b d : Expr} (h : swap3 sc u v w pu pv pw a b d = true) : swappedStores [.Tuple [.Name u pu, .Name v pv, .Name w pw] k pt] (.Tuple [a, b, d] k2 p2) X.env = pure (some [u, v, w]) := by
  have hb := blockKind_fn (env := X.env) (by rw [y.x.sc]; exact y.kd)
  unfold swap3 at h
  simp only [Bool.and_eq_true, decide_eq_true_eq] at h
  obtain ⟨⟨⟨⟨⟨⟨⟨⟨⟨⟨⟨⟨h1, h2⟩, h2'⟩, h3⟩, h3'⟩, h4⟩, h4'⟩, h4''⟩, h5⟩, h6⟩, h6'⟩, h7⟩, h8⟩ := h
  have e : swNames X.env [.Name u pu, .Name v pv, .Name w pw] = [u, v, w] := by
    unfold swNames
    simp only [List.filterMap_cons, List.filterMap_nil, localB_kind y.x, h1, h2, h2', Bool.true_and]
    have e1 : (pu.line == ((List.head? [Expr.Name u pu, Expr.Name v pv, Expr.Name w pw]).map (·.pos.line)).getD 0) = true := by simp [Expr.pos]
    have e2 : (pv.line == ((List.head? [Expr.Name u pu, Expr.Name v pv, Expr.Name w pw]).map (·.pos.line)).getD 0) = true := by
      have : pu.line = pv.line := by simpa using h3
      simp [Expr.pos, this]
    have e3 : (pw.line == ((List.head? [Expr.Name u pu, Expr.Name v pv, Expr.Name w pw]).map (·.pos.line)).getD 0) = true := by
      have : pu.line = pw.line := by simpa using h3'
      simp [Expr.pos, this]
    rw [e1, e2, e3]
    rfl
  rw [swN_eq hb, e]
  have st : ([a, b, d].any fun | .Starred .. => true | _ => false) = false := any_star (by simp [h5, h6, h6'])
  rw [if_neg (by simp [hb]), st, if_neg (by simp), if_neg ?_, if_neg ?_, if_neg ?_]
  · intro z; rw [z] at h8; cases h8
  · intro z; rw [z] at h7; cases h7
  · have g1 : (u == v) = false := by simpa using h4
    have g2 : (v == u) = false := by simpa using (Ne.symm h4)
    have g3 : (u == w) = false := by simpa using h4'
    have g4 : (w == u) = false := by simpa using (Ne.symm h4')
    have g5 : (v == w) = false := by simpa using h4''
    have g6 : (w == v) = false := by simpa using (Ne.symm h4'')
    simp [List.eraseDups_cons, g1, g2, g3, g4, g5, g6]
end
end PV
namespace PV
open PySem PySem.Spec PyProof.Rows L2 BK
/-! ### xs[i] op= e, op one of +, -; i from nought on -/
def rGetP (K : PySem.W.Frag) : V → V → Hp → VK → Prop := fun o i H Q => ∃ p xs k v, o = .ref p ∧ i = .int k ∧ SqL K H p xs ∧ 0 ≤ k ∧ xs[k.toNat]? = some v ∧ Q v H
def sauOp : O2 → Operator
  | .add => .Add
  | _ => .Sub
def ipO : O2 → TIp
  | .add => ipI fun i j => i + j
  | _ => ipI fun i j => i - j
section
variable {X : Cx} {G : Gm} {Γ : Nm} {mo : Mo} {n i : Nat} {e : Expr} {ee : E} {m : Md} {pos : Pos}
theorem get_listP : PGet X (rGetP X.K) := by
  intro pins s σ H o i ov iv Q I ro ri h
  obtain ⟨p, xs, k, v, rfl, rfl, hq, h0, hx, q⟩ := h
  cases ro
  obtain ⟨t, rfl⟩ := ri
  obtain ⟨its, r, pl, hz⟩ := I.list hq
  obtain ⟨w, ew, rw'⟩ := r.get hx
  have hn := line63
  have hk : k.toNat < xs.length := (List.getElem?_eq_some_iff.mp hx).1
  exact wpAny_getItem_list pl.isList h0 (by omega) (by simpa using ew) ⟨v, H, I, rw', q⟩
theorem ixN_pos {n : Nat} {i : Int} (h : 0 ≤ i) (hn : i.toNat < n) : ixN n i = some i.toNat := by
  unfold ixN
  rw [if_pos h, if_pos (by omega)]
theorem ip_o (o : O2) : PIp X (sauOp o) (ipO o) := by
  cases o <;> first | exact ip_add | exact ip_sub
theorem st_sau (M : MoOk X G Γ mo n) (o : O2) {x : Str} {px tpos : Pos} {ix : Expr} {ei : E} (hi : X.N[i]? = some x) (hv : Vis X.env.scope x) (hd : (x == ("__debug__" : Str)) = false) (hcd : (x == ("__classdict__" : Str)) = false)
    (hx : PE X ix (tE G mo ei)) (he : PE X e (tE G mo ee)) (hp : plainB ix = true) (ho : o = .add ∨ o = .sub) : PS X (.AugAssign (.Subscript (.Name x px) ix tpos) (sauOp o) e pos) (tS G mo (.sau i o m ei ee)) := by
  have ha : ∀ ov iv new, augStore ix ov iv new = (do holding [new, ov, iv] (setItem ov iv new); release [new, ov, iv] []; pure .next) := by
    intro ov iv new
    cases ix <;> first | rfl | (cases hp)
  refine (ps_augS (pe_var hi hv hd hcd) hx get_listP he (ip_o o) set_list ha).imp fun D σ H h => ?_
  obtain ⟨S0, base, Z, A, ρ, oo, s, e, q⟩ := h
  simp only [ex] at e
  obtain ⟨kx, e1, e⟩ := bind_some e
  obtain ⟨vx, e2, e⟩ := bind_some e
  split at e
  · rename_i xs k y hxs _
    split at e
    · rename_i h0
      split at e
      · rename_i a hxa
        obtain ⟨l, g1, g2, vs, g3, g4⟩ := s.ow i _ hxs
        refine ⟨_, g2, tE_run (s.rv m.us) e1 fun kv H1 e' r1 hk => ?_⟩
        cases hk
        have s1 := s.grow e'
        obtain ⟨l1, f1, f2, vs1, f3, f4⟩ := s1.ow i _ hxs
        rw [g2] at f2
        cases f2
        obtain ⟨va, k1, k2⟩ := f4.get hxa
        cases k2
        refine ⟨l, vs1, k, .int a, rfl, rfl, .inl (.inl f3), h0, k1, tE_run (s1.rv m.us) e2 fun yv H2 e'' r2 hy => ?_⟩
        cases hy
        have s2 := s1.grow e''
        obtain ⟨l2, d1, d2, vs2, d3, d4⟩ := s2.ow i _ hxs
        rw [g2] at d2
        cases d2
        have hk : k.toNat < xs.length := (List.getElem?_eq_some_iff.mp hxa).1
        have fin : ∀ z : Int, EndS G S0 base Z D (.nx (ρ.set i (.ow (.lst (xs.set k.toNat (.int z)))))) → rSetL (.ref l) (.int k) (.int z) H2 fun H6 => D.nx σ H6 := fun z q => by
          refine ⟨l, vs2, k, k.toNat, rfl, rfl, d3, ?_, ?_⟩
          · rw [d4.length]
            exact ixN_pos h0 hk
          · exact q _ _ _ (s2.write hxs d1 (fun _ z => by cases z) ⟨_, upd_same, (d4.set k.toNat (.int z)).move (fun _ n _ => n) (own_ext d3 (.inr ⟨i, d1⟩))⟩ fun _ _ z => by cases z)
        rcases ho with rfl | rfl
        · cases e
          exact ⟨a, y, rfl, rfl, fin _ q⟩
        · cases e
          exact ⟨a, y, rfl, rfl, fin _ q⟩
      · cases e
    · cases e
  · cases e
end
end PV
namespace PV
open PySem PySem.Spec PyProof.Rows L2 BK
section
variable {X : Cx} {G : Gm} {c : Cc} {mo : Mo} {l : Nat} {sc : Scope} {M : List Nat}
/-- the values of a written tuple, stored name by name -/
theorem tup_run {S0 : Addr → Prop} {Z : Zt} {base H : Hp} {A : Ads} {ρ ρ' ρ2 : Ro} {σ : L2.St} {m : Md} {es : Es} {ts : Ts} {d : D} {Q : List V → Hp → Prop} (s : SE G S0 base Z H A ρ σ) (e1 : evM mo m (.tup es) ρ = some (d, ρ')) (e2 : bindS (.tp ts) d ρ' = some ρ2)
    (q : ∀ vs ds H' A', SE G S0 base Z H' A' ρ' σ → RpA G (SA S0 A') H' vs ds → bindSs ts ds ρ' = some ρ2 → Q vs H') : tA G mo es σ H Q := by
  unfold evM at e1
  obtain ⟨d0, e3, e1⟩ := bind_some e1
  simp only [ev] at e3
  obtain ⟨ds, e4, e3⟩ := bind_some e3
  obtain ⟨rfl, _⟩ := gtup_some e3
  refine tA_run (s.rv m.us) e4 fun vs H' e' r hv => ?_
  split at e1
  · split at e1
    · rename_i hf
      cases e1
      simp only [flatD] at hf
      simp only [bindS] at e2
      exact q vs ds H' A (s.grow e') (flats_move (s.grow e').dom hf hv) e2
    · cases e1
  · cases e1
    simp only [bindS] at e2
    exact q vs ds H' _ ((s.grow e').give m.us) hv e2
theorem st_par2X {i j : Nat} {es : Es} {m : Md} {st : Stmt} (h : PS X st (tPar i j (tA G mo es))) : PS X st (tS G mo (.tgt (.tp (.cons (.nm i) (.cons (.nm j) .nil))) m (.tup es))) := h.imp fun D σ H h => by
  obtain ⟨S0, base, Z, A, ρ, o, s, e, q⟩ := h
  simp only [ex] at e
  obtain ⟨⟨d, ρ'⟩, e1, e⟩ := bind_some e
  obtain ⟨ρ2, e2, e⟩ := bind_some e
  cases e
  refine tup_run s e1 e2 fun vs ds H' A' s' hv e3 => ?_
  rcases ds with _ | ⟨d1, _ | ⟨d2, _ | ⟨d3, ds⟩⟩⟩
  · simp [bindS, bindSs] at e3
  · simp [bindS, bindSs] at e3
  · cases hv with
    | cons h1 hr =>
      cases hr with
      | cons h2 hr =>
        cases hr
        simp [bindS, bindSs] at e3
        subst e3
        exact ⟨_, _, rfl, q _ H' _ ((s'.setV h1 i).setV (h2.weak (SA.sub fun k a z => (dropA_some z).1)) j)⟩
  · simp [bindS, bindSs] at e3
theorem st_par3X {i j k : Nat} {es : Es} {m : Md} {st : Stmt} (h : PS X st (tPar3 i j k (tA G mo es))) : PS X st (tS G mo (.tgt (.tp (.cons (.nm i) (.cons (.nm j) (.cons (.nm k) .nil)))) m (.tup es))) := h.imp fun D σ H h => by
  obtain ⟨S0, base, Z, A, ρ, o, s, e, q⟩ := h
  simp only [ex] at e
  obtain ⟨⟨d, ρ'⟩, e1, e⟩ := bind_some e
  obtain ⟨ρ2, e2, e⟩ := bind_some e
  cases e
  refine tup_run s e1 e2 fun vs ds H' A' s' hv e3 => ?_
  rcases ds with _ | ⟨d1, _ | ⟨d2, _ | ⟨d3, _ | ⟨d4, ds⟩⟩⟩⟩
  · simp [bindS, bindSs] at e3
  · simp [bindS, bindSs] at e3
  · simp [bindS, bindSs] at e3
  · cases hv with
    | cons h1 hr =>
      cases hr with
      | cons h2 hr =>
        cases hr with
        | cons h3 hr =>
          cases hr
          simp [bindS, bindSs] at e3
          subst e3
          have w1 : ∀ a, SA S0 (dropA A' i) a → SA S0 A' a := SA.sub fun k a z => (dropA_some z).1
          have w2 : ∀ a, SA S0 (dropA (dropA A' i) j) a → SA S0 (dropA A' i) a := SA.sub fun k a z => (dropA_some z).1
          exact ⟨_, _, _, rfl, q _ H' _ (((s'.setV h1 i).setV (h2.weak w1) j).setV ((h3.weak w1).weak w2) k)⟩
  · simp [bindS, bindSs] at e3
theorem cTg_nm {N : List Str} {asg : Str → Bool} {n : Nat} {x : Str} {p : Pos} {t : T} (h : cTg N asg n (.Name x p) = some t) : ∃ i, t = .nm i ∧ ixOf x N = some i ∧ asg x = true := by
  cases n with
  | zero => simp [cTg] at h
  | succ n =>
    simp only [cTg] at h
    split at h
    · rename_i ha
      obtain ⟨i, h1, rfl⟩ := map_some h
      exact ⟨i, rfl, h1, ha⟩
    · cases h
theorem cTg_tup {N : List Str} {asg : Str → Bool} {n : Nat} {ts : List Expr} {k : Nat} {p : Pos} {t : T} (h : cTg N asg (n + 1) (.Tuple ts k p) = some t) : ∃ rs, ts.mapM (cTg N asg n) = some rs ∧ t = .tp (rs.foldr Ts.cons .nil) := by
  simp only [cTg] at h
  obtain ⟨rs, h1, rfl⟩ := map_some h
  exact ⟨rs, h1, rfl⟩
theorem cE_tup {n : Nat} {vs : List Expr} {k : Nat} {p : Pos} {r : E} (x : XS X G c mo l sc) (h : cE c (n + 1) sc (.Tuple vs k p) = some r) : ∃ es, r = .tup es ∧ PA X vs (tA G mo es) := by
  simp only [cE] at h
  obtain ⟨es, h1, rfl⟩ := map_some h
  exact ⟨es, rfl, (snd G c mo l n).a X sc _ _ x h1⟩
theorem st_tupX (y : YS X G c mo l sc) {ts : List Expr} {k : Nat} {pt pos : Pos} {e : Expr} {t : T} {r : E} {m : Md} (ht : cTg c.N (asgD sc) 20 (.Tuple ts k pt) = some t) (he : cE c 60 sc e = some r) (hw : swappedStores [.Tuple ts k pt] e X.env = pure none) :
    PS X (.Assign [.Tuple ts k pt] e pos) (tS G mo (.tgt t m r)) :=
  st_tgt_of (ps_asg ((snd G c mo l 60).e X sc e r y.x he) (pg_of y.x (asgD_ok y) 20 _ _ ht) (by
    show swapsWith e (some (.Tuple ts k pt)) pos.line X.env = pure false
    exact swap_false fun _ _ z => by cases z) hw rfl) fun _ _ _ h => h
theorem neq_ix {N : List Str} {x y : Str} {i j : Nat} (h : x ≠ y) (h1 : ixOf x N = some i) (h2 : ixOf y N = some j) : i ≠ j := fun e => by
  subst e
  have a := ixOf_get h1
  rw [ixOf_get h2] at a
  exact h (Option.some.inj a).symm
theorem st_swap2 (y : YS X G c mo l sc) {u v : Str} {pu pv pt p2 pos : Pos} {k k2 : Nat} {a b : Expr} {t : T} {r : E} {m : Md} (ht : cTg c.N (asgD sc) 20 (.Tuple [.Name u pu, .Name v pv] k pt) = some t) (he : cE c 60 sc (.Tuple [a, b] k2 p2) = some r) (h : swap2 sc u v pu pv a b = true) :
    PS X (.Assign [.Tuple [.Name u pu, .Name v pv] k pt] (.Tuple [a, b] k2 p2) pos) (tS G mo (.tgt t m r)) := by
  obtain ⟨es, rfl, ha⟩ := cE_tup y.x he
  obtain ⟨rs, h1, rfl⟩ := cTg_tup ht
  obtain ⟨t1, rs1, g1, g2, rfl⟩ := mapM_cons h1
  obtain ⟨t2, rs2, g3, g4, rfl⟩ := mapM_cons g2
  rw [mapM_nil g4]
  obtain ⟨i, rfl, i1, i2⟩ := cTg_nm g1
  obtain ⟨j, rfl, j1, j2⟩ := cTg_nm g3
  have hh := h
  unfold swap2 at hh
  simp only [Bool.and_eq_true, decide_eq_true_eq] at hh
  obtain ⟨⟨⟨⟨⟨⟨⟨h1, h2⟩, h3⟩, h4⟩, h5⟩, h6⟩, h7⟩, h8⟩ := hh
  exact st_par2X (ps_par y.x.M.calm y.x.M.nd (by rw [y.x.N]; exact ixOf_get i1) (by rw [y.x.N]; exact ixOf_get j1) (neq_ix h4 i1 j1) (by rw [y.x.sc]; exact localB_of h1) (by rw [y.x.sc]; exact localB_of h2) ha (swap2_ok y h) (by
    show swapsWith (.Tuple [a, b] k2 p2) (some (.Tuple [.Name u pu, .Name v pv] k pt)) pos.line X.env = pure false
    exact swaps_name rfl))
theorem st_swap3 (y : YS X G c mo l sc) {u v w : Str} {pu pv pw pt p2 pos : Pos} {k k2 : Nat} {a b d : Expr} {t : T} {r : E} {m : Md} (ht : cTg c.N (asgD sc) 20 (.Tuple [.Name u pu, .Name v pv, .Name w pw] k pt) = some t) (he : cE c 60 sc (.Tuple [a, b, d] k2 p2) = some r) (h : swap3 sc u v w pu pv pw a b d = true) :
    PS X (.Assign [.Tuple [.Name u pu, .Name v pv, .Name w pw] k pt] (.Tuple [a, b, d] k2 p2) pos) (tS G mo (.tgt t m r)) := by
  obtain ⟨es, rfl, ha⟩ := cE_tup y.x he
  obtain ⟨rs, h1, rfl⟩ := cTg_tup ht
  obtain ⟨t1, rs1, g1, g2, rfl⟩ := mapM_cons h1
  obtain ⟨t2, rs2, g3, g4, rfl⟩ := mapM_cons g2
  obtain ⟨t3, rs3, g5, g6, rfl⟩ := mapM_cons g4
  rw [mapM_nil g6]
  obtain ⟨i, rfl, i1, i2⟩ := cTg_nm g1
  obtain ⟨j, rfl, j1, j2⟩ := cTg_nm g3
  obtain ⟨q, rfl, q1, q2⟩ := cTg_nm g5
  have hh := h
  unfold swap3 at hh
  simp only [Bool.and_eq_true, decide_eq_true_eq] at hh
  obtain ⟨⟨⟨⟨⟨⟨⟨⟨⟨⟨⟨⟨h1, h2⟩, h2'⟩, h3⟩, h3'⟩, h4⟩, h4'⟩, h4''⟩, h5⟩, h6⟩, h6'⟩, h7⟩, h8⟩ := hh
  exact st_par3X (ps_par3 y.x.M.calm y.x.M.nd (by rw [y.x.N]; exact ixOf_get i1) (by rw [y.x.N]; exact ixOf_get j1) (by rw [y.x.N]; exact ixOf_get q1) (neq_ix h4 i1 j1) (neq_ix h4' i1 q1) (neq_ix h4'' j1 q1)
    (by rw [y.x.sc]; exact localB_of h1) (by rw [y.x.sc]; exact localB_of h2) (by rw [y.x.sc]; exact localB_of h2') ha (swap3_ok y h) (by
    show swapsWith (.Tuple [a, b, d] k2 p2) (some (.Tuple [.Name u pu, .Name v pv, .Name w pw] k pt)) pos.line X.env = pure false
    exact swaps_name rfl))
theorem swC_false {z : Str} {py pos' : Pos} {scope : Scope} {elt : Expr} {gs : List Comprehension} {ln : Nat} (y : YS X G c mo l sc) (h : cellB sc z = true) : swapsWith (.ListComp elt gs scope pos') (some (.Name z py)) ln X.env = pure false := by
  have e : (X.env.kindOf z == some .local) = false := by
    have h2 : X.env.scope.names.lookup z = some .cell := by
      rw [y.x.sc]
      unfold cellB at h
      split at h
      · assumption
      · cases h
    show (X.env.scope.names.lookup z == some .local) = false
    rw [h2]; rfl
  show (pure (X.env.blockKind == .function && X.env.kindOf z == some .local && py.line == pos'.line && !(scope.names.any fun (n, k) => n == z && (k == .local || k == .cell))) : Sem Bool) = pure false
  rw [e, Bool.and_false]
  rfl
theorem st_cellX (y : YS X G c mo l sc) {z : Str} {py pos pos' : Pos} {i : Nat} {m : Md} {elt : Expr} {gs : List Comprehension} {scope : Scope} {r : E} (hi : ixOf z c.N = some i) (ha : asgD sc z = true) (hc : cellB sc z = true) (he : cE c 60 sc (.ListComp elt gs scope pos') = some r) :
    PS X (.Assign [.Name z py] (.ListComp elt gs scope pos') pos) (tS G mo (.set i m r)) := by
  have hN : X.N[i]? = some z := by rw [y.x.N]; exact ixOf_get hi
  exact st_set_of (ps_set y.x.M.nd hN (asgD_ok y z ha).1 ((snd G c mo l 60).e X sc _ _ y.x he) (swC_false y hc) (asgD_ok y z ha).2) fun _ _ _ h => h
theorem st_ownX (y : YS X G c mo l sc) {z : Str} {py pos : Pos} {i : Nat} {m : Md} {e : Expr} {r : E} (hi : ixOf z c.N = some i) (ha : asgD sc z = true) (he : cE c 60 sc e = some r) (hl : isLc e = false) (hf : frB e = true) : PS X (.Assign [.Name z py] e pos) (tS G mo (.own i m r)) := by
  have hN : X.N[i]? = some z := by rw [y.x.N]; exact ixOf_get hi
  exact st_own_of (ps_set y.x.M.nd hN (asgD_ok y z ha).1 (fr_pe y.x hf hl he) (swaps_name hl) (asgD_ok y z ha).2) (fun _ _ _ h => h) (List.getElem?_eq_some_iff.mp hN).1 fun _ _ => trivial
theorem st_augX (y : YS X G c mo l sc) {z : Str} {py pos : Pos} {i : Nat} {m : Md} {e : Expr} {r : E} {op : Operator} {o : O2} (hi : ixOf z c.N = some i) (ho : o2Of op = some o) (he : cE c 60 sc e = some r) (ha : asgD sc z = true) : PS X (.AugAssign (.Name z py) op e pos) (tS G mo (.aug i o m r)) := by
  rw [o2Of_eq ho]
  exact st_aug y.x.M o (by rw [y.x.N]; exact ixOf_get hi) (asgD_ok y z ha).1 ((snd G c mo l 60).e X sc _ _ y.x he) (asgD_ok y z ha).2
theorem pt_ok {f : Str} {e : Expr} {r : E} (S : Snd G c mo l 60) (x : XS X G c mo l sc) (h : ptB c sc f e = some r) : PE X e (tE G mo r) := by
  unfold ptB at h
  split at h
  · split at h
    · rename_i hh
      obtain ⟨_, h2, h3, h4⟩ := hh
      subst h2
      obtain ⟨ea, h5, rfl⟩ := map_some h
      exact s_ptu x.M (glB_gl h3 x.sc) h4 (S.e X sc _ _ x h5)
    · cases h
  · cases h
theorem snd_s (G : Gm) (c : Cc) (mo : Mo) (l : Nat) (M : List Nat) : ∀ n, (∀ (X : Cx) (sc : Scope) (st : Stmt), YS X G c mo l sc → PS X st (tS G mo (cS c M n sc st))) ∧ (∀ (X : Cx) (sc : Scope) (sts : List Stmt), YS X G c mo l sc → PSs X sts (tS G mo (cL c M n sc sts))) := by
  intro n
  induction n with
  | zero => exact ⟨fun X sc st y => by simp only [cS]; exact st_bad, fun X sc st y => by simp only [cL]; exact sts_bad⟩
  | succ n ih =>
    refine ⟨fun X sc st y => ?_, fun X sc sts y => ?_⟩
    · have hp : PassesOwn (model X.prog X.w) X.A X.env X.xe := by rw [y.xe]; exact PassesOwn.never
      have S := snd G c mo l 60
      simp only [cS]
      split
      · -- name = e
        split
        · split
          · rename_i ha
            split
            · split
              · rename_i hh
                split
                · exact (st_lcX y (by assumption) ha hh.2.1 hh.1 (by assumption)).2 _
                · exact (st_lcX y (by assumption) ha hh.2.1 hh.1 (by assumption)).1 _
              · split
                · exact st_cellX y (by assumption) ha (by assumption) (by assumption)
                · exact st_bad
            · exact st_bad
            · exact st_bad
            · have hl : ∀ e : Expr, (∀ a b c d, e = .ListComp a b c d → False) → (∀ a b c d, e = .SetComp a b c d → False) → (∀ a b c d f, e = .DictComp a b c d f → False) → isLc e = false := by
                intro e n1 n2 n3
                cases e <;> first | rfl | exact (n1 _ _ _ _ rfl).elim | exact (n2 _ _ _ _ rfl).elim | exact (n3 _ _ _ _ _ rfl).elim
              have hl := hl _ (by assumption) (by assumption) (by assumption)
              split
              · rename_i hf
                exact st_ownX y (by assumption) ha (by assumption) hl hf.2
              · exact st_setX y (by assumption) ha (by assumption) hl
          · exact st_bad
        · exact st_bad
      · -- a, b = e
        split
        · split
          · split
            · split
              · rename_i hs; exact st_swap2 y (by assumption) (by assumption) hs
              · split
                · rename_i hs; exact st_tupX y (by assumption) (by assumption) (noSwap_ok y hs)
                · exact st_bad
            · split
              · rename_i hs; exact st_swap3 y (by assumption) (by assumption) hs
              · split
                · rename_i hs; exact st_tupX y (by assumption) (by assumption) (noSwap_ok y hs)
                · exact st_bad
            · split
              · rename_i hs; exact st_tupX y (by assumption) (by assumption) (noSwap_ok y hs)
              · exact st_bad
          · have hn : ∀ e : Expr, (∀ a b c, e = .Tuple a b c → False) → notTup e = true := by
              intro e n
              cases e <;> first | rfl | exact (n _ _ _ rfl).elim
            exact st_tupX y (by assumption) (by assumption) (swN_other (hn _ (by assumption)))
        · exact st_bad
      · -- o[i] = e
        split
        · split
          · rename_i hh
            obtain ⟨h1, h2, h3, h4⟩ := hh
            exact st_sto y.x.M (by rw [y.x.N]; exact ixOf_get (by assumption)) (visB_vis h1 y.x.sc) (nameB_of h2).1 (nameB_of h2).2 (S.e X sc _ _ y.x (by assumption)) (S.e X sc _ _ y.x (by assumption)) h3
          · exact st_bad
        · exact st_bad
      · -- self.f = e
        split
        · split
          · rename_i hh
            obtain ⟨h1, h2, h4⟩ := hh
            split
            · rename_i r' hpt
              exact st_fld y.x.M (an_ix y.x.an (by assumption)) (by rw [y.x.N]; exact ixOf_get (by assumption)) (visB_vis h1 y.x.sc) (nameB_of h2).1 (nameB_of h2).2 (pt_ok S y.x hpt)
            · exact st_fld y.x.M (an_ix y.x.an (by assumption)) (by rw [y.x.N]; exact ixOf_get (by assumption)) (visB_vis h1 y.x.sc) (nameB_of h2).1 (nameB_of h2).2 (S.e X sc _ _ y.x (by assumption))
          · exact st_bad
        · exact st_bad
      · -- o[i] op= e
        split
        · split
          · rename_i o _ _ _ ho _ _ hh
            obtain ⟨h1, h2, h3, h4⟩ := hh
            have eo := o2Of_eq ho
            rw [eo]
            have es : opOf o = sauOp o := by rcases h4 with rfl | rfl <;> rfl
            rw [es]
            exact st_sau y.x.M o (by rw [y.x.N]; exact ixOf_get (by assumption)) (visB_vis h1 y.x.sc) (nameB_of h2).1 (nameB_of h2).2 (S.e X sc _ _ y.x (by assumption)) (S.e X sc _ _ y.x (by assumption)) h3 h4
          · exact st_bad
        · exact st_bad
      · -- name op= e
        split
        · split
          · rename_i ha
            exact st_augX y (by assumption) (by assumption) (by assumption) ha
          · exact st_bad
        · exact st_bad
      · -- an expression
        split
        · exact ps_doc.imp fun D σ H h => by
            obtain ⟨S0, base, Z, A, ρ, o, s, e, q⟩ := h
            simp only [ex] at e
            cases e
            exact q σ H A s
        · split
          · rename_i hm
            split
            · split
              · rename_i hh
                obtain ⟨h1, h2, h3, h4⟩ := hh
                split
                · rename_i e; subst e
                  exact st_app y.x.M (by rw [y.x.N]; exact ixOf_get (by assumption)) (visB_vis h1 y.x.sc) (nameB_of h2).1 (nameB_of h2).2 (S.e X sc _ _ y.x (by assumption)) h3 h4
                · rename_i e
                  have e2 := hm.resolve_left e
                  subst e2
                  exact st_ext y.x.M (by rw [y.x.N]; exact ixOf_get (by assumption)) (visB_vis h1 y.x.sc) (nameB_of h2).1 (nameB_of h2).2 (S.e X sc _ _ y.x (by assumption)) h3 h4
              · exact st_bad
            · exact st_bad
          · split
            · exact st_drop (S.e X sc _ _ y.x (by assumption)) rfl
            · exact st_bad
        · split
          · exact st_bad
          · rename_i hl
            split
            · exact st_drop (S.e X sc _ _ y.x (by assumption)) (swaps_none (by simpa using hl))
            · exact st_bad
      · split
        · exact st_ret (S.e X sc _ _ y.x (by assumption))
        · exact st_bad
      · exact st_retN
      · split
        · split
          · rename_i ht; exact st_if (S.t X sc _ _ _ y.x (by assumption) ht) (ih.2 X sc _ y) (ih.2 X sc _ y)
          · exact st_bad
        · exact st_bad
      · split
        · split
          · rename_i ht; exact st_while hp (S.t X sc _ _ _ y.x (by assumption) ht) (ih.2 X sc _ y)
          · exact st_bad
        · exact st_bad
      · split
        · split
          · rename_i hs
            exact st_for y.x.M hp (S.i X sc _ _ _ y.x (by assumption)) (pg_of y.x (asgD_ok y) 20 _ _ (by assumption)) (ih.2 X sc _ y) (fs_of hs _)
          · exact st_bad
        · exact st_bad
      · exact st_brk
      · exact st_cnt
      · exact st_pass
      · exact st_bad
    · simp only [cL]
      split
      · exact st_nil
      · exact st_cons (ih.1 X sc _ y) (ih.2 X sc _ y)
end
end PV
namespace PV
open PySem PySem.Spec PyProof.Rows L2 BK
/-! ### defs -/
def runF (mo : Mo) (nl np : Nat) (b : S) (ds : List D) : Option D :=
  if ds.length = np then match ex mo b (ds.map Sl.va ++ List.replicate (nl - np) Sl.no) with
    | some (.rt d) => some d
    | some (.nx _) => some .non
    | _ => none
  else none
def objAt (ρ : Ro) : Option D := match ρ with
  | .ow (.obj c fs) :: _ => some (.obj c fs)
  | _ => none
def runI (mo : Mo) (nl np c : Nat) (b : S) (ds : List D) : Option D :=
  if ds.length + 1 = np then match ex mo b (Sl.ow (.obj c []) :: (ds.map Sl.va ++ List.replicate (nl - np) Sl.no)) with
    | some (.nx ρ) => (match objAt ρ with | some (.obj c' fs) => if c' = c then some (.obj c fs) else none | _ => none)
    | _ => none
  else none
section
variable {P : Program} {w : World} {K : PySem.W.Frag} {mg : Str → Option Value} {base : Heap} {G : Gm} {c : Cc} {mo : Mo} {l : Nat}
/-- the module's facts, wherever one stands -/
def MoG (P : Program) (w : World) (K : PySem.W.Frag) (mg : Str → Option Value) (base : Heap) (G : Gm) (Γ : Nm) (mo : Mo) (l : Nat) : Prop :=
  ∀ X : Cx, X.prog = P → X.w = w → X.K = K → X.mg = mg → X.base = base → X.calm = true → X.N.Nodup → Room (l + 2) X.A → MoOk X G Γ mo l
theorem start_get {N : List Str} {vs : List V} {i : Nat} {v : V} (h : vs[i]? = some v) : (L2.start N vs)[i]? = some (some v) := by
  unfold L2.start
  have hl : i < vs.length := (List.getElem?_eq_some_iff.mp h).1
  rw [List.getElem?_append_left (by simpa using hl), List.getElem?_map, h]
  rfl
theorem start_len {N : List Str} {vs : List V} : (L2.start N vs).length = vs.length + (N.length - vs.length) := by
  unfold L2.start
  simp
theorem init_va {ds : List D} {k i : Nat} {d : D} (h : (ds.map Sl.va ++ List.replicate k Sl.no)[i]? = some (.va d)) : ds[i]? = some d := by
  rcases Nat.lt_or_ge i (ds.map Sl.va).length with hl | hl
  · rw [List.getElem?_append_left hl, List.getElem?_map] at h
    cases e : ds[i]? with
    | none => rw [e] at h; cases h
    | some x => rw [e] at h; cases h; rfl
  · rw [List.getElem?_append_right hl, List.getElem?_replicate] at h
    split at h <;> cases h
theorem init_ow {ds : List D} {k i : Nat} {d : D} (h : (ds.map Sl.va ++ List.replicate k Sl.no)[i]? = some (.ow d)) : False := by
  rcases Nat.lt_or_ge i (ds.map Sl.va).length with hl | hl
  · rw [List.getElem?_append_left hl, List.getElem?_map] at h
    cases e : ds[i]? with
    | none => rw [e] at h; cases h
    | some x => rw [e] at h; cases h
  · rw [List.getElem?_append_right hl, List.getElem?_replicate] at h
    split at h <;> cases h
theorem fn_ok {x qual : Str} {st : Stmt} {f : Addr} {fd : FuncData} {N ps : List Str} (F : Fun K x qual st f fd) (Sc : FnScope N ps (defScope st)) (hG : MoG P w K mg base G c.Γ mo l) (hN : c.N = N) (han : ∀ k, G.an k = anOf c.ats k) (M : List Nat) (n : Nat) :
    FnOk P w K mg base CX0 (l + 3) f fd ps (spD G ps.length (runF mo N.length ps.length (cL c M n (defScope st) (defBody st)))) := by
  refine F.ok Sc (fun vs H Q E h => h.1) (fun cdv A outer s H vs Q E hr h => ?_)
  have hpl : ps.length ≤ N.length := by have := congrArg List.length Sc.pre; rw [List.length_take] at this; omega
  obtain ⟨hl, S, ds, d, dom, hA, e, q⟩ := h
  have xs : XS (cxOf CX0 P w K mg base N qual (defScope st) f cdv A outer s H E).nox G c mo l (defScope st) :=
    ⟨hG _ rfl rfl rfl rfl rfl rfl Sc.nd hr, hN.symm, rfl, han⟩
  have ys : YS (cxOf CX0 P w K mg base N qual (defScope st) f cdv A outer s H E).nox G c mo l (defScope st) := ⟨xs, Sc.kind, rfl, fun _ => rfl⟩
  refine ⟨_, (snd_s G c mo l M n).2 _ _ _ ys, ?_⟩
  unfold runF at e
  split at e
  · rename_i hds
    have se : SE G S H ((fun _ => False), none) H (fun _ => none) (ds.map Sl.va ++ List.replicate (N.length - ps.length) Sl.no) (L2.start N vs) := by
      refine ⟨by rw [start_len]; simp [hA.length, hds], dom, Same.refl _, fun a z => z.elim, fun i a z => (by cases z), fun i j a z => (by cases z), fun i a z => (by cases z), fun i d h => ?_, fun i d h => (init_ow h).elim, fun x z => by cases z⟩
      obtain ⟨v, h1, h2⟩ := hA.get (init_va h)
      exact ⟨v, start_get h1, h2.weak fun a z => z.elim id fun ⟨_, z⟩ => by cases z⟩
    split at e
    · rename_i d0 he
      cases e
      exact ⟨S, H, _, _, _, _, se, he, fun v H' s h => q v H' s h⟩
    · rename_i ρ' he
      cases e
      exact ⟨S, H, _, _, _, _, se, he, fun σ' H' A' s' => q .non H' s'.same .non⟩
    · cases e
  · cases e
def cutA (H : Hp) (x : Addr) : Hp := fun b => if b = x then none else H b
theorem init_ok {x qual : Str} {st : Stmt} {f : Addr} {fd : FuncData} {N ps : List Str} {k : Nat} (F : Fun K x qual st f fd) (Sc : FnScope N ps (defScope st)) (hG : MoG P w K mg base G c.Γ mo l) (hN : c.N = N) (han : ∀ k, G.an k = anOf c.ats k) (M : List Nat) (n : Nat) :
    FnOk P w K mg base CX0 (l + 3) f fd ps (spI G ps.length k (runI mo N.length ps.length k (cL c M n (defScope st) (defBody st)))) := by
  refine F.ok Sc (fun vs H Q E h => h.1) (fun cdv A outer s H vs Q E hr h => ?_)
  have hpl : ps.length ≤ N.length := by have := congrArg List.length Sc.pre; rw [List.length_take] at this; omega
  obtain ⟨hl, S, x, C, dx, ws, ds, fs, rfl, dom, nx, gc, hx, hA, e, q⟩ := h
  have xs : XS (cxOf CX0 P w K mg base N qual (defScope st) f cdv A outer s H E).nox G c mo l (defScope st) :=
    ⟨hG _ rfl rfl rfl rfl rfl rfl Sc.nd hr, hN.symm, rfl, han⟩
  have ys : YS (cxOf CX0 P w K mg base N qual (defScope st) f cdv A outer s H E).nox G c mo l (defScope st) := ⟨xs, Sc.kind, rfl, fun _ => rfl⟩
  refine ⟨_, (snd_s G c mo l M n).2 _ _ _ ys, ?_⟩
  unfold runI at e
  split at e
  · rename_i hds
    have base0 : ∀ b o, cutA H x b = some o → b ≠ x ∧ H b = some o := by
      intro b o h
      unfold cutA at h
      split at h
      · cases h
      · rename_i n; exact ⟨n, h⟩
    have ofb : ∀ b o, b ≠ x → H b = some o → cutA H x b = some o := by
      intro b o n h
      unfold cutA
      rw [if_neg n]; exact h
    have se : SE G S (cutA H x) ((fun _ => False), some x) H (fun i => if i = 0 then some x else none) (Sl.ow (.obj k []) :: (ds.map Sl.va ++ List.replicate (N.length - ps.length) Sl.no)) (L2.start N (V.ref x :: ws)) := by
      have sa : ∀ a, SA S (fun i => if i = 0 then some x else none) a → S a ∨ a = x := by
        intro a z
        rcases z with z | ⟨i, z⟩
        · exact .inl z
        · dsimp only at z
          split at z
          · cases z; exact .inr rfl
          · cases z
      refine ⟨by rw [start_len]; simp [hA.length]; rw [← hds]; omega, fun a z => ?_, fun b o h => (base0 b o h).2, fun a z => z.elim, fun i a z => ?_, fun i j a z1 z2 => ?_, fun i a z => ?_, fun i d h => ?_, fun i d h => ?_, fun y hy c' fs' h => ?_⟩
      · obtain ⟨o, h1, h2⟩ := dom a z
        exact ⟨o, ofb a o (fun e => nx (e ▸ z)) h1, h2⟩
      · split at z
        · cases z; unfold cutA; rw [if_pos rfl]
        · cases z
      · split at z1
        · split at z2
          · rename_i e1 e2; rw [e1, e2]
          · cases z2
        · cases z1
      · split at z
        · rename_i e1; subst e1; exact ⟨_, rfl⟩
        · cases z
      · cases i with
        | zero => cases h
        | succ i =>
          obtain ⟨v, h1, h2⟩ := hA.get (init_va (by simpa using h))
          exact ⟨v, start_get (by simpa using h1), h2.weak sa⟩
      · cases i with
        | zero =>
          cases h
          exact ⟨x, rfl, start_get rfl, C, dx, [], hx, gc, .nil⟩
        | succ i => exact (init_ow (by simpa using h)).elim
      · cases hy; rfl
    split at e
    · rename_i ρ' he
      unfold objAt at e
      split at e
      · rename_i heq
        split at heq
        · rename_i c2 fs2 r
          cases heq
          split at e
          · rename_i hc
            subst hc
            cases e
            refine ⟨S, _, _, _, _, _, se, he, fun σ' H' A' s' => ?_⟩
            have hp := s'.pin x rfl _ _ rfl
            obtain ⟨a, h1, h2, h3⟩ := s'.ow 0 _ rfl
            rw [hp] at h1
            cases h1
            refine q H' (fun b o n h => s'.same _ _ (ofb b o n h)) ((h3.weak fun a z => .inl z).rp nx)
          · cases e
        · cases heq
      · cases e
    · cases e
  · cases e
end
end PV
namespace PV
open PySem PySem.Spec PyProof.Rows L2 BK
/-! ### a program as a table -/
/-- a def: where it stands (a name of the module; a class and a method), its text, its names (the parameters first), how many parameters, its term -/
structure Df where
  at_ : Str × Option Str
  name : Str
  qual : Str
  st : Stmt
  N : List Str
  np : Nat
  tm : S
def Df.ps (d : Df) : List Str := d.N.take d.np
def Df.fnd (d : Df) : He.FnD := ⟨d.at_, d.name, d.qual, defArgs d.st, defBody d.st, defScope d.st⟩
structure Tb where
  ats : List Str
  fns : List Df
  cls : List (Str × List Str × Option Df)
  mes : List ((Nat × Nat) × Df)
  isi : List ((Ty × Ty) × Bool)
  imps : List (Str × String)
  cints : List (Str × Int)
  cstrs : List (Str × Str)
  ctups : List (Str × List Int)
def numbered {α : Type} (f : α → Str) : Nat → List α → List (Str × Nat)
  | _, [] => []
  | n, a :: r => (f a, n) :: numbered f (n + 1) r
theorem numbered_mem {α : Type} {f : α → Str} {x : Str} {k : Nat} : ∀ {l : List α} {n : Nat}, (x, k) ∈ numbered f n l → ∃ i a, k = n + i ∧ l[i]? = some a ∧ x = f a
  | [], _, h => by cases h
  | a :: r, n, h => by
    rcases List.mem_cons.mp (show (x, k) ∈ (f a, n) :: numbered f (n + 1) r from h) with h | h
    · cases h; exact ⟨0, a, rfl, rfl, rfl⟩
    · obtain ⟨i, b, h1, h2, h3⟩ := numbered_mem h
      exact ⟨i + 1, b, by omega, by simpa using h2, h3⟩
def Tb.Γ (t : Tb) : Nm := ⟨t.imps, numbered (fun d : Df => d.at_.1) 0 t.fns, numbered (fun c : Str × List Str × Option Df => c.1) 0 t.cls,
  t.cints.map (fun p => (p.1, E.cint p.2)) ++ (t.cstrs.map (fun p => (p.1, E.cstr p.2)) ++ t.ctups.map fun p => (p.1, E.cktp p.2))⟩
def Tb.G (t : Tb) (K : PySem.W.Frag) : Gm := ⟨K, fun c => (t.cls[c]?).map fun q => He.ga K q.1, anOf t.ats⟩
def Tb.cc (t : Tb) (d : Df) : Cc := ⟨t.Γ, t.ats, d.N⟩
def Df.muts (d : Df) : List Nat := (mutS 60 (defBody d.st)).filterMap fun x => ixOf x d.N
def Tb.comp (t : Tb) (d : Df) : S := cL (t.cc d) d.muts 60 (defScope d.st) (defBody d.st)
def Tb.all (t : Tb) : List Df := t.fns ++ (t.cls.filterMap (fun c => c.2.2) ++ t.mes.map (·.2))
def Tb.fl (t : Tb) (c k : Nat) : Bool := match t.cls[c]? with
  | some q => match t.ats[k]? with
    | some x => q.2.1.contains x
    | none => false
  | none => false
def lookT {α : Type} (p : α → Bool) : List (α × Bool) → Option Bool
  | [] => none
  | x :: r => if p x.1 = true then some x.2 else lookT p r
theorem lookT_mem {α : Type} {p : α → Bool} {b : Bool} : ∀ {l : List (α × Bool)}, lookT p l = some b → ∃ a, (a, b) ∈ l ∧ p a = true
  | [], h => by cases h
  | x :: r, h => by
    unfold lookT at h
    split at h
    · rename_i e; cases h; exact ⟨x.1, List.mem_cons_self, e⟩
    · obtain ⟨a, h1, h2⟩ := lookT_mem h
      exact ⟨a, List.mem_cons_of_mem _ h1, h2⟩
def Tb.isiO (t : Tb) (a b : Ty) : Option Bool := lookT (fun p : Ty × Ty => decide (p = (a, b))) t.isi
def findM (c m : Nat) : List ((Nat × Nat) × Df) → Option Df
  | [] => none
  | x :: r => if x.1.1 = c ∧ x.1.2 = m then some x.2 else findM c m r
theorem findM_mem {c m : Nat} {d : Df} : ∀ {l : List ((Nat × Nat) × Df)}, findM c m l = some d → ((c, m), d) ∈ l
  | [], h => by cases h
  | x :: r, h => by
    unfold findM at h
    split at h
    · rename_i e; cases h
      obtain ⟨⟨a, b⟩, d⟩ := x
      obtain ⟨rfl, rfl⟩ := e
      exact List.mem_cons_self
    · exact List.mem_cons_of_mem _ (findM_mem h)
def Df.run (mo : Mo) (d : Df) : List D → Option D := runF mo d.N.length d.np d.tm
def Df.runI (mo : Mo) (c : Nat) (d : Df) : List D → Option D := PV.runI mo d.N.length d.np c d.tm
def Tb.mo (t : Tb) : Nat → Mo
  | 0 => ⟨fun _ _ => none, fun _ _ => none, fun _ _ _ => none, t.isiO, t.fl⟩
  | n + 1 => ⟨fun k => match t.fns[k]? with
      | some d => d.run (t.mo n)
      | none => fun _ => none,
    fun c => match t.cls[c]? with
      | some q => match q.2.2 with
        | some d => d.runI (t.mo n) c
        | none => fun _ => none
      | none => fun _ => none,
    fun c m => match findM c m t.mes with
      | some d => d.run (t.mo n)
      | none => fun _ => none, t.isiO, t.fl⟩
/-! ### what is looked up in the text alone -/
def kindB (sc : Scope) (x : Str) : Bool := match sc.names.lookup x with
  | some .local => true
  | some .cell => true
  | _ => false
def scB (N : List Str) (np : Nat) (sc : Scope) : Bool := decide (sc.kind = .function) && (!sc.isCoroutine && (!sc.isGenerator && (decide N.Nodup && (decide (np ≤ N.length) && ((N.take np).all (kindB sc) && sc.names.all fun y => match y.2 with
  | .free => false
  | _ => true)))))
theorem ba {a b : Bool} (h : (a && b) = true) : a = true ∧ b = true := Bool.and_eq_true_iff.mp h
theorem scB_ok {N : List Str} {np : Nat} {sc : Scope} (h : scB N np sc = true) : FnScope N (N.take np) sc ∧ np ≤ N.length := by
  obtain ⟨h1, h⟩ := ba h
  obtain ⟨h2, h⟩ := ba h
  obtain ⟨h3, h⟩ := ba h
  obtain ⟨h4, h⟩ := ba h
  obtain ⟨h5, h⟩ := ba h
  obtain ⟨h6, h7⟩ := ba h
  have hl := of_decide_eq_true h5
  refine ⟨⟨of_decide_eq_true h1, by simpa using h2, by simpa using h3, of_decide_eq_true h4, ?_, fun x hx => ?_, fun y hy e => ?_⟩, hl⟩
  · rw [List.length_take, Nat.min_eq_left hl]
  · have z := List.all_eq_true.mp h6 x hx
    unfold kindB at z
    split at z
    · rename_i e; exact .inl e
    · rename_i e; exact .inr e
    · cases z
  · have z := List.all_eq_true.mp h7 y hy
    rw [e] at z
    cases z
def atF (d : Df) : Bool := match d.at_.2 with
  | none => true
  | some _ => false
def atM (x m : Str) (d : Df) : Bool := decide (d.at_.1 = x) && match d.at_.2 with
  | none => false
  | some y => decide (y = m)
def Tb.stat (t : Tb) : Bool := decide t.ats.Nodup && (t.ats.all (fun x => decide (x.cps.size < 1000)) && (decide (t.ats[0]? = some ("__len__" : Str)) && (decide (t.ats[1]? = some ("__eq__" : Str)) && (decide (t.ats[2]? = some ("__getitem__" : Str)) &&
  (t.all.all (fun d => scB d.N d.np (defScope d.st)) && (t.fns.all atF && (t.cls.all (fun q => match q.2.2 with
    | some d => atM q.1 "__init__" d
    | none => true) && t.mes.all fun p => match t.cls[p.1.1]?, t.ats[p.1.2]? with
      | some q, some m => atM q.1 m p.2
      | _, _ => false)))))))
/-! ### what is looked up behind the top -/
def neB (K : PySem.W.Frag) (C : Addr) : Bool := He.eqO (PySem.W.findIn K (.ref C) "__ne__") (some (some (.builtin "object.__ne__"))) && (match K.lookup C with
  | some ⟨.type ty, dd, .cls cd, sl⟩ => decide (ty = "type") && (!cd.hasDel && (match cd.mro, sl.toList with
    | .ref a :: bm, [_, _, _, _, some (.builtin _), _] => decide (a = C) && bm.contains (.type "object")
    | _, _ => false))
  | _ => false)
def isiB (G : Gm) (p : (Ty × Ty) × Bool) : Bool := match tyVal G p.1.1, tyVal G p.1.2 with
  | some u, some v => decide (PySem.W.kitOne G.K u v = some p.2)
  | _, _ => false
def defB (K : PySem.W.Frag) (d : Df) : Bool := PySem.W.keepIn K (.ref (He.fAd K d.at_)) && (He.Fa.code d.at_ d.qual).ok K
def clsB (K : PySem.W.Frag) (q : Str × List Str × Option Df) : Bool := (He.Fa.glo q.1).ok K && ((He.Fa.cls q.1).ok K && (He.eqO (PySem.W.findIn K (.ref (He.ga K q.1)) "__class__") (some (some (.builtin "object.__class__"))) &&
  (decide (PySem.W.mroIn K (He.ga K q.1) (.type "object") = some true) && (q.2.1.all (fun f => (He.Fa.noat q.1 f).ok K) && match q.2.2 with
    | some _ => (He.Fa.mkr q.1).ok K
    | none => true))))
def mesB (t : Tb) (K : PySem.W.Frag) (p : (Nat × Nat) × Df) : Bool := match t.cls[p.1.1]?, t.ats[p.1.2]? with
  | some q, some m => (He.Fa.meth q.1 m).ok K && (PySem.W.fnIn K (He.ma K (He.ga K q.1) m) && (decide (p.1.2 ≠ 1) || neB K (He.ga K q.1)))
  | _, _ => false
def Tb.okB (t : Tb) (K : PySem.W.Frag) : Bool := t.imps.all (fun p => He.eqO (PySem.W.nsIn K mainGlobals p.1) (some (some (.builtin p.2)))) && (BN.all (fun x => (He.Fa.free x).ok K) && (t.fns.all (fun d => (He.Fa.glo d.at_.1).ok K) && (t.cls.all (clsB K) && (t.mes.all (mesB t K) && (t.isi.all (isiB (t.G K)) && (t.cints.all (fun p => (He.Fa.int p.1 p.2).ok K) && (t.cstrs.all (fun p => (He.Fa.str p.1 p.2).ok K) &&
  (t.ctups.all (fun p => (He.Fa.glo p.1).ok K && He.tupB K p.1 (p.2.map He.Dv.int)) && (He.eqO (PySem.W.specialIn K (.builtin "object.__class__") "__get__") (some (some (.builtin "getset_descriptor.__get__"))) && (decide (PySem.W.takesIn K (.builtin "object.__class__") = some true) && t.all.all (defB K)))))))))))
/-! ### the Hook -/
abbrev AlP : Type := Bool × List He.FnV
def obsP (t : Tb) (K : PySem.W.Frag) : AlP := (t.okB K, t.all.map fun d => He.fnObs K d.at_)
def valP (t : Tb) : AlP := (true, t.all.map fun d => d.fnd.val)
def SaysP (t : Tb) (K : PySem.W.Frag) : Prop := obsP t K = valP t
def obsPG (n : Nat) (t : Tb) (g : Addr → Option Obj) : AlP := obsP t (He.frG g (He.asG g n))
def hookP (n : Nat) (t : Tb) : PySem.W.Hook where
  α := AlP
  obs := fun s => obsPG n t s.heap.get?
  val := fun _ => valP t
  says := fun _ h => ∃ K : PySem.W.Frag, K.In h ∧ SaysP t K
  of := fun _ _ e => ⟨_, He.frG_in, e⟩
  keeps := fun _ _ _ ⟨K, hK, c⟩ k => ⟨K, PySem.W.Frag.In.keeps hK k, c⟩
theorem obsPG_eq {n : Nat} {t : Tb} {g : Addr → Option Obj} {s : Shared} (h : ∀ a, g a = s.heap.get? a) : obsPG n t g = (hookP n t).obs s := by
  have e : g = s.heap.get? := funext h
  rw [e] <;> rfl
end PV
namespace PV
open PySem PySem.Spec PyProof.Rows L2 BK
theorem pad_inj {i j : Nat} (h : pad i = pad j) : i = j := by
  have e : (pad i).cps.size = (pad j).cps.size := by rw [h]
  simp [pad] at e
  exact e
theorem anOf_inj {ats : List Str} (nd : ats.Nodup) (sm : ∀ x ∈ ats, x.cps.size < 1000) {i j : Nat} (h : anOf ats i = anOf ats j) : i = j := by
  have ps : ∀ k, (pad k).cps.size = 1000 + k := fun k => by simp [pad]
  unfold anOf at h
  cases e1 : ats[i]? with
  | none =>
    cases e2 : ats[j]? with
    | none => rw [e1, e2] at h; exact pad_inj h
    | some y =>
      rw [e1, e2] at h
      dsimp only at h
      have := sm y (List.mem_of_getElem? e2)
      rw [← h, ps] at this
      omega
  | some x =>
    cases e2 : ats[j]? with
    | none =>
      rw [e1, e2] at h
      dsimp only at h
      have := sm x (List.mem_of_getElem? e1)
      rw [h, ps] at this
      omega
    | some y =>
      rw [e1, e2] at h
      dsimp only at h
      subst h
      exact (List.getElem?_inj (List.getElem?_eq_some_iff.mp e1).1 nd).mp (e1.trans e2.symm)
theorem neB_ok {K : PySem.W.Frag} {C : Addr} (h : neB K C = true) : NeX K C := by
  obtain ⟨h1, h⟩ := ba h
  refine ⟨He.eqO_ok h1, ?_⟩
  cases q : K.lookup C with
  | none => rw [q] at h; cases h
  | some o =>
    obtain ⟨oc, dd, dt, sl⟩ := o
    rw [q] at h
    cases oc with
    | type ty =>
      cases dt with
      | cls cd =>
        obtain ⟨nm, bs, mro, ns, qn, hd, sn, sub, ab, col, hdl⟩ := cd
        obtain ⟨h2, h⟩ := ba h
        obtain ⟨h3, h⟩ := ba h
        have e2 : ty = "type" := of_decide_eq_true h2
        have e3 : hdl = false := by simpa using h3
        subst e2 e3
        obtain ⟨sl⟩ := sl
        dsimp only at h
        split at h
        · obtain ⟨_, h⟩ := ba h
          obtain ⟨_, h⟩ := ba h
          obtain ⟨h4, h5⟩ := ba h
          have ea := of_decide_eq_true h4
          subst ea
          exact ⟨nm, qn, ns, bs, _, hd, sn, sub, ab, col, dd, _, _, _, _, _, _, rfl, h5⟩
        · cases h
      | _ => cases h
    | _ => cases h
/-- how arguments bind -/
def BindOk (d : Df) : Prop := ∀ (kV doc pm : Value) (an : Option Addr) (cdv ct : Value) (us : List Value), us.length = d.ps.length →
  bindArgs (PySem.W.fnOf d.name d.qual (defArgs d.st) (defBody d.st) (defScope d.st) .none kV doc pm an cdv ct) ⟨us, []⟩ = pure (d.ps.zip us)
structure Facts (t : Tb) (K : PySem.W.Frag) : Prop where
  st : t.stat = true
  ok : t.okB K = true
  fn : ∀ d ∈ t.all, He.fnObs K d.at_ = d.fnd.val
  bi : ∀ d ∈ t.all, BindOk d
  tm : ∀ d ∈ t.all, d.tm = t.comp d
theorem says_fn {t : Tb} {K : PySem.W.Frag} (c : SaysP t K) : ∀ d ∈ t.all, He.fnObs K d.at_ = d.fnd.val := by
  have e : t.all.map (fun d => He.fnObs K d.at_) = t.all.map fun d => d.fnd.val := congrArg (fun z : AlP => z.2) c
  intro d hd
  obtain ⟨i, hi⟩ := List.getElem?_of_mem hd
  have e2 : (t.all.map fun d => He.fnObs K d.at_)[i]? = (t.all.map fun d => d.fnd.val)[i]? := by rw [e]
  rw [List.getElem?_map, List.getElem?_map, hi] at e2
  exact Option.some.inj e2
section
variable {P : Program} {w : World} {K : PySem.W.Frag} {mg : Str → Option Value} {base h : Heap} {t : Tb}
theorem Facts.stat (F : Facts t K) : t.ats.Nodup ∧ (∀ x ∈ t.ats, x.cps.size < 1000) ∧ t.ats[0]? = some ("__len__" : Str) ∧ t.ats[1]? = some ("__eq__" : Str) ∧ t.ats[2]? = some ("__getitem__" : Str) ∧
    (∀ d ∈ t.all, scB d.N d.np (defScope d.st) = true) ∧ (∀ d ∈ t.fns, atF d = true) ∧ (∀ q ∈ t.cls, ∀ d, q.2.2 = some d → atM q.1 "__init__" d = true) ∧
    ∀ p ∈ t.mes, ∃ q m, t.cls[p.1.1]? = some q ∧ t.ats[p.1.2]? = some m ∧ atM q.1 m p.2 = true := by
  obtain ⟨h1, h⟩ := ba F.st
  obtain ⟨h2, h⟩ := ba h
  obtain ⟨h3, h⟩ := ba h
  obtain ⟨h4, h⟩ := ba h
  obtain ⟨h5, h⟩ := ba h
  obtain ⟨h6, h⟩ := ba h
  obtain ⟨h7, h⟩ := ba h
  obtain ⟨h8, h9⟩ := ba h
  refine ⟨of_decide_eq_true h1, fun x hx => of_decide_eq_true (List.all_eq_true.mp h2 x hx), of_decide_eq_true h3, of_decide_eq_true h4, of_decide_eq_true h5,
    fun d hd => List.all_eq_true.mp h6 d hd, fun d hd => List.all_eq_true.mp h7 d hd, fun q hq d e => ?_, fun p hp => ?_⟩
  · have z := List.all_eq_true.mp h8 q hq
    rw [e] at z
    exact z
  · have z := List.all_eq_true.mp h9 p hp
    split at z
    · rename_i q m e1 e2; exact ⟨q, m, e1, e2, z⟩
    · cases z
structure OkB (t : Tb) (K : PySem.W.Frag) : Prop where
  imp : ∀ p ∈ t.imps, He.eqO (PySem.W.nsIn K mainGlobals p.1) (some (some (.builtin p.2))) = true
  bn : ∀ x ∈ BN, (He.Fa.free x).ok K = true
  fns : ∀ d ∈ t.fns, (He.Fa.glo d.at_.1).ok K = true
  cls : ∀ q ∈ t.cls, clsB K q = true
  mes : ∀ p ∈ t.mes, mesB t K p = true
  isi : ∀ p ∈ t.isi, isiB (t.G K) p = true
  cints : ∀ p ∈ t.cints, (He.Fa.int p.1 p.2).ok K = true
  cstrs : ∀ p ∈ t.cstrs, (He.Fa.str p.1 p.2).ok K = true
  ctups : ∀ p ∈ t.ctups, ((He.Fa.glo p.1).ok K && He.tupB K p.1 (p.2.map He.Dv.int)) = true
  o1 : PySem.W.specialIn K (.builtin "object.__class__") "__get__" = some (some (.builtin "getset_descriptor.__get__"))
  o2 : PySem.W.takesIn K (.builtin "object.__class__") = some true
  defs : ∀ d ∈ t.all, defB K d = true
theorem Facts.okb (F : Facts t K) : OkB t K := by
  obtain ⟨h0, h⟩ := ba F.ok
  obtain ⟨h1, h⟩ := ba h
  obtain ⟨h2, h⟩ := ba h
  obtain ⟨h3, h⟩ := ba h
  obtain ⟨h4, h⟩ := ba h
  obtain ⟨h5, h⟩ := ba h
  obtain ⟨h6, h⟩ := ba h
  obtain ⟨h7, h⟩ := ba h
  obtain ⟨h8, h⟩ := ba h
  obtain ⟨h9, h⟩ := ba h
  obtain ⟨h10, h11⟩ := ba h
  exact ⟨List.all_eq_true.mp h0, List.all_eq_true.mp h1, List.all_eq_true.mp h2, List.all_eq_true.mp h3, List.all_eq_true.mp h4, List.all_eq_true.mp h5, List.all_eq_true.mp h6, List.all_eq_true.mp h7, List.all_eq_true.mp h8, He.eqO_ok h9, of_decide_eq_true h10, List.all_eq_true.mp h11⟩
theorem Facts.fun_ (F : Facts t K) {d : Df} (hd : d ∈ t.all) : ∃ fd, Fun K d.name d.qual d.st (He.fAd K d.at_) fd ∧ Binds K fd d.ps [] ∧ PySem.W.keepIn K (.ref (He.fAd K d.at_)) = true := by
  obtain ⟨h1, h2⟩ := ba (F.okb.defs d hd)
  obtain ⟨oc, od, osl, kV, doc, pm, an, cdv, ct, l, c⟩ := He.fn_ok (d := d.fnd) (F.fn d hd) h2
  have fm : Fun K d.name d.qual d.st (He.fAd K d.at_) _ := fun_mk l c h1
  exact ⟨_, fm, fm.binds (F.bi d hd), h1⟩
theorem mem_fns {d : Df} (h : d ∈ t.fns) : d ∈ t.all := List.mem_append_left _ h
theorem mem_cls {q : Str × List Str × Option Df} {d : Df} (h : q ∈ t.cls) (e : q.2.2 = some d) : d ∈ t.all :=
  List.mem_append_right _ (List.mem_append_left _ (List.mem_filterMap.mpr ⟨q, h, e⟩))
theorem mem_mes {p : (Nat × Nat) × Df} (h : p ∈ t.mes) : p.2 ∈ t.all :=
  List.mem_append_right _ (List.mem_append_right _ (List.mem_map.mpr ⟨p, h, rfl⟩))
theorem none_spD {G : Gm} {n : Nat} {vs : List V} {H : Hp} {Q : VK} {E : XK} (h : spD G n (fun _ => none) vs H Q E) : False := by
  obtain ⟨_, _, _, _, _, _, e, _⟩ := h; cases e
theorem none_spI {G : Gm} {n c : Nat} {vs : List V} {H : Hp} {Q : VK} {E : XK} (h : spI G n c (fun _ => none) vs H Q E) : False := by
  obtain ⟨_, _, _, _, _, _, _, _, _, _, _, _, _, _, e, _⟩ := h; cases e
theorem runF_ar {mo : Mo} {d : Df} {ds : List D} {r : D} (h : d.run mo ds = some r) : ds.length = d.np := by
  unfold Df.run runF at h
  split at h
  · assumption
  · cases h
theorem runI_ar {mo : Mo} {c : Nat} {d : Df} {ds : List D} {r : D} (h : d.runI mo c ds = some r) : ds.length + 1 = d.np ∧ ∃ fs, r = .obj c fs := by
  unfold Df.runI runI at h
  split at h
  · rename_i e
    refine ⟨e, ?_⟩
    split at h
    · split at h
      · split at h
        · cases h; exact ⟨_, rfl⟩
        · cases h
      · cases h
    · cases h
  · cases h
/-- the promises of the table's defs at a level -/
structure AtL (P : Program) (w : World) (K : PySem.W.Frag) (mg : Str → Option Value) (base : Heap) (t : Tb) (mo : Mo) (n : Nat) : Prop where
  fn : ∀ k d, t.fns[k]? = some d → (∀ fd, Fun K d.name d.qual d.st (He.fAd K d.at_) fd → FnOk P w K mg base CX0 n (He.fAd K d.at_) fd d.ps (spD (t.G K) d.ps.length (mo.fn k))) ∧ (∀ ds r, mo.fn k ds = some r → ds.length = d.ps.length)
  ini : ∀ c q d, t.cls[c]? = some q → q.2.2 = some d → ∃ fd, FnOk P w K mg base CX0 n (He.fAd K d.at_) fd d.ps (spI (t.G K) d.ps.length c (mo.mkD c)) ∧ (∀ ds r, mo.mkD c ds = some r → ds.length + 1 = d.ps.length ∧ ∃ fs, r = .obj c fs) ∧ Binds K fd d.ps []
  inin : ∀ c, (∀ q, t.cls[c]? = some q → q.2.2 = none) → ∀ ds, mo.mkD c ds = none
  me : ∀ c m d, findM c m t.mes = some d → ∃ fd, FnOk P w K mg base CX0 n (He.fAd K d.at_) fd d.ps (spD (t.G K) d.ps.length (mo.me c m)) ∧ (∀ ds r, mo.me c m ds = some r → ds.length = d.ps.length) ∧ Binds K fd d.ps [] ∧ PySem.W.keepIn K (.ref (He.fAd K d.at_)) = true
  men : ∀ c m, findM c m t.mes = none → ∀ ds, mo.me c m ds = none
  isi : mo.isi = t.isiO
  fl : mo.fl = t.fl
theorem Facts.ps (F : Facts t K) {d : Df} (hd : d ∈ t.all) : FnScope d.N d.ps (defScope d.st) ∧ d.ps.length = d.np := by
  obtain ⟨h1, h2⟩ := scB_ok (F.stat.2.2.2.2.2.1 d hd)
  exact ⟨h1, by unfold Df.ps; rw [List.length_take, Nat.min_eq_left h2]⟩
theorem fad_f {d : Df} (h : atF d = true) : He.fAd K d.at_ = He.ga K d.at_.1 := by
  obtain ⟨⟨x, m⟩, _, _, _, _, _, _⟩ := d
  cases m with
  | none => rfl
  | some m => cases h
theorem fad_m {d : Df} {x m : Str} (h : atM x m d = true) : He.fAd K d.at_ = He.ma K (He.ga K x) m := by
  obtain ⟨⟨y, z⟩, _, _, _, _, _, _⟩ := d
  obtain ⟨h1, h2⟩ := ba h
  have e1 : y = x := of_decide_eq_true h1
  cases z with
  | none => cases h2
  | some z =>
    have e2 : z = m := of_decide_eq_true h2
    subst e1 e2
    rfl
theorem Facts.moOk (F : Facts t K) (KX : K.In h) (hn : h.Ns mainGlobals mg) {mo : Mo} {n : Nat} (A : AtL P w K mg base t mo n) : MoG P w K mg base (t.G K) t.Γ mo n := by
  intro X eP ew eK em eb ec nd rm
  obtain ⟨s1, s2, s3, s4, s5, s6, s7, s8, s9⟩ := F.stat
  have ok := F.okb
  have an_at : ∀ {k : Nat} {x : Str}, t.ats[k]? = some x → (t.G K).an k = x := fun {k x} e => by
    show anOf t.ats k = x
    unfold anOf; rw [e]
  have gcl : ∀ {c : Nat} {C : Addr}, (t.G K).cls c = some C → ∃ q, t.cls[c]? = some q ∧ C = He.ga K q.1 := fun {c C} e => by
    have e : (t.cls[c]?).map (fun q => He.ga K q.1) = some C := e
    cases e1 : t.cls[c]? with
    | none => rw [e1] at e; cases e
    | some q => rw [e1] at e; cases e; exact ⟨q, rfl, rfl⟩
  have clsb : ∀ {q}, q ∈ t.cls → (He.Fa.glo q.1).ok K = true ∧ (He.Fa.cls q.1).ok K = true ∧ PySem.W.findIn K (.ref (He.ga K q.1)) "__class__" = some (some (.builtin "object.__class__")) ∧ PySem.W.mroIn K (He.ga K q.1) (.type "object") = some true ∧
      (∀ f ∈ q.2.1, (He.Fa.noat q.1 f).ok K = true) ∧ ∀ d, q.2.2 = some d → (He.Fa.mkr q.1).ok K = true := fun {q} hq => by
    obtain ⟨h1, h⟩ := ba (ok.cls q hq)
    obtain ⟨h2, h⟩ := ba h
    obtain ⟨h3, h⟩ := ba h
    obtain ⟨h4, h⟩ := ba h
    obtain ⟨h5, h6⟩ := ba h
    refine ⟨h1, h2, He.eqO_ok h3, of_decide_eq_true h4, List.all_eq_true.mp h5, fun d e => ?_⟩
    rw [e] at h6
    exact h6
  refine ⟨eK, ec, nd, rm, fun x hx => em ▸ He.free_ok KX hn (ok.bn x hx), an_at s3, an_at s4, an_at s5, fun i j e => anOf_inj s1 s2 e, fun x id hm => em ▸ PySem.W.mg_of KX hn (He.eqO_ok (ok.imp _ hm)), fun x k hm => ?_, fun x c hm => ?_, fun c C e => ?_, fun c C k e hf => ?_, fun c m ds d e => ?_, fun a c b e => ?_, fun x e he => ?_⟩
  · obtain ⟨i, d, e1, e2, e3⟩ := numbered_mem hm
    have e1 : k = i := by omega
    subst e1 e3
    have hd := List.mem_of_getElem? e2
    obtain ⟨fd, f0, f3, f4⟩ := F.fun_ (mem_fns hd)
    obtain ⟨f1, f2⟩ := A.fn k d e2
    have f1 := f1 fd f0
    refine ⟨He.fAd K d.at_, fd, d.ps, ⟨?_, f2, ?_, ?_⟩, ?_⟩
    · rw [eP, ew, eK, em, eb]; exact f1
    · rw [eK]; exact f3
    · rw [eK]; exact f4
    · rw [em, fad_f (s7 d hd)]
      exact He.glo_ok KX hn (ok.fns d hd)
  · obtain ⟨i, q, e1, e2, e3⟩ := numbered_mem hm
    have e1 : c = i := by omega
    subst e1 e3
    have hq := List.mem_of_getElem? e2
    obtain ⟨c1, c2, c3, c4, c5, c6⟩ := clsb hq
    refine ⟨He.ga K q.1, ?_, em ▸ He.glo_ok KX hn c1, fun ⟨ds, r, hr⟩ => ?_⟩
    · show (t.cls[c]?).map _ = _
      rw [e2]; rfl
    · cases ed : q.2.2 with
      | none => rw [A.inin c fun q' e' => by rw [e2] at e'; cases e'; exact ed] at hr; cases hr
      | some d =>
        obtain ⟨fd, f1, f2, f3⟩ := A.ini c q d e2 ed
        refine ⟨He.fAd K d.at_, fd, d.ps, ?_, ⟨?_, f2, ?_⟩⟩
        · rw [eK, fad_m (s8 q hq d ed)]
          exact He.mkr_ok (c6 d ed)
        · rw [eP, ew, eK, em, eb]; exact f1
        · rw [eK]; exact f3
  · obtain ⟨q, e1, rfl⟩ := gcl e
    obtain ⟨c1, c2, c3, c4, c5, c6⟩ := clsb (List.mem_of_getElem? e1)
    rw [eK]
    exact ⟨He.cls_ok c2, c3, ok.o1, ok.o2, c4⟩
  · obtain ⟨q, e1, rfl⟩ := gcl e
    obtain ⟨c1, c2, c3, c4, c5, c6⟩ := clsb (List.mem_of_getElem? e1)
    rw [A.fl] at hf
    unfold Tb.fl at hf
    rw [e1] at hf
    dsimp only at hf
    cases e2 : t.ats[k]? with
    | none => rw [e2] at hf; cases hf
    | some x =>
      rw [e2] at hf
      rw [eK, an_at e2]
      exact He.noat_ok (c5 x (by simpa using hf))
  · cases ef : findM c m t.mes with
    | none => rw [A.men c m ef] at e; cases e
    | some df =>
      obtain ⟨fd, f1, f2, f3, f4⟩ := A.me c m df ef
      have hp := findM_mem ef
      obtain ⟨q, x, e1, e2, e3⟩ := s9 _ hp
      have hm := ok.mes _ hp
      unfold mesB at hm
      dsimp only at e1 e2 hm
      rw [e1, e2] at hm
      obtain ⟨h1, hm⟩ := ba hm
      obtain ⟨h2, h3⟩ := ba hm
      refine ⟨He.ga K q.1, He.fAd K df.at_, fd, df.ps, ?_, ⟨?_, f2, ?_, ?_⟩, ?_, ?_, fun em1 => ?_⟩
      · show (t.cls[c]?).map _ = _
        rw [e1]; rfl
      · rw [eP, ew, eK, em, eb]; exact f1
      · rw [eK]; exact f3
      · rw [eK]; exact f4
      · rw [eK, an_at e2, fad_m e3]; exact He.meth_ok h1
      · rw [eK, fad_m e3]; exact h2
      · rw [eK]
        rcases Bool.or_eq_true_iff.mp h3 with z | z
        · exact absurd em1 (of_decide_eq_true z)
        · exact neB_ok z
  · rw [A.isi] at e
    obtain ⟨p, h1, h2⟩ := lookT_mem e
    have h2 : p = (a, c) := of_decide_eq_true h2
    subst h2
    have z := ok.isi _ h1
    unfold isiB at z
    dsimp only at z
    split at z
    · rename_i u v e1 e2
      exact ⟨u, v, e1, e2, by rw [eK]; exact of_decide_eq_true z⟩
    · cases z
  · rcases List.mem_append.mp he with he | he
    · obtain ⟨p, hp, ep⟩ := List.mem_map.mp he
      cases ep
      show ∃ t, X.mg _ = _
      rw [em]
      exact He.int_ok KX hn (ok.cints p hp)
    · rcases List.mem_append.mp he with he | he
      · obtain ⟨p, hp, ep⟩ := List.mem_map.mp he
        cases ep
        show ∃ t, X.mg _ = _
        rw [em]
        exact He.str_ok KX hn (ok.cstrs p hp)
      · obtain ⟨p, hp, ep⟩ := List.mem_map.mp he
        cases ep
        obtain ⟨z1, z2⟩ := ba (ok.ctups p hp)
        refine ⟨He.ga K p.1, em ▸ He.glo_ok KX hn z1, ?_⟩
        have z := He.tupB_ok z2 none_H
        rw [List.map_map] at z
        exact z
theorem Facts.at0 (F : Facts t K) : AtL P w K mg base t (t.mo 0) 0 := by
  refine ⟨fun k d e => ?_, fun c q d e1 e2 => ?_, fun c _ ds => rfl, fun c m d e => ?_, fun c m _ ds => rfl, rfl, rfl⟩
  · exact ⟨fun fd f1 => ⟨fun vs H Q E h => h.1, fun A o s H args us vs Q E _ _ _ _ h => (none_spD h).elim⟩, fun ds r e => (by cases e)⟩
  · obtain ⟨fd, f1, f2, f3⟩ := F.fun_ (mem_cls (List.mem_of_getElem? e1) e2)
    exact ⟨fd, ⟨fun vs H Q E h => h.1, fun A o s H args us vs Q E _ _ _ _ h => (none_spI h).elim⟩, fun ds r e => (by cases e), f2⟩
  · obtain ⟨fd, f1, f2, f3⟩ := F.fun_ (mem_mes (findM_mem e))
    exact ⟨fd, ⟨fun vs H Q E h => h.1, fun A o s H args us vs Q E _ _ _ _ h => (none_spD h).elim⟩, fun ds r e => (by cases e), f2, f3⟩
theorem Facts.step (F : Facts t K) (KX : K.In h) (hn : h.Ns mainGlobals mg) {n l : Nat} (A : AtL P w K mg base t (t.mo n) l) : AtL P w K mg base t (t.mo (n + 1)) (l + 3) := by
  have hG := F.moOk KX hn A
  refine ⟨fun k d e => ?_, fun c q d e1 e2 => ?_, fun c hc ds => ?_, fun c m d e => ?_, fun c m e ds => ?_, rfl, rfl⟩
  · have hd := mem_fns (List.mem_of_getElem? e)
    obtain ⟨sc, sl⟩ := F.ps hd
    have em : (t.mo (n + 1)).fn k = runF (t.mo n) d.N.length d.ps.length (t.comp d) := by
      show (match t.fns[k]? with
        | some d => d.run (t.mo n)
        | none => fun _ => none) = _
      rw [e, sl, ← F.tm d hd]; rfl
    rw [em]
    refine ⟨fun fd f1 => fn_ok (c := t.cc d) f1 sc hG rfl (fun k => rfl) d.muts 60, fun ds r er => ?_⟩
    unfold runF at er
    split at er
    · assumption
    · cases er
  · have hd := mem_cls (List.mem_of_getElem? e1) e2
    obtain ⟨fd, f1, f2, f3⟩ := F.fun_ hd
    obtain ⟨sc, sl⟩ := F.ps hd
    have em : (t.mo (n + 1)).mkD c = runI (t.mo n) d.N.length d.ps.length c (t.comp d) := by
      show (match t.cls[c]? with
        | some q => match q.2.2 with
          | some d => d.runI (t.mo n) c
          | none => fun _ => none
        | none => fun _ => none) = _
      rw [e1]
      dsimp only
      rw [e2, sl, ← F.tm d hd]; rfl
    have em2 : (t.mo (n + 1)).mkD c = d.runI (t.mo n) c := by
      rw [em, sl, ← F.tm d hd]; rfl
    refine ⟨fd, ?_, fun ds r er => ?_, f2⟩
    · rw [em]
      exact init_ok (c := t.cc d) f1 sc hG rfl (fun k => rfl) d.muts 60
    · rw [em2] at er
      rw [sl]
      exact runI_ar er
  · show (match t.cls[c]? with
        | some q => match q.2.2 with
          | some d => d.runI (t.mo n) c
          | none => fun _ => none
        | none => fun _ => none) ds = none
    cases e1 : t.cls[c]? with
    | none => rfl
    | some q => dsimp only; rw [hc q e1]
  · have hd := mem_mes (findM_mem e)
    obtain ⟨fd, f1, f2, f3⟩ := F.fun_ hd
    obtain ⟨sc, sl⟩ := F.ps hd
    have em : (t.mo (n + 1)).me c m = runF (t.mo n) d.N.length d.ps.length (t.comp d) := by
      show (match findM c m t.mes with
        | some d => d.run (t.mo n)
        | none => fun _ => none) = _
      rw [e]
      dsimp only
      rw [sl, ← F.tm d hd]; rfl
    rw [em]
    refine ⟨fd, fn_ok (c := t.cc d) f1 sc hG rfl (fun k => rfl) d.muts 60, fun ds r er => ?_, f2, f3⟩
    unfold runF at er
    split at er
    · assumption
    · cases er
  · show (match findM c m t.mes with
        | some d => d.run (t.mo n)
        | none => fun _ => none) ds = none
    rw [e]
theorem Facts.at_ (F : Facts t K) (KX : K.In h) (hn : h.Ns mainGlobals mg) : ∀ n, AtL P w K mg base t (t.mo n) (3 * n)
  | 0 => F.at0
  | n + 1 => F.step KX hn (F.at_ KX hn n)
/-- the law's def, k-th of the table -/
theorem Facts.law (F : Facts t K) (KX : K.In h) (hn : h.Ns mainGlobals mg) {n k : Nat} {d : Df} {f : Addr} (e : t.fns[k]? = some d) (hf : mg d.at_.1 = some (.ref f)) (hnp : d.ps = [("script" : Str)]) :
    ∃ fd : FuncData, (∀ (s : Shared) (v : Value), BindsTo s fd ⟨[v], []⟩ [("script", v)]) ∧ ∀ base : Heap, FnOk P w K mg base CX0 (3 * n) f fd ["script"] (spD (t.G K) 1 ((t.mo n).fn k)) := by
  have hd := mem_fns (List.mem_of_getElem? e)
  have ef : He.fAd K d.at_ = f := by
    have z := He.glo_ok KX hn (F.okb.fns d (List.mem_of_getElem? e))
    rw [← fad_f (F.stat.2.2.2.2.2.2.1 d (List.mem_of_getElem? e)), hf] at z
    cases z; rfl
  obtain ⟨fd, f0, f3, f4⟩ := F.fun_ hd
  refine ⟨fd, fun s v => ?_, fun base => ?_⟩
  · obtain ⟨oc, od, kV, doc, pm, an, cdv, ct, osl, rfl, lk, hcd⟩ := f0.ex
    have z := F.bi d hd kV doc pm an cdv ct [v] (by rw [hnp]; rfl)
    rw [hnp] at z
    exact .of_eq z
  · have z := ((F.at_ (P := P) (w := w) (base := base) KX hn n).fn k d e).1 fd f0
    rw [ef, hnp] at z
    exact z
theorem scr_rp {G : Gm} {H : Hp} {a : Addr} {ns : List Int} (hO : Only H) (h : SqL G.K H a (ns.map V.int)) : Rp G (fun _ => False) H (.ref a) (.scr ns) := by
  rcases h with (h | ⟨o, h⟩) | h
  · exact .scr0 id h
  · exact .scr1 h
  · exact .scr2 (.inr h)
/-- THE END: what the law's def gives, by its term -/
theorem law_sp {K : PySem.W.Frag} {g : List D → Option D} (hg : ∀ ns : List Int, ns.length ≤ 63 → g [.scr ns] = some (.bl true)) (H : Hp) (a : Addr) (ns : List Int) (hl : ns.length ≤ 63) (hO : Only H) (hS : SqL K H a (ns.map V.int)) :
    spD (t.G K) 1 g [.ref a] H (fun v _ => v = .bl true) (fun _ _ _ => False) := by
  refine ⟨rfl, fun _ => False, [.scr ns], .bl true, fun a z => z.elim, .cons (scr_rp hO hS) .nil, hg ns hl, fun v H' _ h => ?_⟩
  cases h; rfl
end
end PV
namespace TT
open PySem PV
def top (i : Nat) : Stmt := PySem.Challenge.pw_bucketsums_k03_whole_histograms.main.body.getD i (.Pass ⟨0, 0, 0, 0⟩)
def met (i j : Nat) : Stmt := match top i with
  | .ClassDef _ _ _ b _ _ _ _ _ _ _ => b.getD j (.Pass ⟨0, 0, 0, 0⟩)
  | _ => .Pass ⟨0, 0, 0, 0⟩
def tm0 : S := (.seq (.ret (.and (.isi (.var 0) [(.bi "int")]) (.not (.isi (.var 0) [(.bi "bool")])))) .nop)
def tm1 : S := (.seq (.ret (.and (.call 0 (.cons (.var 0) .nil)) (.chn .le .le (.var 1) (.var 0) (.var 2)))) .nop)
def tm2 : S := (.seq (.ret (.bi .all (.cons (.lc (.nm 3) (.of (.var 0)) (.cbl true) (.call 1 (.cons (.var 3) (.cons (.var 1) (.cons (.var 2) .nil)))) [3]) .nil))) .nop)
def tm3 : S := (.seq (.ife ⟨[], false⟩ (.or (.not (.isi (.var 0) [(.bi "tuple")])) (.not (.call 2 (.cons (.var 0) (.cons (.cint 0) (.cons (.bin .sub (.var 1) (.cint 1)) .nil)))))) (.seq (.ret (.cbl false)) .nop) .nop) (.seq (.ret (.bi .all (.cons (.lc (.tp (.cons (.nm 2) (.cons (.nm 3) .nil))) (.zip2 (.var 0) (.slc (.var 0) (.som (.cint 1)) .non)) (.cbl true) (.cmp .lt (.var 2) (.var 3)) [2, 3]) .nil))) .nop))
def tm4 : S := (.seq (.ret (.and (.call 3 (.cons (.var 0) (.cons (.var 1) .nil))) (.and (.cmp .gt (.bi .len (.cons (.var 0) .nil)) (.cint 0)) (.cmp .eq (.idx (.var 0) (.cint 0)) (.cint 0))))) .nop)
def tm5 : S := (.seq (.ife ⟨[], false⟩ (.not (.call 4 (.cons (.var 0) (.cons (.var 1) .nil)))) (.seq .bad .nop) .nop) .nop)
def tm6 : S := (.seq (.ife ⟨[], false⟩ (.or (.not (.call 1 (.cons (.var 0) (.cons (.cint 0) (.cons (.bin .sub (.var 2) (.cint 1)) .nil))))) (.not (.call 1 (.cons (.var 1) (.cons (.bin .add (.var 0) (.cint 1)) (.cons (.var 2) .nil)))))) (.seq .bad .nop) .nop) .nop)
def tm7 : S := (.seq (.ret (.lz (.var 0) (.bin .add (.slc (.var 0) (.som (.cint 1)) .non) (.tup (.cons (.var 1) .nil))))) .nop)
def tm8 : S := (.seq (.tgt (.tp (.cons (.nm 3) (.cons (.nm 4) .nil))) ⟨[], false⟩ (.var 0)) (.seq (.ret (.bi .max (.cons (.cint 0) (.cons (.bin .sub (.bi .min (.cons (.var 4) (.cons (.var 2) .nil))) (.bi .max (.cons (.var 3) (.cons (.var 1) .nil)))) .nil)))) .nop))
def tm9 : S := (.seq (.set 2 ⟨[], false⟩ (.bi .gcd (.cons (.var 0) (.cons (.var 1) .nil)))) (.seq (.ret (.tup (.cons (.bin .fdiv (.var 0) (.var 2)) (.cons (.bin .fdiv (.var 1) (.var 2)) .nil)))) .nop))
def tm10 : S := (.seq (.ife ⟨[], false⟩ (.not (.isi (.var 0) [(.own 0)])) (.seq .bad .nop) .nop) .nop)
def tm11 : S := (.seq (.ife ⟨[], false⟩ (.or (.not (.isi (.var 0) [(.bi "tuple")])) (.cmp .ne (.bi .len (.cons (.var 0) .nil)) (.bi .len (.cons (.var 1) .nil)))) (.seq (.ret (.cbl false)) .nop) .nop) (.seq (.ret (.bi .all (.cons (.lc (.tp (.cons (.nm 2) (.cons (.tp (.cons (.nm 3) (.cons (.nm 4) .nil))) .nil))) (.zip2 (.var 0) (.var 1)) (.cbl true) (.call 1 (.cons (.var 2) (.cons (.cint 0) (.cons (.bin .mul (.cint 9) (.bin .sub (.var 4) (.var 3))) .nil)))) [2, 3, 4]) .nil))) .nop))
def tm12 : S := (.seq (.ife ⟨[], false⟩ (.not (.isi (.var 0) [(.own 1)])) (.seq .bad .nop) .nop) .nop)
def tm13 : S := (.seq (.drop ⟨[], false⟩ (.call 10 (.cons (.var 0) .nil))) (.seq (.drop ⟨[], false⟩ (.call 5 (.cons (.var 1) (.cons (.bi .len (.cons (.var 0) .nil)) .nil)))) (.seq (.ret (.lc (.tp (.cons (.nm 2) (.cons (.nm 3) .nil))) (.of (.call 7 (.cons (.var 1) (.cons (.bi .len (.cons (.var 0) .nil)) .nil)))) (.cbl true) (.slc (.fld (.var 0) 3) (.som (.var 2)) (.som (.var 3))) [2, 3])) .nop)))
def tm14 : S := (.seq (.set 2 ⟨[], false⟩ (.bi .tuple (.cons (.lc (.nm 3) (.of (.call 13 (.cons (.var 0) (.cons (.var 1) .nil)))) (.cbl true) (.bi .sum (.cons (.var 3) .nil)) [3]) .nil))) (.seq (.ret (.mk 1 (.cons (.bi .len (.cons (.var 0) .nil)) (.cons (.var 1) (.cons (.var 2) .nil))))) .nop))
def tm15 : S := (.seq (.ret (.bi .tuple (.cons (.lc (.nm 2) (.of (.call 13 (.cons (.var 0) (.cons (.var 1) .nil)))) (.cbl true) (.bi .max (.cons (.var 2) .nil)) [2]) .nil))) .nop)
def tm16 : S := (.seq (.ret (.bi .tuple (.cons (.lc (.nm 2) (.of (.call 13 (.cons (.var 0) (.cons (.var 1) .nil)))) (.cbl true) (.bin .sub (.bi .len (.cons (.var 2) .nil)) (.tcn (.var 2) (.cint 0))) [2]) .nil))) .nop)
def tm17 : S := (.seq (.drop ⟨[], false⟩ (.call 12 (.cons (.var 0) .nil))) (.seq (.drop ⟨[], false⟩ (.call 6 (.cons (.var 1) (.cons (.var 2) (.cons (.fld (.var 0) 4) .nil))))) (.seq (.set 3 ⟨[], false⟩ (.cint 0)) (.seq (.for (.tp (.cons (.nm 4) (.cons (.nm 5) .nil))) [] (.zip2 (.me 7 (.var 0) .nil) (.fld (.var 0) 6)) (.seq (.tgt (.tp (.cons (.nm 6) (.cons (.nm 7) .nil))) ⟨[], false⟩ (.var 4)) (.seq (.aug 3 .add ⟨[], false⟩ (.bin .mul (.bin .mul (.var 5) (.call 8 (.cons (.var 4) (.cons (.var 1) (.cons (.var 2) .nil))))) (.bin .fdiv (.cint 27720) (.bin .sub (.var 7) (.var 6))))) .nop))) (.seq (.ret (.call 9 (.cons (.var 3) (.cons (.cint 27720) .nil)))) .nop)))))
def tm18 : S := (.seq (.drop ⟨[], false⟩ (.call 12 (.cons (.var 0) .nil))) (.seq (.drop ⟨[], false⟩ (.call 5 (.cons (.var 1) (.cons (.fld (.var 0) 4) .nil)))) (.seq (.ife ⟨[], false⟩ (.not (.bi .all (.cons (.lc (.nm 6) (.of (.var 1)) (.cbl true) (.cmp .inn (.var 6) (.fld (.var 0) 5)) [6]) .nil))) (.seq .bad .nop) .nop) (.seq (.own 2 ⟨[], false⟩ (.lst .nil)) (.seq (.for (.nm 3) [] (.of (.call 7 (.cons (.var 1) (.cons (.fld (.var 0) 4) .nil)))) (.seq (.tgt (.tp (.cons (.nm 4) (.cons (.nm 5) .nil))) ⟨[], false⟩ (.var 3)) (.seq (.app 2 ⟨[], false⟩ (.bi .sum (.cons (.lc (.tp (.cons (.nm 6) (.cons (.nm 7) .nil))) (.zip2 (.fld (.var 0) 5) (.fld (.var 0) 6)) (.chn .le .lt (.var 4) (.var 6) (.var 5)) (.var 7) [6, 7]) .nil))) .nop))) (.seq (.ret (.mk 1 (.cons (.fld (.var 0) 4) (.cons (.var 1) (.cons (.bi .tuple (.cons (.var 2) .nil)) .nil))))) .nop))))))
def tm19 : S := (.seq (.set 2 ⟨[], false⟩ (.ite (.cmp .ne (.var 0) (.lst .nil)) (.slc (.var 0) .non (.som (.cint 63))) (.lst (.cons (.cint 5) .nil)))) (.seq (.set 3 ⟨[], false⟩ (.bin .add (.idx (.var 2) (.bin .mod (.bi .int (.cons (.var 1) .nil)) (.bi .len (.cons (.var 2) .nil)))) (.bin .mul (.cint 13) (.bin .fdiv (.var 1) (.bi .len (.cons (.var 2) .nil)))))) (.seq (.tgt (.tp (.cons (.nm 6) (.cons (.nm 7) .nil))) ⟨[], false⟩ (.tup (.cons (.bin .mod (.bi .int (.cons (.var 3) .nil)) (.cint 1000003)) (.cons (.bin .mod (.bi .int (.cons (.bin .fdiv (.var 3) (.cint 1000003)) .nil)) (.cint 999983)) .nil)))) (.seq (.set 4 ⟨[], false⟩ (.bin .mod (.bi .int (.cons (.bi .sum (.cons (.var 2) .nil)) .nil)) (.cint 65521))) (.seq (.set 5 ⟨[], false⟩ (.bin .mod (.bi .int (.cons (.bin .add (.bin .add (.bin .mul (.bin .add (.var 6) (.bin .mul (.cint 977) (.var 1))) (.cint 48271)) (.bin .mul (.cint 31) (.var 7))) (.var 4)) .nil)) (.cint 2147483647))) (.seq (.ret (.bin .add (.bin .mul (.bin .mod (.bi .int (.cons (.bin .mul (.var 5) (.bin .add (.bin .add (.var 5) (.bin .mul (.cint 31) (.var 1))) (.cint 7))) .nil)) (.cint 2147483629)) (.cint 65537)) (.var 7))) .nop))))))
def tm20 : S := (.seq (.sto 0 ⟨[0], true⟩ (.cint 1) (.bin .add (.idx (.var 0) (.cint 1)) (.cint 1))) (.seq (.ret (.bin .mod (.bi .int (.cons (.call 19 (.cons (.idx (.var 0) (.cint 0)) (.cons (.bi .int (.cons (.idx (.var 0) (.cint 1)) .nil)) .nil))) .nil)) (.var 1))) .nop))
def tm21 : S := (.seq (.own 2 ⟨[], false⟩ (.lst .nil)) (.seq (.for (.nm 3) [] (.rng1 (.bin .add (.cint 1) (.call 20 (.cons (.var 0) (.cons (.var 1) .nil))))) (.seq (.set 4 ⟨[], false⟩ (.ite (.cmp .eq (.call 20 (.cons (.var 0) (.cons (.cint 3) .nil))) (.cint 0)) (.call 20 (.cons (.var 0) (.cons (.cint 10) .nil))) (.call 20 (.cons (.var 0) (.cons (.cint 4) .nil))))) (.seq (.app 2 ⟨[2], false⟩ (.ite (.and (.cmp .ne (.var 2) (.lst .nil)) (.cmp .eq (.call 20 (.cons (.var 0) (.cons (.cint 4) .nil))) (.cint 0))) (.idx (.var 2) (.neg (.cint 1))) (.var 4))) .nop))) (.seq (.ret (.var 2)) .nop)))
def tm22 : S := (.seq (.ret (.bi .tuple (.cons (.bin .add (.lst (.cons (.cint 0) .nil)) (.lc (.nm 2) (.rng2 (.cint 1) (.var 1)) (.cmp .eq (.call 20 (.cons (.var 0) (.cons (.cint 2) .nil))) (.cint 0)) (.var 2) [2])) .nil))) .nop)
def tm23 : S := (.seq (.ret (.lz (.var 1) (.bin .add (.bi .list (.cons (.slc (.var 1) (.som (.cint 1)) .non) .nil)) (.lst (.cons (.var 0) .nil))))) .nop)
def tm24 : S := (.seq (.tgt (.tp (.cons (.nm 2) (.cons (.nm 3) .nil))) ⟨[], false⟩ (.tup (.cons (.var 0) (.cons (.var 1) .nil)))) (.seq (.whl ⟨[], false⟩ (.cmp .ne (.var 3) (.cint 0)) (.seq (.tgt (.tp (.cons (.nm 2) (.cons (.nm 3) .nil))) ⟨[], false⟩ (.tup (.cons (.var 3) (.cons (.bin .mod (.var 2) (.var 3)) .nil)))) .nop)) (.seq (.ret (.tup (.cons (.bin .fdiv (.var 0) (.var 2)) (.cons (.bin .fdiv (.var 1) (.var 2)) .nil)))) .nop)))
def tm25 : S := (.seq (.set 7 ⟨[], false⟩ (.call 20 (.cons (.var 0) (.cons (.var 1) .nil)))) (.seq (.set 8 ⟨[], false⟩ (.bin .add (.bin .add (.var 7) (.cint 1)) (.call 20 (.cons (.var 0) (.cons (.bin .sub (.var 1) (.var 7)) .nil))))) (.seq (.set 9 ⟨[], false⟩ (.lst .nil)) (.seq (.for (.tp (.cons (.nm 13) (.cons (.tp (.cons (.nm 14) (.cons (.nm 15) .nil))) .nil))) [] (.zip2 (.var 5) (.var 4)) (.seq (.set 9 ⟨[], false⟩ (.bin .add (.var 9) (.bin .mul (.lst (.cons (.bin .mul (.var 13) (.bin .fdiv (.cint 27720) (.bin .sub (.var 15) (.var 14)))) .nil)) (.bin .sub (.var 15) (.var 14))))) .nop)) (.seq (.ife ⟨[], false⟩ (.cmp .ne (.call 17 (.cons (.var 6) (.cons (.var 7) (.cons (.var 8) .nil)))) (.call 24 (.cons (.bi .sum (.cons (.slc (.var 9) (.som (.var 7)) (.som (.var 8))) .nil)) (.cons (.cint 27720) .nil)))) (.seq (.ret (.cbl false)) .nop) .nop) (.seq (.set 10 ⟨[], false⟩ (.bi .tuple (.cons (.bin .add (.lst (.cons (.cint 0) .nil)) (.lc (.nm 16) (.of (.slc (.var 3) (.som (.cint 1)) .non)) (.cmp .eq (.call 20 (.cons (.var 0) (.cons (.cint 2) .nil))) (.cint 0)) (.var 16) [16])) .nil))) (.seq (.ife ⟨[], false⟩ (.or (.cmp .ne (.call 18 (.cons (.var 6) (.cons (.var 10) .nil))) (.call 14 (.cons (.var 2) (.cons (.var 10) .nil)))) (.cmp .ne (.call 18 (.cons (.var 6) (.cons (.var 3) .nil))) (.var 6))) (.seq (.ret (.cbl false)) .nop) .nop) (.seq (.ife ⟨[], false⟩ (.or (.cmp .ne (.bi .sum (.cons (.fld (.var 6) 6) .nil)) (.me 8 (.var 2) .nil)) (.cmp .ne (.call 17 (.cons (.var 6) (.cons (.cint 0) (.cons (.var 1) .nil)))) (.tup (.cons (.me 8 (.var 2) .nil) (.cons (.cint 1) .nil))))) (.seq (.ret (.cbl false)) .nop) .nop) (.seq (.own 11 ⟨[], false⟩ (.bi .list (.cons (.var 5) .nil))) (.seq (.set 12 ⟨[11], true⟩ (.call 20 (.cons (.var 0) (.cons (.bi .len (.cons (.var 11) .nil)) .nil)))) (.seq (.sto 11 ⟨[11], true⟩ (.var 12) (.ite (.cmp .gt (.idx (.var 11) (.var 12)) (.cint 0)) (.cint 0) (.cint 1))) (.seq (.ife ⟨[11], true⟩ (.or (.cmp .eq (.var 6) (.mk 1 (.cons (.var 1) (.cons (.var 3) (.cons (.bi .tuple (.cons (.var 11) .nil)) .nil))))) (.and (.cmp .lt (.var 1) (.cint 12)) (.cmp .eq (.var 6) (.mk 1 (.cons (.bin .add (.var 1) (.cint 1)) (.cons (.var 3) (.cons (.var 5) .nil))))))) (.seq (.ret (.cbl false)) .nop) .nop) (.seq (.ret (.cbl true)) .nop)))))))))))))
def tm26 : S := (.seq (.set 1 ⟨[], false⟩ (.lst (.cons (.var 0) (.cons (.cint 0) .nil)))) (.seq (.for (.nm 2) [] (.rng1 (.cint 5)) (.seq (.set 3 ⟨[], false⟩ (.call 21 (.cons (.var 1) (.cons (.cint 12) .nil)))) (.seq (.tgt (.tp (.cons (.nm 8) (.cons (.nm 9) .nil))) ⟨[], false⟩ (.tup (.cons (.bi .len (.cons (.var 3) .nil)) (.cons (.mk 0 (.cons (.var 3) .nil)) .nil)))) (.seq (.set 4 ⟨[], false⟩ (.call 22 (.cons (.var 1) (.cons (.var 8) .nil)))) (.seq (.set 5 ⟨[], false⟩ (.call 23 (.cons (.var 8) (.cons (.var 4) .nil)))) (.seq (.set 6 ⟨[], false⟩ (.bi .tuple (.cons (.lc (.tp (.cons (.nm 10) (.cons (.nm 11) .nil))) (.of (.var 5)) (.cbl true) (.bi .sum (.cons (.slc (.var 3) (.som (.var 10)) (.som (.var 11))) .nil)) [10, 11]) .nil))) (.seq (.set 7 ⟨[], false⟩ (.call 14 (.cons (.var 9) (.cons (.var 4) .nil)))) (.seq (.ife ⟨[], false⟩ (.cmp .ne (.tup (.cons (.fld (.var 7) 4) (.cons (.fld (.var 7) 5) (.cons (.fld (.var 7) 6) (.cons (.bi .len (.cons (.var 7) .nil)) .nil))))) (.tup (.cons (.var 8) (.cons (.var 4) (.cons (.var 6) (.cons (.bi .len (.cons (.var 4) .nil)) .nil)))))) (.seq (.ret (.cbl false)) .nop) .nop) (.seq (.ife ⟨[], false⟩ (.cmp .ne (.me 7 (.var 7) .nil) (.var 5)) (.seq (.ret (.cbl false)) .nop) .nop) (.seq (.ife ⟨[], false⟩ (.cmp .ne (.call 15 (.cons (.var 9) (.cons (.var 4) .nil))) (.bi .tuple (.cons (.lc (.tp (.cons (.nm 10) (.cons (.nm 11) .nil))) (.of (.var 5)) (.cbl true) (.bi .max (.cons (.slc (.var 3) (.som (.var 10)) (.som (.var 11))) .nil)) [10, 11]) .nil))) (.seq (.ret (.cbl false)) .nop) .nop) (.seq (.ife ⟨[], false⟩ (.cmp .ne (.call 16 (.cons (.var 9) (.cons (.var 4) .nil))) (.bi .tuple (.cons (.lc (.tp (.cons (.nm 10) (.cons (.nm 11) .nil))) (.of (.var 5)) (.cbl true) (.bi .len (.cons (.lc (.nm 12) (.of (.slc (.var 3) (.som (.var 10)) (.som (.var 11)))) (.cmp .gt (.var 12) (.cint 0)) (.var 12) [12]) .nil)) [10, 11]) .nil))) (.seq (.ret (.cbl false)) .nop) .nop) (.seq (.ife ⟨[], false⟩ (.or (.cmp .ne (.var 7) (.mk 1 (.cons (.var 8) (.cons (.var 4) (.cons (.var 6) .nil))))) (.and (.cmp .gt (.bi .len (.cons (.var 4) .nil)) (.cint 1)) (.cmp .eq (.var 7) (.call 14 (.cons (.var 9) (.cons (.slc (.var 4) .non (.som (.neg (.cint 1)))) .nil)))))) (.seq (.ret (.cbl false)) .nop) .nop) (.seq (.ife ⟨[], false⟩ (.not (.call 25 (.cons (.var 1) (.cons (.var 8) (.cons (.var 9) (.cons (.var 4) (.cons (.var 5) (.cons (.var 6) (.cons (.var 7) .nil))))))))) (.seq (.ret (.cbl false)) .nop) .nop) .nop))))))))))))) (.seq (.ret (.cbl true)) .nop)))
def tm27 : S := (.seq (.ife ⟨[], false⟩ (.or (.not (.isi (.var 1) [(.bi "list"), (.bi "tuple")])) (.not (.chn .le .le (.cint 1) (.bi .len (.cons (.var 1) .nil)) (.cint 12)))) (.seq .bad .nop) .nop) (.seq (.ife ⟨[], false⟩ (.not (.call 2 (.cons (.var 1) (.cons (.cint 0) (.cons (.cint 9) .nil))))) (.seq .bad .nop) .nop) (.seq (.fld 3 ⟨[], false⟩ (.ptu (.var 1))) .nop)))
def tm28 : S := (.seq (.ret (.and (.isi (.var 1) [(.own 0)]) (.cmp .eq (.fld (.var 0) 3) (.fld (.var 1) 3)))) .nop)
def tm29 : S := (.seq (.ret (.bi .len (.cons (.fld (.var 0) 3) .nil))) .nop)
def tm30 : S := (.seq (.ife ⟨[], false⟩ (.not (.call 1 (.cons (.var 1) (.cons (.cint 0) (.cons (.bin .sub (.bi .len (.cons (.fld (.var 0) 3) .nil)) (.cint 1)) .nil))))) (.seq .bad .nop) .nop) (.seq (.ret (.idx (.fld (.var 0) 3) (.var 1))) .nop))
def tm31 : S := (.seq (.ret (.bi .sum (.cons (.fld (.var 0) 3) .nil))) .nop)
def tm32 : S := (.seq (.ife ⟨[], false⟩ (.not (.call 1 (.cons (.var 1) (.cons (.cint 1) (.cons (.cint 12) .nil))))) (.seq .bad .nop) .nop) (.seq (.ife ⟨[], false⟩ (.not (.call 4 (.cons (.var 2) (.cons (.var 1) .nil)))) (.seq .bad .nop) .nop) (.seq (.ife ⟨[], false⟩ (.not (.call 11 (.cons (.var 3) (.cons (.call 7 (.cons (.var 2) (.cons (.var 1) .nil))) .nil)))) (.seq .bad .nop) .nop) (.seq (.fld 4 ⟨[], false⟩ (.var 1)) (.seq (.fld 5 ⟨[], false⟩ (.var 2)) (.seq (.fld 6 ⟨[], false⟩ (.var 3)) .nop))))))
def tm33 : S := (.seq (.ret (.and (.isi (.var 1) [(.own 1)]) (.and (.cmp .eq (.fld (.var 0) 4) (.fld (.var 1) 4)) (.and (.cmp .eq (.fld (.var 0) 5) (.fld (.var 1) 5)) (.cmp .eq (.fld (.var 0) 6) (.fld (.var 1) 6)))))) .nop)
def tm34 : S := (.seq (.ret (.bi .len (.cons (.fld (.var 0) 5) .nil))) .nop)
def tm35 : S := (.seq (.ret (.call 7 (.cons (.fld (.var 0) 5) (.cons (.fld (.var 0) 4) .nil)))) .nop)
def tb : Tb := {
  ats := ["__len__", "__eq__", "__getitem__", "counts", "width", "cuts", "totals", "buckets", "rows", "count"]
  fns := [⟨("is_whole", none), "is_whole", "is_whole", top 14, ["item"], 1, tm0⟩,
    ⟨("is_between", none), "is_between", "is_between", top 15, ["item", "least", "most"], 3, tm1⟩,
    ⟨("are_between", none), "are_between", "are_between", top 16, ["items", "least", "most", "item"], 3, tm2⟩,
    ⟨("are_ascending", none), "are_ascending", "are_ascending", top 17, ["items", "past", "one", "other"], 2, tm3⟩,
    ⟨("are_cuts", none), "are_cuts", "are_cuts", top 18, ["cuts", "width"], 2, tm4⟩,
    ⟨("check_cuts", none), "check_cuts", "check_cuts", top 19, ["cuts", "width"], 2, tm5⟩,
    ⟨("check_range", none), "check_range", "check_range", top 20, ["first", "past", "width"], 3, tm6⟩,
    ⟨("bucket_pairs", none), "bucket_pairs", "bucket_pairs", top 21, ["cuts", "width"], 2, tm7⟩,
    ⟨("shared_values", none), "shared_values", "shared_values", top 22, ["bucket", "first", "past", "start", "end"], 3, tm8⟩,
    ⟨("lowest_terms", none), "lowest_terms", "lowest_terms", top 23, ["top", "bottom", "common"], 2, tm9⟩,
    ⟨("check_column", none), "check_column", "check_column", top 26, ["column"], 1, tm10⟩,
    ⟨("_are_totals", none), "_are_totals", "_are_totals", top 29, ["totals", "buckets", "total", "start", "end"], 2, tm11⟩,
    ⟨("check_histogram", none), "check_histogram", "check_histogram", top 30, ["hist"], 1, tm12⟩,
    ⟨("_parts", none), "_parts", "_parts", top 31, ["column", "cuts", "start", "end"], 2, tm13⟩,
    ⟨("histogram", none), "histogram", "histogram", top 32, ["column", "cuts", "totals", "part"], 2, tm14⟩,
    ⟨("caps_of", none), "caps_of", "caps_of", top 33, ["column", "cuts", "part"], 2, tm15⟩,
    ⟨("fills_of", none), "fills_of", "fills_of", top 34, ["column", "cuts", "part"], 2, tm16⟩,
    ⟨("estimate", none), "estimate", "estimate", top 35, ["hist", "first", "past", "scaled", "bucket", "total", "start", "end"], 3, tm17⟩,
    ⟨("coarser", none), "coarser", "coarser", top 36, ["hist", "cuts", "totals", "bucket", "start", "end", "cut", "total"], 2, tm18⟩,
    ⟨("_law_number", none), "_law_number", "_law_number", top 38, ["script", "index", "cells", "cell", "total", "blend", "low", "high"], 2, tm19⟩,
    ⟨("_law_take", none), "_law_take", "_law_take", top 39, ["draw", "many"], 2, tm20⟩,
    ⟨("_law_counts", none), "_law_counts", "_law_counts", top 40, ["draw", "most", "found", "value", "count"], 2, tm21⟩,
    ⟨("_law_cuts", none), "_law_cuts", "_law_cuts", top 41, ["draw", "width", "value"], 2, tm22⟩,
    ⟨("_law_buckets", none), "_law_buckets", "_law_buckets", top 42, ["width", "cuts"], 2, tm23⟩,
    ⟨("_law_fraction", none), "_law_fraction", "_law_fraction", top 43, ["above", "below", "one", "other"], 2, tm24⟩,
    ⟨("_law_estimates_right", none), "_law_estimates_right", "_law_estimates_right", top 44, ["draw", "width", "column", "cuts", "buckets", "totals", "hist", "first", "past", "even", "some", "bent", "at", "total", "begin", "end", "cut"], 7, tm25⟩,
    ⟨("law", none), "law", "law", top 45, ["script", "draw", "turn", "counts", "cuts", "buckets", "totals", "hist", "width", "column", "first", "past", "one"], 1, tm26⟩]
  cls := [("Column", ["counts"], some ⟨("Column", some "__init__"), "__init__", "Column.__init__", met 25 0, ["self", "counts"], 2, tm27⟩),
    ("Histogram", ["width", "cuts", "totals"], some ⟨("Histogram", some "__init__"), "__init__", "Histogram.__init__", met 28 0, ["self", "width", "cuts", "totals"], 4, tm32⟩)]
  mes := [((0, 1), ⟨("Column", some "__eq__"), "__eq__", "Column.__eq__", met 25 1, ["self", "other"], 2, tm28⟩),
    ((0, 0), ⟨("Column", some "__len__"), "__len__", "Column.__len__", met 25 2, ["self"], 1, tm29⟩),
    ((0, 2), ⟨("Column", some "__getitem__"), "__getitem__", "Column.__getitem__", met 25 3, ["self", "at"], 2, tm30⟩),
    ((0, 8), ⟨("Column", some "rows"), "rows", "Column.rows", met 25 5, ["self"], 1, tm31⟩),
    ((1, 1), ⟨("Histogram", some "__eq__"), "__eq__", "Histogram.__eq__", met 28 1, ["self", "other"], 2, tm33⟩),
    ((1, 0), ⟨("Histogram", some "__len__"), "__len__", "Histogram.__len__", met 28 2, ["self"], 1, tm34⟩),
    ((1, 7), ⟨("Histogram", some "buckets"), "buckets", "Histogram.buckets", met 28 3, ["self"], 1, tm35⟩)]
  isi := [(((.bi "int"), (.bi "int")), true),
    (((.bi "int"), (.bi "bool")), false),
    (((.bi "int"), (.bi "str")), false),
    (((.bi "int"), (.bi "list")), false),
    (((.bi "int"), (.bi "tuple")), false),
    (((.bi "int"), (.bi "dict")), false),
    (((.bi "bool"), (.bi "int")), true),
    (((.bi "bool"), (.bi "bool")), true),
    (((.bi "bool"), (.bi "str")), false),
    (((.bi "bool"), (.bi "list")), false),
    (((.bi "bool"), (.bi "tuple")), false),
    (((.bi "bool"), (.bi "dict")), false),
    (((.bi "str"), (.bi "int")), false),
    (((.bi "str"), (.bi "bool")), false),
    (((.bi "str"), (.bi "str")), true),
    (((.bi "str"), (.bi "list")), false),
    (((.bi "str"), (.bi "tuple")), false),
    (((.bi "str"), (.bi "dict")), false),
    (((.bi "list"), (.bi "int")), false),
    (((.bi "list"), (.bi "bool")), false),
    (((.bi "list"), (.bi "str")), false),
    (((.bi "list"), (.bi "list")), true),
    (((.bi "list"), (.bi "tuple")), false),
    (((.bi "list"), (.bi "dict")), false),
    (((.bi "tuple"), (.bi "int")), false),
    (((.bi "tuple"), (.bi "bool")), false),
    (((.bi "tuple"), (.bi "str")), false),
    (((.bi "tuple"), (.bi "list")), false),
    (((.bi "tuple"), (.bi "tuple")), true),
    (((.bi "tuple"), (.bi "dict")), false),
    (((.bi "dict"), (.bi "int")), false),
    (((.bi "dict"), (.bi "bool")), false),
    (((.bi "dict"), (.bi "str")), false),
    (((.bi "dict"), (.bi "list")), false),
    (((.bi "dict"), (.bi "tuple")), false),
    (((.bi "dict"), (.bi "dict")), true),
    (((.bi "NoneType"), (.bi "int")), false),
    (((.bi "NoneType"), (.bi "bool")), false),
    (((.bi "NoneType"), (.bi "str")), false),
    (((.bi "NoneType"), (.bi "list")), false),
    (((.bi "NoneType"), (.bi "tuple")), false),
    (((.bi "NoneType"), (.bi "dict")), false),
    (((.own 0), (.own 0)), true),
    (((.own 1), (.own 1)), true)]
  imps := [("gcd", "math.gcd")]
  cints := [("MOST_VALUES", 12),
    ("MOST_COUNT", 9),
    ("SCALE", 27720)]
  cstrs := []
  ctups := [] }

end TT
namespace TT
open PySem PV L2
theorem stat : tb.stat = true := by kernel_rfl
theorem tmE : (tb.all.map fun d => d.tm) = tb.all.map tb.comp := by kernel_rfl
end TT
namespace PV
open PySem PySem.Spec PyProof.Rows L2 BK
/-! ### the Hook over a narrow part of the heap -/
/-- the module's names, what they name; of a function its code; of an own class its dict, and what that names, and those functions' codes -/
def objs (g : Addr → Option Obj) (a : Addr) : List (Addr × Obj) := match g a with
  | some o => [(a, o)]
  | none => []
def fnPart (g : Addr → Option Obj) (a : Addr) : List (Addr × Obj) := match g a with
  | some ⟨oc, od, .func fd, sl⟩ => (a, ⟨oc, od, .func fd, sl⟩) :: (He.refV fd.code).flatMap (objs g)
  | _ => []
def nsPart (g : Addr → Option Obj) (a : Addr) : List (Addr × Obj) := match g a with
  | some ⟨oc, od, .dict es n, sl⟩ => (a, ⟨oc, od, .dict es n, sl⟩) :: es.toList.flatMap fun e => (He.refV e.val).flatMap (fnPart g)
  | _ => []
def glPart (g : Addr → Option Obj) (a : Addr) : List (Addr × Obj) := match g a with
  | some ⟨oc, od, .func fd, sl⟩ => (a, ⟨oc, od, .func fd, sl⟩) :: (He.refV fd.code).flatMap (objs g)
  | some ⟨oc, od, .cls cd, sl⟩ => (a, ⟨oc, od, .cls cd, sl⟩) :: nsPart g cd.ns
  | some o => [(a, o)]
  | none => []
def frP (g : Addr → Option Obj) : PySem.W.Frag := match g mainGlobals with
  | some ⟨oc, od, .dict es n, sl⟩ => (mainGlobals, ⟨oc, od, .dict es n, sl⟩) :: es.toList.flatMap fun e => (He.refV e.val).flatMap (glPart g)
  | _ => []
section
variable {g : Addr → Option Obj} {a b : Addr} {o : Obj}
theorem objs_mem (h : (a, o) ∈ objs g b) : g a = some o := by
  unfold objs at h
  split at h
  · rename_i e; cases List.mem_singleton.mp h; exact e
  · cases h
theorem fnPart_mem (h : (a, o) ∈ fnPart g b) : g a = some o := by
  unfold fnPart at h
  split at h
  · rename_i e
    rcases List.mem_cons.mp h with z | z
    · cases z; exact e
    · obtain ⟨c, _, h2⟩ := List.mem_flatMap.mp z
      exact objs_mem h2
  · cases h
theorem nsPart_mem (h : (a, o) ∈ nsPart g b) : g a = some o := by
  unfold nsPart at h
  split at h
  · rename_i e
    rcases List.mem_cons.mp h with z | z
    · cases z; exact e
    · obtain ⟨c, _, h2⟩ := List.mem_flatMap.mp z
      obtain ⟨c2, _, h3⟩ := List.mem_flatMap.mp h2
      exact fnPart_mem h3
  · cases h
theorem glPart_mem (h : (a, o) ∈ glPart g b) : g a = some o := by
  unfold glPart at h
  split at h
  · rename_i e
    rcases List.mem_cons.mp h with z | z
    · cases z; exact e
    · obtain ⟨c, _, h2⟩ := List.mem_flatMap.mp z
      exact objs_mem h2
  · rename_i e
    rcases List.mem_cons.mp h with z | z
    · cases z; exact e
    · exact nsPart_mem z
  · rename_i e
    cases List.mem_singleton.mp h; exact e
  · cases h
theorem frP_mem (h : (a, o) ∈ frP g) : g a = some o := by
  unfold frP at h
  split at h
  · rename_i e
    rcases List.mem_cons.mp h with z | z
    · cases z; exact e
    · obtain ⟨c, _, h2⟩ := List.mem_flatMap.mp z
      obtain ⟨c2, _, h3⟩ := List.mem_flatMap.mp h2
      exact glPart_mem h3
  · cases h
theorem look_mem {K : List (Addr × Obj)} (h : K.lookup a = some o) : (a, o) ∈ K := by
  induction K with
  | nil => simp at h
  | cons x r ih =>
    obtain ⟨b, p⟩ := x
    rw [List.lookup_cons] at h
    cases e : a == b with
    | true =>
      rw [e] at h
      have : a = b := by simpa using e
      cases h; rw [this]; exact List.mem_cons_self
    | false =>
      rw [e] at h
      exact List.mem_cons_of_mem _ (ih h)
end
theorem frP_in {h : Heap} : (frP h.get?).In h := fun _ _ e => frP_mem (look_mem e)
def obsQG (t : Tb) (g : Addr → Option Obj) : AlP := obsP t (frP g)
def hookQ (t : Tb) : PySem.W.Hook where
  α := AlP
  obs := fun s => obsQG t s.heap.get?
  val := fun _ => valP t
  says := fun _ h => ∃ K : PySem.W.Frag, K.In h ∧ SaysP t K
  of := fun _ _ e => ⟨_, frP_in, e⟩
  keeps := fun _ _ _ ⟨K, hK, c⟩ k => ⟨K, PySem.W.Frag.In.keeps hK k, c⟩
theorem obsQG_eq {t : Tb} {g : Addr → Option Obj} {s : Shared} (h : ∀ a, g a = s.heap.get? a) : obsQG t g = (hookQ t).obs s := by
  have e : g = s.heap.get? := funext h
  rw [e] <;> rfl
end PV
namespace PV
open PySem PySem.Spec PyProof.Rows L2 BK
theorem lookup_zip {v : Value} {n : Str} : ∀ {P : List Str} {us : List Value}, us.length = P.length → n ∈ P → ∃ u, (P.zip us).lookup n = some u
  | [], _, _, h => by cases h
  | p :: P, [], h, _ => by simp at h
  | p :: P, u :: us, hl, h => by
    show ∃ w, ((p, u) :: P.zip us).lookup n = some w
    rw [List.lookup_cons]
    cases e : n == p with
    | true => exact ⟨u, rfl⟩
    | false =>
      rcases List.mem_cons.mp h with z | z
      · rw [z] at e; simp at e
      · exact lookup_zip (v := v) (by simpa using hl) z
theorem filterMap_eq {α β : Type} {f g : α → Option β} : ∀ {l : List α}, (∀ a ∈ l, f a = g a) → l.filterMap f = l.filterMap g
  | [], _ => rfl
  | a :: r, h => by
    rw [List.filterMap_cons, List.filterMap_cons, h a List.mem_cons_self, filterMap_eq fun b hb => h b (List.mem_cons_of_mem _ hb)]
theorem fm_zip : ∀ {P : List Str} {us : List Value}, P.Nodup → us.length = P.length → (P.filterMap fun n => ((P.zip us).lookup n).map (n, ·)) = P.zip us
  | [], _, _, _ => by simp
  | p :: P, [], _, h => by simp at h
  | p :: P, u :: us, nd, hl => by
    obtain ⟨n1, n2⟩ := List.nodup_cons.mp nd
    have e1 : ∀ n ∈ P, (((p, u) :: P.zip us).lookup n).map (fun x => (n, x)) = ((P.zip us).lookup n).map (fun x => (n, x)) := fun n hn => by
      rw [List.lookup_cons]
      cases e : n == p with
      | true => have : n = p := by simpa using e
                rw [this] at hn; exact absurd hn n1
      | false => rfl
    show ((p :: P).filterMap fun n => (((p, u) :: P.zip us).lookup n).map (n, ·)) = (p, u) :: P.zip us
    rw [List.filterMap_cons]
    have e0 : ((p, u) :: P.zip us).lookup p = some u := by rw [List.lookup_cons]; simp
    rw [e0]
    simp only [Option.map_some]
    congr 1
    exact (filterMap_eq e1).trans (fm_zip n2 (by simpa using hl))
def plainA (a : Arguments) (ps : List Str) : Bool := a.posonlyargs.isEmpty && (a.vararg.isNone && (a.kwonlyargs.isEmpty && (a.kwarg.isNone && decide (a.args.map (·.arg) = ps))))
theorem bind_ok {d : Df} (h : plainA (defArgs d.st) d.ps = true) (nd : d.ps.Nodup) : BindOk d := by
  intro kV doc pm an cdv ct us hl
  obtain ⟨h1, h⟩ := ba h
  obtain ⟨h2, h⟩ := ba h
  obtain ⟨h3, h⟩ := ba h
  obtain ⟨h4, h5⟩ := ba h
  generalize defArgs d.st = a at *
  obtain ⟨po, ar, va, ko, kd, kw, df⟩ := a
  have e1 : po = [] := by simpa using h1
  have e2 : va = none := by simpa using h2
  have e3 : ko = [] := by simpa using h3
  have e4 : kw = none := by simpa using h4
  have e5 : ar.map (·.arg) = d.ps := of_decide_eq_true h5
  subst e1 e2 e3 e4
  have m : ((ar.map (·.arg)).take (ar.map (·.arg)).length).filter (fun n => (((ar.map (·.arg)).zip us).lookup n).isNone) = [] := by
    rw [List.take_length, List.filter_eq_nil_iff, e5]
    intro n hn
    obtain ⟨u, hu⟩ := lookup_zip (v := .none) hl hn
    rw [hu]; simp
  have gt : ¬ us.length > (ar.map (·.arg)).length := by rw [e5, hl]; omega
  unfold bindArgs PySem.W.fnOf
  simp only [List.map_nil, List.nil_append, List.append_nil]
  have sq : seqItems? Value.none = pure none := rfl
  have m2 : (List.filter (fun n => (List.lookup n ((List.map (fun x => x.arg) ar).zip us)).isNone) (List.map (fun x => x.arg) ar)) = [] := by
    rw [List.take_length] at m; exact m
  have fz := fm_zip (P := d.ps) (us := us) nd hl
  clear h h1 h2 h3 h4
  rw [e5] at m2 gt ⊢
  have lt : ¬ d.ps.length < us.length := gt
  rw [e5] at m
  simp [sq, lt, m, m2, fz]
end PV
namespace PV
open PySem PySem.Spec PyProof.Rows L2 BK
theorem facts_of {t : Tb} {K : PySem.W.Frag} (st : t.stat = true) (bi : (t.all.all fun d => plainA (defArgs d.st) d.ps) = true) (tm : (t.all.map fun d => d.tm) = t.all.map t.comp) (c : SaysP t K) : Facts t K := by
  have sc : ∀ d ∈ t.all, scB d.N d.np (defScope d.st) = true := by
    obtain ⟨h1, h⟩ := ba st
    obtain ⟨h2, h⟩ := ba h
    obtain ⟨h3, h⟩ := ba h
    obtain ⟨h4, h⟩ := ba h
    obtain ⟨h5, h⟩ := ba h
    obtain ⟨h6, h⟩ := ba h
    exact List.all_eq_true.mp h6
  refine ⟨st, congrArg (fun z : AlP => z.1) c, says_fn c, fun d hd => bind_ok (List.all_eq_true.mp bi d hd) ?_, fun d hd => ?_⟩
  · exact (scB_ok (sc d hd)).1.nd.sublist (List.take_sublist _ _)
  · obtain ⟨i, hi⟩ := List.getElem?_of_mem hd
    have e2 : (t.all.map fun d => d.tm)[i]? = (t.all.map t.comp)[i]? := by rw [tm]
    rw [List.getElem?_map, List.getElem?_map, hi] at e2
    exact Option.some.inj e2
/-- the law walked, by its term: k its number in the table, n the depth of calls -/
theorem walkP {l : PySem.W.OpenLaw} {q : Program} {loose : List Str} {XP : (Str → Option Value) → Heap → Prop} {d : DefRec} {t : Tb} {n k : Nat} {df : Df}
    (hn : l.most = some 63) (hdf : d.params.defaults = []) (hr : Room (3 * n) callerA) (st : t.stat = true) (bi : (t.all.all fun d => plainA (defArgs d.st) d.ps) = true) (tm : (t.all.map fun d => d.tm) = t.all.map t.comp)
    (ek : t.fns[k]? = some df) (en : df.at_.1 = d.name) (ep : df.ps = [("script" : Str)]) (hg : ∀ ns : List Int, ns.length ≤ 63 → (t.mo n).fn k [.scr ns] = some (.bl true)) :
    PySem.W.WalkO q loose XP (hookQ t).says l.row.toRowW d [] (fun f vs => PySem.call f vs) := by
  refine L2.walk_ofE (l := l) (n := 63) (k := 3 * n) (x := "script") (CX := L2.CX0) hn (by decide) hdf hr ?_ (fun _ _ _ _ z => z)
  intro w mg fa h Y G hmg
  obtain ⟨K, KX, c⟩ := Y
  have F := facts_of st bi tm c
  obtain ⟨fd, hb, hF⟩ := F.law (P := l.prog) (w := w) KX G (n := n) ek (by rw [en]; exact hmg) ep
  exact ⟨K, fd, spD (t.G K) 1 ((t.mo n).fn k), KX, hb, fun H a ns hl hO hS => law_sp hg H a ns hl hO hS, fun base _ _ => hF base⟩
end PV
namespace PV
open PySem PySem.Spec PyProof.Rows L2 BK
/-! ### a lighter Hook: each def of the module is looked up once -/
def fnAll (K : PySem.W.Frag) (d : Df) : He.FnV := match PySem.W.nsIn K mainGlobals d.at_.1 with
  | some (some (.ref a)) => (match K.lookup a with
    | some ⟨_, _, .func fd, _⟩ => (match PySem.W.codeIn K fd.code d.qual with
      | true => some (fd.name, fd.qualname, fd.params, fd.body, fd.scope, fd.globals, fd.closure, fd.defaults, fd.builtins)
      | false => none)
    | _ => none)
  | _ => none
theorem fnAll_ok {K : PySem.W.Frag} {d : Df} (ha : atF d = true) (e : fnAll K d = d.fnd.val) : (He.Fa.glo d.at_.1).ok K = true ∧ defB K d = true ∧ He.fnObs K d.at_ = d.fnd.val := by
  unfold fnAll at e
  cases q : PySem.W.nsIn K mainGlobals d.at_.1 with
  | none => rw [q] at e; cases e
  | some o =>
    cases o with
    | none => rw [q] at e; cases e
    | some u =>
      cases u with
      | ref a =>
        rw [q] at e
        dsimp only at e
        have g : He.ga K d.at_.1 = a := by unfold He.ga; rw [q]
        have fa : He.fAd K d.at_ = a := by rw [fad_f ha]; exact g
        cases l : K.lookup a with
        | none => rw [l] at e; cases e
        | some ob =>
          obtain ⟨oc, od, dt, sl⟩ := ob
          rw [l] at e
          cases dt with
          | func fd =>
            dsimp only at e
            cases c : PySem.W.codeIn K fd.code d.qual with
            | false => rw [c] at e; cases e
            | true =>
              rw [c] at e
              refine ⟨?_, ?_, ?_⟩
              · show He.eqO _ _ = true
                rw [g, q]
                exact decide_eq_true rfl
              · show (PySem.W.keepIn K (.ref (He.fAd K d.at_)) && (He.Fa.code d.at_ d.qual).ok K) = true
                rw [fa]
                have h1 : PySem.W.keepIn K (.ref a) = true := by unfold PySem.W.keepIn; dsimp only; rw [l]
                have h2 : (He.Fa.code d.at_ d.qual).ok K = true := by
                  show (match K.lookup (He.fAd K d.at_) with
                    | some ⟨_, _, .func fd, _⟩ => PySem.W.codeIn K fd.code d.qual
                    | _ => false) = true
                  rw [fa, l]; exact c
                rw [h1, h2]; rfl
              · unfold He.fnObs
                rw [fa, l]
                exact e
          | _ => cases e
      | _ => rw [q] at e; cases e
def Tb.rest (t : Tb) : List Df := t.cls.filterMap (fun c => c.2.2) ++ t.mes.map (·.2)
def Tb.okR (t : Tb) (K : PySem.W.Frag) : Bool := t.imps.all (fun p => He.eqO (PySem.W.nsIn K mainGlobals p.1) (some (some (.builtin p.2)))) && (BN.all (fun x => (He.Fa.free x).ok K) && (t.cls.all (clsB K) && (t.mes.all (mesB t K) && (t.isi.all (isiB (t.G K)) && (t.cints.all (fun p => (He.Fa.int p.1 p.2).ok K) && (t.cstrs.all (fun p => (He.Fa.str p.1 p.2).ok K) &&
  (t.ctups.all (fun p => (He.Fa.glo p.1).ok K && He.tupB K p.1 (p.2.map He.Dv.int)) && (He.eqO (PySem.W.specialIn K (.builtin "object.__class__") "__get__") (some (some (.builtin "getset_descriptor.__get__"))) && (decide (PySem.W.takesIn K (.builtin "object.__class__") = some true) && t.rest.all (defB K))))))))))
abbrev AlR : Type := Bool × List He.FnV × List He.FnV
def obsR (t : Tb) (K : PySem.W.Frag) : AlR := (t.okR K, t.fns.map (fnAll K), t.rest.map fun d => He.fnObs K d.at_)
def valR (t : Tb) : AlR := (true, t.fns.map fun d => d.fnd.val, t.rest.map fun d => d.fnd.val)
def SaysR (t : Tb) (K : PySem.W.Frag) : Prop := obsR t K = valR t
def obsRG (t : Tb) (g : Addr → Option Obj) : AlR := obsR t (frP g)
def hookR (t : Tb) : PySem.W.Hook where
  α := AlR
  obs := fun s => obsRG t s.heap.get?
  val := fun _ => valR t
  says := fun _ h => ∃ K : PySem.W.Frag, K.In h ∧ SaysR t K
  of := fun _ _ e => ⟨_, frP_in, e⟩
  keeps := fun _ _ _ ⟨K, hK, c⟩ k => ⟨K, PySem.W.Frag.In.keeps hK k, c⟩
theorem obsRG_eq {t : Tb} {g : Addr → Option Obj} {s : Shared} (h : ∀ a, g a = s.heap.get? a) : obsRG t g = (hookR t).obs s := by
  have e : g = s.heap.get? := funext h
  rw [e] <;> rfl
theorem map_eq_mem {α β : Type} {f g : α → β} {l : List α} (h : l.map f = l.map g) : ∀ a ∈ l, f a = g a := by
  induction l with
  | nil => intro a ha; cases ha
  | cons x r ih =>
    rw [List.map_cons, List.map_cons] at h
    injection h with h1 h2
    intro a ha
    rcases List.mem_cons.mp ha with rfl | ha
    · exact h1
    · exact ih h2 a ha
theorem says_R {t : Tb} {K : PySem.W.Frag} (st : t.stat = true) (c : SaysR t K) : SaysP t K := by
  have c1 : t.okR K = true := congrArg (fun z : AlR => z.1) c
  have c2 := map_eq_mem (show t.fns.map (fnAll K) = t.fns.map fun d => d.fnd.val from congrArg (fun z : AlR => z.2.1) c)
  have c3 : (t.rest.map fun d => He.fnObs K d.at_) = t.rest.map fun d => d.fnd.val := congrArg (fun z : AlR => z.2.2) c
  have atf : ∀ d ∈ t.fns, atF d = true := by
    obtain ⟨h1, h⟩ := ba st
    obtain ⟨h2, h⟩ := ba h
    obtain ⟨h3, h⟩ := ba h
    obtain ⟨h4, h⟩ := ba h
    obtain ⟨h5, h⟩ := ba h
    obtain ⟨h6, h⟩ := ba h
    obtain ⟨h7, h⟩ := ba h
    exact List.all_eq_true.mp h7
  have f : ∀ d ∈ t.fns, _ := fun d hd => fnAll_ok (atf d hd) (c2 d hd)
  obtain ⟨h0, h⟩ := ba c1
  obtain ⟨h1, h⟩ := ba h
  obtain ⟨h3, h⟩ := ba h
  obtain ⟨h4, h⟩ := ba h
  obtain ⟨h5, h⟩ := ba h
  obtain ⟨h6, h⟩ := ba h
  obtain ⟨h7, h⟩ := ba h
  obtain ⟨h8, h⟩ := ba h
  obtain ⟨h9, h⟩ := ba h
  obtain ⟨h10, h11⟩ := ba h
  have e1 : t.okB K = true := by
    have g1 : (t.fns.all fun d => (He.Fa.glo d.at_.1).ok K) = true := List.all_eq_true.mpr fun d hd => (f d hd).1
    have g2 : t.all.all (defB K) = true := by
      show (t.fns ++ t.rest).all (defB K) = true
      rw [List.all_append, h11, Bool.and_true]
      exact List.all_eq_true.mpr fun d hd => (f d hd).2.1
    unfold Tb.okB
    rw [h0, h1, g1, h3, h4, h5, h6, h7, h8, h9, h10, g2]
    rfl
  show (t.okB K, t.all.map fun d => He.fnObs K d.at_) = (true, t.all.map fun d => d.fnd.val)
  rw [e1]
  refine congrArg (Prod.mk true) ?_
  show ((t.fns ++ t.rest).map fun d => He.fnObs K d.at_) = (t.fns ++ t.rest).map fun d => d.fnd.val
  rw [List.map_append, List.map_append, c3]
  refine congrArg (· ++ _) (List.map_congr_left fun d hd => (f d hd).2.2)
/-- the law walked, by its term, over the lighter Hook -/
theorem walkR {l : PySem.W.OpenLaw} {q : Program} {loose : List Str} {XP : (Str → Option Value) → Heap → Prop} {d : DefRec} {t : Tb} {n k : Nat} {df : Df}
    (hn : l.most = some 63) (hdf : d.params.defaults = []) (hr : Room (3 * n) callerA) (st : t.stat = true) (bi : (t.all.all fun d => plainA (defArgs d.st) d.ps) = true) (tm : (t.all.map fun d => d.tm) = t.all.map t.comp)
    (ek : t.fns[k]? = some df) (en : df.at_.1 = d.name) (ep : df.ps = [("script" : Str)]) (hg : ∀ ns : List Int, ns.length ≤ 63 → (t.mo n).fn k [.scr ns] = some (.bl true)) :
    PySem.W.WalkO q loose XP (hookR t).says l.row.toRowW d [] (fun f vs => PySem.call f vs) := by
  refine L2.walk_ofE (l := l) (n := 63) (k := 3 * n) (x := "script") (CX := L2.CX0) hn (by decide) hdf hr ?_ (fun _ _ _ _ z => z)
  intro w mg fa h Y G hmg
  obtain ⟨K, KX, c⟩ := Y
  have F := facts_of st bi tm (says_R st c)
  obtain ⟨fd, hb, hF⟩ := F.law (P := l.prog) (w := w) KX G (n := n) ek (by rw [en]; exact hmg) ep
  exact ⟨K, fd, spD (t.G K) 1 ((t.mo n).fn k), KX, hb, fun H a ns hl hO hS => law_sp hg H a ns hl hO hS, fun base _ _ => hF base⟩
end PV
namespace TT
open PySem PySem.W PySem.Calls PV L2 PyProof.Rows
abbrev R : PySem.W.OpenRow := PySem.W.OpenLaw.row PySem.Challenge.rw_bucketsums_k03_whole_histograms
abbrev hk : PySem.W.Hook := hookR tb
def ob (s : PySem.W.SharedT) : AlR := obsRG tb (HandSHeadRun.getT s)
theorem ob_eq (s : PySem.W.SharedT) : ob s = hk.obs s.abs := obsRG_eq (HandSHeadRun.getT_eq s)
def loose : List PySem.Str := (["gcd", "_wall", "__name__", "SumError", "BadCounts", "BadColumn", "BadValue", "BadRange", "BadCuts", "BadHistogram", "MOST_VALUES", "MOST_COUNT", "SCALE", "is_whole", "is_between", "are_between", "are_ascending", "are_cuts", "check_cuts", "check_range", "bucket_pairs", "shared_values", "lowest_terms", "Column", "check_column", "Histogram", "_are_totals", "check_histogram", "_parts", "histogram"] : List PySem.Str) ++ (["caps_of", "fills_of", "estimate", "coarser", "_law_number", "_law_take", "_law_counts", "_law_cuts", "_law_buckets", "_law_fraction", "_law_estimates_right"] : List PySem.Str)
theorem run (w : World) : HandSHeadRun.RunEqI R (PySem.W.view R.prog [0, 45]) hk ob 15000 loose w := by
  unfold HandSHeadRun.RunEqI; kernel_rfl
end TT
namespace PV
open PySem
/-! ### reading: what the plain meanings give on given data -/
theorem mapO_all {f : D → Option (Option D)} {α : Type} {enc : α → D} {g : α → Option D} : ∀ {xs : List α}, (∀ x ∈ xs, f (enc x) = some (g x)) → mapO f (xs.map enc) = some (xs.filterMap g)
  | [], _ => rfl
  | x :: xs, h => by
    show (f (enc x)).bind _ = _
    rw [h x List.mem_cons_self]
    show (mapO f (xs.map enc)).bind _ = _
    rw [mapO_all fun y hy => h y (List.mem_cons_of_mem _ hy)]
    show some _ = _
    rw [List.filterMap_cons]
    cases g x <;> rfl
/-- every one is kept -/
theorem mapO_map {f : D → Option (Option D)} {α : Type} {enc : α → D} {g : α → D} {xs : List α} (h : ∀ x ∈ xs, f (enc x) = some (some (g x))) : mapO f (xs.map enc) = some (xs.map g) := by
  rw [mapO_all (g := fun x => some (g x)) h]
  congr 1
  clear h
  induction xs with
  | nil => rfl
  | cons x xs ih => rw [List.filterMap_cons, List.map_cons, ih]
/-- those that pass a test -/
theorem mapO_filter {f : D → Option (Option D)} {α : Type} {enc : α → D} {g : α → D} {p : α → Bool} {xs : List α} (h : ∀ x ∈ xs, f (enc x) = some (if p x = true then some (g x) else none)) : mapO f (xs.map enc) = some ((xs.filter p).map g) := by
  rw [mapO_all (g := fun x => if p x = true then some (g x) else none) h]
  congr 1
  induction xs with
  | nil => rfl
  | cons x xs ih =>
    rw [List.filterMap_cons, List.filter_cons]
    have := ih fun y hy => h y (List.mem_cons_of_mem _ hy)
    by_cases e : p x = true <;> simp [e, this]
theorem flatO_all {f : D → Option (List D)} {α : Type} {enc : α → D} {g : α → List D} : ∀ {xs : List α}, (∀ x ∈ xs, f (enc x) = some (g x)) → flatO f (xs.map enc) = some (xs.flatMap g)
  | [], _ => rfl
  | x :: xs, h => by
    show (f (enc x)).bind _ = _
    rw [h x List.mem_cons_self]
    show (flatO f (xs.map enc)).bind _ = _
    rw [flatO_all fun y hy => h y (List.mem_cons_of_mem _ hy)]
    rfl
theorem intsD_map : ∀ ns : List Int, intsD (ns.map D.int) = some ns
  | [] => rfl
  | n :: ns => by show (intsD (ns.map D.int)).map _ = _; rw [intsD_map ns]; rfl
theorem intsD_mapf {α : Type} (f : α → Int) (xs : List α) : intsD (xs.map fun x => D.int (f x)) = some (xs.map f) := by
  rw [← intsD_map (xs.map f), List.map_map]; rfl
theorem blsD_map : ∀ ns : List Bool, blsD (ns.map D.bl) = some ns
  | [] => rfl
  | n :: ns => by show (blsD (ns.map D.bl)).map _ = _; rw [blsD_map ns]; rfl
theorem glst_ok {xs : List D} (h : xs.length ≤ LIM) : glst xs = some (.lst xs) := by unfold glst; rw [if_pos h]
theorem gtup_ok {xs : List D} (h : xs.length ≤ LIM) : gtup xs = some (.tup xs) := by unfold gtup; rw [if_pos h]
/-- a loop with an invariant -/
theorem loopF_inv {g : D → Ro → Option Ro} {b : Ro → Option Out} {α : Type} {enc : α → D} (st : List α → Ro) : ∀ (xs : List α) (done : List α),
    (∀ d x r, done ++ xs = d ++ x :: r → (∃ ρ1, g (enc x) (st d) = some ρ1 ∧ (b ρ1 = some (.nx (st (d ++ [x]))) ∨ b ρ1 = some (.ct (st (d ++ [x])))))) → loopF g b (xs.map enc) (st done) = some (.nx (st (done ++ xs)))
  | [], done, _ => by rw [List.append_nil]; rfl
  | x :: xs, done, h => by
    obtain ⟨ρ1, h1, h2⟩ := h done x xs rfl
    show (g (enc x) (st done)).bind _ = _
    rw [h1]
    have ih := loopF_inv st xs (done ++ [x]) fun d y r e => h d y r (by rw [← e]; simp)
    rw [List.append_assoc] at ih
    show (b ρ1).bind _ = _
    rcases h2 with h2 | h2 <;> rw [h2] <;> exact ih
end PV
namespace PV
open PySem
section
variable {mo : Mo} {ρ : Rho} {r : Ro}
@[simp] theorem ev_var {i : Nat} : ev mo (.var i) ρ = match ρ[i]? with | some (some d) => some d | _ => none := by first | (simp only [ev]; done) | (simp only [ev]; rfl) | rfl
@[simp] theorem ev_cint {i : Int} : ev mo (.cint i) ρ = some (.int i) := by first | (simp only [ev]; done) | (simp only [ev]; rfl) | rfl
@[simp] theorem ev_cbl {i : Bool} : ev mo (.cbl i) ρ = some (.bl i) := by first | (simp only [ev]; done) | (simp only [ev]; rfl) | rfl
@[simp] theorem ev_cnon : ev mo .cnon ρ = some .non := by first | (simp only [ev]; done) | (simp only [ev]; rfl) | rfl
@[simp] theorem ev_cstr {x : Str} : ev mo (.cstr x) ρ = some (.str x) := by first | (simp only [ev]; done) | (simp only [ev]; rfl) | rfl
@[simp] theorem ev_cktp {x : List Int} : ev mo (.cktp x) ρ = some (.ktp x) := by first | (simp only [ev]; done) | (simp only [ev]; rfl) | rfl
@[simp] theorem ev_bin {o : O2} {a b : E} : ev mo (.bin o a b) ρ = (ev mo a ρ).bind fun x => (ev mo b ρ).bind fun y => binD o x y := by first | (simp only [ev]; done) | (simp only [ev]; rfl) | rfl
@[simp] theorem ev_neg {a : E} : ev mo (.neg a) ρ = (ev mo a ρ).bind fun x => match x with | .int i => some (.int (-i)) | _ => none := by first | (simp only [ev]; done) | (simp only [ev]; rfl) | rfl
@[simp] theorem ev_not {a : E} : ev mo (.not a) ρ = (ev mo a ρ).bind fun x => match x with | .bl k => some (.bl (!k)) | _ => none := by first | (simp only [ev]; done) | (simp only [ev]; rfl) | rfl
@[simp] theorem ev_and {a b : E} : ev mo (.and a b) ρ = (ev mo a ρ).bind fun x => match x with | .bl k => if k = true then ev mo b ρ else some (.bl false) | _ => none := by first | (simp only [ev]; done) | (simp only [ev]; rfl) | rfl
@[simp] theorem ev_or {a b : E} : ev mo (.or a b) ρ = (ev mo a ρ).bind fun x => match x with | .bl k => if k = true then some (.bl true) else ev mo b ρ | _ => none := by first | (simp only [ev]; done) | (simp only [ev]; rfl) | rfl
@[simp] theorem ev_cmp {c : Cm} {a b : E} : ev mo (.cmp c a b) ρ = (ev mo a ρ).bind fun x => (ev mo b ρ).bind fun y => cmpD mo c x y := by first | (simp only [ev]; done) | (simp only [ev]; rfl) | rfl
@[simp] theorem ev_chn {c c' : Cm} {a b d : E} : ev mo (.chn c c' a b d) ρ = (ev mo a ρ).bind fun x => (ev mo b ρ).bind fun y => (cmpD mo c x y).bind fun t => match t with
    | .bl k => if k = true then (ev mo d ρ).bind fun z => cmpD mo c' y z else some (.bl false)
    | _ => none := by first | (simp only [ev]; done) | (simp only [ev]; rfl) | rfl
@[simp] theorem ev_ite {c a b : E} : ev mo (.ite c a b) ρ = (ev mo c ρ).bind fun x => match x with | .bl k => if k = true then ev mo a ρ else ev mo b ρ | _ => none := by first | (simp only [ev]; done) | (simp only [ev]; rfl) | rfl
@[simp] theorem ev_tup {es : Es} : ev mo (.tup es) ρ = (evs mo es ρ).bind gtup := by first | (simp only [ev]; done) | (simp only [ev]; rfl) | rfl
@[simp] theorem ev_lst {es : Es} : ev mo (.lst es) ρ = (evs mo es ρ).bind glst := by first | (simp only [ev]; done) | (simp only [ev]; rfl) | rfl
@[simp] theorem ev_emp {t : Bool} : ev mo (.emp t) ρ = some (if t then .dit [] else .dic []) := by first | (simp only [ev]; done) | (simp only [ev]; rfl) | rfl
@[simp] theorem ev_tcn {a b : E} : ev mo (.tcn a b) ρ = (ev mo a ρ).bind fun x => (ev mo b ρ).bind fun y => cntD x y := by first | (simp only [ev]; done) | (simp only [ev]; rfl) | rfl
@[simp] theorem ev_ptu {a : E} : ev mo (.ptu a) ρ = (ev mo a ρ).bind ptuD := by first | (simp only [ev]; done) | (simp only [ev]; rfl) | rfl
@[simp] theorem ev_idx {a i : E} : ev mo (.idx a i) ρ = (ev mo a ρ).bind fun x => (ev mo i ρ).bind fun y => idxD mo x y := by first | (simp only [ev]; done) | (simp only [ev]; rfl) | rfl
@[simp] theorem ev_slc {a : E} {lo hi : Eo} : ev mo (.slc a lo hi) ρ = (ev mo a ρ).bind fun x => (evo mo lo ρ).bind fun l => (evo mo hi ρ).bind fun h => slcD x l h := by first | (simp only [ev]; done) | (simp only [ev]; rfl) | rfl
@[simp] theorem ev_rev {a : E} : ev mo (.rev a) ρ = (ev mo a ρ).bind revD := by first | (simp only [ev]; done) | (simp only [ev]; rfl) | rfl
@[simp] theorem ev_fld {a : E} {k : Nat} : ev mo (.fld a k) ρ = (ev mo a ρ).bind (fldD mo k) := by first | (simp only [ev]; done) | (simp only [ev]; rfl) | rfl
@[simp] theorem ev_bi {f : BI} {es : Es} : ev mo (.bi f es) ρ = (evs mo es ρ).bind (biD mo f) := by first | (simp only [ev]; done) | (simp only [ev]; rfl) | rfl
@[simp] theorem ev_lz {a b : E} : ev mo (.lz a b) ρ = (ev mo a ρ).bind fun x => (ev mo b ρ).bind fun y => (itemsD x).bind fun xs => (itemsD y).bind fun ys => if min xs.length ys.length ≤ 1000 then some (.lst (zipD xs ys)) else none := by first | (simp only [ev]; done) | (simp only [ev]; rfl) | rfl
@[simp] theorem ev_lz3 {a b d : E} : ev mo (.lz3 a b d) ρ = (ev mo a ρ).bind fun x => (ev mo b ρ).bind fun y => (ev mo d ρ).bind fun z => (itemsD x).bind fun xs => (itemsD y).bind fun ys => (itemsD z).bind fun zs => if min (min xs.length ys.length) zs.length ≤ 1000 then some (.lst (zip3D xs ys zs)) else none := by first | (simp only [ev]; done) | (simp only [ev]; rfl) | rfl
@[simp] theorem ev_isi {a : E} {ts : List Ty} : ev mo (.isi a ts) ρ = (ev mo a ρ).bind fun x => (isiD mo (tyD x) ts).map D.bl := by first | (simp only [ev]; done) | (simp only [ev]; rfl) | rfl
@[simp] theorem ev_call {k : Nat} {es : Es} : ev mo (.call k es) ρ = (evs mo es ρ).bind (mo.fn k) := by first | (simp only [ev]; done) | (simp only [ev]; rfl) | rfl
@[simp] theorem ev_mk {k : Nat} {es : Es} : ev mo (.mk k es) ρ = (evs mo es ρ).bind (mo.mkD k) := by first | (simp only [ev]; done) | (simp only [ev]; rfl) | rfl
theorem ev_me {m : Nat} {a : E} {es : Es} : ev mo (.me m a es) ρ = (ev mo a ρ).bind fun x => (evs mo es ρ).bind fun ds => match x with | .obj c fs => if fs.lookup m = none then mo.me c m (.obj c fs :: ds) else none | _ => none := by first | (simp only [ev]; done) | (simp only [ev]; rfl) | rfl
@[simp] theorem ev_lc {t : T} {it : I} {c e : E} {vs : List Nat} : ev mo (.lc t it c e vs) ρ = (evI mo it ρ).bind fun xs => (mapO (lcF mo t c e vs ρ) xs).bind glst := by first | (simp only [ev]; done) | (simp only [ev]; rfl) | rfl
@[simp] theorem ev_lc2 {t t1 : T} {it it1 : I} {c c1 e : E} {vs vs1 : List Nat} : ev mo (.lc2 t it c t1 it1 c1 e vs vs1) ρ = (evI mo it ρ).bind fun xs => (flatO (fun x => (bindT t x (wipeO ρ vs)).bind fun ρ2 => (tB (ev mo c ρ2)).bind fun k => if k = true then
        (evI mo it1 ρ2).bind fun ys => mapO (lcF mo t1 c1 e vs1 ρ2) ys
      else some []) xs).bind glst := by first | (simp only [ev]; done) | (simp only [ev]; rfl) | rfl
@[simp] theorem ev_sc {k : SK} {t : T} {it : I} {c e : E} {vs : List Nat} : ev mo (.sc k t it c e vs) ρ = (evI mo it ρ).bind fun xs => (mapO (lcF mo t c e vs ρ) xs).bind fun ys => (intsD ys).bind (setK k) := by first | (simp only [ev]; done) | (simp only [ev]; rfl) | rfl
@[simp] theorem evs_nil : evs mo .nil ρ = some [] := by first | (simp only [evs]; done) | (simp only [evs]; rfl) | rfl
@[simp] theorem evs_cons {e : E} {es : Es} : evs mo (.cons e es) ρ = (ev mo e ρ).bind fun x => (evs mo es ρ).bind fun xs => some (x :: xs) := by first | (simp only [evs]; done) | (simp only [evs]; rfl) | rfl
@[simp] theorem evo_non : evo mo .non ρ = some none := by first | (simp only [evo]; done) | (simp only [evo]; rfl) | rfl
@[simp] theorem evo_som {e : E} : evo mo (.som e) ρ = (ev mo e ρ).bind fun x => match x with | .int i => some (some i) | _ => none := by first | (simp only [evo]; done) | (simp only [evo]; rfl) | rfl
@[simp] theorem evI_of {e : E} : evI mo (.of e) ρ = (ev mo e ρ).bind itemsD := by first | (simp only [evI]; done) | (simp only [evI]; rfl) | rfl
@[simp] theorem evI_rng1 {a : E} : evI mo (.rng1 a) ρ = (ev mo a ρ).bind fun x => match x with | .int j => if fitsB j then some (rngD 0 j.toNat) else none | _ => none := by first | (simp only [evI]; done) | (simp only [evI]; rfl) | rfl
@[simp] theorem evI_rng2 {a b : E} : evI mo (.rng2 a b) ρ = (ev mo a ρ).bind fun x => (ev mo b ρ).bind fun y => match x, y with | .int i, .int j => if fitsB i && fitsB j then some (rngD i (j - i).toNat) else none | _, _ => none := by first | (simp only [evI]; done) | (simp only [evI]; rfl) | rfl
@[simp] theorem evI_zip2 {a b : E} : evI mo (.zip2 a b) ρ = (ev mo a ρ).bind fun x => (ev mo b ρ).bind fun y => (itemsD x).bind fun xs => (itemsD y).bind fun ys => some (zipD xs ys) := by first | (simp only [evI]; done) | (simp only [evI]; rfl) | rfl
@[simp] theorem evI_enu {a : E} : evI mo (.enu a) ρ = (ev mo a ρ).bind fun x => (itemsD x).bind fun xs => some (enuD 0 xs) := by first | (simp only [evI]; done) | (simp only [evI]; rfl) | rfl
@[simp] theorem ex_nop : ex mo .nop r = some (.nx r) := by first | (simp only [ex]; done) | (simp only [ex]; rfl) | rfl
@[simp] theorem ex_seq {a b : S} : ex mo (.seq a b) r = (ex mo a r).bind fun o => match o with | .nx ρ' => ex mo b ρ' | o => some o := by first | (simp only [ex]; done) | (simp only [ex]; rfl) | rfl
@[simp] theorem ex_set {i : Nat} {m : Md} {e : E} : ex mo (.set i m e) r = (evM mo m e r).bind fun q => some (.nx (q.2.set i (.va q.1))) := by first | (simp only [ex]; done) | (simp only [ex]; rfl) | rfl
@[simp] theorem ex_own {i : Nat} {m : Md} {e : E} : ex mo (.own i m e) r = (evN mo m e r).bind fun q => some (.nx (q.2.set i (.ow q.1))) := by first | (simp only [ex]; done) | (simp only [ex]; rfl) | rfl
@[simp] theorem ex_tgt {t : T} {m : Md} {e : E} : ex mo (.tgt t m e) r = (evM mo m e r).bind fun q => (bindS t q.1 q.2).bind fun ρ' => some (.nx ρ') := by first | (simp only [ex]; done) | (simp only [ex]; rfl) | rfl
@[simp] theorem ex_drop {m : Md} {e : E} : ex mo (.drop m e) r = (ev mo e (seen m.us 0 r)).bind fun _ => some (.nx r) := by first | (simp only [ex]; done) | (simp only [ex]; rfl) | rfl
@[simp] theorem ex_ret {e : E} : ex mo (.ret e) r = (ev mo e (seen (List.range r.length) 0 r)).bind fun d => some (.rt d) := by first | (simp only [ex]; done) | (simp only [ex]; rfl) | rfl
@[simp] theorem ex_retN : ex mo .retN r = some (.rt .non) := by first | (simp only [ex]; done) | (simp only [ex]; rfl) | rfl
@[simp] theorem ex_ife {m : Md} {c : E} {a b : S} : ex mo (.ife m c a b) r = (tB (ev mo c (seen m.us 0 r))).bind fun k => if k = true then ex mo a r else ex mo b r := by first | (simp only [ex]; done) | (simp only [ex]; rfl) | rfl
@[simp] theorem ex_for {t : T} {us : List Nat} {it : I} {b : S} : ex mo (.for t us it b) r = (evI mo it (seen us 0 r)).bind fun xs => loopF (bindS t) (ex mo b) xs (given us 0 r) := by first | (simp only [ex]; done) | (simp only [ex]; rfl) | rfl
@[simp] theorem ex_brk : ex mo .brk r = some (.bk r) := by first | (simp only [ex]; done) | (simp only [ex]; rfl) | rfl
@[simp] theorem ex_cnt : ex mo .cnt r = some (.ct r) := by first | (simp only [ex]; done) | (simp only [ex]; rfl) | rfl
@[simp] theorem evM_no {e : E} {us : List Nat} : evM mo ⟨us, false⟩ e r = (ev mo e (seen us 0 r)).bind fun d => some (d, given us 0 r) := by simp [evM]
@[simp] theorem evM_keep {e : E} {us : List Nat} : evM mo ⟨us, true⟩ e r = (ev mo e (seen us 0 r)).bind fun d => if flatD d then some (d, r) else none := by simp [evM]
@[simp] theorem evN_no {e : E} {us : List Nat} : evN mo ⟨us, false⟩ e r = (ev mo e (seen us 0 r)).bind fun d => if ownable d = false then none else some (d, given us 0 r) := by simp [evN]
@[simp] theorem seen_nil {us : List Nat} {n : Nat} : seen us n [] = [] := by first | (simp only [seen]; done) | (simp only [seen]; rfl) | rfl
@[simp] theorem seen_no {us : List Nat} {n : Nat} : seen us n (.no :: r) = none :: seen us (n + 1) r := by first | (simp only [seen]; done) | (simp only [seen]; rfl) | rfl
@[simp] theorem seen_va {us : List Nat} {n : Nat} {d : D} : seen us n (.va d :: r) = some d :: seen us (n + 1) r := by first | (simp only [seen]; done) | (simp only [seen]; rfl) | rfl
@[simp] theorem seen_ow {us : List Nat} {n : Nat} {d : D} : seen us n (.ow d :: r) = (if n ∈ us then some d else none) :: seen us (n + 1) r := by first | (simp only [seen]; done) | (simp only [seen]; rfl) | rfl
@[simp] theorem gvn_nil {us : List Nat} {n : Nat} : given us n [] = [] := by first | (simp only [given]; done) | (simp only [given]; rfl) | rfl
@[simp] theorem gvn_no {us : List Nat} {n : Nat} : given us n (.no :: r) = .no :: given us (n + 1) r := by first | (simp only [given]; done) | (simp only [given]; rfl) | rfl
@[simp] theorem gvn_va {us : List Nat} {n : Nat} {d : D} : given us n (.va d :: r) = .va d :: given us (n + 1) r := by first | (simp only [given]; done) | (simp only [given]; rfl) | rfl
@[simp] theorem gvn_ow {us : List Nat} {n : Nat} {d : D} : given us n (.ow d :: r) = (if n ∈ us then .va d else .ow d) :: given us (n + 1) r := by
  simp only [given]
@[simp] theorem bindT_nm {i : Nat} {d : D} : bindT (.nm i) d ρ = some (ρ.set i (some d)) := by first | (simp only [bindT]; done) | (simp only [bindT]; rfl) | rfl
@[simp] theorem bindT_tp {ts : Ts} {xs : List D} : bindT (.tp ts) (.tup xs) ρ = bindTs ts xs ρ := by first | (simp only [bindT]; done) | (simp only [bindT]; rfl) | rfl
@[simp] theorem bindTs_nil : bindTs .nil [] ρ = some ρ := by first | (simp only [bindTs]; done) | (simp only [bindTs]; rfl) | rfl
@[simp] theorem bindTs_cons {t : T} {ts : Ts} {d : D} {ds : List D} : bindTs (.cons t ts) (d :: ds) ρ = (bindT t d ρ).bind (bindTs ts ds) := by first | (simp only [bindTs]; done) | (simp only [bindTs]; rfl) | rfl
@[simp] theorem bindS_nm {i : Nat} {d : D} : bindS (.nm i) d r = some (r.set i (.va d)) := by first | (simp only [bindS]; done) | (simp only [bindS]; rfl) | rfl
@[simp] theorem bindS_tp {ts : Ts} {xs : List D} : bindS (.tp ts) (.tup xs) r = bindSs ts xs r := by first | (simp only [bindS]; done) | (simp only [bindS]; rfl) | rfl
@[simp] theorem bindSs_nil : bindSs .nil [] r = some r := by first | (simp only [bindSs]; done) | (simp only [bindSs]; rfl) | rfl
@[simp] theorem bindSs_cons {t : T} {ts : Ts} {d : D} {ds : List D} : bindSs (.cons t ts) (d :: ds) r = (bindS t d r).bind (bindSs ts ds) := by first | (simp only [bindSs]; done) | (simp only [bindSs]; rfl) | rfl
@[simp] theorem tB_bl {b : Bool} : tB (some (.bl b)) = some b := rfl
@[simp] theorem wipeO_nil : wipeO ρ [] = ρ := rfl
@[simp] theorem wipeO_cons {v : Nat} {vs : List Nat} : wipeO ρ (v :: vs) = (wipeO ρ vs).set v none := rfl
@[simp] theorem cmp_lt {i j : Int} : cmpD mo .lt (.int i) (.int j) = some (.bl (decide (i < j))) := rfl
@[simp] theorem cmp_le {i j : Int} : cmpD mo .le (.int i) (.int j) = some (.bl (decide (i ≤ j))) := rfl
@[simp] theorem cmp_gt {i j : Int} : cmpD mo .gt (.int i) (.int j) = some (.bl (decide (j < i))) := rfl
@[simp] theorem cmp_ge {i j : Int} : cmpD mo .ge (.int i) (.int j) = some (.bl (decide (j ≤ i))) := rfl
@[simp] theorem cmp_eq {a b : D} : cmpD mo .eq a b = (eqD mo a b).map D.bl := rfl
@[simp] theorem cmp_ne {a b : D} : cmpD mo .ne a b = (eqD mo a b).map fun k => D.bl (!k) := rfl
@[simp] theorem cmp_in {a b : D} : cmpD mo .inn a b = (memD a b).map D.bl := rfl
@[simp] theorem cmp_nin {a b : D} : cmpD mo .nin a b = (memD a b).map fun k => D.bl (!k) := rfl
@[simp] theorem eq_ints {i j : Int} : eqD mo (.int i) (.int j) = some (decide (i = j)) := rfl
@[simp] theorem eq_bls {i j : Bool} : eqD mo (.bl i) (.bl j) = some (decide (i = j)) := rfl
@[simp] theorem add_ints {i j : Int} : binD .add (.int i) (.int j) = some (.int (i + j)) := rfl
@[simp] theorem sub_ints {i j : Int} : binD .sub (.int i) (.int j) = some (.int (i - j)) := rfl
@[simp] theorem add_tups {i j : List D} : binD .add (.tup i) (.tup j) = gtup (i ++ j) := rfl
@[simp] theorem add_lsts {i j : List D} : binD .add (.lst i) (.lst j) = glst (i ++ j) := rfl
@[simp] theorem items_tup {xs : List D} : itemsD (.tup xs) = some xs := rfl
@[simp] theorem items_lst {xs : List D} : itemsD (.lst xs) = some xs := rfl
@[simp] theorem len_tup {xs : List D} : biD mo .len [.tup xs] = some (.int xs.length) := rfl
@[simp] theorem len_lst {xs : List D} : biD mo .len [.lst xs] = some (.int xs.length) := rfl
@[simp] theorem int_int {i : Int} : biD mo .int [.int i] = some (.int i) := rfl
@[simp] theorem list_d {d : D} : biD mo .list [d] = (itemsD d).map D.lst := rfl
@[simp] theorem tuple_d {d : D} : biD mo .tuple [d] = tupleD d := rfl
@[simp] theorem tupleD_l {xs : List D} : tupleD (.lst xs) = some (.tup xs) := rfl
@[simp] theorem tupleD_t {xs : List D} : tupleD (.tup xs) = some (.tup xs) := rfl
@[simp] theorem tupleD_s {ns : List Int} : tupleD (.scr ns) = some (.tup (ns.map D.int)) := rfl
@[simp] theorem items_ptp {ns : List Int} : itemsD (.ptp ns) = some (ns.map D.int) := rfl
@[simp] theorem len_ptp {mo : Mo} {ns : List Int} : biD mo .len [.ptp ns] = some (.int ns.length) := rfl
@[simp] theorem sum_d {d : D} : biD mo .sum [d] = (itemsD d).bind fun xs => (intsD xs).bind fun ns => some (.int ns.sum) := rfl
@[simp] theorem max_d {d : D} : biD mo .max [d] = (itemsD d).bind fun xs => (intsD xs).bind fun ns => if 0 < ns.length then some (.int (maxI ns)) else none := rfl
@[simp] theorem min_d {d : D} : biD mo .min [d] = (itemsD d).bind fun xs => (intsD xs).bind fun ns => if 0 < ns.length then some (.int (minI ns)) else none := rfl
@[simp] theorem max_2 {i j : Int} : biD mo .max [.int i, .int j] = some (.int (if j > i then j else i)) := rfl
@[simp] theorem min_2 {i j : Int} : biD mo .min [.int i, .int j] = some (.int (if j < i then j else i)) := rfl
@[simp] theorem all_d {xs : List D} : biD mo .all [.lst xs] = (blsD xs).bind fun bs => some (.bl (bs.all id)) := rfl
@[simp] theorem any_d {xs : List D} : biD mo .any [.lst xs] = (blsD xs).bind fun bs => some (.bl (bs.any id)) := rfl
@[simp] theorem sorted_d {d : D} : biD mo .sorted [d] = sortedD d := rfl
@[simp] theorem gtup_0 : gtup [] = some (.tup []) := gtup_ok (by unfold LIM; simp)
@[simp] theorem gtup_1 {a : D} : gtup [a] = some (.tup [a]) := gtup_ok (by unfold LIM; simp)
@[simp] theorem gtup_2 {a b : D} : gtup [a, b] = some (.tup [a, b]) := gtup_ok (by unfold LIM; simp)
@[simp] theorem gtup_3 {a b c : D} : gtup [a, b, c] = some (.tup [a, b, c]) := gtup_ok (by unfold LIM; simp)
@[simp] theorem gtup_4 {a b c d : D} : gtup [a, b, c, d] = some (.tup [a, b, c, d]) := gtup_ok (by unfold LIM; simp)
@[simp] theorem glst_0 : glst [] = some (.lst []) := glst_ok (by unfold LIM; simp)
@[simp] theorem glst_1 {a : D} : glst [a] = some (.lst [a]) := glst_ok (by unfold LIM; simp)
@[simp] theorem glst_2 {a b : D} : glst [a, b] = some (.lst [a, b]) := glst_ok (by unfold LIM; simp)
@[simp] theorem glst_3 {a b c : D} : glst [a, b, c] = some (.lst [a, b, c]) := glst_ok (by unfold LIM; simp)
end
end PV
namespace PV
open PySem
/-! ### equality of data made of ints, tuples, lists -/
inductive Dt : Nat → D → Prop
  | int {n : Nat} (i : Int) : Dt n (.int i)
  | tup {n : Nat} {xs : List D} : (∀ x ∈ xs, Dt n x) → Dt (n + 1) (.tup xs)
  | lst {n : Nat} {xs : List D} : (∀ x ∈ xs, Dt n x) → Dt (n + 1) (.lst xs)
theorem Dt.ints (n : Nat) (ns : List Int) : ∀ x ∈ ns.map D.int, Dt n x := fun x hx => by
  obtain ⟨i, _, rfl⟩ := List.mem_map.mp hx
  exact .int i
theorem Dt.py : ∀ {n : Nat} {d : D}, Dt n d → ∃ p, toPy d = some p ∧ p.canLay0 = true ∧ p.depth ≤ n
  | n, _, .int i => ⟨.int i, by simp [toPy], rfl, Nat.zero_le _⟩
  | n + 1, _, .tup (xs := xs) h => by
    have key : ∀ xs : List D, (∀ x ∈ xs, Dt n x) → ∃ ps, toPyA xs = some ps ∧ PyData.canLayAll0 ps = true ∧ PyData.depthAll ps ≤ n := fun xs => by
      induction xs with
      | nil => exact fun _ => ⟨[], by simp [toPyA], rfl, Nat.zero_le _⟩
      | cons x r ih =>
        intro h
        obtain ⟨p, h1, h2, h3⟩ := Dt.py (h x List.mem_cons_self)
        obtain ⟨q, h4, h5, h6⟩ := ih fun y hy => h y (List.mem_cons_of_mem _ hy)
        exact ⟨p :: q, by simp [toPyA, h1, h4], by simp [PyData.canLayAll0, h2, h5], by simp only [PyData.depthAll]; omega⟩
    obtain ⟨ps, h1, h2, h3⟩ := key xs h
    exact ⟨.tuple ps, by simp [toPy, h1], by simpa [PyData.canLay0] using h2, by simp only [PyData.depth]; omega⟩
  | n + 1, _, .lst (xs := xs) h => by
    have key : ∀ xs : List D, (∀ x ∈ xs, Dt n x) → ∃ ps, toPyA xs = some ps ∧ PyData.canLayAll0 ps = true ∧ PyData.depthAll ps ≤ n := fun xs => by
      induction xs with
      | nil => exact fun _ => ⟨[], by simp [toPyA], rfl, Nat.zero_le _⟩
      | cons x r ih =>
        intro h
        obtain ⟨p, h1, h2, h3⟩ := Dt.py (h x List.mem_cons_self)
        obtain ⟨q, h4, h5, h6⟩ := ih fun y hy => h y (List.mem_cons_of_mem _ hy)
        exact ⟨p :: q, by simp [toPyA, h1, h4], by simp [PyData.canLayAll0, h2, h5], by simp only [PyData.depthAll]; omega⟩
    obtain ⟨ps, h1, h2, h3⟩ := key xs h
    exact ⟨.list ps, by simp [toPy, h1], by simpa [PyData.canLay0] using h2, by simp only [PyData.depth]; omega⟩
theorem toPyA_len : ∀ {xs : List D} {ps : List PyData}, toPyA xs = some ps → xs.length = ps.length
  | [], _, h => by simp [toPyA] at h; subst h; rfl
  | x :: r, ps, h => by
    simp only [toPyA] at h
    split at h
    · rename_i p q h1 h2
      cases h
      simp [toPyA_len h2]
    · cases h
theorem dt_all {n : Nat} (ih : ∀ {a b : D} {p q : PyData}, Dt n a → Dt n b → toPy a = some p → toPy b = some q → (PyData.eqv p q = true ↔ a = b)) : ∀ {xs ys : List D} {ps qs : List PyData}, (∀ x ∈ xs, Dt n x) → (∀ x ∈ ys, Dt n x) → toPyA xs = some ps → toPyA ys = some qs → (PyData.eqvAll ps qs = true ↔ xs = ys)
  | [], [], _, _, _, _, h1, h2 => by simp [toPyA] at h1 h2; subst h1 h2; simp [PyData.eqvAll]
  | [], y :: ys, _, qs, _, _, h1, h2 => by
    have := toPyA_len h2
    simp [toPyA] at h1; subst h1
    cases qs with
    | nil => simp at this
    | cons q qs => simp [PyData.eqvAll]
  | x :: xs, [], ps, _, _, _, h1, h2 => by
    have := toPyA_len h1
    simp [toPyA] at h2; subst h2
    cases ps with
    | nil => simp at this
    | cons q qs => simp [PyData.eqvAll]
  | x :: xs, y :: ys, ps, qs, a, b, h1, h2 => by
    simp only [toPyA] at h1 h2
    split at h1
    · rename_i p1 q1 e1 e2
      cases h1
      split at h2
      · rename_i p2 q2 e3 e4
        cases h2
        have i1 := ih (a x List.mem_cons_self) (b y List.mem_cons_self) e1 e3
        have i2 := dt_all ih (fun z hz => a z (List.mem_cons_of_mem _ hz)) (fun z hz => b z (List.mem_cons_of_mem _ hz)) e2 e4
        simp only [PyData.eqvAll, Bool.and_eq_true, List.cons.injEq, i1, i2]
      · cases h2
    · cases h1
theorem dt_eqv : ∀ {n : Nat} {a b : D} {p q : PyData}, Dt n a → Dt n b → toPy a = some p → toPy b = some q → (PyData.eqv p q = true ↔ a = b)
  | n, _, _, _, _, .int i, .int j, h1, h2 => by simp [toPy] at h1 h2; subst h1 h2; simp [PyData.eqv]
  | n + 1, _, _, _, _, .int i, .tup (xs := ys) hy, h1, h2 => by
    simp [toPy] at h1 h2; obtain ⟨qs, _, rfl⟩ := h2; subst h1; simp [PyData.eqv]
  | n + 1, _, _, _, _, .int i, .lst (xs := ys) hy, h1, h2 => by
    simp [toPy] at h1 h2; obtain ⟨qs, _, rfl⟩ := h2; subst h1; simp [PyData.eqv]
  | n + 1, _, _, _, _, .tup (xs := xs) hx, .int j, h1, h2 => by
    simp [toPy] at h1 h2; obtain ⟨qs, _, rfl⟩ := h1; subst h2; simp [PyData.eqv]
  | n + 1, _, _, _, _, .lst (xs := xs) hx, .int j, h1, h2 => by
    simp [toPy] at h1 h2; obtain ⟨qs, _, rfl⟩ := h1; subst h2; simp [PyData.eqv]
  | n + 1, _, _, _, _, .tup (xs := xs) hx, .lst (xs := ys) hy, h1, h2 => by
    simp [toPy] at h1 h2; obtain ⟨ps, _, rfl⟩ := h1; obtain ⟨qs, _, rfl⟩ := h2; simp [PyData.eqv]
  | n + 1, _, _, _, _, .lst (xs := xs) hx, .tup (xs := ys) hy, h1, h2 => by
    simp [toPy] at h1 h2; obtain ⟨ps, _, rfl⟩ := h1; obtain ⟨qs, _, rfl⟩ := h2; simp [PyData.eqv]
  | n + 1, _, _, _, _, .tup (xs := xs) hx, .tup (xs := ys) hy, h1, h2 => by
    simp [toPy] at h1 h2; obtain ⟨ps, e1, rfl⟩ := h1; obtain ⟨qs, e2, rfl⟩ := h2
    rw [PyData.eqv, dt_all (fun h1 h2 h3 h4 => dt_eqv h1 h2 h3 h4) hx hy e1 e2]; simp
  | n + 1, _, _, _, _, .lst (xs := xs) hx, .lst (xs := ys) hy, h1, h2 => by
    simp [toPy] at h1 h2; obtain ⟨ps, e1, rfl⟩ := h1; obtain ⟨qs, e2, rfl⟩ := h2
    rw [PyData.eqv, dt_all (fun h1 h2 h3 h4 => dt_eqv h1 h2 h3 h4) hx hy e1 e2]; simp
theorem eqD_dt {mo : Mo} {n : Nat} {a b : D} (ha : Dt n a) (hb : Dt n b) (hn : n ≤ 64) : ∃ k, eqD mo a b = some k ∧ (k = true ↔ a = b) := by
  obtain ⟨p, h1, h2, h3⟩ := ha.py
  obtain ⟨q, h4, h5, h6⟩ := hb.py
  have sp : (SeqAt.shaped p && SeqAt.shaped q) = true := by
    simp only [SeqAt.shaped, Bool.and_eq_true, decide_eq_true_eq]
    exact ⟨⟨h2, by omega⟩, h5, by omega⟩
  have gen : (match toPy a, toPy b with | some p, some q => if SeqAt.shaped p && SeqAt.shaped q then some (PyData.eqv p q) else none | _, _ => none) = some (PyData.eqv p q) := by
    rw [h1, h4]; dsimp only; rw [if_pos sp]
  have fin : ∃ k, some (PyData.eqv p q) = some k ∧ (k = true ↔ a = b) := ⟨_, rfl, dt_eqv ha hb h1 h4⟩
  cases ha with
  | int i =>
    cases hb with
    | int j => exact ⟨decide (i = j), rfl, by simp⟩
    | tup hy => exact ⟨_, gen, dt_eqv (.int i) (.tup hy) h1 h4⟩
    | lst hy => exact ⟨_, gen, dt_eqv (.int i) (.lst hy) h1 h4⟩
  | tup hx =>
    cases hb with
    | int j => exact ⟨_, gen, dt_eqv (.tup hx) (.int j) h1 h4⟩
    | tup hy => exact ⟨_, gen, dt_eqv (.tup hx) (.tup hy) h1 h4⟩
    | lst hy => exact ⟨_, gen, dt_eqv (.tup hx) (.lst hy) h1 h4⟩
  | lst hx =>
    cases hb with
    | int j => exact ⟨_, gen, dt_eqv (.lst hx) (.int j) h1 h4⟩
    | tup hy => exact ⟨_, gen, dt_eqv (.lst hx) (.tup hy) h1 h4⟩
    | lst hy => exact ⟨_, gen, dt_eqv (.lst hx) (.lst hy) h1 h4⟩
theorem eqD_self {mo : Mo} {n : Nat} {a : D} (ha : Dt n a) (hn : n ≤ 64) : eqD mo a a = some true := by
  obtain ⟨k, h1, h2⟩ := eqD_dt (mo := mo) ha ha hn
  rw [h1, h2.mpr rfl]
theorem eqD_ne {mo : Mo} {n : Nat} {a b : D} (ha : Dt n a) (hb : Dt n b) (hn : n ≤ 64) (h : a ≠ b) : eqD mo a b = some false := by
  obtain ⟨k, h1, h2⟩ := eqD_dt (mo := mo) ha hb hn
  rw [h1]
  cases k with
  | false => rfl
  | true => exact absurd (h2.mp rfl) h
/-! ### slices, zips, ranges -/
theorem cut_from (xs : List D) (k : Nat) : cutD xs (some (k : Int)) none = xs.drop k := by
  unfold cutD
  rw [HT.sIx_nat, HT.sIx_none]
  rcases Nat.le_total k xs.length with h | h
  · rw [Nat.min_eq_left h, List.take_of_length_le (by simp)]
  · rw [Nat.min_eq_right h, List.drop_length, List.drop_eq_nil_of_le h]; simp
theorem cut_to (xs : List D) (k : Nat) : cutD xs none (some (k : Int)) = xs.take k := by
  unfold cutD
  rw [HT.sIx_nat, HT.sIx_none, List.drop_zero, Nat.sub_zero]
  rcases Nat.le_total k xs.length with h | h
  · rw [Nat.min_eq_left h]
  · rw [Nat.min_eq_right h, List.take_length, List.take_of_length_le h]
theorem cut_mid (xs : List D) (a b : Nat) (h : b ≤ xs.length) : cutD xs (some (a : Int)) (some (b : Int)) = (xs.drop a).take (b - a) := by
  unfold cutD
  rw [HT.sIx_nat, HT.sIx_nat, Nat.min_eq_left h]
  rcases Nat.le_total a xs.length with h' | h'
  · rw [Nat.min_eq_left h']
  · rw [Nat.min_eq_right h', List.drop_length, List.drop_eq_nil_of_le h']; simp
theorem zipD_map {α β : Type} (f : α → D) (g : β → D) : ∀ (xs : List α) (ys : List β), zipD (xs.map f) (ys.map g) = (xs.zip ys).map fun p => .tup [f p.1, g p.2]
  | [], _ => by simp [zipD]
  | x :: xs, [] => by simp [zipD]
  | x :: xs, y :: ys => by simp only [List.map_cons, zipD, List.zip_cons_cons, zipD_map f g xs ys]
theorem enuD_map {α : Type} (f : α → D) : ∀ (n : Nat) (xs : List α), enuD n (xs.map f) = (xs.zipIdx n).map fun p => .tup [.int ((p.2 : Nat) : Int), f p.1]
  | _, [] => rfl
  | n, x :: xs => by rw [List.map_cons, enuD, enuD_map f (n + 1) xs]; rfl
theorem rngD_map (lo : Int) (n : Nat) : rngD lo n = ((List.range n).map fun i => lo + (i : Nat)).map D.int := by unfold rngD; rw [List.map_map]; rfl
theorem fits_small {i : Int} (h : -1000000 ≤ i) (h2 : i ≤ 1000000) : fitsB i = true := by
  exact inB_of (by omega) (by omega)
theorem small_of {i : Int} (h : -1000000 ≤ i) (h2 : i ≤ 1000000) : small64B i = true := by
  exact inB_of (by omega) (by omega)
theorem atI_map' {α : Type} (f : α → D) (xs : List α) (i : Nat) (h : i < xs.length) : L2.atI (xs.map f) (i : Int) = some (f xs[i]) := by
  unfold L2.atI L2.ixN
  simp [h]
theorem keysO_ints (ns : List Int) : keysO (ns.map D.int) = some (ns.map Sum.inl) := by
  induction ns with
  | nil => rfl
  | cons n r ih => simp [keysO, keyO, ih]
theorem inl_inj {a b : List Int} (h : a.map (Sum.inl : Int → L2.Key) = b.map Sum.inl) : a = b := by
  induction a generalizing b with
  | nil => cases b with
    | nil => rfl
    | cons y b => cases h
  | cons x a ih => cases b with
    | nil => cases h
    | cons y b =>
      simp only [List.map_cons, List.cons.injEq, Sum.inl.injEq] at h
      rw [h.1, ih h.2]
end PV
namespace PV
open PySem
/-- a loop, by what holds behind each turn -/
theorem loopF_P {g : D → Ro → Option Ro} {b : Ro → Option Out} {α : Type} {enc : α → D} {P : List α → Ro → Prop} : ∀ (xs : List α) (d : List α) (ρ : Ro), (∀ d x ρ, x ∈ xs → P d ρ → ∃ ρ1 ρ2, g (enc x) ρ = some ρ1 ∧ (b ρ1 = some (.nx ρ2) ∨ b ρ1 = some (.ct ρ2)) ∧ P (d ++ [x]) ρ2) → P d ρ →
    ∃ ρ', loopF g b (xs.map enc) ρ = some (.nx ρ') ∧ P (d ++ xs) ρ'
  | [], d, ρ, _, h => ⟨ρ, rfl, by rw [List.append_nil]; exact h⟩
  | x :: xs, d, ρ, h, hp => by
    obtain ⟨ρ1, ρ2, h1, h2, h3⟩ := h d x ρ List.mem_cons_self hp
    obtain ⟨ρ', h4, h5⟩ := loopF_P xs (d ++ [x]) ρ2 (fun d y ρ hy => h d y ρ (List.mem_cons_of_mem _ hy)) h3
    refine ⟨ρ', ?_, by rw [List.append_assoc] at h5; exact h5⟩
    show (g (enc x) ρ).bind _ = _
    rw [h1]
    show (b ρ1).bind _ = _
    rcases h2 with h2 | h2 <;> rw [h2] <;> exact h4
end PV
namespace PV
open PySem
theorem mem_tup (i : Int) (ns : List Int) : memD (.int i) (.tup (ns.map D.int)) = some (ns.any fun y => decide (y = i)) := by
  have e : memD (.int i) (.tup (ns.map D.int)) = memT (.int i) (.tup (ns.map D.int)) := rfl
  rw [e]
  unfold memT
  dsimp only
  rw [intsD_map]
end PV
namespace PV
open PySem
/-- a loop, by what holds at each place -/
theorem loopF_ixA {g : D → Ro → Option Ro} {b : Ro → Option Out} {α : Type} {enc : α → D} {P : Nat → Ro → Prop} : ∀ (xs : List α) (k : Nat) (ρ : Ro), (∀ i x ρ, xs[i]? = some x → P (k + i) ρ → ∃ ρ1 ρ2, g (enc x) ρ = some ρ1 ∧ (b ρ1 = some (.nx ρ2) ∨ b ρ1 = some (.ct ρ2)) ∧ P (k + i + 1) ρ2) → P k ρ →
    ∃ ρ', loopF g b (xs.map enc) ρ = some (.nx ρ') ∧ P (k + xs.length) ρ'
  | [], k, ρ, _, h => ⟨ρ, rfl, h⟩
  | x :: xs, k, ρ, h, hp => by
    obtain ⟨ρ1, ρ2, h1, h2, h3⟩ := h 0 x ρ rfl hp
    obtain ⟨ρ', h4, h5⟩ := loopF_ixA xs (k + 1) ρ2 (fun i y ρ hy hp => by
      have := h (i + 1) y ρ (by simpa using hy) (by rw [show k + (i + 1) = k + 1 + i by omega]; exact hp)
      rw [show k + (i + 1) + 1 = k + 1 + i + 1 by omega] at this
      exact this) h3
    refine ⟨ρ', ?_, by rw [List.length_cons, show k + (xs.length + 1) = k + 1 + xs.length by omega]; exact h5⟩
    show (g (enc x) ρ).bind _ = _
    rw [h1]
    show (b ρ1).bind _ = _
    rcases h2 with h2 | h2 <;> rw [h2] <;> exact h4
theorem loopF_ix {g : D → Ro → Option Ro} {b : Ro → Option Out} {α : Type} {enc : α → D} {P : Nat → Ro → Prop} {xs : List α} {ρ : Ro} (h : ∀ i x ρ, xs[i]? = some x → P i ρ → ∃ ρ1 ρ2, g (enc x) ρ = some ρ1 ∧ (b ρ1 = some (.nx ρ2) ∨ b ρ1 = some (.ct ρ2)) ∧ P (i + 1) ρ2) (h0 : P 0 ρ) :
    ∃ ρ', loopF g b (xs.map enc) ρ = some (.nx ρ') ∧ P xs.length ρ' := by
  obtain ⟨ρ', h1, h2⟩ := loopF_ixA (P := P) (enc := enc) xs 0 ρ (fun i x ρ hx hp => by
    have := h i x ρ hx (by rw [Nat.zero_add] at hp; exact hp)
    rw [Nat.zero_add]; exact this) h0
  exact ⟨ρ', h1, by rw [Nat.zero_add] at h2; exact h2⟩
theorem atI_last {α : Type} (f : α → D) (xs : List α) (x : α) : L2.atI ((xs ++ [x]).map f) (-1) = some (f x) := by
  unfold L2.atI L2.ixN
  have : ¬ (0 : Int) ≤ -1 := by omega
  have h2 : -(((xs ++ [x]).map f).length : Int) ≤ -1 := by simp; omega
  have h3 : ((-1 : Int) + ((xs ++ [x]).map f).length).toNat = xs.length := by simp; omega
  rw [if_neg this, if_pos h2, h3]
  simp
end PV
namespace TT
open PySem PV L2
/-- is_whole("item") -/
theorem u0 (n : Nat) (ds : List D) : (tb.mo (n + 1)).fn 0 ds = runF (tb.mo n) 1 1 tm0 ds := rfl
/-- is_between("item", "least", "most") -/
theorem u1 (n : Nat) (ds : List D) : (tb.mo (n + 1)).fn 1 ds = runF (tb.mo n) 3 3 tm1 ds := rfl
/-- are_between("items", "least", "most", "item") -/
theorem u2 (n : Nat) (ds : List D) : (tb.mo (n + 1)).fn 2 ds = runF (tb.mo n) 4 3 tm2 ds := rfl
/-- are_ascending("items", "past", "one", "other") -/
theorem u3 (n : Nat) (ds : List D) : (tb.mo (n + 1)).fn 3 ds = runF (tb.mo n) 4 2 tm3 ds := rfl
/-- are_cuts("cuts", "width") -/
theorem u4 (n : Nat) (ds : List D) : (tb.mo (n + 1)).fn 4 ds = runF (tb.mo n) 2 2 tm4 ds := rfl
/-- check_cuts("cuts", "width") -/
theorem u5 (n : Nat) (ds : List D) : (tb.mo (n + 1)).fn 5 ds = runF (tb.mo n) 2 2 tm5 ds := rfl
/-- check_range("first", "past", "width") -/
theorem u6 (n : Nat) (ds : List D) : (tb.mo (n + 1)).fn 6 ds = runF (tb.mo n) 3 3 tm6 ds := rfl
/-- bucket_pairs("cuts", "width") -/
theorem u7 (n : Nat) (ds : List D) : (tb.mo (n + 1)).fn 7 ds = runF (tb.mo n) 2 2 tm7 ds := rfl
/-- shared_values("bucket", "first", "past", "start", "end") -/
theorem u8 (n : Nat) (ds : List D) : (tb.mo (n + 1)).fn 8 ds = runF (tb.mo n) 5 3 tm8 ds := rfl
/-- lowest_terms("top", "bottom", "common") -/
theorem u9 (n : Nat) (ds : List D) : (tb.mo (n + 1)).fn 9 ds = runF (tb.mo n) 3 2 tm9 ds := rfl
/-- check_column("column") -/
theorem u10 (n : Nat) (ds : List D) : (tb.mo (n + 1)).fn 10 ds = runF (tb.mo n) 1 1 tm10 ds := rfl
/-- _are_totals("totals", "buckets", "total", "start", "end") -/
theorem u11 (n : Nat) (ds : List D) : (tb.mo (n + 1)).fn 11 ds = runF (tb.mo n) 5 2 tm11 ds := rfl
/-- check_histogram("hist") -/
theorem u12 (n : Nat) (ds : List D) : (tb.mo (n + 1)).fn 12 ds = runF (tb.mo n) 1 1 tm12 ds := rfl
/-- _parts("column", "cuts", "start", "end") -/
theorem u13 (n : Nat) (ds : List D) : (tb.mo (n + 1)).fn 13 ds = runF (tb.mo n) 4 2 tm13 ds := rfl
/-- histogram("column", "cuts", "totals", "part") -/
theorem u14 (n : Nat) (ds : List D) : (tb.mo (n + 1)).fn 14 ds = runF (tb.mo n) 4 2 tm14 ds := rfl
/-- caps_of("column", "cuts", "part") -/
theorem u15 (n : Nat) (ds : List D) : (tb.mo (n + 1)).fn 15 ds = runF (tb.mo n) 3 2 tm15 ds := rfl
/-- fills_of("column", "cuts", "part") -/
theorem u16 (n : Nat) (ds : List D) : (tb.mo (n + 1)).fn 16 ds = runF (tb.mo n) 3 2 tm16 ds := rfl
/-- estimate("hist", "first", "past", "scaled", "bucket", "total", "start", "end") -/
theorem u17 (n : Nat) (ds : List D) : (tb.mo (n + 1)).fn 17 ds = runF (tb.mo n) 8 3 tm17 ds := rfl
/-- coarser("hist", "cuts", "totals", "bucket", "start", "end", "cut", "total") -/
theorem u18 (n : Nat) (ds : List D) : (tb.mo (n + 1)).fn 18 ds = runF (tb.mo n) 8 2 tm18 ds := rfl
/-- _law_number("script", "index", "cells", "cell", "total", "blend", "low", "high") -/
theorem u19 (n : Nat) (ds : List D) : (tb.mo (n + 1)).fn 19 ds = runF (tb.mo n) 8 2 tm19 ds := rfl
/-- _law_take("draw", "many") -/
theorem u20 (n : Nat) (ds : List D) : (tb.mo (n + 1)).fn 20 ds = runF (tb.mo n) 2 2 tm20 ds := rfl
/-- _law_counts("draw", "most", "found", "value", "count") -/
theorem u21 (n : Nat) (ds : List D) : (tb.mo (n + 1)).fn 21 ds = runF (tb.mo n) 5 2 tm21 ds := rfl
/-- _law_cuts("draw", "width", "value") -/
theorem u22 (n : Nat) (ds : List D) : (tb.mo (n + 1)).fn 22 ds = runF (tb.mo n) 3 2 tm22 ds := rfl
/-- _law_buckets("width", "cuts") -/
theorem u23 (n : Nat) (ds : List D) : (tb.mo (n + 1)).fn 23 ds = runF (tb.mo n) 2 2 tm23 ds := rfl
/-- _law_fraction("above", "below", "one", "other") -/
theorem u24 (n : Nat) (ds : List D) : (tb.mo (n + 1)).fn 24 ds = runF (tb.mo n) 4 2 tm24 ds := rfl
/-- _law_estimates_right("draw", "width", "column", "cuts", "buckets", "totals", "hist", "first", "past", "even", "some", "bent", "at", "total", "begin", "end", "cut") -/
theorem u25 (n : Nat) (ds : List D) : (tb.mo (n + 1)).fn 25 ds = runF (tb.mo n) 17 7 tm25 ds := rfl
/-- law("script", "draw", "turn", "counts", "cuts", "buckets", "totals", "hist", "width", "column", "first", "past", "one") -/
theorem u26 (n : Nat) (ds : List D) : (tb.mo (n + 1)).fn 26 ds = runF (tb.mo n) 13 1 tm26 ds := rfl
/-- Column("self", "counts") -/
theorem umk0 (n : Nat) (ds : List D) : (tb.mo (n + 1)).mkD 0 ds = runI (tb.mo n) 2 2 0 tm27 ds := rfl
@[simp] theorem fl0_3 (n : Nat) : (tb.mo (n + 1)).fl 0 3 = true := by kernel_rfl
/-- Histogram("self", "width", "cuts", "totals") -/
theorem umk1 (n : Nat) (ds : List D) : (tb.mo (n + 1)).mkD 1 ds = runI (tb.mo n) 4 4 1 tm32 ds := rfl
@[simp] theorem fl1_4 (n : Nat) : (tb.mo (n + 1)).fl 1 4 = true := by kernel_rfl
@[simp] theorem fl1_5 (n : Nat) : (tb.mo (n + 1)).fl 1 5 = true := by kernel_rfl
@[simp] theorem fl1_6 (n : Nat) : (tb.mo (n + 1)).fl 1 6 = true := by kernel_rfl
/-- Column.__eq__("self", "other") -/
theorem um0_1 (n : Nat) (ds : List D) : (tb.mo (n + 1)).me 0 1 ds = runF (tb.mo n) 2 2 tm28 ds := rfl
/-- Column.__len__("self") -/
theorem um0_0 (n : Nat) (ds : List D) : (tb.mo (n + 1)).me 0 0 ds = runF (tb.mo n) 1 1 tm29 ds := rfl
/-- Column.__getitem__("self", "at") -/
theorem um0_2 (n : Nat) (ds : List D) : (tb.mo (n + 1)).me 0 2 ds = runF (tb.mo n) 2 2 tm30 ds := rfl
/-- Column.rows("self") -/
theorem um0_8 (n : Nat) (ds : List D) : (tb.mo (n + 1)).me 0 8 ds = runF (tb.mo n) 1 1 tm31 ds := rfl
/-- Histogram.__eq__("self", "other") -/
theorem um1_1 (n : Nat) (ds : List D) : (tb.mo (n + 1)).me 1 1 ds = runF (tb.mo n) 2 2 tm33 ds := rfl
/-- Histogram.__len__("self") -/
theorem um1_0 (n : Nat) (ds : List D) : (tb.mo (n + 1)).me 1 0 ds = runF (tb.mo n) 1 1 tm34 ds := rfl
/-- Histogram.buckets("self") -/
theorem um1_7 (n : Nat) (ds : List D) : (tb.mo (n + 1)).me 1 7 ds = runF (tb.mo n) 1 1 tm35 ds := rfl
@[simp] theorem isi0 (n : Nat) : (tb.mo (n + 1)).isi (.bi "int") (.bi "int") = some true := by kernel_rfl
@[simp] theorem isi1 (n : Nat) : (tb.mo (n + 1)).isi (.bi "int") (.bi "bool") = some false := by kernel_rfl
@[simp] theorem isi2 (n : Nat) : (tb.mo (n + 1)).isi (.bi "int") (.bi "str") = some false := by kernel_rfl
@[simp] theorem isi3 (n : Nat) : (tb.mo (n + 1)).isi (.bi "int") (.bi "list") = some false := by kernel_rfl
@[simp] theorem isi4 (n : Nat) : (tb.mo (n + 1)).isi (.bi "int") (.bi "tuple") = some false := by kernel_rfl
@[simp] theorem isi5 (n : Nat) : (tb.mo (n + 1)).isi (.bi "int") (.bi "dict") = some false := by kernel_rfl
@[simp] theorem isi6 (n : Nat) : (tb.mo (n + 1)).isi (.bi "bool") (.bi "int") = some true := by kernel_rfl
@[simp] theorem isi7 (n : Nat) : (tb.mo (n + 1)).isi (.bi "bool") (.bi "bool") = some true := by kernel_rfl
@[simp] theorem isi8 (n : Nat) : (tb.mo (n + 1)).isi (.bi "bool") (.bi "str") = some false := by kernel_rfl
@[simp] theorem isi9 (n : Nat) : (tb.mo (n + 1)).isi (.bi "bool") (.bi "list") = some false := by kernel_rfl
@[simp] theorem isi10 (n : Nat) : (tb.mo (n + 1)).isi (.bi "bool") (.bi "tuple") = some false := by kernel_rfl
@[simp] theorem isi11 (n : Nat) : (tb.mo (n + 1)).isi (.bi "bool") (.bi "dict") = some false := by kernel_rfl
@[simp] theorem isi12 (n : Nat) : (tb.mo (n + 1)).isi (.bi "str") (.bi "int") = some false := by kernel_rfl
@[simp] theorem isi13 (n : Nat) : (tb.mo (n + 1)).isi (.bi "str") (.bi "bool") = some false := by kernel_rfl
@[simp] theorem isi14 (n : Nat) : (tb.mo (n + 1)).isi (.bi "str") (.bi "str") = some true := by kernel_rfl
@[simp] theorem isi15 (n : Nat) : (tb.mo (n + 1)).isi (.bi "str") (.bi "list") = some false := by kernel_rfl
@[simp] theorem isi16 (n : Nat) : (tb.mo (n + 1)).isi (.bi "str") (.bi "tuple") = some false := by kernel_rfl
@[simp] theorem isi17 (n : Nat) : (tb.mo (n + 1)).isi (.bi "str") (.bi "dict") = some false := by kernel_rfl
@[simp] theorem isi18 (n : Nat) : (tb.mo (n + 1)).isi (.bi "list") (.bi "int") = some false := by kernel_rfl
@[simp] theorem isi19 (n : Nat) : (tb.mo (n + 1)).isi (.bi "list") (.bi "bool") = some false := by kernel_rfl
@[simp] theorem isi20 (n : Nat) : (tb.mo (n + 1)).isi (.bi "list") (.bi "str") = some false := by kernel_rfl
@[simp] theorem isi21 (n : Nat) : (tb.mo (n + 1)).isi (.bi "list") (.bi "list") = some true := by kernel_rfl
@[simp] theorem isi22 (n : Nat) : (tb.mo (n + 1)).isi (.bi "list") (.bi "tuple") = some false := by kernel_rfl
@[simp] theorem isi23 (n : Nat) : (tb.mo (n + 1)).isi (.bi "list") (.bi "dict") = some false := by kernel_rfl
@[simp] theorem isi24 (n : Nat) : (tb.mo (n + 1)).isi (.bi "tuple") (.bi "int") = some false := by kernel_rfl
@[simp] theorem isi25 (n : Nat) : (tb.mo (n + 1)).isi (.bi "tuple") (.bi "bool") = some false := by kernel_rfl
@[simp] theorem isi26 (n : Nat) : (tb.mo (n + 1)).isi (.bi "tuple") (.bi "str") = some false := by kernel_rfl
@[simp] theorem isi27 (n : Nat) : (tb.mo (n + 1)).isi (.bi "tuple") (.bi "list") = some false := by kernel_rfl
@[simp] theorem isi28 (n : Nat) : (tb.mo (n + 1)).isi (.bi "tuple") (.bi "tuple") = some true := by kernel_rfl
@[simp] theorem isi29 (n : Nat) : (tb.mo (n + 1)).isi (.bi "tuple") (.bi "dict") = some false := by kernel_rfl
@[simp] theorem isi30 (n : Nat) : (tb.mo (n + 1)).isi (.bi "dict") (.bi "int") = some false := by kernel_rfl
@[simp] theorem isi31 (n : Nat) : (tb.mo (n + 1)).isi (.bi "dict") (.bi "bool") = some false := by kernel_rfl
@[simp] theorem isi32 (n : Nat) : (tb.mo (n + 1)).isi (.bi "dict") (.bi "str") = some false := by kernel_rfl
@[simp] theorem isi33 (n : Nat) : (tb.mo (n + 1)).isi (.bi "dict") (.bi "list") = some false := by kernel_rfl
@[simp] theorem isi34 (n : Nat) : (tb.mo (n + 1)).isi (.bi "dict") (.bi "tuple") = some false := by kernel_rfl
@[simp] theorem isi35 (n : Nat) : (tb.mo (n + 1)).isi (.bi "dict") (.bi "dict") = some true := by kernel_rfl
@[simp] theorem isi36 (n : Nat) : (tb.mo (n + 1)).isi (.bi "NoneType") (.bi "int") = some false := by kernel_rfl
@[simp] theorem isi37 (n : Nat) : (tb.mo (n + 1)).isi (.bi "NoneType") (.bi "bool") = some false := by kernel_rfl
@[simp] theorem isi38 (n : Nat) : (tb.mo (n + 1)).isi (.bi "NoneType") (.bi "str") = some false := by kernel_rfl
@[simp] theorem isi39 (n : Nat) : (tb.mo (n + 1)).isi (.bi "NoneType") (.bi "list") = some false := by kernel_rfl
@[simp] theorem isi40 (n : Nat) : (tb.mo (n + 1)).isi (.bi "NoneType") (.bi "tuple") = some false := by kernel_rfl
@[simp] theorem isi41 (n : Nat) : (tb.mo (n + 1)).isi (.bi "NoneType") (.bi "dict") = some false := by kernel_rfl
@[simp] theorem isi42 (n : Nat) : (tb.mo (n + 1)).isi (.own 0) (.own 0) = some true := by kernel_rfl
@[simp] theorem isi43 (n : Nat) : (tb.mo (n + 1)).isi (.own 1) (.own 1) = some true := by kernel_rfl
end TT
namespace M30
open PV
/-! ### cuts of k + 1 values -/
def evL : Nat → List (List Int)
  | 0 => [[0]]
  | k + 1 => evL k ++ (evL k).map (· ++ [((k + 1 : Nat) : Int)])
structure Cut (k : Nat) (c : List Int) : Prop where
  rise : c.Pairwise (· < ·)
  head : c.head? = some 0
  lt : ∀ x ∈ c, x < (k : Int) + 1
theorem Cut.ne {k : Nat} {c : List Int} (h : Cut k c) : c ≠ [] := fun e => by have := h.head; rw [e] at this; cases this
theorem Cut.nn {k : Nat} {c : List Int} (h : Cut k c) : ∀ x ∈ c, 0 ≤ x := by
  intro x hx
  cases c with
  | nil => cases hx
  | cons y r =>
    have e : y = 0 := by simpa using h.head
    subst e
    rcases List.mem_cons.mp hx with rfl | hx
    · exact Int.le_refl _
    · exact Int.le_of_lt ((List.pairwise_cons.mp h.rise).1 x hx)
theorem Cut.zero {k : Nat} {c : List Int} (h : Cut k c) : (0 : Int) ∈ c := by
  cases c with
  | nil => exact absurd rfl h.ne
  | cons y r =>
    have e : y = 0 := by simpa using h.head
    subst e; exact List.mem_cons_self
theorem cut_of_evL : ∀ {k : Nat} {c : List Int}, c ∈ evL k → Cut k c
  | 0, c, h => by
    have e : c = [0] := by simpa [evL] using h
    subst e
    exact ⟨by simp, rfl, fun x hx => by simp at hx; subst hx; decide⟩
  | k + 1, c, h => by
    unfold evL at h
    rcases List.mem_append.mp h with h | h
    · have q := cut_of_evL h
      exact ⟨q.rise, q.head, fun x hx => by have := q.lt x hx; omega⟩
    · obtain ⟨d, hd, rfl⟩ := List.mem_map.mp h
      have q := cut_of_evL hd
      refine ⟨?_, ?_, fun x hx => ?_⟩
      · rw [List.pairwise_append]
        exact ⟨q.rise, by simp, fun a ha b hb => by simp at hb; subst hb; have := q.lt a ha; omega⟩
      · cases d with
        | nil => exact absurd rfl q.ne
        | cons y r => exact q.head
      · rcases List.mem_append.mp hx with hx | hx
        · have := q.lt x hx; omega
        · simp at hx; subst hx; omega
theorem rise_last {c : List Int} (h : c.Pairwise (· < ·)) {x : Int} (hx : x ∈ c) (top : ∀ y ∈ c, y ≤ x) : ∃ d, c = d ++ [x] := by
  induction c with
  | nil => cases hx
  | cons y r ih =>
    have h' := List.pairwise_cons.mp h
    rcases List.mem_cons.mp hx with rfl | hx
    · refine ⟨[], ?_⟩
      cases r with
      | nil => rfl
      | cons z r =>
        have a := h'.1 z List.mem_cons_self
        have b := top z (List.mem_cons_of_mem _ List.mem_cons_self)
        omega
    · obtain ⟨d, e⟩ := ih h'.2 hx fun z hz => top z (List.mem_cons_of_mem _ hz)
      exact ⟨y :: d, by rw [e]; rfl⟩
theorem evL_of_cut : ∀ {k : Nat} {c : List Int}, Cut k c → c ∈ evL k
  | 0, c, h => by
    have nn := h.nn
    cases c with
    | nil => exact absurd rfl h.ne
    | cons y r =>
      have e : y = 0 := by simpa using h.head
      subst e
      cases r with
      | nil => simp [evL]
      | cons z r =>
        have a := (List.pairwise_cons.mp h.rise).1 z List.mem_cons_self
        have b := h.lt z (List.mem_cons_of_mem _ List.mem_cons_self)
        omega
  | k + 1, c, h => by
    unfold evL
    by_cases m : ((k + 1 : Nat) : Int) ∈ c
    · obtain ⟨d, rfl⟩ := rise_last h.rise m fun y hy => by have := h.lt y hy; omega
      refine List.mem_append_right _ (List.mem_map.mpr ⟨d, evL_of_cut ⟨?_, ?_, fun x hx => ?_⟩, rfl⟩)
      · exact (List.pairwise_append.mp h.rise).1
      · cases d with
        | nil => have := h.head; simp at this; omega
        | cons y r => exact h.head
      · have := (List.pairwise_append.mp h.rise).2.2 x hx _ (List.mem_singleton.mpr rfl)
        omega
    · refine List.mem_append_left _ (evL_of_cut ⟨h.rise, h.head, fun x hx => ?_⟩)
      have := h.lt x hx
      have ne : x ≠ ((k + 1 : Nat) : Int) := fun e => m (e ▸ hx)
      omega
theorem evL_nodup : ∀ k, (evL k).Nodup
  | 0 => by simp [evL]
  | k + 1 => by
    unfold evL
    rw [List.nodup_append]
    refine ⟨evL_nodup k, ?_, fun a ha b hb e => ?_⟩
    · exact List.Pairwise.map _ (fun a b h e => h (List.append_cancel_right e)) (evL_nodup k)
    · subst e
      obtain ⟨d, _, rfl⟩ := List.mem_map.mp hb
      have := (cut_of_evL ha).lt ((k + 1 : Nat) : Int) (List.mem_append_right _ (List.mem_singleton.mpr rfl))
      omega
/-! ### whole ranges -/
/-- both ends of a range are marks -/
def isW (v : Int) (cs : List Int) (f p : Int) : Bool := (cs ++ [v]).any (fun y => decide (y = f)) && (cs ++ [v]).any (fun y => decide (y = p))
theorem any_mem {x : Int} {l : List Int} : l.any (fun y => decide (y = x)) = true ↔ x ∈ l := by
  rw [List.any_eq_true]
  constructor
  · rintro ⟨y, hy, e⟩
    have := of_decide_eq_true e
    subst this; exact hy
  · exact fun h => ⟨x, h, decide_eq_true rfl⟩
theorem isW_iff {v : Int} {cs : List Int} {f p : Int} : isW v cs f p = true ↔ f ∈ cs ++ [v] ∧ p ∈ cs ++ [v] := by
  unfold isW; rw [Bool.and_eq_true, any_mem, any_mem]
/-- how many values of a bucket are in a range -/
def part (b e f p : Int) : List Nat := (List.range (e - b).toNat).filter fun i => decide (f ≤ b + (i : Nat)) && decide (b + (i : Nat) < p)
theorem part_len (b f p : Int) : ∀ n : Nat, (((List.range n).filter fun i => decide (f ≤ b + (i : Nat)) && decide (b + (i : Nat) < p)).length : Int) = max 0 (min (b + n) p - max b f)
  | 0 => by simp; omega
  | n + 1 => by
    have ih := part_len b f p n
    rw [List.range_succ, List.filter_append, List.length_append]
    by_cases h1 : f ≤ b + (n : Nat) <;> by_cases h2 : b + (n : Nat) < p <;> simp [h1, h2] <;> omega
def viol (f p : Int) (x : Int × Int) : Bool := decide ((part x.1 x.2 f p).length ≠ 0) && decide (((part x.1 x.2 f p).length : Int) < x.2 - x.1)
theorem viol_iff {f p b e : Int} (h : b < e) : viol f p (b, e) = true ↔ (0 < min e p - max b f ∧ min e p - max b f < e - b) := by
  have := part_len b f p (e - b).toNat
  have e1 : b + ((e - b).toNat : Int) = e := by omega
  rw [e1] at this
  unfold viol part
  rw [Bool.and_eq_true, decide_eq_true_eq, decide_eq_true_eq]
  constructor
  · rintro ⟨h1, h2⟩
    dsimp only at h1 h2
    omega
  · rintro ⟨h1, h2⟩
    dsimp only
    omega
/-- the buckets: each mark with the next one -/
def pairs : List Int → List (Int × Int)
  | b :: e :: r => (b, e) :: pairs (e :: r)
  | _ => []
theorem pairs_mem {b e : Int} : ∀ {m : List Int}, m.Pairwise (· < ·) → (b, e) ∈ pairs m → b ∈ m ∧ e ∈ m ∧ b < e ∧ ∀ x ∈ m, x ≤ b ∨ e ≤ x
  | [], _, h => by cases h
  | [_], _, h => by cases h
  | a :: c :: r, hr, h => by
    have hr' := List.pairwise_cons.mp hr
    have hr2 := List.pairwise_cons.mp hr'.2
    rcases List.mem_cons.mp (show (b, e) ∈ (a, c) :: pairs (c :: r) from h) with h | h
    · cases h
      refine ⟨List.mem_cons_self, List.mem_cons_of_mem _ List.mem_cons_self, hr'.1 _ List.mem_cons_self, fun x hx => ?_⟩
      rcases List.mem_cons.mp hx with rfl | hx
      · exact .inl (Int.le_refl _)
      · rcases List.mem_cons.mp hx with rfl | hx
        · exact .inr (Int.le_refl _)
        · exact .inr (Int.le_of_lt (hr2.1 x hx))
    · obtain ⟨h1, h2, h3, h4⟩ := pairs_mem hr'.2 h
      refine ⟨List.mem_cons_of_mem _ h1, List.mem_cons_of_mem _ h2, h3, fun x hx => ?_⟩
      rcases List.mem_cons.mp hx with rfl | hx
      · exact .inl (Int.le_of_lt (hr'.1 b h1))
      · exact h4 x hx
/-- what is no mark lies within a bucket -/
theorem within {x : Int} : ∀ {a : Int} {m : List Int}, (a :: m).Pairwise (· < ·) → a ≤ x → (∃ z ∈ a :: m, x ≤ z) → x ∉ a :: m → ∃ b e, (b, e) ∈ pairs (a :: m) ∧ b < x ∧ x < e
  | a, [], _, h1, ⟨z, hz, h2⟩, h3 => by
    simp at hz; subst hz
    exact absurd (by simp; omega) h3
  | a, c :: r, hr, h1, hz, h3 => by
    have hr' := List.pairwise_cons.mp hr
    have ha : a ≠ x := fun e => h3 (e ▸ List.mem_cons_self)
    by_cases h : x < c
    · exact ⟨a, c, List.mem_cons_self, by omega, h⟩
    · obtain ⟨z, hz, h2⟩ := hz
      have hz' : z ∈ c :: r := by
        rcases List.mem_cons.mp hz with rfl | hz
        · omega
        · exact hz
      obtain ⟨b, e, h4, h5⟩ := within hr'.2 (by omega) ⟨z, hz', h2⟩ fun w => h3 (List.mem_cons_of_mem _ w)
      exact ⟨b, e, List.mem_cons_of_mem _ h4, h5⟩
theorem Cut.marks {k : Nat} {c : List Int} (h : Cut k c) : (c ++ [((k : Nat) : Int) + 1]).Pairwise (· < ·) := by
  rw [List.pairwise_append]
  exact ⟨h.rise, by simp, fun a ha b hb => by simp at hb; subst hb; exact h.lt a ha⟩
/-- a range is whole: no bucket is cut by it -/
theorem whole_iff {k : Nat} {c : List Int} (h : Cut k c) {f p : Int} (h0 : 0 ≤ f) (h1 : f < p) (h2 : p ≤ (k : Int) + 1) :
    (pairs (c ++ [(k : Int) + 1])).any (viol f p) = !isW ((k : Int) + 1) c f p := by
  have hm := h.marks
  cases c with
  | nil => exact absurd rfl h.ne
  | cons a r =>
    have ea : a = 0 := by simpa using h.head
    subst ea
    have top : ∃ z ∈ (0 : Int) :: (r ++ [(k : Int) + 1]), p ≤ z := ⟨(k : Int) + 1, by simp, h2⟩
    rw [Bool.eq_iff_iff, List.any_eq_true, Bool.not_eq_true', ← Bool.not_eq_true, isW_iff]
    constructor
    · rintro ⟨⟨b, e⟩, hbe, hv⟩ ⟨hf, hp⟩
      obtain ⟨_, _, lt, all⟩ := pairs_mem hm hbe
      rw [viol_iff lt] at hv
      have := all f hf
      have := all p hp
      omega
    · intro hn
      by_cases hf : f ∈ (0 : Int) :: r ++ [(k : Int) + 1]
      · have hp : p ∉ (0 : Int) :: r ++ [(k : Int) + 1] := fun z => hn ⟨hf, z⟩
        obtain ⟨b, e, h3, h4, h5⟩ := within hm (by omega) top hp
        obtain ⟨_, _, lt, all⟩ := pairs_mem hm h3
        refine ⟨(b, e), h3, (viol_iff lt).mpr ?_⟩
        have := all f hf
        omega
      · obtain ⟨b, e, h3, h4, h5⟩ := within hm h0 (by obtain ⟨z, hz, q⟩ := top; exact ⟨z, hz, by omega⟩) hf
        obtain ⟨_, _, lt, all⟩ := pairs_mem hm h3
        refine ⟨(b, e), h3, (viol_iff lt).mpr ?_⟩
        omega
/-! ### asks -/
structure Ask where
  f : Int
  p : Int
  pr : Int
structure Ask.Ok (k : Nat) (a : Ask) : Prop where
  f0 : 0 ≤ a.f
  fp : a.f < a.p
  pv : a.p ≤ (k : Int) + 1
  pr1 : 1 ≤ a.pr
  pr9 : a.pr ≤ 9
def worth (v : Int) (asks : List Ask) (cs : List Int) : Int := ((asks.filter fun a => isW v cs a.f a.p).map (·.pr)).sum
def total (asks : List Ask) : Int := (asks.map (·.pr)).sum
theorem sum_filter {p : Ask → Bool} : ∀ {asks : List Ask}, (∀ a ∈ asks, 1 ≤ a.pr) → ((asks.filter p).map (·.pr)).sum ≤ (asks.map (·.pr)).sum ∧ (((asks.filter p).map (·.pr)).sum = (asks.map (·.pr)).sum ↔ ∀ a ∈ asks, p a = true)
  | [], _ => by simp
  | a :: r, h => by
    obtain ⟨i1, i2⟩ := sum_filter (p := p) (asks := r) fun b hb => h b (List.mem_cons_of_mem _ hb)
    have ha := h a List.mem_cons_self
    rw [List.filter_cons]
    by_cases e : p a = true
    · rw [if_pos e]
      simp only [List.map_cons, List.sum_cons]
      refine ⟨by omega, ?_⟩
      constructor
      · intro q b hb
        rcases List.mem_cons.mp hb with rfl | hb
        · exact e
        · exact i2.mp (by omega) b hb
      · intro q
        have := i2.mpr fun b hb => q b (List.mem_cons_of_mem _ hb)
        omega
    · rw [if_neg e]
      simp only [List.map_cons, List.sum_cons]
      refine ⟨by omega, ?_⟩
      constructor
      · intro q; omega
      · intro q; exact absurd (q a List.mem_cons_self) e
theorem worth_full {k : Nat} {asks : List Ask} {cs : List Int} (h : ∀ a ∈ asks, a.Ok k) : worth ((k : Int) + 1) asks cs = total asks ↔ ∀ a ∈ asks, isW ((k : Int) + 1) cs a.f a.p = true :=
  (sum_filter fun a ha => (h a ha).pr1).2
/-- the marks of all asks -/
def flat (asks : List Ask) : List Int := asks.flatMap fun a => [a.f, a.p]
def allCuts (v : Int) (asks : List Ask) : List Int := uniqI ((0 :: flat asks).filter fun x => decide (x < v))
theorem flat_mem {asks : List Ask} {x : Int} : x ∈ flat asks ↔ ∃ a ∈ asks, x = a.f ∨ x = a.p := by
  unfold flat
  rw [List.mem_flatMap]
  constructor
  · rintro ⟨a, ha, h⟩; exact ⟨a, ha, by simpa using h⟩
  · rintro ⟨a, ha, h⟩; exact ⟨a, ha, by simpa using h⟩
theorem allCuts_mem {v : Int} {asks : List Ask} {x : Int} : x ∈ allCuts v asks ↔ (x = 0 ∨ ∃ a ∈ asks, x = a.f ∨ x = a.p) ∧ x < v := by
  unfold allCuts
  rw [uniqI_mem, List.mem_filter, List.mem_cons, flat_mem, decide_eq_true_eq]
theorem allCuts_cut {k : Nat} {asks : List Ask} (h : ∀ a ∈ asks, a.Ok k) : Cut k (allCuts ((k : Int) + 1) asks) := by
  have rise := uniqI_sorted ((0 :: flat asks).filter fun x => decide (x < (k : Int) + 1))
  refine ⟨rise, ?_, fun x hx => (allCuts_mem.mp hx).2⟩
  have z : (0 : Int) ∈ allCuts ((k : Int) + 1) asks := allCuts_mem.mpr ⟨.inl rfl, by omega⟩
  have nn : ∀ x ∈ allCuts ((k : Int) + 1) asks, 0 ≤ x := fun x hx => by
    rcases (allCuts_mem.mp hx).1 with e | ⟨a, ha, e | e⟩
    · omega
    · have := (h a ha).f0; omega
    · have := (h a ha).f0; have := (h a ha).fp; omega
  cases e : allCuts ((k : Int) + 1) asks with
  | nil => rw [e] at z; cases z
  | cons y r =>
    have rise : (y :: r).Pairwise (· < ·) := e ▸ rise
    rw [e] at z nn
    have := nn y List.mem_cons_self
    rcases List.mem_cons.mp z with z | z
    · subst z; rfl
    · have := (List.pairwise_cons.mp rise).1 0 z; omega
/-- all ranges are whole: the cuts hold all marks -/
theorem full_iff {k : Nat} {asks : List Ask} (h : ∀ a ∈ asks, a.Ok k) {cs : List Int} (hc : Cut k cs) : worth ((k : Int) + 1) asks cs = total asks ↔ ∀ x ∈ allCuts ((k : Int) + 1) asks, x ∈ cs := by
  rw [worth_full h]
  constructor
  · intro q x hx
    obtain ⟨h1, h2⟩ := allCuts_mem.mp hx
    rcases h1 with rfl | ⟨a, ha, h1⟩
    · exact hc.zero
    · obtain ⟨q1, q2⟩ := isW_iff.mp (q a ha)
      rcases h1 with rfl | rfl
      · rcases List.mem_append.mp q1 with z | z
        · exact z
        · simp at z; omega
      · rcases List.mem_append.mp q2 with z | z
        · exact z
        · simp at z; omega
  · intro q a ha
    have ok := h a ha
    have go : ∀ x, (x = a.f ∨ x = a.p) → x ≤ (k : Int) + 1 → x ∈ cs ++ [(k : Int) + 1] := fun x hx hl => by
      by_cases e : x = (k : Int) + 1
      · exact List.mem_append_right _ (by simp [e])
      · exact List.mem_append_left _ (q x (allCuts_mem.mpr ⟨.inr ⟨a, ha, hx⟩, by omega⟩))
    exact isW_iff.mpr ⟨go a.f (.inl rfl) (by have := ok.fp; have := ok.pv; omega), go a.p (.inr rfl) ok.pv⟩
theorem rise_nodup {l : List Int} (h : l.Pairwise (· < ·)) : l.Nodup := h.imp fun h => by omega
theorem sub_len {a b : List Int} (na : a.Nodup) (s : ∀ x ∈ a, x ∈ b) : a.length ≤ b.length := by
  induction a generalizing b with
  | nil => simp
  | cons x r ih =>
    have na' := List.nodup_cons.mp na
    have hx := s x List.mem_cons_self
    have := ih (b := b.erase x) na'.2 fun y hy => (List.mem_erase_of_ne fun e => na'.1 (by subst e; exact hy)).mpr (s y (List.mem_cons_of_mem _ hy))
    rw [List.length_erase_of_mem hx] at this
    have : 0 < b.length := List.length_pos_of_mem hx
    rw [List.length_cons]; omega
theorem sub_eq {a b : List Int} (ra : a.Pairwise (· < ·)) (rb : b.Pairwise (· < ·)) (s : ∀ x ∈ a, x ∈ b) (hl : a.length = b.length) : a = b := by
  refine rise_uniq ra rb fun x => ⟨s x, fun hx => ?_⟩
  refine Classical.byContradiction fun nx => ?_
  have := sub_len (a := x :: a) (b := b) (List.nodup_cons.mpr ⟨nx, rise_nodup ra⟩) fun y hy => by
    rcases List.mem_cons.mp hy with rfl | hy
    · exact hx
    · exact s y hy
  rw [List.length_cons] at this; omega
theorem filter_one {α : Type} {p : α → Bool} {x : α} : ∀ {l : List α}, l.Nodup → x ∈ l → (∀ y ∈ l, p y = true ↔ y = x) → l.filter p = [x]
  | [], _, h, _ => by cases h
  | y :: r, nd, hx, hp => by
    have nd' := List.nodup_cons.mp nd
    rw [List.filter_cons]
    by_cases e : y = x
    · subst e
      rw [if_pos ((hp y List.mem_cons_self).mpr rfl)]
      congr 1
      rw [List.filter_eq_nil_iff]
      intro z hz q
      have := (hp z (List.mem_cons_of_mem _ hz)).mp q
      subst this
      exact nd'.1 hz
    · rw [if_neg fun q => e ((hp y List.mem_cons_self).mp q)]
      refine filter_one nd'.2 ?_ fun z hz => hp z (List.mem_cons_of_mem _ hz)
      rcases List.mem_cons.mp hx with rfl | hx
      · exact absurd rfl e
      · exact hx
/-- the full cuts, the least of them -/
def fullL (k : Nat) (asks : List Ask) : List (List Int) := (evL k).filter fun cs => decide (worth ((k : Int) + 1) asks cs = total asks)
theorem full_least {k : Nat} {asks : List Ask} (h : ∀ a ∈ asks, a.Ok k) : fullL k asks ≠ [] ∧ minI ((fullL k asks).map fun c => (c.length : Int)) = ((allCuts ((k : Int) + 1) asks).length : Int) ∧
    (fullL k asks).filter (fun c => decide ((c.length : Int) = minI ((fullL k asks).map fun c => (c.length : Int)))) = [allCuts ((k : Int) + 1) asks] := by
  have hC := allCuts_cut h
  have mem : ∀ c, c ∈ fullL k asks ↔ Cut k c ∧ ∀ x ∈ allCuts ((k : Int) + 1) asks, x ∈ c := fun c => by
    unfold fullL
    rw [List.mem_filter, decide_eq_true_eq]
    constructor
    · rintro ⟨h1, h2⟩
      exact ⟨cut_of_evL h1, (full_iff h (cut_of_evL h1)).mp h2⟩
    · rintro ⟨h1, h2⟩
      exact ⟨evL_of_cut h1, (full_iff h h1).mpr h2⟩
  have inC : allCuts ((k : Int) + 1) asks ∈ fullL k asks := (mem _).mpr ⟨hC, fun _ z => z⟩
  have mn : minI ((fullL k asks).map fun c => (c.length : Int)) = ((allCuts ((k : Int) + 1) asks).length : Int) := by
    refine (minI_of (List.mem_map.mpr ⟨_, inC, rfl⟩) fun y hy => ?_).symm
    obtain ⟨c, hc, rfl⟩ := List.mem_map.mp hy
    have := sub_len (rise_nodup hC.rise) ((mem c).mp hc).2
    omega
  refine ⟨List.ne_nil_of_mem inC, mn, ?_⟩
  rw [mn]
  refine filter_one ((evL_nodup k).filter _) inC fun y hy => ?_
  rw [decide_eq_true_eq]
  constructor
  · intro e
    obtain ⟨q1, q2⟩ := (mem y).mp hy
    exact (sub_eq hC.rise q1.rise q2 (by omega)).symm
  · rintro rfl; rfl
end M30
namespace PV
open PySem L2
section
variable {mo : Mo} {ρ : Rho} {r : Ro}
@[simp] theorem ex_app {i : Nat} {m : Md} {e : E} : ex mo (.app i m e) r = (evM mo m e r).bind fun q => match q.2[i]? with
    | some (.ow (.lst xs)) => if xs.length < LIM then some (.nx (q.2.set i (.ow (.lst (xs ++ [q.1]))))) else none
    | _ => none := by first | (simp only [ex]; done) | (simp only [ex]; rfl) | rfl
@[simp] theorem ex_ext {i : Nat} {m : Md} {e : E} : ex mo (.ext i m e) r = (evN mo m e r).bind fun q => match q.2[i]?, q.1 with
    | some (.ow (.lst xs)), .lst ys => if xs.length + ys.length ≤ LIM then some (.nx (q.2.set i (.ow (.lst (xs ++ ys))))) else none
    | _, _ => none := by first | (simp only [ex]; done) | (simp only [ex]; rfl) | rfl
@[simp] theorem ex_aug {i : Nat} {o : O2} {m : Md} {e : E} : ex mo (.aug i o m e) r = match r[i]? with
    | some (.va (.int x)) => (evM mo m e r).bind fun q => match q.1 with
      | .int y => (binD o (.int x) (.int y)).bind fun z => some (.nx (q.2.set i (.va z)))
      | _ => none
    | _ => none := by first | (simp only [ex]; done) | (simp only [ex]; rfl) | rfl
@[simp] theorem ex_sto {i : Nat} {m : Md} {x e : E} : ex mo (.sto i m x e) r = (evM mo m e r).bind fun q => (ev mo x (seen m.us 0 q.2)).bind fun k => match q.2[i]?, k with
    | some (.ow (.lst xs)), .int k => (ixN xs.length k).bind fun j => some (.nx (q.2.set i (.ow (.lst (xs.set j q.1)))))
    | some (.ow (.dic [])), .tup xs => (keysO xs).bind fun _ => some (.nx (q.2.set i (.ow (.dit [(.tup xs, q.1)]))))
    | some (.ow (.dic kvs)), k => (keyO k).bind fun x => if kvs.length < LIM then some (.nx (q.2.set i (.ow (.dic (putD keyO x k q.1 kvs))))) else none
    | some (.ow (.dit kvs)), k => (keysD k).bind fun x => if kvs.length < LIM then some (.nx (q.2.set i (.ow (.dit (putD keysD x k q.1 kvs))))) else none
    | _, _ => none := by first | (simp only [ex]; done) | (simp only [ex]; rfl) | rfl
@[simp] theorem ex_fld {k : Nat} {m : Md} {e : E} : ex mo (.fld k m e) r = (evM mo m e r).bind fun q => match (q.2[0]? : Option Sl) with
    | some (.ow (.obj c fs)) => if fs.lookup k = none ∧ fs.length < 100 ∧ mo.fl c k = true then some (.nx (q.2.set 0 (.ow (.obj c (fs ++ [(k, q.1)]))))) else none
    | _ => none := by first | (simp only [ex]; done) | (simp only [ex]; rfl) | rfl
@[simp] theorem own_lst' {xs : List D} : ownable (.lst xs) = true := rfl
@[simp] theorem own_dic' {xs : List (D × D)} : ownable (.dic xs) = true := rfl
@[simp] theorem own_dit' {xs : List (D × D)} : ownable (.dit xs) = true := rfl
end
end PV
namespace PV
open PySem L2
/-- a loop that returns at the first that passes a test -/
theorem loopF_find {g : D → Ro → Option Ro} {b : Ro → Option Out} {α : Type} {enc : α → D} {t : α → Bool} {d : D} {P : Ro → Prop} : ∀ (xs : List α) (ρ : Ro), (∀ x ρ, x ∈ xs → P ρ → ∃ ρ1, g (enc x) ρ = some ρ1 ∧ (t x = true → b ρ1 = some (.rt d)) ∧ (t x = false → ∃ ρ2, b ρ1 = some (.nx ρ2) ∧ P ρ2)) → P ρ →
    (xs.any t = true → loopF g b (xs.map enc) ρ = some (.rt d)) ∧ (xs.any t = false → ∃ ρ', loopF g b (xs.map enc) ρ = some (.nx ρ') ∧ P ρ')
  | [], ρ, _, h => ⟨fun h => (by cases h), fun _ => ⟨ρ, rfl, h⟩⟩
  | x :: xs, ρ, h, hp => by
    obtain ⟨ρ1, h1, h2, h3⟩ := h x ρ List.mem_cons_self hp
    have un : loopF g b ((x :: xs).map enc) ρ = (b ρ1).bind fun o => match o with | .nx ρ' => loopF g b (xs.map enc) ρ' | .ct ρ' => loopF g b (xs.map enc) ρ' | .bk ρ' => some (.nx ρ') | .rt d => some (.rt d) := by
      show (g (enc x) ρ).bind _ = _
      rw [h1]; rfl
    rw [un, List.any_cons]
    cases e : t x with
    | true => rw [h2 e]; exact ⟨fun _ => rfl, fun h => by simp at h⟩
    | false =>
      obtain ⟨ρ2, h4, h5⟩ := h3 e
      rw [h4, Bool.false_or]
      exact loopF_find xs ρ2 (fun y ρ hy => h y ρ (List.mem_cons_of_mem _ hy)) h5
theorem eq_nil {mo : Mo} (ns : List Int) : eqD mo (.lst (ns.map D.int)) (.lst []) = some (decide (ns.length = 0)) := by
  have h0 : Dt 2 (.lst []) := .lst fun x h => absurd h List.not_mem_nil
  obtain ⟨k, h1, h2⟩ := eqD_dt (mo := mo) (n := 2) (.lst (Dt.ints 1 ns)) h0 (by decide)
  rw [h1]
  congr 1
  rw [Bool.eq_iff_iff, h2, decide_eq_true_eq]
  simp
end PV
namespace PV
open PySem L2
section
variable {mo : Mo} {ρ : Rho} {r : Ro}
theorem mul_r {i j : Int} (h1 : -1000000 ≤ j) (h2 : j ≤ 1000000) : binD .mul (.int i) (.int j) = some (.int (i * j)) := by
  show (if _ then _ else _) = _
  rw [small_of h1 h2, Bool.or_true, if_pos rfl]
theorem mul_l {i j : Int} (h1 : -1000000 ≤ i) (h2 : i ≤ 1000000) : binD .mul (.int i) (.int j) = some (.int (i * j)) := by
  show (if _ then _ else _) = _
  rw [small_of h1 h2, Bool.true_or, if_pos rfl]
theorem div_ok {i j : Int} (h1 : 0 < j) (h2 : j ≤ 1000000) : binD .fdiv (.int i) (.int j) = some (.int (i / j)) := by
  show (if _ then _ else _) = _
  rw [decide_eq_true h1, decide_eq_true (show j < 1073741824 by omega), Bool.true_and, if_pos rfl]
theorem mod_ok {i j : Int} (h1 : 0 < j) : binD .mod (.int i) (.int j) = some (.int (i % j)) := by
  show (if _ then _ else _) = _
  rw [decide_eq_true h1, if_pos rfl]
@[simp] theorem slc_tup {xs : List D} {lo hi : Option Int} : slcD (.tup xs) lo hi = some (.tup (cutD xs lo hi)) := rfl
@[simp] theorem slc_lst {xs : List D} {lo hi : Option Int} : slcD (.lst xs) lo hi = some (.lst (cutD xs lo hi)) := rfl
/-- a slice -/
def slcI (ns : List Int) (a b : Int) : List Int := (ns.drop a.toNat).take (b.toNat - a.toNat)
theorem cut_slc (ns : List Int) {a b : Int} (h0 : 0 ≤ a) (h1 : 0 ≤ b) (h : b ≤ ns.length) : cutD (ns.map D.int) (some a) (some b) = (slcI ns a b).map D.int := by
  obtain ⟨x, rfl⟩ := Int.eq_ofNat_of_zero_le h0
  obtain ⟨y, rfl⟩ := Int.eq_ofNat_of_zero_le h1
  rw [cut_mid _ _ _ (by simp; omega)]
  unfold slcI
  rw [Int.toNat_natCast, Int.toNat_natCast, ← List.map_drop, ← List.map_take]
theorem slc_len (ns : List Int) {a b : Int} (h0 : 0 ≤ a) (h1 : a ≤ b) (h : b ≤ ns.length) : ((slcI ns a b).length : Int) = b - a := by
  unfold slcI
  rw [List.length_take, List.length_drop]; omega
theorem slc_mem {ns : List Int} {a b : Int} {x : Int} (h : x ∈ slcI ns a b) : x ∈ ns := List.mem_of_mem_drop (List.mem_of_mem_take h)
/-- what a slice adds up to -/
theorem take_sum (ns : List Int) (a b : Nat) (h : a ≤ b) : ((ns.drop a).take (b - a)).sum = (ns.take b).sum - (ns.take a).sum := by
  have e : ns.take b = ns.take a ++ (ns.drop a).take (b - a) := by
    have := List.take_add (l := ns) (i := a) (j := b - a)
    rw [show a + (b - a) = b by omega] at this
    exact this
  rw [e, List.sum_append]; omega
def preI (ns : List Int) (a : Int) : Int := (ns.take a.toNat).sum
theorem slc_sum (ns : List Int) {a b : Int} (h : a ≤ b) : (slcI ns a b).sum = preI ns b - preI ns a := by
  unfold slcI preI
  exact take_sum ns _ _ (by omega)
theorem sum_le {ns : List Int} {m : Int} (h : ∀ x ∈ ns, 0 ≤ x ∧ x ≤ m) : 0 ≤ ns.sum ∧ ns.sum ≤ m * ns.length := by
  induction ns with
  | nil => simp
  | cons x r ih =>
    have h1 := h x List.mem_cons_self
    have h2 := ih fun y hy => h y (List.mem_cons_of_mem _ hy)
    rw [List.sum_cons, List.length_cons, Int.natCast_add, Int.mul_add]
    omega
end
end PV
namespace M23
open PV M30
/-! ### counts poured -/
def pour (t q : Int) : Nat → List Int
  | 0 => []
  | n + 1 => min q t :: pour (t - min q t) q n
theorem pour_len : ∀ (n : Nat) (t q : Int), (pour t q n).length = n
  | 0, _, _ => rfl
  | n + 1, t, q => by unfold pour; rw [List.length_cons, pour_len n]
theorem pour_ok : ∀ (n : Nat) (t q : Int), 0 ≤ t → 0 ≤ q → ∀ z ∈ pour t q n, 0 ≤ z ∧ z ≤ q
  | 0, _, _, _, _, z, h => by cases h
  | n + 1, t, q, h1, h2, z, h => by
    unfold pour at h
    rcases List.mem_cons.mp h with rfl | h
    · omega
    · exact pour_ok n _ q (by omega) h2 z h
theorem pour_sum : ∀ (n : Nat) (t q : Int), 0 ≤ t → 0 ≤ q → (pour t q n).sum = min t (q * n)
  | 0, t, q, h1, h2 => by simp [pour]; omega
  | n + 1, t, q, h1, h2 => by
    unfold pour
    rw [List.sum_cons, pour_sum n _ q (by omega) h2, Int.natCast_add, Int.mul_add]
    have : 0 ≤ q * (n : Int) := Int.mul_nonneg h2 (by omega)
    omega
/-! ### buckets -/
structure Bk where
  b : Int
  e : Int
  q : Int
  t : Int
  u : Int
structure OkB (q t : Int) (y : List Int) : Prop where
  ok : ∀ z ∈ y, 0 ≤ z ∧ z ≤ q
  sum : y.sum = t
structure Mem (v : Int) (bs : List Bk) (x : List Int) : Prop where
  len : (x.length : Int) = v
  ok : ∀ B ∈ bs, OkB B.q B.t (slcI x B.b B.e)
/-- the buckets, one behind the other -/
inductive Chain : Int → List Bk → Int → Prop
  | nil {a : Int} : Chain a [] a
  | cons {B : Bk} {r : List Bk} {v : Int} : B.b < B.e → Chain B.e r v → Chain B.b (B :: r) v
theorem Chain.le : ∀ {a v : Int} {bs : List Bk}, Chain a bs v → a ≤ v ∧ ∀ B ∈ bs, a ≤ B.b ∧ B.b < B.e ∧ B.e ≤ v
  | _, _, _, .nil => ⟨Int.le_refl _, fun B h => by cases h⟩
  | _, _, _, .cons (B := B) h r => by
    obtain ⟨h1, h2⟩ := r.le
    refine ⟨by omega, fun C hC => ?_⟩
    rcases List.mem_cons.mp hC with rfl | hC
    · omega
    · have := h2 C hC; omega
def cl (f p y : Int) : Int := max f (min y p)
/-- how many values of a bucket are asked -/
def mIn (f p : Int) (B : Bk) : Int := cl f p B.e - cl f p B.b
/-- what they add up to -/
def ins (f p : Int) (x : List Int) (B : Bk) : Int := preI x (cl f p B.e) - preI x (cl f p B.b)
theorem mIn_eq {f p : Int} {B : Bk} (h : B.b < B.e) (hf : f < p) : mIn f p B = max 0 (min B.e p - max B.b f) := by unfold mIn cl; omega
theorem sum_tel {f p v : Int} {x : List Int} : ∀ {a : Int} {bs : List Bk}, Chain a bs v → (bs.map (ins f p x)).sum = preI x (cl f p v) - preI x (cl f p a)
  | _, _, .nil => by simp
  | _, _, .cons h r => by
    rw [List.map_cons, List.sum_cons, sum_tel r]
    unfold ins; omega
theorem sum_all {f p v : Int} {x : List Int} {bs : List Bk} (c : Chain 0 bs v) (h0 : 0 ≤ f) (h1 : f < p) (h2 : p ≤ v) : (slcI x f p).sum = (bs.map (ins f p x)).sum := by
  rw [sum_tel c, slc_sum x (Int.le_of_lt h1)]
  have e1 : cl f p v = p := by unfold cl; omega
  have e2 : cl f p 0 = f := by unfold cl; omega
  rw [e1, e2]
/-- the parts of a bucket: before, inside, behind -/
theorem pre_mono {x : List Int} (h : ∀ z ∈ x, 0 ≤ z) : ∀ {a b : Int}, a ≤ b → preI x a ≤ preI x b := fun {a b} hab => by
  have := slc_sum x hab
  have s := sum_le (ns := slcI x a b) (m := (slcI x a b).sum.natAbs + (x.map Int.natAbs).sum) fun z hz => ⟨h z (slc_mem hz), by
    have hx := slc_mem hz
    have : (z.natAbs : Nat) ≤ (x.map Int.natAbs).sum := by
      clear this hz hab
      induction x with
      | nil => cases hx
      | cons y r ih =>
        rw [List.map_cons, List.sum_cons]
        rcases List.mem_cons.mp hx with rfl | hx
        · omega
        · have := ih (fun w hw => h w (List.mem_cons_of_mem _ hw)) hx; omega
    omega⟩
  omega
/-- the sum of some values of a bucket with counts to q -/
theorem pre_le {x : List Int} {q a b c d : Int} (hx : ∀ z ∈ slcI x a b, 0 ≤ z ∧ z ≤ q) (h0 : 0 ≤ a) (h1 : a ≤ c) (h2 : c ≤ d) (h3 : d ≤ b) (h4 : b ≤ x.length) : 0 ≤ preI x d - preI x c ∧ preI x d - preI x c ≤ q * (d - c) := by
  rw [← slc_sum x h2]
  have sub : ∀ z ∈ slcI x c d, z ∈ slcI x a b := fun z hz => by
    unfold slcI at hz ⊢
    rw [List.mem_iff_getElem?] at hz ⊢
    obtain ⟨i, hi⟩ := hz
    rw [List.getElem?_take, List.getElem?_drop] at hi
    split at hi
    · rename_i hlt
      refine ⟨c.toNat - a.toNat + i, ?_⟩
      rw [List.getElem?_take, List.getElem?_drop, if_pos (by omega)]
      rw [← hi]; congr 1; omega
    · cases hi
  have s := sum_le (ns := slcI x c d) (m := q) fun z hz => hx z (sub z hz)
  rw [slc_len x (by omega) h2 (by omega)] at s
  exact s
/-- the bounds of what is asked of a bucket -/
def loB (f p : Int) (B : Bk) : Int := max 0 (B.t - B.q * (B.e - B.b - mIn f p B))
def hiB (f p : Int) (B : Bk) : Int := min B.t (B.q * mIn f p B)
theorem ins_bounds {v f p : Int} {x : List Int} {bs : List Bk} (c : Chain 0 bs v) (m : Mem v bs x) (hf : f < p) {B : Bk} (hB : B ∈ bs) : loB f p B ≤ ins f p x B ∧ ins f p x B ≤ hiB f p B := by
  obtain ⟨h1, h2, h3⟩ := c.le.2 B hB
  have ok := m.ok B hB
  have hl := m.len
  have t := ok.sum
  rw [slc_sum x (Int.le_of_lt h2)] at t
  unfold loB hiB ins
  by_cases z : cl f p B.b < cl f p B.e
  · have a1 : B.b ≤ cl f p B.b := by unfold cl at z ⊢; omega
    have a2 : cl f p B.e ≤ B.e := by unfold cl at z ⊢; omega
    have p1 := pre_le ok.ok h1 a1 (Int.le_of_lt z) a2 (by omega)
    have p2 := pre_le ok.ok h1 (Int.le_refl _) a1 (by omega) (by omega)
    have p3 := pre_le ok.ok h1 (show B.b ≤ cl f p B.e by omega) a2 (Int.le_refl _) (by omega)
    have e : B.q * (B.e - B.b - mIn f p B) = B.q * (cl f p B.b - B.b) + B.q * (B.e - cl f p B.e) := by
      rw [← Int.mul_add]; unfold mIn; congr 1; omega
    unfold mIn at e ⊢
    omega
  · have z2 : cl f p B.b = cl f p B.e := by unfold cl at z ⊢; omega
    have m0 : mIn f p B = 0 := by unfold mIn; omega
    have p1 := pre_le ok.ok h1 (Int.le_refl _) (Int.le_of_lt h2) (Int.le_refl _) (by omega)
    rw [z2, m0, Int.sub_self, Int.mul_zero, Int.sub_zero]
    omega
/-! ### columns put together -/
theorem pre_app {x0 y z : List Int} {u : Int} (h0 : (x0.length : Int) ≤ u) (h1 : u ≤ x0.length + y.length) : preI (x0 ++ (y ++ z)) u = x0.sum + (y.take (u - x0.length).toNat).sum := by
  unfold preI
  have e1 : u.toNat = x0.length + (u - x0.length).toNat := by omega
  rw [e1, List.take_length_add_append, List.sum_append, List.take_append_of_le_length (by omega)]
theorem slc_app (x0 y z : List Int) : slcI (x0 ++ (y ++ z)) x0.length (x0.length + y.length) = y := by
  unfold slcI
  rw [Int.toNat_natCast, List.drop_left, show ((x0.length : Int) + y.length).toNat - x0.length = y.length by omega, List.take_left]
/-- what stands in a bucket: before, inside, behind -/
def put (l : Nat) (I O : List Int) : List Int := O.take l ++ (I ++ O.drop l)
theorem put_len (l : Nat) (I O : List Int) : (put l I O).length = I.length + O.length := by
  unfold put
  rw [List.length_append, List.length_append, List.length_take, List.length_drop]; omega
theorem put_sum (l : Nat) (I O : List Int) : (put l I O).sum = I.sum + O.sum := by
  unfold put
  have e : O.sum = (O.take l).sum + (O.drop l).sum := by rw [← List.sum_append, List.take_append_drop]
  rw [List.sum_append, List.sum_append, e]; omega
theorem put_mem {l : Nat} {I O : List Int} {z : Int} : z ∈ put l I O ↔ z ∈ I ∨ z ∈ O := by
  unfold put
  rw [List.mem_append, List.mem_append]
  constructor
  · rintro (h | h | h)
    · exact .inr (List.mem_of_mem_take h)
    · exact .inl h
    · exact .inr (List.mem_of_mem_drop h)
  · rintro (h | h)
    · exact .inr (.inl h)
    · rw [← List.take_append_drop l O, List.mem_append] at h
      rcases h with h | h
      · exact .inl h
      · exact .inr (.inr h)
/-- what is chosen for a bucket: the counts inside, and the others -/
structure Fit (f p : Int) (B : Bk) (c : List Int × List Int) : Prop where
  il : (c.1.length : Int) = mIn f p B
  ol : (c.2.length : Int) = B.e - B.b - mIn f p B
  iok : ∀ z ∈ c.1, 0 ≤ z ∧ z ≤ B.q
  ook : ∀ z ∈ c.2, 0 ≤ z ∧ z ≤ B.q
  sum : c.1.sum + c.2.sum = B.t
def lft (f p : Int) (B : Bk) : Nat := (cl f p B.b - B.b).toNat
theorem build {f p v : Int} (hf : f < p) : ∀ {a : Int} {bs : List Bk} (cs : List (List Int × List Int)), Chain a bs v → cs.length = bs.length → (∀ z ∈ bs.zip cs, Fit f p z.1 z.2) → ∀ x0 : List Int, (x0.length : Int) = a →
    ∃ r : List Int, ((x0 ++ r).length : Int) = v ∧ ∀ z ∈ bs.zip cs, slcI (x0 ++ r) z.1.b z.1.e = put (lft f p z.1) z.2.1 z.2.2 ∧ ins f p (x0 ++ r) z.1 = z.2.1.sum
  | _, _, [], .nil, _, _, x0, h0 => ⟨[], by rw [List.append_nil]; exact h0, fun z h => by cases h⟩
  | _, _, c :: cs, .nil, hl, _, _, _ => by cases hl
  | _, _, [], .cons _ _, hl, _, _, _ => by cases hl
  | _, _, c :: cs, .cons (B := B) (r := bs) hb ch, hl, fit, x0, h0 => by
    have F := fit (B, c) List.mem_cons_self
    have il := F.il
    have ol := F.ol
    obtain ⟨r, h1, h2⟩ := build hf cs ch (by simpa using hl) (fun z hz => fit z (List.mem_cons_of_mem _ hz)) (x0 ++ put (lft f p B) c.1 c.2) (by
      rw [List.length_append, put_len]; dsimp only at il ol; omega)
    rw [List.append_assoc] at h1 h2
    refine ⟨put (lft f p B) c.1 c.2 ++ r, h1, fun z hz => ?_⟩
    rcases List.mem_cons.mp hz with rfl | hz
    · dsimp only at il ol ⊢
      have pl : ((put (lft f p B) c.1 c.2).length : Int) = B.e - B.b := by rw [put_len]; omega
      refine ⟨?_, ?_⟩
      · have := slc_app x0 (put (lft f p B) c.1 c.2) r
        rw [pl, h0] at this
        rw [show B.b + (B.e - B.b) = B.e by omega] at this
        exact this
      · unfold ins
        by_cases m : cl f p B.b < cl f p B.e
        · have a1 : B.b ≤ cl f p B.b := by unfold cl at m ⊢; omega
          have a2 : cl f p B.e ≤ B.e := by unfold cl at m ⊢; omega
          rw [pre_app (by omega) (by omega), pre_app (by omega) (by omega)]
          have ol2 : lft f p B ≤ c.2.length := by unfold lft; unfold mIn at ol; omega
          have t1 : (cl f p B.b - x0.length).toNat = lft f p B := by unfold lft; omega
          have t2 : (cl f p B.e - x0.length).toNat = lft f p B + c.1.length := by unfold lft; unfold mIn at il; omega
          have tl : (c.2.take (lft f p B)).length = lft f p B := by rw [List.length_take]; omega
          rw [t1, t2]
          have e1 : (put (lft f p B) c.1 c.2).take (lft f p B) = c.2.take (lft f p B) := by
            unfold put
            rw [List.take_append_of_le_length (by omega), List.take_of_length_le (by omega)]
          have e2 : (put (lft f p B) c.1 c.2).take (lft f p B + c.1.length) = c.2.take (lft f p B) ++ c.1 := by
            unfold put
            have := List.take_length_add_append (l₁ := c.2.take (lft f p B)) (l₂ := c.1 ++ c.2.drop (lft f p B)) c.1.length
            rw [tl] at this
            rw [this, List.take_left]
          rw [e1, e2, List.sum_append]; omega
        · have z2 : cl f p B.b = cl f p B.e := by unfold cl at m ⊢; omega
          have : c.1 = [] := List.eq_nil_of_length_eq_zero (by unfold mIn at il; omega)
          rw [z2, this, List.sum_nil]; omega
    · exact h2 z hz
/-- a column with what is chosen -/
theorem make {f p v : Int} (hf : f < p) {bs : List Bk} {cs : List (List Int × List Int)} (ch : Chain 0 bs v) (hl : cs.length = bs.length) (fit : ∀ z ∈ bs.zip cs, Fit f p z.1 z.2) :
    ∃ x, Mem v bs x ∧ (bs.map (ins f p x)) = cs.map (fun c => c.1.sum) ∧ ∀ z ∈ bs.zip cs, slcI x z.1.b z.1.e = put (lft f p z.1) z.2.1 z.2.2 := by
  obtain ⟨x, h1, h2⟩ := build hf cs ch hl fit [] rfl
  rw [List.nil_append] at h1 h2
  have find : ∀ {bs : List Bk} {cs : List (List Int × List Int)}, cs.length = bs.length → ∀ B ∈ bs, ∃ c, (B, c) ∈ bs.zip cs := by
    intro bs
    induction bs with
    | nil => intro cs _ B h; cases h
    | cons A r ih =>
      intro cs hl B h
      cases cs with
      | nil => cases hl
      | cons c cs =>
        rcases List.mem_cons.mp h with rfl | h
        · exact ⟨c, List.mem_cons_self⟩
        · obtain ⟨d, hd⟩ := ih (by simpa using hl) B h
          exact ⟨d, List.mem_cons_of_mem _ hd⟩
  refine ⟨x, ⟨h1, fun B hB => ?_⟩, ?_, fun z hz => (h2 z hz).1⟩
  · obtain ⟨c, hc⟩ := find hl B hB
    have F := fit _ hc
    rw [(h2 _ hc).1]
    refine ⟨fun z hz => ?_, by rw [put_sum]; exact F.sum⟩
    rcases put_mem.mp hz with hz | hz
    · exact F.iok z hz
    · exact F.ook z hz
  · have go : ∀ {bs : List Bk} {cs : List (List Int × List Int)}, cs.length = bs.length → (∀ z ∈ bs.zip cs, ins f p x z.1 = z.2.1.sum) → bs.map (ins f p x) = cs.map fun c => c.1.sum := by
      intro bs
      induction bs with
      | nil => intro cs hl _; cases cs with | nil => rfl | cons _ _ => cases hl
      | cons A r ih =>
        intro cs hl h
        cases cs with
        | nil => cases hl
        | cons c cs =>
          rw [List.map_cons, List.map_cons, ih (by simpa using hl) fun z hz => h z (List.mem_cons_of_mem _ hz), h (A, c) List.mem_cons_self]
    exact go hl fun z hz => (h2 z hz).2
/-- what a bucket may be -/
structure Bk.Ok (B : Bk) : Prop where
  q0 : 0 ≤ B.q
  t0 : 0 ≤ B.t
  tq : B.t ≤ B.q * (B.e - B.b)
theorem mIn_bounds {f p : Int} {B : Bk} (h : B.b < B.e) : 0 ≤ mIn f p B ∧ mIn f p B ≤ B.e - B.b := by unfold mIn cl; omega
theorem sum_mono {lo hi : Bk → Int} : ∀ {bs : List Bk}, (∀ B ∈ bs, lo B ≤ hi B) → (bs.map lo).sum ≤ (bs.map hi).sum
  | [], _ => by simp
  | B :: r, h => by
    have := sum_mono fun C hC => h C (List.mem_cons_of_mem B hC)
    have := h B List.mem_cons_self
    simp only [List.map_cons, List.sum_cons]; omega
theorem split_sum {lo hi : Bk → Int} : ∀ {bs : List Bk} (s : Int), (∀ B ∈ bs, lo B ≤ hi B) → (bs.map lo).sum ≤ s → s ≤ (bs.map hi).sum → ∃ ss : List Int, ss.length = bs.length ∧ ss.sum = s ∧ ∀ z ∈ bs.zip ss, lo z.1 ≤ z.2 ∧ z.2 ≤ hi z.1
  | [], s, _, h1, h2 => ⟨[], rfl, by simp at h1 h2 ⊢; omega, fun z h => by cases h⟩
  | B :: r, s, h, h1, h2 => by
    rw [List.map_cons, List.sum_cons] at h1 h2
    have hB := h B List.mem_cons_self
    have le : (r.map lo).sum ≤ (r.map hi).sum := sum_mono fun C hC => h C (List.mem_cons_of_mem B hC)
    let a : Int := max (lo B) (s - (r.map hi).sum)
    obtain ⟨ss, e1, e2, e3⟩ := split_sum (bs := r) (s - a) (fun C hC => h C (List.mem_cons_of_mem _ hC)) (by simp only [a]; omega) (by simp only [a]; omega)
    refine ⟨a :: ss, by simp [e1], by rw [List.sum_cons, e2]; omega, fun z hz => ?_⟩
    rcases List.mem_cons.mp hz with rfl | hz
    · simp only [a]; omega
    · exact e3 z hz
theorem zip_map_r {α β γ : Type} (g : α → β → γ) : ∀ {as : List α} {bs : List β}, bs.length = as.length → ∀ z ∈ as.zip ((as.zip bs).map fun z => g z.1 z.2), ∃ y, (z.1, y) ∈ as.zip bs ∧ z.2 = g z.1 y
  | [], _, _, z, h => by cases h
  | a :: as, [], hl, _, _ => by cases hl
  | a :: as, b :: bs, hl, z, h => by
    rcases List.mem_cons.mp (show z ∈ (a, g a b) :: as.zip ((as.zip bs).map fun z => g z.1 z.2) from h) with rfl | h
    · exact ⟨b, List.mem_cons_self, rfl⟩
    · obtain ⟨y, h1, h2⟩ := zip_map_r g (by simpa using hl) z h
      exact ⟨y, List.mem_cons_of_mem _ h1, h2⟩
theorem zip_map_snd {α β : Type} {g : α → β → Int} {k : β → Int} : ∀ {as : List α} {bs : List β}, bs.length = as.length → (∀ z ∈ as.zip bs, g z.1 z.2 = k z.2) → ((as.zip bs).map fun z => g z.1 z.2) = bs.map k
  | [], [], _, _ => rfl
  | [], b :: bs, hl, _ => by cases hl
  | a :: as, [], hl, _ => by cases hl
  | a :: as, b :: bs, hl, h => by
    rw [List.zip_cons_cons, List.map_cons, List.map_cons, zip_map_snd (by simpa using hl) fun z hz => h z (List.mem_cons_of_mem _ hz), h (a, b) List.mem_cons_self]
/-- every sum between the ends is some column's -/
theorem between {f p v : Int} (h0 : 0 ≤ f) (hf : f < p) (hp : p ≤ v) {bs : List Bk} (ch : Chain 0 bs v) (ok : ∀ B ∈ bs, B.Ok) {s : Int} (h1 : (bs.map (loB f p)).sum ≤ s) (h2 : s ≤ (bs.map (hiB f p)).sum) : ∃ x, Mem v bs x ∧ (slcI x f p).sum = s := by
  obtain ⟨ss, l, e, h⟩ := split_sum s (fun B hB => by
    have w := (ch.le.2 B hB).2.1
    have := mIn_bounds (f := f) (p := p) w
    have o := ok B hB
    have a1 : 0 ≤ B.q * mIn f p B := Int.mul_nonneg o.q0 this.1
    have a2 : 0 ≤ B.q * (B.e - B.b - mIn f p B) := Int.mul_nonneg o.q0 (by omega)
    have a3 : B.q * (B.e - B.b) = B.q * mIn f p B + B.q * (B.e - B.b - mIn f p B) := by rw [← Int.mul_add]; congr 1; omega
    have := o.t0
    have := o.tq
    unfold loB hiB; omega) h1 h2
  let g : Bk → Int → List Int × List Int := fun B s => (pour s B.q (mIn f p B).toNat, pour (B.t - s) B.q (B.e - B.b - mIn f p B).toNat)
  have mem1 : ∀ z ∈ bs.zip ss, z.1 ∈ bs := fun z hz => (List.of_mem_zip hz).1
  have facts : ∀ z ∈ bs.zip ss, 0 ≤ z.2 ∧ z.2 ≤ z.1.t ∧ z.2 ≤ z.1.q * mIn f p z.1 ∧ z.1.t - z.2 ≤ z.1.q * (z.1.e - z.1.b - mIn f p z.1) := fun z hz => by
    have := h z hz
    unfold loB hiB at this; omega
  obtain ⟨x, m, e1, _⟩ := make (f := f) (p := p) hf (cs := (bs.zip ss).map fun z => g z.1 z.2) ch (by rw [List.length_map, List.length_zip, l, Nat.min_self]) fun z hz => by
    obtain ⟨y, hy, e⟩ := zip_map_r g l z hz
    have B := mem1 _ hy
    have w := (ch.le.2 _ B).2.1
    have mb := mIn_bounds (f := f) (p := p) w
    have o := ok _ B
    obtain ⟨a1, a2, a3, a4⟩ := facts _ hy
    dsimp only at B w mb o a1 a2 a3 a4
    rw [e]
    refine ⟨?_, ?_, pour_ok _ _ _ a1 o.q0, pour_ok _ _ _ (by omega) o.q0, ?_⟩
    · simp only [g, pour_len]; omega
    · simp only [g, pour_len]; omega
    · simp only [g]
      rw [pour_sum _ _ _ a1 o.q0, pour_sum _ _ _ (by omega) o.q0]
      have n1 : ((mIn f p z.1).toNat : Int) = mIn f p z.1 := by omega
      have n2 : ((z.1.e - z.1.b - mIn f p z.1).toNat : Int) = z.1.e - z.1.b - mIn f p z.1 := by omega
      rw [n1, n2]; omega
  refine ⟨x, m, ?_⟩
  rw [sum_all ch h0 hf hp, e1, List.map_map, ← e]
  have := zip_map_snd (as := bs) (bs := ss) (g := fun B s => (g B s).1.sum) (k := id) l fun z hz => by
    have w := (ch.le.2 _ (mem1 z hz)).2.1
    have mb := mIn_bounds (f := f) (p := p) w
    obtain ⟨a1, a2, a3, a4⟩ := facts z hz
    simp only [g, id]
    rw [pour_sum _ _ _ a1 (ok _ (mem1 z hz)).q0]
    have n1 : ((mIn f p z.1).toNat : Int) = mIn f p z.1 := by omega
    rw [n1]; omega
  rw [List.map_id] at this
  exact congrArg List.sum this
/-- the smallest and the greatest sum -/
theorem ends {f p v : Int} (h0 : 0 ≤ f) (hf : f < p) (hp : p ≤ v) {bs : List Bk} (ch : Chain 0 bs v) {x : List Int} (m : Mem v bs x) : (bs.map (loB f p)).sum ≤ (slcI x f p).sum ∧ (slcI x f p).sum ≤ (bs.map (hiB f p)).sum := by
  rw [sum_all ch h0 hf hp]
  have b := fun B hB => ins_bounds ch m hf (B := B) hB
  clear ch m
  induction bs with
  | nil => simp
  | cons C r ih =>
    have := ih fun B hB => b B (List.mem_cons_of_mem _ hB)
    have := b C List.mem_cons_self
    simp only [List.map_cons, List.sum_cons]; omega
end M23
namespace M23
open PV M30
/-! ### filled values -/
def fil (y : List Int) : Nat := (y.filter fun z => decide (0 < z)).length
theorem fil_app (a b : List Int) : fil (a ++ b) = fil a + fil b := by unfold fil; rw [List.filter_append, List.length_append]
theorem fil_put (l : Nat) (I O : List Int) : fil (put l I O) = fil I + fil O := by
  unfold put
  have e : fil O = fil (O.take l) + fil (O.drop l) := by rw [← fil_app, List.take_append_drop]
  rw [fil_app, fil_app, e]; omega
theorem fil_bounds {q : Int} : ∀ {y : List Int}, (∀ z ∈ y, 0 ≤ z ∧ z ≤ q) → (fil y : Int) ≤ y.sum ∧ y.sum ≤ q * fil y ∧ fil y ≤ y.length
  | [], _ => by simp [fil]
  | z :: r, h => by
    have i := fil_bounds (q := q) (y := r) fun w hw => h w (List.mem_cons_of_mem _ hw)
    have hz := h z List.mem_cons_self
    by_cases p : 0 < z
    · have e : fil (z :: r) = fil r + 1 := by unfold fil; rw [List.filter_cons, if_pos (decide_eq_true p)]; rfl
      rw [e, List.sum_cons, List.length_cons, Int.natCast_add, Int.mul_add]
      omega
    · have e : fil (z :: r) = fil r := by unfold fil; rw [List.filter_cons, if_neg (by simpa using p)]
      rw [e, List.sum_cons, List.length_cons]
      omega
theorem slc_split (x : List Int) {a b c : Int} (h1 : a ≤ b) (h2 : b ≤ c) (h0 : 0 ≤ a) : slcI x a c = slcI x a b ++ slcI x b c := by
  unfold slcI
  have e : c.toNat - a.toNat = (b.toNat - a.toNat) + (c.toNat - b.toNat) := by omega
  rw [e, List.take_add, List.drop_drop]
  congr 3
  omega
/-- counts with a number of filled ones -/
def mkF (many : Nat) (s q : Int) (n : Nat) : List Int := (pour (s - many) (q - 1) many).map (· + 1) ++ List.replicate (n - many) 0
theorem sum_succ : ∀ y : List Int, (y.map (· + 1)).sum = y.sum + y.length
  | [] => rfl
  | z :: r => by rw [List.map_cons, List.sum_cons, sum_succ r, List.sum_cons, List.length_cons]; omega
theorem sum_zero : ∀ n : Nat, (List.replicate n (0 : Int)).sum = 0
  | 0 => rfl
  | n + 1 => by rw [List.replicate_succ, List.sum_cons, sum_zero n]; rfl
theorem mkF_ok {many n : Nat} {s q : Int} (hq : 0 ≤ q) (hn : many ≤ n) (h1 : (many : Int) ≤ s) (h2 : s ≤ q * many) : (mkF many s q n).length = n ∧ (∀ z ∈ mkF many s q n, 0 ≤ z ∧ z ≤ q) ∧ (mkF many s q n).sum = s ∧ fil (mkF many s q n) = many := by
  have q1 : many = 0 ∨ 1 ≤ q := by
    by_cases m : many = 0
    · exact .inl m
    · refine .inr (Int.not_lt.mp fun z => ?_)
      have e : q = 0 := by omega
      subst e
      omega
  rcases q1 with rfl | q1
  · have es : s = 0 := by simp at h1 h2; omega
    subst es
    refine ⟨by simp [mkF, pour], fun z hz => ?_, ?_, ?_⟩
    · simp [mkF, pour] at hz; omega
    · simp [mkF, pour, sum_zero]
    · simp [mkF, pour, fil]
  · have po := pour_ok many (s - many) (q - 1) (by omega) (by omega)
    have pl := pour_len many (s - many) (q - 1)
    have ps := pour_sum many (s - many) (q - 1) (by omega) (by omega)
    have e : (q - 1) * (many : Int) = q * many - many := by rw [Int.sub_mul, Int.one_mul]
    rw [e] at ps
    refine ⟨?_, fun z hz => ?_, ?_, ?_⟩
    · unfold mkF; rw [List.length_append, List.length_map, pl, List.length_replicate]; omega
    · unfold mkF at hz
      rcases List.mem_append.mp hz with hz | hz
      · obtain ⟨w, hw, rfl⟩ := List.mem_map.mp hz
        have := po w hw; omega
      · have := (List.mem_replicate.mp hz).2; omega
    · unfold mkF; rw [List.sum_append, sum_succ, sum_zero, ps, pl]; omega
    · unfold mkF
      rw [fil_app]
      have a1 : fil (List.replicate (n - many) (0 : Int)) = 0 := by unfold fil; simp
      have a2 : fil ((pour (s - many) (q - 1) many).map (· + 1)) = many := by
        unfold fil
        rw [List.filter_eq_self.mpr fun z hz => ?_, List.length_map, pl]
        obtain ⟨w, hw, rfl⟩ := List.mem_map.mp hz
        have := po w hw
        exact decide_eq_true (by omega)
      omega
/-- a share that a range can have of a bucket -/
def Shr (f p : Int) (B : Bk) (s : Int) : Prop := ∃ many : Int, max 0 (B.u - (B.e - B.b - mIn f p B)) ≤ many ∧ many ≤ min (mIn f p B) B.u ∧ many ≤ s ∧ s ≤ B.q * many ∧ B.u - many ≤ B.t - s ∧ B.t - s ≤ B.q * (B.u - many)
theorem pick {P : Bk → List Int × List Int → Prop} : ∀ {bs : List Bk} {ss : List Int}, ss.length = bs.length → (∀ z ∈ bs.zip ss, ∃ c : List Int × List Int, P z.1 c ∧ c.1.sum = z.2) → ∃ cs : List (List Int × List Int), cs.length = bs.length ∧ (cs.map fun c => c.1.sum) = ss ∧ ∀ z ∈ bs.zip cs, P z.1 z.2
  | [], [], _, _ => ⟨[], rfl, rfl, fun z h => by cases h⟩
  | [], s :: ss, h, _ => by cases h
  | B :: bs, [], h, _ => by cases h
  | B :: bs, s :: ss, hl, h => by
    obtain ⟨c, h1, h2⟩ := h (B, s) List.mem_cons_self
    obtain ⟨cs, e1, e2, e3⟩ := pick (P := P) (bs := bs) (ss := ss) (by simpa using hl) fun z hz => h z (List.mem_cons_of_mem _ hz)
    refine ⟨c :: cs, by simp [e1], by rw [List.map_cons, e2, h2], fun z hz => ?_⟩
    rcases List.mem_cons.mp hz with rfl | hz
    · exact h1
    · exact e3 z hz
def FillOk (bs : List Bk) (x : List Int) : Prop := ∀ B ∈ bs, (fil (slcI x B.b B.e) : Int) = B.u
theorem find_zip {α β : Type} : ∀ {as : List α} {bs : List β}, bs.length = as.length → ∀ a ∈ as, ∃ b, (a, b) ∈ as.zip bs
  | [], _, _, _, h => by cases h
  | a :: as, [], hl, _, _ => by cases hl
  | a :: as, b :: bs, hl, c, h => by
    rcases List.mem_cons.mp h with rfl | h
    · exact ⟨b, List.mem_cons_self⟩
    · obtain ⟨d, hd⟩ := find_zip (as := as) (bs := bs) (by simpa using hl) c h
      exact ⟨d, List.mem_cons_of_mem _ hd⟩
theorem fills_to {f p v : Int} (h0 : 0 ≤ f) (hf : f < p) (hp : p ≤ v) {bs : List Bk} (ch : Chain 0 bs v) (ok : ∀ B ∈ bs, B.Ok) {ss : List Int} (l : ss.length = bs.length) (h : ∀ z ∈ bs.zip ss, Shr f p z.1 z.2) : ∃ x, Mem v bs x ∧ FillOk bs x ∧ (slcI x f p).sum = ss.sum := by
  obtain ⟨cs, e1, e2, e3⟩ := pick (P := fun B c => Fit f p B c ∧ (fil c.1 : Int) + fil c.2 = B.u) l fun z hz => by
    obtain ⟨B, s⟩ := z
    have hB := (List.of_mem_zip hz).1
    have w := (ch.le.2 _ hB).2.1
    have mb := mIn_bounds (f := f) (p := p) w
    have o := ok _ hB
    obtain ⟨many, a1, a2, a3, a4, a5, a6⟩ := h _ hz
    dsimp only at a1 a2 a3 a4 a5 a6 hB w mb o
    obtain ⟨n1, rfl⟩ := Int.eq_ofNat_of_zero_le (show 0 ≤ many by omega)
    obtain ⟨n2, hn2⟩ := Int.eq_ofNat_of_zero_le (show 0 ≤ B.u - (n1 : Int) by omega)
    rw [hn2] at a5 a6
    have i := mkF_ok (many := n1) (n := (mIn f p B).toNat) o.q0 (by omega) a3 a4
    have j := mkF_ok (many := n2) (n := (B.e - B.b - mIn f p B).toNat) o.q0 (by omega) a5 a6
    exact ⟨(mkF n1 s B.q (mIn f p B).toNat, mkF n2 (B.t - s) B.q (B.e - B.b - mIn f p B).toNat), ⟨⟨by dsimp only; rw [i.1]; omega, by dsimp only; rw [j.1]; omega, i.2.1, j.2.1, by dsimp only; rw [i.2.2.1, j.2.2.1]; omega⟩, by dsimp only; rw [i.2.2.2, j.2.2.2]; omega⟩, i.2.2.1⟩
  obtain ⟨x, m, i1, i2⟩ := make (f := f) (p := p) hf ch e1 fun z hz => (e3 z hz).1
  refine ⟨x, m, fun B hB => ?_, by rw [sum_all ch h0 hf hp, i1, e2]⟩
  obtain ⟨c, hc⟩ := find_zip e1 B hB
  rw [i2 _ hc, fil_put]
  have := (e3 _ hc).2
  dsimp only at this ⊢
  omega
theorem fills_of {f p v : Int} {bs : List Bk} (ch : Chain 0 bs v) {x : List Int} (m : Mem v bs x) (fo : FillOk bs x) (hf : f < p) {B : Bk} (hB : B ∈ bs) : Shr f p B (ins f p x B) := by
  obtain ⟨h1, h2, h3⟩ := ch.le.2 B hB
  have ok := m.ok B hB
  have fu := fo B hB
  have hl := m.len
  have t := ok.sum
  by_cases z : cl f p B.b < cl f p B.e
  · have a1 : B.b ≤ cl f p B.b := by unfold cl at z ⊢; omega
    have a2 : cl f p B.e ≤ B.e := by unfold cl at z ⊢; omega
    have s1 := slc_split x (a := B.b) (b := cl f p B.b) (c := B.e) a1 (by omega) h1
    have s2 := slc_split x (a := cl f p B.b) (b := cl f p B.e) (c := B.e) (Int.le_of_lt z) a2 (by omega)
    rw [s2] at s1
    rw [s1] at t fu ok
    rw [List.sum_append, List.sum_append] at t
    rw [fil_app, fil_app] at fu
    have b1 := fil_bounds (q := B.q) (y := slcI x B.b (cl f p B.b)) fun w hw => ok.ok w (List.mem_append_left _ hw)
    have b2 := fil_bounds (q := B.q) (y := slcI x (cl f p B.b) (cl f p B.e)) fun w hw => ok.ok w (List.mem_append_right _ (List.mem_append_left _ hw))
    have b3 := fil_bounds (q := B.q) (y := slcI x (cl f p B.e) B.e) fun w hw => ok.ok w (List.mem_append_right _ (List.mem_append_right _ hw))
    have l1 := slc_len x (a := B.b) (b := cl f p B.b) h1 a1 (by omega)
    have l2 := slc_len x (a := cl f p B.b) (b := cl f p B.e) (by omega) (Int.le_of_lt z) (by omega)
    have l3 := slc_len x (a := cl f p B.e) (b := B.e) (by omega) a2 (by omega)
    have e : ins f p x B = (slcI x (cl f p B.b) (cl f p B.e)).sum := (slc_sum x (Int.le_of_lt z)).symm
    rw [e]
    have mi : mIn f p B = cl f p B.e - cl f p B.b := rfl
    refine ⟨(fil (slcI x (cl f p B.b) (cl f p B.e)) : Int), ?_, ?_, b2.1, b2.2.1, ?_, ?_⟩
    · rw [mi]; omega
    · rw [mi]; omega
    · omega
    · have e2 : B.q * (B.u - (fil (slcI x (cl f p B.b) (cl f p B.e)) : Int)) = B.q * (fil (slcI x B.b (cl f p B.b)) : Int) + B.q * (fil (slcI x (cl f p B.e) B.e) : Int) := by
        rw [← Int.mul_add]; congr 1; omega
      omega
  · have z2 : cl f p B.b = cl f p B.e := by unfold cl at z ⊢; omega
    have m0 : mIn f p B = 0 := by unfold mIn; omega
    have e : ins f p x B = 0 := by unfold ins; rw [z2, Int.sub_self]
    have b := fil_bounds (q := B.q) ok.ok
    have l1 := slc_len x (a := B.b) (b := B.e) h1 (Int.le_of_lt h2) (by omega)
    rw [e]
    refine ⟨0, ?_, ?_, Int.le_refl _, by simp, ?_, ?_⟩
    · rw [m0]; omega
    · rw [m0]; omega
    · omega
    · rw [Int.sub_zero, Int.sub_zero, ← fu, ← t]; exact b.2.1
end M23
namespace PV
open PySem L2
theorem scr_nil {mo : Mo} (ns : List Int) : eqD mo (.scr ns) (.lst []) = some (decide (ns.length = 0)) := by
  have c : ∀ l : List Int, PyData.canLayAll0 (l.map PyData.int) = true := fun l => by
    induction l with
    | nil => rfl
    | cons a r ih => simp [PyData.canLayAll0, PyData.canLay0, ih]
  have d : ∀ l : List Int, PyData.depthAll (l.map PyData.int) = 0 := fun l => by
    induction l with
    | nil => rfl
    | cons a r ih => simp [PyData.depthAll, PyData.depth, ih]
  have sp : (SeqAt.shaped (.list (ns.map .int)) && SeqAt.shaped (.list [])) = true := by
    simp only [SeqAt.shaped, PyData.canLay0, PyData.depth, c, d]
    rfl
  show (match toPy (.scr ns), toPy (.lst []) with | some p, some q => if SeqAt.shaped p && SeqAt.shaped q then some (PyData.eqv p q) else none | _, _ => none) = _
  have e1 : toPy (.scr ns) = some (.list (ns.map .int)) := by simp [toPy]
  have e2 : toPy (.lst []) = some (.list []) := by simp [toPy, toPyA]
  rw [e1, e2]
  dsimp only
  rw [if_pos sp]
  congr 1
  cases ns with
  | nil => rfl
  | cons a r => simp [PyData.eqv, PyData.eqvAll]
theorem atI_lt {xs : List D} {i : Int} (h0 : 0 ≤ i) (h1 : i < xs.length) : L2.atI xs i = some (xs[i.toNat]'(by omega)) := by
  obtain ⟨k, rfl⟩ := Int.eq_ofNat_of_zero_le h0
  have hk : k < xs.length := by omega
  unfold L2.atI L2.ixN
  simp [hk]
end PV
namespace PV
open PySem L2
/-- a method asked of a value -/
def meD (mo : Mo) (m : Nat) (x : D) (ds : List D) : Option D := match x with
  | .obj c fs => if fs.lookup m = none then mo.me c m (.obj c fs :: ds) else none
  | _ => none
section
variable {mo : Mo} {ρ : Rho} {r : Ro}
@[simp] theorem ev_meD {m : Nat} {a : E} {es : Es} : ev mo (.me m a es) ρ = (ev mo a ρ).bind fun x => (evs mo es ρ).bind fun ds => meD mo m x ds := by
  rw [ev_me]
  congr 1
@[simp] theorem evI_zip3 {a b c : E} : evI mo (.zip3 a b c) ρ = (ev mo a ρ).bind fun x => (ev mo b ρ).bind fun y => (ev mo c ρ).bind fun z => (itemsD x).bind fun xs => (itemsD y).bind fun ys => (itemsD z).bind fun zs => some (zip3D xs ys zs) := by first | (simp only [evI]; done) | (simp only [evI]; rfl) | rfl
@[simp] theorem ev_sc2 {t t1 : T} {it it1 : I} {c c1 e : E} {vs vs1 : List Nat} : ev mo (.sc2 t it c t1 it1 c1 e vs vs1) ρ = (evI mo it ρ).bind fun xs => (flatO (fun x => (bindT t x (wipeO ρ vs)).bind fun ρ2 => (tB (ev mo c ρ2)).bind fun k => if k = true then
        (evI mo it1 ρ2).bind fun ys => mapO (lcF mo t1 c1 e vs1 ρ2) ys
      else some []) xs).bind fun ys => (intsD ys).bind (setK .srt) := by first | (simp only [ev]; done) | (simp only [ev]; rfl) | rfl
theorem zip3B {α : Type} (f g h : α → D) : ∀ l : List α, zip3D (l.map f) (l.map g) (l.map h) = l.map fun x => .tup [f x, g x, h x]
  | [] => rfl
  | x :: l => by rw [List.map_cons, List.map_cons, List.map_cons, zip3D, zip3B f g h l]; rfl
end
end PV
namespace PV
open PySem L2
/-- a loop that breaks at the first that passes a test -/
theorem loopF_brk {g : D → Ro → Option Ro} {b : Ro → Option Out} {α : Type} {enc : α → D} {t : α → Bool} {P Q : Ro → Prop} : ∀ (xs : List α) (ρ : Ro), (∀ x ρ, x ∈ xs → P ρ → ∃ ρ1, g (enc x) ρ = some ρ1 ∧ (t x = true → ∃ ρ2, b ρ1 = some (.bk ρ2) ∧ Q ρ2) ∧ (t x = false → ∃ ρ2, b ρ1 = some (.nx ρ2) ∧ P ρ2)) → P ρ →
    ∃ ρ', loopF g b (xs.map enc) ρ = some (.nx ρ') ∧ (xs.any t = true → Q ρ') ∧ (xs.any t = false → P ρ')
  | [], ρ, _, h => ⟨ρ, rfl, fun h => (by cases h), fun _ => h⟩
  | x :: xs, ρ, h, hp => by
    obtain ⟨ρ1, h1, h2, h3⟩ := h x ρ List.mem_cons_self hp
    have un : loopF g b ((x :: xs).map enc) ρ = (b ρ1).bind fun o => match o with | .nx ρ' => loopF g b (xs.map enc) ρ' | .ct ρ' => loopF g b (xs.map enc) ρ' | .bk ρ' => some (.nx ρ') | .rt d => some (.rt d) := by
      show (g (enc x) ρ).bind _ = _
      rw [h1]; rfl
    rw [un, List.any_cons]
    cases e : t x with
    | true =>
      obtain ⟨ρ2, h4, h5⟩ := h2 e
      rw [h4]; exact ⟨ρ2, rfl, fun _ => h5, fun h => by simp at h⟩
    | false =>
      obtain ⟨ρ2, h4, h5⟩ := h3 e
      rw [h4, Bool.false_or]
      exact loopF_brk xs ρ2 (fun y ρ hy => h y ρ (List.mem_cons_of_mem _ hy)) h5
end PV
namespace PV
open PySem L2
/-- what an expression sees of a slot when nothing is given up -/
def sO : Sl → Option D
  | .va d => some d
  | _ => none
@[simp] theorem sO_va {d : D} : sO (.va d) = some d := rfl
@[simp] theorem sO_no : sO .no = none := rfl
@[simp] theorem sO_ow {d : D} : sO (.ow d) = none := rfl
@[simp] theorem given_none : ∀ {n : Nat} {r : Ro}, given [] n r = r
  | _, [] => rfl
  | n, s :: r => by
    cases s <;> simp [given, given_none (n := n + 1) (r := r)]
@[simp] theorem seen_any {n : Nat} {s : Sl} {r : Ro} : seen [] n (s :: r) = sO s :: seen [] (n + 1) r := by
  cases s <;> simp [seen, sO]
/-- what an expression sees of a slot when those of us are given up -/
def sV (us : List Nat) (n : Nat) : Sl → Option D
  | .va d => some d
  | .ow d => if n ∈ us then some d else none
  | .no => none
@[simp] theorem sV_va {us : List Nat} {n : Nat} {d : D} : sV us n (.va d) = some d := rfl
@[simp] theorem sV_no {us : List Nat} {n : Nat} : sV us n .no = none := rfl
@[simp] theorem sV_ow {us : List Nat} {n : Nat} {d : D} : sV us n (.ow d) = if n ∈ us then some d else none := rfl
@[simp low] theorem seen_gen {us : List Nat} {n : Nat} {s : Sl} {r : Ro} : seen us n (s :: r) = sV us n s :: seen us (n + 1) r := by
  cases s <;> simp [seen, sV]
theorem ixN_ok {n : Nat} {i : Int} (h0 : 0 ≤ i) (h1 : i < n) : L2.ixN n i = some i.toNat := by
  unfold L2.ixN
  rw [if_pos h0, if_pos h1]
end PV
namespace TT
open PySem PV L2 M30 M23
abbrev tI (ns : List Int) : D := .tup (ns.map D.int)
theorem tI_items (ns : List Int) : itemsD (tI ns) = some (ns.map D.int) := rfl
theorem lim_of {n : Nat} (h : n ≤ 1000) : n ≤ LIM := by unfold LIM; omega
theorem r_whole (n : Nat) (i : Int) : (tb.mo (n+2)).fn 0 [.int i] = some (.bl true) := by kernel_rfl
theorem r_between (n : Nat) (i a b : Int) : (tb.mo (n+3)).fn 1 [.int i, .int a, .int b] = some (.bl (decide (a ≤ i) && decide (i ≤ b))) := by
  rw [u1]
  by_cases h : a ≤ i <;> simp [runF, tm1, r_whole, h]
theorem r_between_ok (n : Nat) {i a b : Int} (h1 : a ≤ i) (h2 : i ≤ b) : (tb.mo (n+3)).fn 1 [.int i, .int a, .int b] = some (.bl true) := by
  rw [r_between, decide_eq_true h1, decide_eq_true h2]; rfl
theorem r_arebetween (n : Nat) {x : D} {ns : List Int} {a b : Int} (hx : itemsD x = some (ns.map D.int)) (hl : ns.length ≤ 1000) : (tb.mo (n+4)).fn 2 [x, .int a, .int b] = some (.bl (ns.all fun i => decide (a ≤ i) && decide (i ≤ b))) := by
  rw [u2]
  have e : mapO (lcF (tb.mo (n+3)) (.nm 3) (.cbl true) (.call 1 (.cons (.var 3) (.cons (.var 1) (.cons (.var 2) .nil)))) [3] [some x, some (.int a), some (.int b), none]) (ns.map D.int) = some (ns.map fun i => D.bl (decide (a ≤ i) && decide (i ≤ b))) :=
    mapO_map fun i _ => by simp [lcF, r_between]
  have e2 : blsD (ns.map fun i => D.bl (decide (a ≤ i) && decide (i ≤ b))) = some (ns.map fun i => (decide (a ≤ i) && decide (i ≤ b))) := by
    rw [← blsD_map, List.map_map]; rfl
  simp [runF, tm2, hx, e, glst_ok, lim_of hl, e2]
theorem r_arebetween_ok (n : Nat) {x : D} {ns : List Int} {a b : Int} (hx : itemsD x = some (ns.map D.int)) (hl : ns.length ≤ 1000) (h : ∀ i ∈ ns, a ≤ i ∧ i ≤ b) : (tb.mo (n+4)).fn 2 [x, .int a, .int b] = some (.bl true) := by
  rw [r_arebetween n hx hl, List.all_eq_true.mpr fun i hi => by simp [h i hi]]
theorem zip_tail {c : List Int} (h : c.Pairwise (· < ·)) : ∀ p ∈ c.zip c.tail, p.1 < p.2 := by
  induction c with
  | nil => simp
  | cons a r ih =>
    have h' := List.pairwise_cons.mp h
    cases r with
    | nil => simp
    | cons b r =>
      intro p hp
      rcases List.mem_cons.mp (show p ∈ (a, b) :: (b :: r).zip r from hp) with rfl | hp
      · exact h'.1 b List.mem_cons_self
      · exact ih h'.2 p hp
theorem cut_tail (xs : List D) : cutD xs (some 1) none = xs.tail := by
  have := cut_from xs 1
  rw [List.drop_one] at this
  exact this
theorem r_ascending (n : Nat) {k : Nat} {c : List Int} (h : Cut k c) (hl : c.length ≤ 1000) : (tb.mo (n+5)).fn 3 [tI c, .int ((k : Int) + 1)] = some (.bl true) := by
  rw [u3]
  have e1 : (tb.mo (n+4)).fn 2 [tI c, .int 0, .int (k : Int)] = some (.bl true) := r_arebetween_ok n (tI_items c) hl fun i hi => by have := h.nn i hi; have := h.lt i hi; omega
  have e2 : zipD (c.map D.int) (c.tail.map D.int) = (c.zip c.tail).map fun p => D.tup [.int p.1, .int p.2] := zipD_map _ _ _ _
  have e3 : mapO (lcF (tb.mo (n+4)) (.tp (.cons (.nm 2) (.cons (.nm 3) .nil))) (.cbl true) (.cmp .lt (.var 2) (.var 3)) [2, 3] [some (tI c), some (.int ((k : Int) + 1)), none, none]) ((c.zip c.tail).map fun p => D.tup [.int p.1, .int p.2]) = some ((c.zip c.tail).map fun p => D.bl (decide (p.1 < p.2))) :=
    mapO_map fun p _ => by simp [lcF]
  have e4 : blsD ((c.zip c.tail).map fun p => D.bl (decide (p.1 < p.2))) = some ((c.zip c.tail).map fun p => decide (p.1 < p.2)) := by
    rw [← blsD_map, List.map_map]; rfl
  have e5 : ((c.zip c.tail).map fun p => decide (p.1 < p.2)).all id = true := by
    rw [List.all_map]; exact List.all_eq_true.mpr fun p hp => decide_eq_true (zip_tail h.rise p hp)
  have l1 : ((c.zip c.tail).map fun p => D.bl (decide (p.1 < p.2))).length ≤ LIM := lim_of (by simp; omega)
  simp only [tI] at e3
  simp [runF, tm3, isiD, tyD, e1, slcD, cut_tail, ← List.map_tail, e2, e3, glst_ok l1, e4, e5]
end TT
namespace TT
open PySem PV L2 M30 M23
theorem atI_zero (d : D) (r : List D) : L2.atI (d :: r) 0 = some d := by
  unfold L2.atI L2.ixN; simp
theorem r_cuts (n : Nat) {k : Nat} {c : List Int} (h : Cut k c) (hl : c.length ≤ 1000) : (tb.mo (n+6)).fn 4 [tI c, .int ((k : Int) + 1)] = some (.bl true) := by
  rw [u4]
  have e := r_ascending n h hl
  cases c with
  | nil => exact absurd rfl h.ne
  | cons y r =>
    have ey : y = 0 := by simpa using h.head
    subst ey
    have pos : (0 : Int) < (r.length : Int) + 1 := by omega
    simp [runF, tm4, e, idxD, atI_zero, pos]
theorem r_chkrange (n : Nat) {f p v : Int} (h0 : 0 ≤ f) (h1 : f < p) (h2 : p ≤ v) : (tb.mo (n+4)).fn 6 [.int f, .int p, .int v] = some .non := by
  rw [u6]
  have e1 := r_between_ok n (i := f) (a := 0) (b := v - 1) h0 (by omega)
  have e2 := r_between_ok n (i := p) (a := f + 1) (b := v) (by omega) h2
  simp [runF, tm6, e1, e2]
theorem pairs_zip {v : Int} : ∀ {c : List Int}, c ≠ [] → c.zip (c.tail ++ [v]) = pairs (c ++ [v])
  | [], h => absurd rfl h
  | [a], _ => rfl
  | a :: b :: r, _ => by
    show (a, b) :: (b :: r).zip (r ++ [v]) = (a, b) :: pairs (b :: r ++ [v])
    rw [← pairs_zip (c := b :: r) (by simp)]; rfl
abbrev pD (x : Int × Int) : D := .tup [.int x.1, .int x.2]
theorem r_pairs (n : Nat) {c : List Int} {v : Int} (h : c ≠ []) (hl : c.length ≤ 900) : (tb.mo (n+1)).fn 7 [tI c, .int v] = some (.lst ((pairs (c ++ [v])).map pD)) := by
  rw [u7, ← pairs_zip h]
  have e1 : (c.map D.int).tail ++ [D.int v] = (c.tail ++ [v]).map D.int := by simp
  have l1 : ((c.tail ++ [v]).map D.int).length ≤ LIM := lim_of (by simp; omega)
  have e2 : zipD (c.map D.int) ((c.tail ++ [v]).map D.int) = (c.zip (c.tail ++ [v])).map pD := zipD_map _ _ _ _
  have l2 : min c.length (c.length - 1 + 1) ≤ 1000 := by omega
  have e3 : gtup ((c.map D.int).tail ++ [D.int v]) = some (.tup ((c.tail ++ [v]).map D.int)) := by rw [e1, gtup_ok l1]
  have e4 : zipD (c.map D.int) (c.tail.map D.int ++ [D.int v]) = (c.zip (c.tail ++ [v])).map pD := by rw [← e2]; simp
  simp [runF, tm7, slcD, cut_tail, -List.map_tail, e3]
  rw [if_pos l2, e4]; rfl
theorem r_shared (n : Nat) (b e f p : Int) : (tb.mo (n+1)).fn 8 [pD (b, e), .int f, .int p] = some (.int (max 0 (min e p - max b f))) := by
  rw [u8]
  have e1 : (if p < e then p else e) = min e p := by split <;> omega
  have e2 : (if f > b then f else b) = max b f := by split <;> omega
  simp [runF, tm8, e1, e2]
  omega
theorem nn_marks {k : Nat} {c : List Int} (hc : Cut k c) : ∀ x ∈ c ++ [((k : Nat) : Int) + 1], 0 ≤ x ∧ x ≤ (k : Int) + 1 := fun x hx => by
  rcases List.mem_append.mp hx with hx | hx
  · have := hc.nn x hx; have := hc.lt x hx; omega
  · simp at hx; omega
theorem pairs_len : ∀ (c : List Int) (v : Int), (pairs (c ++ [v])).length = c.length
  | [], _ => rfl
  | [a], _ => rfl
  | a :: b :: r, v => by
    show (pairs (b :: r ++ [v])).length + 1 = _
    rw [pairs_len (b :: r) v]; rfl
theorem len_obj {mo : Mo} {c : Nat} {fs : List (Nat × D)} {k : Int} (h : mo.me c 0 [.obj c fs] = some (.int k)) (h0 : 0 ≤ k) (h1 : k ≤ 1000000) : biD mo .len [.obj c fs] = some (.int k) := by
  have e : biD mo .len [.obj c fs] = lenD mo (.obj c fs) := rfl
  rw [e, lenD, h]
  have d0 : decide (0 ≤ k) = true := decide_eq_true h0
  have d1 : decide (k < 2 ^ 63) = true := decide_eq_true (by omega)
  simp only [d0, d1, Bool.and_true, if_true]
/-! ### histograms by their buckets -/
abbrev pB (B : Bk) : Int × Int := (B.b, B.e)
structure Hs (k : Nat) (c : List Int) (bs : List Bk) : Prop where
  cut : Cut k c
  most : k < 12
  bk : pairs (c ++ [((k : Nat) : Int) + 1]) = bs.map pB
  tot : ∀ B ∈ bs, 0 ≤ B.t ∧ B.t ≤ 9 * (B.e - B.b)
theorem Hs.len {k : Nat} {c : List Int} {bs : List Bk} (h : Hs k c bs) : c.length = bs.length := by
  rw [← pairs_len c ((k : Int) + 1), h.bk, List.length_map]
theorem chain_of : ∀ {a v : Int} {m : List Int} {bs : List Bk}, (a :: (m ++ [v])).Pairwise (· < ·) → pairs (a :: (m ++ [v])) = bs.map pB → Chain a bs v
  | a, v, [], bs, hp, h => by
    have e : pairs [a, v] = [(a, v)] := rfl
    rw [List.nil_append, e] at h
    cases bs with
    | nil => cases h
    | cons B r =>
      rw [List.map_cons, List.cons.injEq] at h
      have hr : r = [] := by simpa using h.2.symm
      subst hr
      have e1 : B.b = a := (congrArg Prod.fst h.1).symm
      have e2 : B.e = v := (congrArg Prod.snd h.1).symm
      subst e1 e2
      exact .cons (by simpa using hp) .nil
  | a, v, b :: m, bs, hp, h => by
    have e : pairs (a :: (b :: m ++ [v])) = (a, b) :: pairs (b :: (m ++ [v])) := rfl
    rw [e] at h
    cases bs with
    | nil => cases h
    | cons B r =>
      rw [List.map_cons, List.cons.injEq] at h
      have e1 : B.b = a := (congrArg Prod.fst h.1).symm
      have e2 : B.e = b := (congrArg Prod.snd h.1).symm
      have hp' := List.pairwise_cons.mp hp
      subst e1 e2
      exact .cons (hp'.1 _ (by simp)) (chain_of hp'.2 h.2)
theorem Hs.chain {k : Nat} {c : List Int} {bs : List Bk} (h : Hs k c bs) : Chain 0 bs ((k : Int) + 1) := by
  have hm := h.cut.marks
  have hb := h.bk
  have hh := h.cut.head
  cases c with
  | nil => exact absurd rfl h.cut.ne
  | cons a r =>
    have ea : a = 0 := by simpa using hh
    subst ea
    exact chain_of hm hb
theorem Hs.small {k : Nat} {c : List Int} {bs : List Bk} (h : Hs k c bs) {B : Bk} (hB : B ∈ bs) : 0 ≤ B.b ∧ B.b < B.e ∧ B.e ≤ 12 := by
  have := h.chain.le.2 B hB
  have := h.most
  omega
abbrev tsD (bs : List Bk) : D := tI (bs.map (·.t))
abbrev qsD (bs : List Bk) : D := tI (bs.map (·.q))
abbrev usD (bs : List Bk) : D := tI (bs.map (·.u))
abbrev psD (bs : List Bk) : D := .lst (bs.map fun B => pD (pB B))
theorem r_bpairs (n : Nat) {k : Nat} {c : List Int} {bs : List Bk} (h : Hs k c bs) (hl : c.length ≤ 20) : (tb.mo (n+1)).fn 7 [tI c, .int ((k : Int) + 1)] = some (psD bs) := by
  rw [r_pairs n h.cut.ne (by omega), h.bk, List.map_map]; rfl
theorem zipB {α : Type} (f g : α → D) : ∀ l : List α, zipD (l.map f) (l.map g) = l.map fun x => .tup [f x, g x]
  | [] => rfl
  | x :: l => by rw [List.map_cons, List.map_cons, zipD, zipB f g l]; rfl
theorem r_aretotals (n : Nat) {k : Nat} {c : List Int} {bs : List Bk} (h : Hs k c bs) (hl : bs.length ≤ 20) : (tb.mo (n+4)).fn 11 [tsD bs, psD bs] = some (.bl true) := by
  rw [u11]
  have z := zipB (fun B : Bk => D.int B.t) (fun B => pD (pB B)) bs
  have m : mapO (lcF (tb.mo (n+3)) (.tp (.cons (.nm 2) (.cons (.tp (.cons (.nm 3) (.cons (.nm 4) .nil))) .nil))) (.cbl true) (.call 1 (.cons (.var 2) (.cons (.cint 0) (.cons (.bin .mul (.cint 9) (.bin .sub (.var 4) (.var 3))) .nil)))) [2, 3, 4] [some (tsD bs), some (psD bs), none, none, none]) (bs.map fun B => D.tup [.int B.t, pD (pB B)]) = some (bs.map fun _ => D.bl true) :=
    mapO_map fun B hB => by
      have t := h.tot B hB
      have s := h.small hB
      have e1 := r_between_ok n (i := B.t) (a := 0) (b := 9 * (B.e - B.b)) t.1 t.2
      have e2 : binD .mul (.int 9) (.int (B.e - B.b)) = some (.int (9 * (B.e - B.b))) := mul_l (by omega) (by omega)
      simp [lcF, e1, e2]
  have g : glst (bs.map fun _ => D.bl true) = some (.lst (bs.map fun _ => D.bl true)) := glst_ok (lim_of (by rw [List.length_map]; omega))
  have b : blsD (bs.map fun _ => D.bl true) = some (bs.map fun _ => true) := by
    rw [← blsD_map, List.map_map]; rfl
  have e0 : (bs.map (·.t)).map D.int = bs.map fun B => D.int B.t := by rw [List.map_map]; rfl
  simp only [tsD, psD, tI, e0] at m
  simp [runF, tm11, isiD, tyD, Function.comp_def]
  simp only [tsD, psD, tI, e0, z, m, Option.bind_some, g]
  simp [b]
abbrev hiD (k : Nat) (c : List Int) (bs : List Bk) : D := .obj 1 [(4, .int ((k : Int) + 1)), (5, tI c), (6, tsD bs)]
theorem r_mkhist (n : Nat) {k : Nat} {c : List Int} {bs : List Bk} (h : Hs k c bs) (hl : c.length ≤ 20) : (tb.mo (n+7)).mkD 1 [.int ((k : Int) + 1), tI c, tsD bs] = some (hiD k c bs) := by
  rw [umk1]
  have hm := h.most
  have e1 := r_between_ok (n+3) (i := (k : Int) + 1) (a := 1) (b := 12) (by omega) (by omega)
  have e2 := r_cuts n h.cut (show c.length ≤ 1000 by omega)
  have e3 := r_bpairs (n+5) h hl
  have e4 := r_aretotals (n+2) h (by rw [← h.len]; exact hl)
  simp only [tI] at e2 e3
  simp only [hiD]
  generalize tsD bs = T at e4 ⊢
  simp only [psD] at e3 e4
  simp [runI, tm32, e1, e2, e3, e4, objAt]
theorem r_hlen (n : Nat) {k : Nat} {c : List Int} {bs : List Bk} (h : Hs k c bs) : (tb.mo (n+2)).me 1 0 [hiD k c bs] = some (.int bs.length) := by
  rw [um1_0, ← h.len]
  have lk : List.lookup 5 [(4, D.int ((k : Int) + 1)), (5, tI c), (6, tsD bs)] = some (tI c) := rfl
  simp only [tI] at lk
  simp [runF, tm34, fldD, lk]
theorem r_len_his (n : Nat) {k : Nat} {c : List Int} {bs : List Bk} (h : Hs k c bs) (hl : c.length ≤ 20) : biD (tb.mo (n+2)) .len [hiD k c bs] = some (.int bs.length) := by
  have := h.len
  exact len_obj (r_hlen n h) (by omega) (by omega)
theorem fld_h3 (n : Nat) (k : Nat) (c : List Int) (bs : List Bk) : fldD (tb.mo (n+1)) 4 (hiD k c bs) = some (.int ((k : Int) + 1)) := by simp [fldD]
theorem fld_h4 (n : Nat) (k : Nat) (c : List Int) (bs : List Bk) : fldD (tb.mo (n+1)) 5 (hiD k c bs) = some (tI c) := by simp [fldD]; rfl
theorem fld_h5 (n : Nat) (k : Nat) (c : List Int) (bs : List Bk) : fldD (tb.mo (n+1)) 6 (hiD k c bs) = some (tsD bs) := by simp [fldD]; rfl
theorem r_buckets0 (n : Nat) {k : Nat} {c : List Int} {bs : List Bk} {x : D} (h : Hs k c bs) (hl : c.length ≤ 20) (e3 : fldD (tb.mo (n+1)) 4 x = some (.int ((k : Int) + 1))) (e4 : fldD (tb.mo (n+1)) 5 x = some (tI c)) : (tb.mo (n+2)).me 1 7 [x] = some (psD bs) := by
  rw [um1_7]
  have e := r_bpairs n h hl
  simp only [tI] at e e4
  simp [runF, tm35, e3, e4, e]
theorem r_buckets (n : Nat) {k : Nat} {c : List Int} {bs : List Bk} (h : Hs k c bs) (hl : c.length ≤ 20) : (tb.mo (n+2)).me 1 7 [hiD k c bs] = some (psD bs) := r_buckets0 n h hl (fld_h3 n k c bs) (fld_h4 n k c bs)
theorem r_chkhist (n : Nat) (k : Nat) (c : List Int) (bs : List Bk) : (tb.mo (n+2)).fn 12 [hiD k c bs] = some .non := by
  rw [u12]
  simp [runF, tm12, isiD, tyD]
end TT
namespace TT
open PySem PV L2 M30 M23
/-- what the readings ask of a histogram -/
structure HX (mo : Mo) (k : Nat) (c : List Int) (bs : List Bk) (x : D) : Prop where
  len : biD mo .len [x] = some (.int bs.length)
  w : fldD mo 4 x = some (.int ((k : Int) + 1))
  t : fldD mo 6 x = some (tsD bs)
  b : meD mo 7 x [] = some (psD bs)
theorem hx (n : Nat) {k : Nat} {c : List Int} {bs : List Bk} (h : Hs k c bs) (hl : c.length ≤ 20) : HX (tb.mo (n+2)) k c bs (hiD k c bs) :=
  ⟨r_len_his n h hl, fld_h3 (n+1) k c bs, fld_h5 (n+1) k c bs, by
    have := r_buckets n h hl
    show (if List.lookup 7 [(4, D.int ((k : Int) + 1)), (5, tI c), (6, tsD bs)] = none then (tb.mo (n+2)).me 1 7 [hiD k c bs] else none) = _
    have lk : List.lookup 7 [(4, D.int ((k : Int) + 1)), (5, tI c), (6, tsD bs)] = none := rfl
    rw [if_pos lk, this]⟩
theorem map_t (bs : List Bk) : (bs.map (·.t)).map D.int = bs.map fun B => D.int B.t := by rw [List.map_map]; rfl
theorem map_q (bs : List Bk) : (bs.map (·.q)).map D.int = bs.map fun B => D.int B.q := by rw [List.map_map]; rfl
theorem map_u (bs : List Bk) : (bs.map (·.u)).map D.int = bs.map fun B => D.int B.u := by rw [List.map_map]; rfl
theorem foldl_max : ∀ (l : List Int) (a : Int), a ≤ l.foldl max a ∧ (∀ y ∈ l, y ≤ l.foldl max a) ∧ (l.foldl max a = a ∨ l.foldl max a ∈ l)
  | [], a => ⟨Int.le_refl _, fun y h => (by cases h), .inl rfl⟩
  | x :: l, a => by
    obtain ⟨h1, h2, h3⟩ := foldl_max l (max a x)
    have e : (x :: l).foldl max a = l.foldl max (max a x) := rfl
    rw [e]
    refine ⟨by omega, fun y hy => ?_, ?_⟩
    · rcases List.mem_cons.mp hy with z | z
      · rw [z]; omega
      · exact h2 y z
    · rcases h3 with h3 | h3
      · by_cases hx : a ≤ x
        · right; rw [h3, show max a x = x by omega]; exact List.mem_cons_self
        · left; rw [h3]; omega
      · right; exact List.mem_cons_of_mem _ h3
theorem maxI_spec {l : List Int} (h : l ≠ []) : maxI l ∈ l ∧ ∀ y ∈ l, y ≤ maxI l := by
  cases l with
  | nil => exact absurd rfl h
  | cons a l =>
    obtain ⟨h1, h2, h3⟩ := foldl_max l a
    have e : maxI (a :: l) = l.foldl max a := rfl
    rw [e]
    refine ⟨?_, fun y hy => ?_⟩
    · rcases h3 with h3 | h3
      · rw [h3]; exact List.mem_cons_self
      · exact List.mem_cons_of_mem _ h3
    · rcases List.mem_cons.mp hy with z | z
      · rw [z]; exact h1
      · exact h2 y z
structure Co (k : Nat) (xs : List Int) : Prop where
  len : xs.length = k + 1
  most : k < 12
  v : ∀ z ∈ xs, 0 ≤ z ∧ z ≤ 9
def bkX (xs : List Int) (q : Int × Int) : Bk := ⟨q.1, q.2, maxI (slcI xs q.1 q.2), (slcI xs q.1 q.2).sum, (fil (slcI xs q.1 q.2) : Int)⟩
def bsX (k : Nat) (xs c : List Int) : List Bk := (pairs (c ++ [((k : Nat) : Int) + 1])).map (bkX xs)
end TT
namespace TT
open PySem PV L2 M30 M23
section
variable {k : Nat} {xs c : List Int}
theorem bsX_pB : (bsX k xs c).map pB = pairs (c ++ [((k : Nat) : Int) + 1]) := by
  unfold bsX
  rw [List.map_map]
  have : (pB ∘ bkX xs) = id := by funext q; rfl
  rw [this, List.map_id]
theorem bsX_chain (hc : Cut k c) : Chain 0 (bsX k xs c) ((k : Int) + 1) := by
  have hm := hc.marks
  have hh := hc.head
  have hb := bsX_pB (k := k) (xs := xs) (c := c)
  cases c with
  | nil => exact absurd rfl hc.ne
  | cons a r =>
    have ea : a = 0 := by simpa using hh
    subst ea
    exact chain_of hm hb.symm
theorem bsX_mem {B : Bk} (hB : B ∈ bsX k xs c) : B = bkX xs (B.b, B.e) := by
  obtain ⟨q, _, rfl⟩ := List.mem_map.mp hB
  rfl
structure BkF (xs : List Int) (B : Bk) : Prop where
  l : ((slcI xs B.b B.e).length : Int) = B.e - B.b
  v : ∀ z ∈ slcI xs B.b B.e, 0 ≤ z ∧ z ≤ B.q
  q : 0 ≤ B.q ∧ B.q ≤ 9
  t : (slcI xs B.b B.e).sum = B.t
  u : (fil (slcI xs B.b B.e) : Int) = B.u
theorem bsX_f (hx : Co k xs) (hc : Cut k c) {B : Bk} (hB : B ∈ bsX k xs c) : BkF xs B ∧ 0 ≤ B.b ∧ B.b < B.e ∧ B.e ≤ (k : Int) + 1 := by
  have w := (bsX_chain (xs := xs) hc).le.2 B hB
  have e := bsX_mem hB
  have hl := hx.len
  have l := slc_len xs (a := B.b) (b := B.e) w.1 (by omega) (by omega)
  have ne : slcI xs B.b B.e ≠ [] := fun z => by rw [z] at l; simp at l; omega
  obtain ⟨m1, m2⟩ := maxI_spec ne
  have eq : B.q = maxI (slcI xs B.b B.e) := congrArg Bk.q e
  have et : B.t = (slcI xs B.b B.e).sum := congrArg Bk.t e
  have eu : B.u = (fil (slcI xs B.b B.e) : Int) := congrArg Bk.u e
  have vm := hx.v _ (slc_mem m1)
  exact ⟨⟨l, fun z hz => ⟨(hx.v z (slc_mem hz)).1, by rw [eq]; exact m2 z hz⟩, by rw [eq]; exact vm, et.symm, eu.symm⟩, w.1, w.2.1, w.2.2⟩
theorem bsX_hs (hx : Co k xs) (hc : Cut k c) : Hs k c (bsX k xs c) where
  cut := hc
  most := hx.most
  bk := bsX_pB.symm
  tot := fun B hB => by
    obtain ⟨f, w⟩ := bsX_f hx hc hB
    have s := sum_le (ns := slcI xs B.b B.e) (m := 9) fun z hz => hx.v z (slc_mem hz)
    rw [f.l, f.t] at s
    exact s
end
end TT
namespace TT
open PySem PV L2 M30 M23
/-- a column -/
def coP (xs : List Int) : D := .obj 0 [(3, .ptp xs)]
abbrev lI (ns : List Int) : D := .lst (ns.map D.int)
theorem coP_fld (n : Nat) (xs : List Int) : fldD (tb.mo (n+1)) 3 (coP xs) = some (.ptp xs) := rfl
theorem coP_ty (xs : List Int) : tyD (coP xs) = .own 0 := rfl
theorem ptuD_l (ns : List Int) : ptuD (lI ns) = some (.ptp ns) := by
  show (intsD (ns.map D.int)).bind _ = _
  rw [intsD_map]; rfl
theorem mkcol0 {mo : Mo} {L d : D} {N : Int} (e2 : mo.fn 2 [L, .int 0, .int 9] = some (.bl true)) (ty : tyD L = .bi "list") (is : mo.isi (.bi "list") (.bi "list") = some true) (ln : biD mo .len [L] = some (.int N)) (h1 : 1 ≤ N) (h2 : N ≤ 12) (pt : ptuD L = some d) (fl : mo.fl 0 3 = true) : runI mo 2 2 0 tm27 [L] = some (.obj 0 [(3, d)]) := by
  first
  | (simp [runI, tm27, isiD, ty, is, e2, ln, h1, h2, pt, objAt, fl]; done)
  | (simp [runI, tm27, isiD, ty, is, e2, ln, h1, h2, pt, objAt, fl]; rfl)
theorem r_mkcol (n : Nat) {k : Nat} {xs : List Int} (hx : Co k xs) : (tb.mo (n+5)).mkD 0 [lI xs] = some (coP xs) := by
  have hl := hx.len
  have hm := hx.most
  have ln : biD (tb.mo (n+4)) .len [lI xs] = some (.int (xs.length : Int)) := by
    show some (D.int ((xs.map D.int).length : Int)) = _
    rw [List.length_map]
  exact (umk0 (n+4) _).trans (mkcol0 (r_arebetween_ok n (x := lI xs) rfl (by omega) hx.v) rfl (by first | rfl | simp) ln (by omega) (by omega) (ptuD_l xs) rfl)
theorem col0 {mo : Mo} {x : D} (ty : tyD x = .own 0) (is : mo.isi (.own 0) (.own 0) = some true) : runF mo 1 1 tm10 [x] = some .non := by
  simp [runF, tm10, isiD, ty, is]
theorem r_chkcol (n : Nat) (xs : List Int) : (tb.mo (n+2)).fn 10 [coP xs] = some .non := (u10 (n+1) _).trans (col0 (coP_ty xs) (by first | rfl | simp))
theorem len0 {mo : Mo} {x : D} {ns : List Int} (f : fldD mo 3 x = some (.ptp ns)) : runF mo 1 1 tm29 [x] = some (.int ns.length) := by
  simp [runF, tm29, f]
theorem len_objM {mo : Mo} {c : Nat} {fs : List (Nat × D)} {k : Int} (h : mo.me c 0 [.obj c fs] = some (.int k)) (h0 : 0 ≤ k) (h1 : k ≤ 1000000) : biD mo .len [.obj c fs] = some (.int k) := by
  have e : biD mo .len [.obj c fs] = lenD mo (.obj c fs) := rfl
  rw [e, lenD, h]
  have d0 : decide (0 ≤ k) = true := decide_eq_true h0
  have d1 : decide (k < 2 ^ 63) = true := decide_eq_true (by omega)
  simp only [d0, d1, Bool.and_true, if_true]
theorem r_collen (n : Nat) {k : Nat} {xs : List Int} (hx : Co k xs) : biD (tb.mo (n+2)) .len [coP xs] = some (.int ((k : Int) + 1)) := by
  have hl := hx.len
  have hm := hx.most
  have e : ((xs.length : Nat) : Int) = (k : Int) + 1 := by omega
  have z := len_objM (mo := tb.mo (n+2)) (c := 0) (fs := [(3, .ptp xs)]) ((um0_0 (n+1) [coP xs]).trans (len0 (coP_fld n xs))) (by omega) (by omega)
  rw [e] at z
  exact z
theorem ints_inj {a b : List Int} (h : a.map D.int = b.map D.int) : a = b := by
  have i1 := intsD_map a
  rw [h, intsD_map] at i1
  exact (Option.some.inj i1).symm
theorem slc_ptp (ns : List Int) {a b : Int} (h0 : 0 ≤ a) (h1 : 0 ≤ b) (h : b ≤ ns.length) : slcD (.ptp ns) (some a) (some b) = some (.ptp (slcI ns a b)) := by
  have c := cut_slc ns h0 h1 h
  unfold cutD at c
  rw [List.length_map, ← List.map_drop, ← List.map_take] at c
  show some (D.ptp _) = _
  rw [ints_inj c]
theorem ckcuts0 {mo : Mo} {T w : D} (h4 : mo.fn 4 [T, w] = some (.bl true)) : runF mo 2 2 tm5 [T, w] = some .non := by
  simp [runF, tm5, h4]
theorem r_ckcuts (n : Nat) {k : Nat} {c : List Int} (h : Cut k c) (hl : c.length ≤ 1000) : (tb.mo (n+7)).fn 5 [tI c, .int ((k : Int) + 1)] = some .non := (u5 (n+6) _).trans (ckcuts0 (r_cuts n h hl))
/-! ### the parts of a column -/
def partsL (xs : List Int) (bs : List Bk) : List D := bs.map fun B => .ptp (slcI xs B.b B.e)
theorem parts0 {mo : Mo} {k : Nat} {c xs : List Int} {bs : List Bk} {x C w : D} (h : Hs k c bs) (hl : bs.length ≤ 20) (xl : xs.length = k + 1) (f10 : mo.fn 10 [x] = some .non) (ln : biD mo .len [x] = some w) (f5 : mo.fn 5 [C, w] = some .non) (f7 : mo.fn 7 [C, w] = some (psD bs)) (fx : fldD mo 3 x = some (.ptp xs)) : runF mo 4 2 tm13 [x, C] = some (.lst (partsL xs bs)) := by
  have mm : mapO (lcF mo (.tp (.cons (.nm 2) (.cons (.nm 3) .nil))) (.cbl true) (.slc (.fld (.var 0) 3) (.som (.var 2)) (.som (.var 3))) [2, 3] [some x, some C, none, none]) (bs.map fun B => pD (pB B)) = some (partsL xs bs) :=
    mapO_map fun B hB => by
      have w := h.chain.le.2 B hB
      have s := slc_ptp xs (a := B.b) (b := B.e) w.1 (by omega) (by omega)
      generalize D.ptp (slcI xs B.b B.e) = Y at *
      generalize D.ptp xs = X at *
      simp only [lcF, pD, pB, bindT_tp, bindTs_cons, bindTs_nil, bindT_nm, wipeO_cons, wipeO_nil, List.set, Option.bind_some, ev_cbl, tB_bl, if_true, ev_slc, ev_fld, evo_som, ev_var, List.getElem?_cons_succ, List.getElem?_cons_zero, fx, s, Option.map_some]
  have g : glst (partsL xs bs) = some (.lst (partsL xs bs)) := glst_ok (lim_of (by unfold partsL; rw [List.length_map]; omega))
  have f7' : mo.fn 7 [C, w] = some (.lst (bs.map fun B => pD (pB B))) := f7
  generalize (bs.map fun B => pD (pB B)) = Z at *
  generalize partsL xs bs = Y at *
  simp [runF, tm13, f10, ln, f5, f7', mm, g]
theorem r_parts (n : Nat) {k : Nat} {c xs : List Int} {bs : List Bk} (h : Hs k c bs) (hl : bs.length ≤ 20) (hx : Co k xs) : (tb.mo (n+8)).fn 13 [coP xs, tI c] = some (.lst (partsL xs bs)) := by
  have hc : c.length ≤ 20 := by rw [h.len]; exact hl
  exact (u13 (n+7) _).trans (parts0 h hl hx.len (r_chkcol (n+5) xs) (r_collen (n+5) hx) (r_ckcuts n h.cut (by omega)) (r_bpairs (n+6) h hc) (coP_fld (n+6) xs))
theorem hist0 {mo : Mo} {xs : List Int} {bs : List Bk} {x C w o : D} (hl : bs.length ≤ 20) (ht : ∀ B ∈ bs, (slcI xs B.b B.e).sum = B.t) (f13 : mo.fn 13 [x, C] = some (.lst (partsL xs bs))) (ln : biD mo .len [x] = some w) (mk : mo.mkD 1 [w, C, tsD bs] = some o) : runF mo 4 2 tm14 [x, C] = some o := by
  have mm : mapO (lcF mo (.nm 3) (.cbl true) (.bi .sum (.cons (.var 3) .nil)) [3] [some x, some C, none, none]) (partsL xs bs) = some (bs.map fun B => D.int B.t) :=
    mapO_map fun B hB => by
      have i := intsD_map (slcI xs B.b B.e)
      have e := ht B hB
      generalize slcI xs B.b B.e = Y at *
      simp only [lcF, bindT_nm, wipeO_cons, wipeO_nil, List.set, Option.bind_some, ev_cbl, tB_bl, if_true, ev_bi, evs_cons, evs_nil, ev_var, List.getElem?_cons_succ, List.getElem?_cons_zero, sum_d, items_ptp, i, e, Option.map_some]
  rw [← map_t] at mm
  have g : glst ((bs.map (·.t)).map D.int) = some (.lst ((bs.map (·.t)).map D.int)) := glst_ok (lim_of (by simp; omega))
  have mk' : mo.mkD 1 [w, C, .tup ((bs.map (·.t)).map D.int)] = some o := mk
  generalize (bs.map (·.t)).map D.int = T0 at *
  generalize partsL xs bs = Y at *
  simp [runF, tm14, f13, mm, g, ln, mk']
theorem r_hist (n : Nat) {k : Nat} {c xs : List Int} (hx : Co k xs) (hc : Cut k c) (hl : (bsX k xs c).length ≤ 20) : (tb.mo (n+10)).fn 14 [coP xs, tI c] = some (hiD k c (bsX k xs c)) := by
  have h := bsX_hs hx hc
  have hcl : c.length ≤ 20 := by rw [h.len]; exact hl
  exact (u14 (n+9) _).trans (hist0 hl (fun B hB => (bsX_f hx hc hB).1.t) (r_parts (n+1) h hl hx) (r_collen (n+7) hx) (r_mkhist (n+2) h hcl))
theorem caps0 {mo : Mo} {xs : List Int} {bs : List Bk} {x C : D} (hl : bs.length ≤ 20) (hq : ∀ B ∈ bs, slcI xs B.b B.e ≠ [] ∧ maxI (slcI xs B.b B.e) = B.q) (f13 : mo.fn 13 [x, C] = some (.lst (partsL xs bs))) : runF mo 3 2 tm15 [x, C] = some (qsD bs) := by
  have mm : mapO (lcF mo (.nm 2) (.cbl true) (.bi .max (.cons (.var 2) .nil)) [2] [some x, some C, none]) (partsL xs bs) = some (bs.map fun B => D.int B.q) :=
    mapO_map fun B hB => by
      have i := intsD_map (slcI xs B.b B.e)
      obtain ⟨ne, e⟩ := hq B hB
      have pos : 0 < (slcI xs B.b B.e).length := List.length_pos_iff.mpr ne
      generalize slcI xs B.b B.e = Y at *
      simp only [lcF, bindT_nm, wipeO_cons, wipeO_nil, List.set, Option.bind_some, ev_cbl, tB_bl, if_true, ev_bi, evs_cons, evs_nil, ev_var, List.getElem?_cons_succ, List.getElem?_cons_zero, max_d, items_ptp, i, pos, e, Option.map_some]
  rw [← map_q] at mm
  have g : glst ((bs.map (·.q)).map D.int) = some (.lst ((bs.map (·.q)).map D.int)) := glst_ok (lim_of (by simp; omega))
  show _ = some (D.tup ((bs.map (·.q)).map D.int))
  generalize (bs.map (·.q)).map D.int = T0 at *
  generalize partsL xs bs = Y at *
  simp [runF, tm15, f13, mm, g]
theorem r_caps (n : Nat) {k : Nat} {c xs : List Int} (hx : Co k xs) (hc : Cut k c) (hl : (bsX k xs c).length ≤ 20) : (tb.mo (n+9)).fn 15 [coP xs, tI c] = some (qsD (bsX k xs c)) :=
  (u15 (n+8) _).trans (caps0 hl (fun B hB => ⟨fun z => by
    obtain ⟨f, w⟩ := bsX_f hx hc hB
    have l := f.l
    rw [z] at l
    simp at l
    omega, (congrArg Bk.q (bsX_mem hB)).symm⟩) (r_parts n (bsX_hs hx hc) hl hx))
theorem fil_count : ∀ {y : List Int}, (∀ z ∈ y, 0 ≤ z) → (y.length : Int) - (y.count 0 : Nat) = (fil y : Nat)
  | [], _ => by simp [fil]
  | z :: r, h => by
    have ih := fil_count (y := r) fun w hw => h w (List.mem_cons_of_mem _ hw)
    have h0 := h z List.mem_cons_self
    unfold fil at *
    rw [List.count_cons, List.filter_cons, List.length_cons]
    by_cases e : z = 0
    · subst e
      simp
      omega
    · have p : 0 < z := by omega
      have b : (z == 0) = false := by simpa using e
      simp [p, b]
      omega
theorem fills0 {mo : Mo} {xs : List Int} {bs : List Bk} {x C : D} (hl : bs.length ≤ 20) (hu : ∀ B ∈ bs, (∀ z ∈ slcI xs B.b B.e, 0 ≤ z) ∧ (fil (slcI xs B.b B.e) : Int) = B.u) (f13 : mo.fn 13 [x, C] = some (.lst (partsL xs bs))) : runF mo 3 2 tm16 [x, C] = some (usD bs) := by
  have mm : mapO (lcF mo (.nm 2) (.cbl true) (.bin .sub (.bi .len (.cons (.var 2) .nil)) (.tcn (.var 2) (.cint 0))) [2] [some x, some C, none]) (partsL xs bs) = some (bs.map fun B => D.int B.u) :=
    mapO_map fun B hB => by
      obtain ⟨nn, e⟩ := hu B hB
      have fc := fil_count nn
      rw [e] at fc
      have ct : cntD (.ptp (slcI xs B.b B.e)) (.int 0) = some (.int ((slcI xs B.b B.e).count 0 : Nat)) := rfl
      have ln : biD mo .len [.ptp (slcI xs B.b B.e)] = some (.int ((slcI xs B.b B.e).length : Nat)) := rfl
      generalize ((slcI xs B.b B.e).count 0 : Nat) = a at *
      generalize ((slcI xs B.b B.e).length : Nat) = b at *
      generalize D.ptp (slcI xs B.b B.e) = Y at *
      simp only [lcF, bindT_nm, wipeO_cons, wipeO_nil, List.set, Option.bind_some, ev_cbl, tB_bl, if_true, ev_bin, ev_tcn, ev_cint, ev_bi, evs_cons, evs_nil, ev_var, List.getElem?_cons_succ, List.getElem?_cons_zero, ln, ct, sub_ints, fc, Option.map_some]
  rw [← map_u] at mm
  have g : glst ((bs.map (·.u)).map D.int) = some (.lst ((bs.map (·.u)).map D.int)) := glst_ok (lim_of (by simp; omega))
  show _ = some (D.tup ((bs.map (·.u)).map D.int))
  generalize (bs.map (·.u)).map D.int = T0 at *
  generalize partsL xs bs = Y at *
  simp [runF, tm16, f13, mm, g]
theorem r_fills (n : Nat) {k : Nat} {c xs : List Int} (hx : Co k xs) (hc : Cut k c) (hl : (bsX k xs c).length ≤ 20) : (tb.mo (n+9)).fn 16 [coP xs, tI c] = some (usD (bsX k xs c)) :=
  (u16 (n+8) _).trans (fills0 hl (fun B hB => ⟨fun z hz => ((bsX_f hx hc hB).1.v z hz).1, (bsX_f hx hc hB).1.u⟩) (r_parts n (bsX_hs hx hc) hl hx))
end TT
namespace TT
open PySem PV L2 M30 M23
def esB (f p : Int) (B : Bk) : Int := B.t * mIn f p B * (27720 / (B.e - B.b))
def esS (f p : Int) (bs : List Bk) : Int := (bs.map (esB f p)).sum
abbrev esX : S := (.seq (.tgt (.tp (.cons (.nm 6) (.cons (.nm 7) .nil))) ⟨[], false⟩ (.var 4)) (.seq (.aug 3 .add ⟨[], false⟩ (.bin .mul (.bin .mul (.var 5) (.call 8 (.cons (.var 4) (.cons (.var 1) (.cons (.var 2) .nil))))) (.bin .fdiv (.cint 27720) (.bin .sub (.var 7) (.var 6))))) .nop))
theorem est0 {mo : Mo} {k : Nat} {c : List Int} {bs : List Bk} {x r : D} {f p : Int} (h : Hs k c bs) (f12 : mo.fn 12 [x] = some .non) (f6 : mo.fn 6 [.int f, .int p, .int ((k : Int) + 1)] = some .non) (X : HX mo k c bs x) (f8 : ∀ B ∈ bs, mo.fn 8 [pD (pB B), .int f, .int p] = some (.int (mIn f p B))) (f9 : mo.fn 9 [.int (esS f p bs), .int 27720] = some r) : runF mo 8 3 tm17 [x, .int f, .int p] = some r := by
  have z := zipB (fun B : Bk => pD (pB B)) (fun B => D.int B.t) bs
  obtain ⟨ρ', L, s4, s5, s6, s7, e⟩ := loopF_P (P := fun d ρ => ∃ s4 s5 s6 s7, ρ = [Sl.va x, .va (.int f), .va (.int p), .va (.int (esS f p d)), s4, s5, s6, s7]) (enc := fun B : Bk => D.tup [pD (pB B), .int B.t]) (g := bindS (.tp (.cons (.nm 4) (.cons (.nm 5) .nil))))
    (b := ex mo esX) bs [] [.va x, .va (.int f), .va (.int p), .va (.int 0), .no, .no, .no, .no] (fun d B ρ hB ⟨s4, s5, s6, s7, e⟩ => by
      subst e
      have sm := h.small hB
      have tt := h.tot B hB
      have mb := mIn_bounds (f := f) (p := p) sm.2.1
      have sh := f8 B hB
      have m1 : binD .mul (.int B.t) (.int (mIn f p B)) = some (.int (B.t * mIn f p B)) := mul_l (by omega) (by omega)
      have d1 : binD .fdiv (.int 27720) (.int (B.e - B.b)) = some (.int (27720 / (B.e - B.b))) := div_ok (by omega) (by omega)
      have q1 : 27720 / (B.e - B.b) ≤ 27720 := Int.ediv_le_self _ (by decide)
      have q0 : 0 ≤ 27720 / (B.e - B.b) := Int.ediv_nonneg (by decide) (by omega)
      have m2 : binD .mul (.int (B.t * mIn f p B)) (.int (27720 / (B.e - B.b))) = some (.int (esB f p B)) := mul_r (by omega) (by omega)
      have es : esS f p (d ++ [B]) = esS f p d + esB f p B := by unfold esS; simp
      rw [es]
      generalize esS f p d = A at *
      generalize esB f p B = E at *
      generalize B.t * mIn f p B = T at *
      generalize 27720 / (B.e - B.b) = Q at *
      exact ⟨[Sl.va x, .va (.int f), .va (.int p), .va (.int A), .va (pD (pB B)), .va (.int B.t), s6, s7], [Sl.va x, .va (.int f), .va (.int p), .va (.int (A + E)), .va (pD (pB B)), .va (.int B.t), .va (.int B.b), .va (.int B.e)], by simp, .inl (by
        simp only [pD, pB] at sh
        simp [pD, pB, sh, m1, d1, m2]), _, _, _, _, rfl⟩) ⟨_, _, _, _, rfl⟩
  subst e
  rw [List.nil_append] at L
  have X1 := X.w
  have X2 := X.t
  have X3 := X.b
  simp only [tsD, psD, tI, map_t] at X2 X3
  generalize (bs.map fun B => pD (pB B)) = Z1 at *
  generalize (bs.map fun B => D.int B.t) = Z2 at *
  generalize (bs.map fun B => D.tup [pD (pB B), .int B.t]) = Z3 at *
  simp [runF, tm17, f12, X1, X2, X3, f6, z, L, f9]
def gG (s : Int) : Int := ((Nat.gcd s.natAbs 27720 : Nat) : Int)
theorem gG_ok (s : Int) : 0 < gG s ∧ gG s ≤ 27720 ∧ gG s ∣ s ∧ gG s ∣ 27720 := by
  have h1 : 0 < Nat.gcd s.natAbs 27720 := Nat.gcd_pos_of_pos_right _ (by decide)
  have h2 : Nat.gcd s.natAbs 27720 ≤ 27720 := Nat.gcd_le_right _ (by decide)
  have h3 := Nat.gcd_dvd_left s.natAbs 27720
  have h4 := Nat.gcd_dvd_right s.natAbs 27720
  unfold gG
  refine ⟨by omega, by omega, Int.ofNat_dvd_left.mpr h3, ?_⟩
  have : ((Nat.gcd s.natAbs 27720 : Nat) : Int) ∣ ((27720 : Nat) : Int) := Int.natCast_dvd_natCast.mpr h4
  exact this
theorem r_lowest (n : Nat) (s : Int) : (tb.mo (n+1)).fn 9 [.int s, .int 27720] = some (.tup [.int (s / gG s), .int (27720 / gG s)]) := by
  obtain ⟨h1, h2, _, _⟩ := gG_ok s
  have g : biD (tb.mo n) .gcd [.int s, .int 27720] = some (.int (gG s)) := rfl
  have d1 : binD .fdiv (.int s) (.int (gG s)) = some (.int (s / gG s)) := div_ok h1 (by omega)
  have d2 : binD .fdiv (.int 27720) (.int (gG s)) = some (.int (27720 / gG s)) := div_ok h1 (by omega)
  rw [u9]
  generalize gG s = G at *
  simp [runF, tm9, g, d1, d2]
theorem r_est (n : Nat) {k : Nat} {c : List Int} {bs : List Bk} {f p : Int} (h : Hs k c bs) (hl : c.length ≤ 20) (h0 : 0 ≤ f) (h1 : f < p) (h2 : p ≤ (k : Int) + 1) : (tb.mo (n+5)).fn 17 [hiD k c bs, .int f, .int p] = some (.tup [.int (esS f p bs / gG (esS f p bs)), .int (27720 / gG (esS f p bs))]) :=
  (u17 (n+4) _).trans (est0 h (r_chkhist (n+2) k c bs) (r_chkrange n h0 h1 h2) (hx (n+2) h hl) (fun B hB => by
    have sh := r_shared (n+3) B.b B.e f p
    rw [← mIn_eq (B := B) (h.small hB).2.1 h1] at sh
    exact sh) (r_lowest (n+3) _))
end TT
namespace PV
open PySem PySem.Spec PyProof.Rows L2 BK
/-! ### the object that a law draws from: its list while a def draws -/
section
variable {X : Cx} {pins : List (Addr × Obj)} {σ : L2.St} {H H' : Hp} {s : Shared} {p sc : Addr}
theorem draw_open (I : Inv X pins σ H s) (h : H p = some (DrO sc p)) : ∃ n : Int, Inv X pins σ (upd H p (.lst [.ref sc, .int n])) s := by
  obtain ⟨⟨n, t, m, e⟩, _, _⟩ := I.hok p _ h
  have new : ObjOk X.prog X.w (upd H p (.lst [.ref sc, .int n])) s.heap p (.lst [.ref sc, .int n]) :=
    ⟨by show 2 ≤ sizeLine; decide, [.ref sc, .int n t], m, .cons rfl (.cons ⟨t, rfl⟩ .nil), e⟩
  exact ⟨n, I.write (x := p) (e := p) (t' := s.toks) (h' := s.heap) (by rw [h]; exact True.intro) (.inl rfl) (fun b v _ q => q) ⟨_, e⟩ new⟩
theorem draw_close {n : Int} (I : Inv X pins σ H s) (h : H p = some (.lst [.ref sc, .int n])) : Inv X pins σ (upd H p (DrO sc p)) s := by
  obtain ⟨_, its, m, rel, e⟩ := I.hok p _ h
  have ei : ∃ t, its = [.ref sc, .int n t] := by
    cases rel with
    | cons r1 rest =>
      cases rest with
      | cons r2 rest =>
        cases rest
        obtain ⟨t, rfl⟩ := r2
        have r1' : _ = Value.ref sc := r1
        subst r1'
        exact ⟨t, rfl⟩
  obtain ⟨t, rfl⟩ := ei
  have new : ObjOk X.prog X.w (upd H p (DrO sc p)) s.heap p (DrO sc p) :=
    ⟨⟨n, t, m, e⟩, ⟨_, e⟩, fun h1 h2 ⟨n, t, m, e⟩ k => ⟨n, t, m, k _ e⟩⟩
  exact I.write (x := p) (e := p) (t' := s.toks) (h' := s.heap) (by rw [h]; exact True.intro) (.inl rfl) (fun b v _ q => q) ⟨_, e⟩ new
/-- statements, while what is drawn from is a list -/
def tDraw (t : TS) : TS := fun D σ H => ∃ p sc, H p = some (DrO sc p) ∧ ∀ n : Int, t ⟨fun σ' H' => (∃ n' : Int, H' p = some (.lst [.ref sc, .int n'])) ∧ D.nx σ' (upd H' p (DrO sc p)), fun v H' => (∃ n' : Int, H' p = some (.lst [.ref sc, .int n'])) ∧ D.rt v (upd H' p (DrO sc p)),
  fun σ' H' => (∃ n' : Int, H' p = some (.lst [.ref sc, .int n'])) ∧ D.bk σ' (upd H' p (DrO sc p)), fun σ' H' => (∃ n' : Int, H' p = some (.lst [.ref sc, .int n'])) ∧ D.ct σ' (upd H' p (DrO sc p))⟩ σ (upd H p (.lst [.ref sc, .int n]))
theorem pss_draw {st : List Stmt} {t : TS} (h : PSs X st t) : PSs X st (tDraw t) := by
  refine ⟨fun pins s σ H D I hw => ?_⟩
  obtain ⟨p, sc, hd, hw⟩ := hw
  obtain ⟨n, I1⟩ := draw_open I hd
  refine thn (h.run pins s σ _ _ I1 (hw n)) fun f s1 q => ?_
  cases f with
  | next => obtain ⟨σ', H', I2, ⟨n', e⟩, q⟩ := q; exact ⟨σ', _, draw_close I2 e, q⟩
  | brk => obtain ⟨σ', H', I2, ⟨n', e⟩, q⟩ := q; exact ⟨σ', _, draw_close I2 e, q⟩
  | cont => obtain ⟨σ', H', I2, ⟨n', e⟩, q⟩ := q; exact ⟨σ', _, draw_close I2 e, q⟩
  | ret v => obtain ⟨x, σ', H', I2, r, ⟨n', e⟩, q⟩ := q; exact ⟨x, σ', _, draw_close I2 e, r, q⟩
end
/-! ### expressions with draws -/
mutual
inductive WT where
  | pu (e : E) | bin (o : O2) (a b : WT) | cmp (c : Cm) (a b : WT) | not (a : WT) | ite (c a b : WT)
  | tup (es : WTs) | lst (es : WTs) | idx (a b : WT) | call (k : Nat) (es : WTs) | mk (k : Nat) (es : WTs) | bi (f : BI) (es : WTs)
  | drw (k : Nat) (es : WTs) | newd (es : WTs)
  | and (a b : WT) | or (a b : WT) | lc (t : T) (it : I) (c e : WT) (vs : List Nat)
inductive WTs where | nil | cons (a : WT) (r : WTs)
end
/-- what a def that draws may hand on: all that it may be has the property -/
abbrev MD := List D → (D → Prop) → Prop
/-- item by item: what each gives, or that it is left out -/
def mapX (f : D → (Option D → Prop) → Prop) : List D → (List D → Prop) → Prop
  | [], P => P []
  | x :: xs, P => f x fun o => mapX f xs fun r => P (match o with | some y => y :: r | none => r)
mutual
/-- all values that an expression may have, have the property -/
def evW (mo : Mo) (dr : Nat → MD) : WT → Rho → (D → Prop) → Prop
  | .pu e, ρ, P => ∃ d, ev mo e ρ = some d ∧ P d
  | .bin o a b, ρ, P => evW mo dr a ρ fun x => evW mo dr b ρ fun y => ∃ d, binD o x y = some d ∧ P d
  | .cmp c a b, ρ, P => evW mo dr a ρ fun x => evW mo dr b ρ fun y => ∃ d, cmpD mo c x y = some d ∧ P d
  | .not a, ρ, P => evW mo dr a ρ fun x => ∃ k, x = .bl k ∧ P (.bl (!k))
  | .ite c a b, ρ, P => evW mo dr c ρ fun x => ∃ k, x = .bl k ∧ (k = true → evW mo dr a ρ P) ∧ (k = false → evW mo dr b ρ P)
  | .tup es, ρ, P => evWs mo dr es ρ fun ds => ∃ d, gtup ds = some d ∧ P d
  | .lst es, ρ, P => evWs mo dr es ρ fun ds => ∃ d, glst ds = some d ∧ P d
  | .idx a b, ρ, P => evW mo dr a ρ fun x => evW mo dr b ρ fun y => ∃ xs i d, (x = .tup xs ∨ x = .lst xs) ∧ y = .int i ∧ L2.atI xs i = some d ∧ P d
  | .call k es, ρ, P => evWs mo dr es ρ fun ds => ∃ d, mo.fn k ds = some d ∧ P d
  | .mk k es, ρ, P => (∃ ds d, mo.mkD k ds = some d) ∧ evWs mo dr es ρ fun ds => ∃ d, mo.mkD k ds = some d ∧ P d
  | .bi f es, ρ, P => evWs mo dr es ρ fun ds => ∃ d, biD mo f ds = some d ∧ P d
  | .drw k es, ρ, P => evWs mo dr es ρ fun ds => dr k ds P
  | .newd es, ρ, P => evWs mo dr es ρ fun ds => ∃ ns i, ds = [.scr ns, .int i] ∧ ∀ p sc, P (.drw p sc ns)
  | .and a b, ρ, P => evW mo dr a ρ fun x => ∃ k, x = .bl k ∧ (k = true → evW mo dr b ρ P) ∧ (k = false → P (.bl false))
  | .or a b, ρ, P => evW mo dr a ρ fun x => ∃ k, x = .bl k ∧ (k = true → P (.bl true)) ∧ (k = false → evW mo dr b ρ P)
  | .lc t it c e vs, ρ, P => ∃ xs, evI mo it ρ = some xs ∧ xs.length ≤ LIM ∧ mapX (fun x K => ∃ ρ2, bindT t x (wipeO ρ vs) = some ρ2 ∧ evW mo dr c ρ2 fun k => ∃ b, k = .bl b ∧ (b = true → evW mo dr e ρ2 fun y => K (some y)) ∧ (b = false → K none)) xs fun ds => P (.lst ds)
def evWs (mo : Mo) (dr : Nat → MD) : WTs → Rho → (List D → Prop) → Prop
  | .nil, _, P => P []
  | .cons a r, ρ, P => evW mo dr a ρ fun x => evWs mo dr r ρ fun xs => P (x :: xs)
end
def tW (G : Gm) (mo : Mo) (dr : Nat → MD) (f : WT) : TE := fun σ H Q => ∃ S ρ P, RV G S H ρ σ ∧ evW mo dr f ρ P ∧ ∀ d, P d → ∀ v H', Same H H' → Rp G S H' v d → Q v H'
def tWA (G : Gm) (mo : Mo) (dr : Nat → MD) (f : WTs) : TA := fun σ H Q => ∃ S ρ P, RV G S H ρ σ ∧ evWs mo dr f ρ P ∧ ∀ ds, P ds → ∀ vs H', Same H H' → RpA G S H' vs ds → Q vs H'
def tWT (G : Gm) (mo : Mo) (dr : Nat → MD) (f : WT) : TT := fun σ H Q => ∃ S ρ P, RV G S H ρ σ ∧ evW mo dr f ρ P ∧ ∀ d, P d → ∃ b, d = .bl b ∧ ∀ H', Same H H' → Q b H'
/-- a def that draws -/
def spW (G : Gm) (m : Nat) (md : MD) : Sp := fun vs H Q _ => vs.length = m ∧ ∃ S ds P, Dom S H ∧ RpA G S H vs ds ∧ md ds P ∧ ∀ d, P d → ∀ v H', Same H H' → Rp G S H' v d → Q v H'
structure HasW (X : Cx) (G : Gm) (n : Nat) (md : MD) (f : Addr) (fd : FuncData) (ps : List Str) : Prop where
  ok : FnOk X.prog X.w X.K X.mg X.base CX0 n f fd ps (spW G ps.length md)
  ar : ∀ ds P, md ds P → ds.length = ps.length
  b : Binds X.K fd ps []
  kp : PySem.W.keepIn X.K (.ref f) = true
section
variable {X : Cx} {G : Gm} {Γ : Nm} {mo : Mo} {dr : Nat → MD} {n : Nat} {S : Addr → Prop} {H : Hp} {ρ : Rho} {σ : L2.St} {f g h : WT} {fs : WTs} {a b c : Expr} {es : List Expr} {pos p : Pos}
theorem tW_run {P : D → Prop} {Q : VK} (r : RV G S H ρ σ) (e : evW mo dr f ρ P) (q : ∀ d, P d → ∀ v H', Same H H' → RV G S H' ρ σ → Rp G S H' v d → Q v H') : tW G mo dr f σ H Q :=
  ⟨S, ρ, P, r, e, fun d hd v H' s h => q d hd v H' s (r.same s) h⟩
theorem tWA_run {P : List D → Prop} {Q : List V → Hp → Prop} (r : RV G S H ρ σ) (e : evWs mo dr fs ρ P) (q : ∀ ds, P ds → ∀ vs H', Same H H' → RV G S H' ρ σ → RpA G S H' vs ds → Q vs H') : tWA G mo dr fs σ H Q :=
  ⟨S, ρ, P, r, e, fun d hd v H' s h => q d hd v H' s (r.same s) h⟩
theorem tWT_run {P : D → Prop} {Q : Bool → Hp → Prop} (r : RV G S H ρ σ) (e : evW mo dr f ρ P) (q : ∀ d, P d → ∃ b, d = .bl b ∧ ∀ H', Same H H' → RV G S H' ρ σ → Q b H') : tWT G mo dr f σ H Q :=
  ⟨S, ρ, P, r, e, fun d hd => let ⟨b, e, q⟩ := q d hd; ⟨b, e, fun H' s => q H' s (r.same s)⟩⟩
theorem w_pure {e : E} (h : PE X a (tE G mo e)) : PE X a (tW G mo dr (.pu e)) := h.imp fun σ H Q h => by
  obtain ⟨S, ρ, P, r, e0, q⟩ := h
  simp only [evW] at e0
  obtain ⟨d, e1, hd⟩ := e0
  exact ⟨S, ρ, d, r, e1, q d hd⟩
theorem w_bin (M : MoOk X G Γ mo n) (o : O2) (ha : PE X a (tW G mo dr f)) (hb : PE X b (tW G mo dr g)) : PE X (.BinOp a (opOf o) b pos) (tW G mo dr (.bin o f g)) := by
  refine (pe_op (op_bin M o) ha hb).imp fun σ H Q h => ?_
  obtain ⟨S, ρ, P, r, e, q⟩ := h
  simp only [evW] at e
  exact tW_run r e fun dx e x H1 s1 r1 hx => tW_run r1 e fun dy ⟨d, e2, hd⟩ y H2 s2 r2 hy => ⟨S, dx, dy, d, r2.dom, hx.same s2, hy, e2, fun v H' s h => q d hd v H' ((s1.trans s2).trans s) h⟩
theorem w_cmp (M : MoOk X G Γ mo n) (c : Cm) (ha : PE X a (tW G mo dr f)) (hb : PE X b (tW G mo dr g)) (hm : behindInMarks (cmOf c) b = false) : PE X (.Compare a [cmOf c] [b] pos) (tW G mo dr (.cmp c f g)) := by
  refine (pe_cmpR (op_cmp M c) ha hb hm).imp fun σ H Q h => ?_
  obtain ⟨S, ρ, P, r, e, q⟩ := h
  simp only [evW] at e
  exact tW_run r e fun dx e x H1 s1 r1 hx => tW_run r1 e fun dy ⟨d, e2, hd⟩ y H2 s2 r2 hy => ⟨S, dx, dy, d, r2.dom, hx.same s2, hy, e2, fun v H' s h => q d hd v H' ((s1.trans s2).trans s) h⟩
theorem wt_val (ha : PE X a (tW G mo dr f)) (he : ∀ whole, isTrue a X.env whole = (do let v ← whole; standAt a.pos; holding [v] (truthy v))) : PT X a (tWT G mo dr f) := by
  refine (pt_val ha he).imp fun σ H Q h => ?_
  obtain ⟨S, ρ, P, r, e, q⟩ := h
  refine tW_run r e fun d hd v H1 s1 r1 hv => ?_
  obtain ⟨b, rfl, q⟩ := q d hd
  cases hv
  exact ⟨b, rfl, q H1 s1⟩
theorem wt_not (ha : PT X a (tWT G mo dr f)) : PT X (.UnaryOp .Not a pos) (tWT G mo dr (.not f)) := by
  refine (pt_not ha).imp fun σ H Q h => ?_
  obtain ⟨S, ρ, P, r, e, q⟩ := h
  simp only [evW] at e
  refine tWT_run r e fun d ⟨k, ek, hd⟩ => ⟨k, ek, fun H1 s1 _ => ?_⟩
  obtain ⟨b, eb, q⟩ := q _ hd
  cases eb
  exact q H1 s1
theorem w_ite (hc : PT X c (tWT G mo dr h)) (ha : PE X a (tW G mo dr f)) (hb : PE X b (tW G mo dr g)) : PE X (.IfExp c a b pos) (tW G mo dr (.ite h f g)) := by
  refine (pe_ifExp hc ha hb).imp fun σ H Q h => ?_
  obtain ⟨S, ρ, P, r, e, q⟩ := h
  simp only [evW] at e
  refine tWT_run r e fun d ⟨k, ek, h1, h2⟩ => ⟨k, ek, fun H1 s1 r1 => ?_⟩
  cases k with
  | true => rw [if_pos rfl]; exact tW_run r1 (h1 rfl) fun d hd v H2 s2 r2 hv => q d hd v H2 (s1.trans s2) hv
  | false => rw [if_neg (by simp)]; exact tW_run r1 (h2 rfl) fun d hd v H2 s2 r2 hv => q d hd v H2 (s1.trans s2) hv
theorem w_nil : PA X [] (tWA G mo dr .nil) := pa_nil.imp fun σ H Q h => by
  obtain ⟨S, ρ, P, r, e, q⟩ := h
  simp only [evWs] at e
  exact q [] e [] H (Same.refl _) .nil
theorem w_cons (ha : PE X a (tW G mo dr f)) (hr : PA X es (tWA G mo dr fs)) (hs : starEach (a :: es) X.env = (false, eval a X.env) :: starEach es X.env) : PA X (a :: es) (tWA G mo dr (.cons f fs)) := (pa_cons ha hr hs).imp fun σ H Q h => by
  obtain ⟨S, ρ, P, r, e, q⟩ := h
  simp only [evWs] at e
  exact tW_run r e fun dx e x H1 s1 r1 hx => tWA_run r1 e fun xs e vs H2 s2 r2 hv => q (dx :: xs) e _ H2 (s1.trans s2) (.cons (hx.same s2) hv)
theorem w_tup {k : Nat} (h : PA X es (tWA G mo dr fs)) : PE X (.Tuple es k pos) (tW G mo dr (.tup fs)) := by
  refine (pe_tup h).imp fun σ H Q h => ?_
  obtain ⟨S, ρ, P, r, e, q⟩ := h
  simp only [evW] at e
  refine tWA_run r e fun ds ⟨d, e1, hd⟩ vs H1 s1 r1 hv => ?_
  obtain ⟨rfl, hl⟩ := gtup_some e1
  exact ⟨Nat.le_of_lt (lim_line (by rw [hv.length]; exact hl)), fun p np => q _ hd _ _ (s1.trans (same_new np)) (new_tup r1.dom np hv)⟩
theorem w_lst (h : PA X es (tWA G mo dr fs)) : PE X (.List es pos) (tW G mo dr (.lst fs)) := by
  refine (pe_lst h).imp fun σ H Q h => ?_
  obtain ⟨S, ρ, P, r, e, q⟩ := h
  simp only [evW] at e
  refine tWA_run r e fun ds ⟨d, e1, hd⟩ vs H1 s1 r1 hv => ?_
  obtain ⟨rfl, hl⟩ := glst_some e1
  exact ⟨Nat.le_of_lt (lim_line (by rw [hv.length]; exact hl)), fun p np => q _ hd _ _ (s1.trans (same_new np)) (new_lst r1.dom np hv)⟩
theorem w_idx (M : MoOk X G Γ mo n) (ha : PE X a (tW G mo dr f)) (hb : PE X b (tW G mo dr g)) (hp : plainB b = true) : PE X (.Subscript a b pos) (tW G mo dr (.idx f g)) := by
  refine (pe_ix (pos := pos) ((ix_list (X := X)).or ix_tup) ha hb (plain_ix hp)).imp fun σ H Q h => ?_
  obtain ⟨S, ρ, P, r, e, q⟩ := h
  simp only [evW] at e
  refine tW_run r e fun dx e x H1 s1 r1 hx => tW_run r1 e fun dy ⟨xs, i, d, e1, e2, e3, hd⟩ y H2 s2 r2 hy => ?_
  subst e2
  cases hy
  rcases e1 with rfl | rfl
  · cases hx with
    | @tup a0 vs _ n0 h0 r0 =>
      obtain ⟨v, h1, h2⟩ := RpA.atI (r0.same s2) e3
      exact .inr ⟨_, _, _, v, rfl, rfl, .inl (.inl (s2 _ _ h0)), h1, q d hd v H2 (s1.trans s2) h2⟩
  · cases hx with
    | @lst a0 vs _ n0 h0 r0 =>
      obtain ⟨v, h1, h2⟩ := RpA.atI (r0.same s2) e3
      exact .inl ⟨_, _, _, v, rfl, rfl, .inl (.inl (s2 _ _ h0)), h1, q d hd v H2 (s1.trans s2) h2⟩
theorem w_call (M : MoOk X G Γ mo n) {k : Nat} {x : Str} {f : Addr} {fd : FuncData} {ps : List Str} (Hs : Has X G n (mo.fn k) f fd ps) (hm : X.mg x = some (.ref f)) (hg : Gl X x) (hdb : (x == ("__debug__" : Str)) = false)
    (he : noStar a = true) (hes : es.all noStar = true) (h : PA X (a :: es) (tWA G mo dr fs)) : PE X (.Call (.Name x p) (a :: es) [] pos) (tW G mo dr (.call k fs)) := by
  refine (pe_call Hs.ok (M.room.mono (by omega)) hg hm Hs.kp Hs.b .nil pass0 h hdb (star_cons he) (star_any hes)).imp fun σ H Q h => ?_
  obtain ⟨S, ρ, P, r, e, q⟩ := h
  simp only [evW] at e
  refine tWA_run r e fun ds ⟨d, e1, hd⟩ vs H1 s1 r1 hv => ⟨?_, S, ds, d, r1.dom, by rw [List.append_nil]; exact hv, e1, fun v H' s h => q d hd v H' (s1.trans s) h⟩
  rw [List.append_nil, hv.length]
  exact Hs.ar _ _ e1
theorem w_mk (M : MoOk X G Γ mo n) {k : Nat} {x : Str} {C f : Addr} {fd : FuncData} {ps : List Str} (gc : G.cls k = some C) (hm : X.mg x = some (.ref C)) (Mkk : Mk X.K C f) (Hi : HasI X G n k (mo.mkD k) f fd ps) (hg : Gl X x) (hdb : (x == ("__debug__" : Str)) = false)
    (he : noStar a = true) (hes : es.all noStar = true) (h : PA X (a :: es) (tWA G mo dr fs)) : PE X (.Call (.Name x p) (a :: es) [] pos) (tW G mo dr (.mk k fs)) := by
  refine (pe_make Mkk Hi.ok (M.room.mono (by omega)) hg hm Hi.b .nil pass0 h hdb (star_cons he) (star_any hes)).imp fun σ H Q h => ?_
  obtain ⟨S, ρ, P, r, e, q⟩ := h
  simp only [evW] at e
  refine tWA_run r e.2 fun ds ⟨d, e1, hd⟩ vs H1 s1 r1 hv => ?_
  obtain ⟨ar, fs', rfl⟩ := Hi.ar _ _ e1
  intro y dy ny ndy hne
  rw [List.append_nil]
  have s2 : Same H1 (upd H1 dy (.own y)) := same_new ndy
  have ny2 : (upd H1 dy (.own y)) y = none := by rw [upd_ne (Ne.symm hne)]; exact ny
  have s3 : Same (upd H1 dy (.own y)) (upd (upd H1 dy (.own y)) y (.ins C dy [])) := same_new ny2
  have s23 := s2.trans s3
  refine ⟨by simp only [List.length_cons]; rw [hv.length]; exact ar, S, y, C, dy, vs, ds, fs', rfl, (r1.same s23).dom, r1.dom.free ny, gc, upd_same, ?_, e1, fun H' k hr => ⟨rfl, q _ hd _ H' ?_ hr⟩⟩
  · exact hv.move (fun a0 n0 hs z => z.elim n0 fun z => by subst z; rw [ny] at hs; cases hs) (Same.ext s23)
  · exact fun b0 o hb => k b0 o (fun z => by subst z; have := s1 _ _ hb; rw [ny] at this; cases this) (s23 _ _ (s1 _ _ hb))
theorem wt_mk (M : MoOk X G Γ mo n) {y : Str} {k : Nat} (hm : (y, k) ∈ Γ.cls) (hg : Gl X y) (hdb : (y == ("__debug__" : Str)) = false) (he : noStar a = true) (hes : es.all noStar = true) (ha : PA X (a :: es) (tWA G mo dr fs)) :
    PE X (.Call (.Name y p) (a :: es) [] pos) (tW G mo dr (.mk k fs)) := by
  obtain ⟨C, g1, g2, g3⟩ := M.mkc y k hm
  refine ⟨fun pins s σ H Q I q => ?_⟩
  obtain ⟨S, ρ, P, rv, e, q'⟩ := id q
  simp only [evW] at e
  obtain ⟨f, fd, ps, Mkk, Hi⟩ := g3 e.1
  exact (w_mk M g1 g2 Mkk Hi hg hdb he hes ha).run pins s σ H Q I q
theorem w_draw (M : MoOk X G Γ mo n) {k : Nat} {x : Str} {f : Addr} {fd : FuncData} {ps : List Str} (Hs : HasW X G n (dr k) f fd ps) (hm : X.mg x = some (.ref f)) (hg : Gl X x) (hdb : (x == ("__debug__" : Str)) = false)
    (he : noStar a = true) (hes : es.all noStar = true) (h : PA X (a :: es) (tWA G mo dr fs)) : PE X (.Call (.Name x p) (a :: es) [] pos) (tW G mo dr (.drw k fs)) := by
  refine (pe_call Hs.ok (M.room.mono (by omega)) hg hm Hs.kp Hs.b .nil pass0 h hdb (star_cons he) (star_any hes)).imp fun σ H Q h => ?_
  obtain ⟨S, ρ, P, r, e, q⟩ := h
  simp only [evW] at e
  refine tWA_run r e fun ds hd vs H1 s1 r1 hv => ⟨?_, S, ds, P, r1.dom, by rw [List.append_nil]; exact hv, hd, fun d hd v H' s h => q d hd v H' (s1.trans s) h⟩
  rw [List.append_nil, hv.length]
  exact Hs.ar _ _ hd
theorem scrAt_of {a : Addr} {ns : List Int} (h : Rp G S H (.ref a) (.scr ns)) : ScrAt G S H a ns := by
  cases h with
  | scr0 n q => exact .inl ⟨n, q⟩
  | scr1 q => exact .inr (.inl ⟨_, q⟩)
  | scr2 q => exact .inr (.inr q)
theorem scr_ref {v : V} {ns : List Int} (h : Rp G S H v (.scr ns)) : ∃ a, v = .ref a ∧ ScrAt G S H a ns := by
  cases h with
  | scr0 n q => exact ⟨_, rfl, .inl ⟨n, q⟩⟩
  | scr1 q => exact ⟨_, rfl, .inr (.inl ⟨_, q⟩)⟩
  | scr2 q => exact ⟨_, rfl, .inr (.inr q)⟩
theorem w_newd (h : PA X es (tWA G mo dr fs)) : PE X (.List es pos) (tW G mo dr (.newd fs)) := by
  refine ⟨fun pins s σ H Q I hw => ?_⟩
  obtain ⟨S, ρ, P, r, e, q⟩ := hw
  simp only [evW] at e
  refine thn ((pe_lst h).run pins s σ H (fun v H' => ∃ (p sc : Addr) (i : Int), v = .ref p ∧ H' p = some (.lst [.ref sc, .int i]) ∧ Q (.ref p) (upd H' p (DrO sc p))) I (tWA_run r e fun ds ⟨ns, i, e1, hd⟩ vs H1 s1 r1 hv => ⟨?_, fun p np => ?_⟩)) fun v s1 ⟨x, H1, I1, rx, p, sc, i, e1, e2, q⟩ => ?_
  · subst e1
    rw [hv.length]
    show 2 ≤ sizeLine; decide
  · subst e1
    cases hv with
    | cons h1 hr =>
      cases hr with
      | cons h2 hr =>
        cases hr
        cases h2
        obtain ⟨sc, rfl, sa⟩ := scr_ref h1
        refine ⟨p, sc, i, rfl, upd_same, ?_⟩
        rw [upd_upd]
        have sm : Same H (upd H1 p (DrO sc p)) := s1.trans (same_new np)
        exact q _ (hd p sc) _ _ sm (.drw (r1.dom.free np) upd_same (sa.move (fun _ n _ => n) (Same.ext (same_new np))))
  · subst e1
    exact ⟨_, _, draw_close I1 e2, rx, q⟩
theorem wt_pure {e : E} (h : PT X a (tT G mo e)) : PT X a (tWT G mo dr (.pu e)) := h.imp fun σ H Q h => by
  obtain ⟨S, ρ, P, r, e0, q⟩ := h
  simp only [evW] at e0
  obtain ⟨d, e1, hd⟩ := e0
  obtain ⟨b, rfl, q⟩ := q d hd
  exact ⟨S, ρ, b, r, e1, q⟩
theorem wt_cmp (M : MoOk X G Γ mo n) (c : Cm) (ha : PE X a (tW G mo dr f)) (hb : PE X b (tW G mo dr g)) (hm : behindInMarks (cmOf c) b = false) : PT X (.Compare a [cmOf c] [b] pos) (tWT G mo dr (.cmp c f g)) := by
  refine (pt_cmpR (op_cmp M c) ha hb hm).imp fun σ H Q h => ?_
  obtain ⟨S, ρ, P, r, e, q⟩ := h
  simp only [evW] at e
  refine tW_run r e fun dx e x H1 s1 r1 hx => tW_run r1 e fun dy ⟨d, e2, hd⟩ y H2 s2 r2 hy => ?_
  obtain ⟨b, rfl, q⟩ := q d hd
  exact ⟨S, dx, dy, _, r2.dom, hx.same s2, hy, e2, fun v H' s h => by cases h; exact ⟨b, rfl, q H' ((s1.trans s2).trans s)⟩⟩
theorem w_biB {f : BI} {id : String} {x : Str} (hc : CallR X (.builtin id) (rB G mo f)) (hg : Gl X x) (hm : X.mg x = none) (hv : bootBuiltins x = some (.builtin id)) (hn : x ≠ "__name__") (hdb : (x == ("__debug__" : Str)) = false)
    (he : noStar a = true) (hes : es.all noStar = true) (h : PA X (a :: es) (tWA G mo dr fs)) : PE X (.Call (.Name x p) (a :: es) [] pos) (tW G mo dr (.bi f fs)) := by
  refine (pe_callB hc hg hm hv h hn hdb (star_cons he) (star_any hes)).imp fun σ H Q h => ?_
  obtain ⟨S, ρ, P, r, e, q⟩ := h
  simp only [evW] at e
  exact tWA_run r e fun ds ⟨d, e1, hd⟩ vs H1 s1 r1 hv => ⟨S, ds, d, r1.dom, hv, e1, fun v H' s h => q d hd v H' (s1.trans s) h⟩
theorem w_biT {f : BI} {id : String} {x : Str} (hc : CallR X (.type id) (rB G mo f)) (hg : Gl X x) (hm : X.mg x = none) (hv : bootBuiltins x = some (.type id)) (hn : x ≠ "__name__") (hdb : (x == ("__debug__" : Str)) = false)
    (he : noStar a = true) (hes : es.all noStar = true) (h : PA X (a :: es) (tWA G mo dr fs)) : PE X (.Call (.Name x p) (a :: es) [] pos) (tW G mo dr (.bi f fs)) := by
  refine (pe_callTy hc hg hm hv h hn hdb (star_cons he) (star_any hes)).imp fun σ H Q h => ?_
  obtain ⟨S, ρ, P, r, e, q⟩ := h
  simp only [evW] at e
  exact tWA_run r e fun ds ⟨d, e1, hd⟩ vs H1 s1 r1 hv => ⟨S, ds, d, r1.dom, hv, e1, fun v H' s h => q d hd v H' (s1.trans s) h⟩
theorem wt_and {rest : List Expr} (ha : PT X a (tWT G mo dr f)) (hb : PW X (.BoolOp .And (b :: rest) pos) (tWT G mo dr g)) : PW X (.BoolOp .And (a :: b :: rest) pos) (tWT G mo dr (.and f g)) := by
  refine (pw_and ha hb).imp fun σ H Q h => ?_
  obtain ⟨S, ρ, P, r, e, q⟩ := h
  simp only [evW] at e
  refine tWT_run r e fun d ⟨k, ek, h1, h2⟩ => ⟨k, ek, fun H1 s1 r1 => ?_⟩
  cases k with
  | true => rw [if_pos rfl]; exact tWT_run r1 (h1 rfl) fun d hd => let ⟨b, e, q⟩ := q d hd; ⟨b, e, fun H2 s2 _ => q H2 (s1.trans s2)⟩
  | false => rw [if_neg (by simp)]; obtain ⟨b, e, q⟩ := q _ (h2 rfl); cases e; exact q H1 s1
theorem wt_or {rest : List Expr} (ha : PT X a (tWT G mo dr f)) (hb : PW X (.BoolOp .Or (b :: rest) pos) (tWT G mo dr g)) : PW X (.BoolOp .Or (a :: b :: rest) pos) (tWT G mo dr (.or f g)) := by
  refine (pw_or ha hb).imp fun σ H Q h => ?_
  obtain ⟨S, ρ, P, r, e, q⟩ := h
  simp only [evW] at e
  refine tWT_run r e fun d ⟨k, ek, h1, h2⟩ => ⟨k, ek, fun H1 s1 r1 => ?_⟩
  cases k with
  | true => rw [if_pos rfl]; obtain ⟨b, e, q⟩ := q _ (h1 rfl); cases e; exact q H1 s1
  | false => rw [if_neg (by simp)]; exact tWT_run r1 (h2 rfl) fun d hd => let ⟨b, e, q⟩ := q d hd; ⟨b, e, fun H2 s2 _ => q H2 (s1.trans s2)⟩
/-! ### list comprehensions with draws -/
theorem lcw_read {it : I} {t : T} {cc ee : WT} {vs : List Nat} {Q : VK} {P : D → Prop} (hsub : ∀ i ∈ tsl t, i ∈ vs) (K : PySem.W.Frag) (r : RV G S H ρ σ) (e1 : evW mo dr (.lc t it cc ee vs) ρ P)
    (q : ∀ p H' ws ds, H p = none → Same H H' → P (.lst ds) → H' p = some (.lst ws) → RpA G (addS S p) H' ws ds → Q (.ref p) H') : tLc (tI G mo it) (gOf K t) (tWT G mo dr cc) (tW G mo dr ee) vs σ H Q := by
  simp only [evW] at e1
  obtain ⟨xs, e2, hl, e3⟩ := e1
  refine tI_run r e2 fun J H1 s1 r1 wk => fun D nD => ?_
  have cd := cd_add (S := S) nD
  have dom' : ∀ {Hc : Hp}, Same H1 Hc → (∃ acc, Hc D = some (.lst acc)) → Dom (addS S D) Hc := by
    intro Hc s ⟨acc, h⟩ a z
    rcases z with z | z
    · exact r1.dom.same s a z
    · subst z; exact ⟨_, h, fun _ z => by cases z⟩
  generalize hF : (fun (x : PV.D) (K : Option PV.D → Prop) => ∃ ρ2, bindT t x (wipeO ρ vs) = some ρ2 ∧ evW mo dr cc ρ2 fun k => ∃ b, k = .bl b ∧ (b = true → evW mo dr ee ρ2 fun y => K (some y)) ∧ (b = false → K none)) = F at e3
  refine lc_it wk (fun i Hc => Same H1 Hc ∧ ∃ acc dn, Hc D = some (.lst acc) ∧ RpA G (addS S D) Hc acc dn ∧ dn.length ≤ i ∧ mapX F (xs.drop i) fun rest => P (.lst (dn ++ rest)))
    ⟨same_new nD, [], [], upd_same, .nil, Nat.zero_le _, by simpa using e3⟩ (fun i Hc _ h => ⟨addS S D, cd, Same.ext h.1, dom' h.1 (let ⟨acc, _, h, _⟩ := h.2; ⟨acc, h⟩)⟩) ?_ ?_
  · rintro i x Hc H2 hi ⟨sc, acc, dn, hP, hA, hdn, hm⟩ ⟨s2, hy⟩
    obtain ⟨d0, hx, hr⟩ := hy (addS S D) cd (Same.ext sc) (dom' sc ⟨acc, hP⟩)
    rw [drop_cons' hx] at hm
    simp only [mapX] at hm
    subst hF
    obtain ⟨ρ2, b1, m1⟩ := hm
    have hP2 := s2 _ _ hP
    have sc2 := sc.trans s2
    have rv : RV G (addS S D) H2 (wipeO ρ vs) (wipe σ vs) := (r1.cd cd (Same.ext sc2) (dom' sc2 ⟨acc, hP2⟩)).wipe vs
    refine g_run K t b1 hr rv fun σ2 rv2 hk => ⟨?_, ?_⟩
    · refine wipe_eq (by rw [rv2.len, bindT_len t b1, wipeO_len, r.len]) fun j hj => ?_
      rw [hk j fun z => hj (hsub j z), wipe_out hj]
    · refine tWT_run rv2 m1 fun d ⟨k, ek, h1, h2⟩ => ⟨k, ek, fun H3 s3 rv3 => ?_⟩
      have hP3 := s3 _ _ hP2
      have sc3 := sc2.trans s3
      cases k with
      | true =>
        rw [if_pos rfl]
        refine tW_run rv3 (h1 rfl) fun y m3 v H4 s4 rv4 hv => ?_
        have hP4 := s4 _ _ hP3
        have sc4 := sc3.trans s4
        have hA4 := ((hA.same s2).same s3).same s4
        refine ⟨acc, hP4, ?_, ?_, acc ++ [v], dn ++ [y], upd_same, ?_, by rw [List.length_append]; simp; omega, ?_⟩
        · rw [hA.length]
          exact lim_line (by omega)
        · exact fun b x e => by rw [upd_ne (ne_of_none e nD)]; exact sc4 _ _ e
        · exact ((hA4.append (.one hv)).move (fun _ n _ => n) (ext_upd hP4 (fun _ _ z => by cases z)))
        · have ef : (fun rest => P (.lst (dn ++ [y] ++ rest))) = fun rest => P (.lst (dn ++ (y :: rest))) := by funext rest; simp
          rw [ef]; exact m3
      | false =>
        rw [if_neg (by simp)]
        exact ⟨sc3, acc, dn, hP3, (hA.same s2).same s3, by omega, h2 rfl⟩
  · rintro Hc ⟨sc, acc, dn, hP, hA, hdn, hm⟩
    rw [List.drop_length] at hm
    simp only [mapX] at hm
    rw [List.append_nil] at hm
    exact q D Hc acc dn (s1.free nD) (s1.trans sc) hm hP hA
theorem wts_nil : PTs X [] (tWT G mo dr (.pu (.cbl true))) := PTs.imp pts_nil fun σ H Q h => by
  obtain ⟨S, ρ, P, r, e, q⟩ := h
  simp only [evW, ev] at e
  obtain ⟨d, e, hd⟩ := e
  cases e
  obtain ⟨b, e, q⟩ := q _ hd
  cases e
  exact q H (Same.refl _)
theorem wts_one {c : Expr} (h : PT X c (tWT G mo dr f)) : PTs X [c] (tWT G mo dr f) := pts_one h
theorem w_lc (M : MoOk X G Γ mo n) {tg iter elt : Expr} {ifs : List Expr} {scope : Scope} {own : List (Str × Nat)} {it : I} {t : T} {ec ee : WT} (hi : PI X tg iter (tI G mo it)) (ok : BlkOk X.N X.env.scope scope own)
    (hg : ∀ (s : Shared) (H : Hp) (C : Addr) (cl : List (Str × Addr)) (fp : List Addr), PG (X.blk s H scope (compEnvC scope cl C X.env) fp) tg (gOf X.K t)) (ht : ∀ (s : Shared) (H : Hp) (C : Addr) (cl : List (Str × Addr)) (fp : List Addr), PTs (X.blk s H scope (compEnvC scope cl C X.env) fp) ifs (tWT G mo dr ec))
    (he : ∀ (s : Shared) (H : Hp) (C : Addr) (cl : List (Str × Addr)) (fp : List Addr), PE (X.blk s H scope (compEnvC scope cl C X.env) fp) elt (tW G mo dr ee)) (hs : ∀ x, foldedSetIterable iter X.env x = pure x) (hsub : ∀ i ∈ tsl t, i ∈ own.map (·.2)) :
    PE X (.ListComp elt [⟨tg, iter, ifs, 0⟩] scope pos) (tW G mo dr (.lc t it ec ee (own.map (·.2)))) := by
  refine (pe_lc M.calm M.nd hi ok hg ht he hs).imp fun σ H Q h => ?_
  obtain ⟨S, ρ, P, r, e, q⟩ := h
  exact lcw_read hsub X.K r e fun p H' ws ds np s hd hp hA => q _ hd _ H' s (lst_of np r.dom hp hA)
theorem lcw_tlc {it : I} {t : T} {cc ee : WT} {vs : List Nat} {Q : VK} (hsub : ∀ i ∈ tsl t, i ∈ vs) (K : PySem.W.Frag) (h : tW G mo dr (.lc t it cc ee vs) σ H Q) : tLc (tI G mo it) (gOf K t) (tWT G mo dr cc) (tW G mo dr ee) vs σ H Q := by
  obtain ⟨S, ρ, P, r, e, q⟩ := h
  exact lcw_read hsub K r e fun p H' ws ds np s hd hp hA => q _ hd _ H' s (lst_of np r.dom hp hA)
theorem HasW.blk {X' : Cx} {md : MD} {f : Addr} {fd : FuncData} {ps : List Str} (h : HasW X G n md f fd ps) (h1 : X'.prog = X.prog) (h2 : X'.w = X.w) (h3 : X'.K = X.K) (h4 : X'.mg = X.mg) (h5 : X'.base = X.base) : HasW X' G n md f fd ps :=
  ⟨by rw [h1, h2, h3, h4, h5]; exact h.ok, h.ar, by rw [h3]; exact h.b, by rw [h3]; exact h.kp⟩
end
end PV
namespace PV
open PySem PySem.Spec PyProof.Rows L2 BK
/-! ### statements with draws -/
inductive WS where
  | st (s : S) | nop | seq (a b : WS) | set (i : Nat) (e : WT) | tgt (t : T) (e : WT) | ife (c : WT) (a b : WS) | for (t : T) (it : I) (b : WS) | ret (e : WT)
  | app (i : Nat) (us : List Nat) (e : WT) | forW (t : T) (a : WT) (b : WS) | ifU (us : List Nat) (c : WT) (a b : WS) | setU (us : List Nat) (i : Nat) (e : WT)
def loopX (g : D → Ro → Option Ro) (b : Ro → (Out → Prop) → Prop) : List D → Ro → (Out → Prop) → Prop
  | [], ρ, P => P (.nx ρ)
  | x :: xs, ρ, P => ∃ ρ1, g x ρ = some ρ1 ∧ b ρ1 fun o => match o with
    | .nx ρ' => loopX g b xs ρ' P
    | .ct ρ' => loopX g b xs ρ' P
    | .bk ρ' => P (.nx ρ')
    | .rt d => P (.rt d)
def exW (mo : Mo) (dr : Nat → MD) : WS → Ro → (Out → Prop) → Prop
  | .st s, ρ, P => ∃ o, ex mo s ρ = some o ∧ P o
  | .nop, ρ, P => P (.nx ρ)
  | .seq a b, ρ, P => exW mo dr a ρ fun o => match o with
    | .nx ρ' => exW mo dr b ρ' P
    | o => P o
  | .set i e, ρ, P => evW mo dr e (seen [] 0 ρ) fun d => P (.nx (ρ.set i (.va d)))
  | .tgt t e, ρ, P => evW mo dr e (seen [] 0 ρ) fun d => ∃ ρ', bindS t d ρ = some ρ' ∧ P (.nx ρ')
  | .ife c a b, ρ, P => evW mo dr c (seen [] 0 ρ) fun d => ∃ k, d = .bl k ∧ (k = true → exW mo dr a ρ P) ∧ (k = false → exW mo dr b ρ P)
  | .for t it b, ρ, P => ∃ xs, evI mo it (seen [] 0 ρ) = some xs ∧ loopX (bindS t) (exW mo dr b) xs ρ P
  | .ret e, ρ, P => evW mo dr e (seen (List.range ρ.length) 0 ρ) fun d => P (.rt d)
  | .setU us i e, ρ, P => evW mo dr e (seen us 0 ρ) fun d => flatD d = true ∧ P (.nx (ρ.set i (.va d)))
  | .ifU us c a b, ρ, P => evW mo dr c (seen us 0 ρ) fun d => ∃ k, d = .bl k ∧ (k = true → exW mo dr a ρ P) ∧ (k = false → exW mo dr b ρ P)
  | .app i us e, ρ, P => ∃ xs, ρ[i]? = some (.ow (.lst xs)) ∧ xs.length < LIM ∧ evW mo dr e (seen us 0 ρ) fun d => (us = [] ∨ flatD d = true) ∧ P (.nx (ρ.set i (.ow (.lst (xs ++ [d])))))
  | .forW t a b, ρ, P => evW mo dr a (seen [] 0 ρ) fun d => ∃ j, d = .int j ∧ fitsB j = true ∧ loopX (bindS t) (exW mo dr b) (rngD 0 j.toNat) ρ P
def tSW (G : Gm) (mo : Mo) (dr : Nat → MD) (g : WS) : TS := fun D' σ H => ∃ S0 base Z A ρ P, SE G S0 base Z H A ρ σ ∧ exW mo dr g ρ P ∧ ∀ o, P o → EndS G S0 base Z D' o
theorem without_nil (A : Ads) : without A [] = A := by funext i; simp [without]
section
variable {X : Cx} {G : Gm} {Γ : Nm} {mo : Mo} {dr : Nat → MD} {n : Nat} {S0 : Addr → Prop} {Z : Zt} {base H H' : Hp} {A : Ads} {ρ : Ro} {σ : L2.St} {a b c e : Expr} {f : WT} {fs : WTs} {g h : WS} {pos p : Pos} {es : List Expr} {st : Stmt} {rest : List Stmt} {s : S} {i : Nat}
theorem SE.rv0 (s : SE G S0 base Z H A ρ σ) : RV G (SA S0 A) H (seen [] 0 ρ) σ := by
  have := s.rv []
  rw [without_nil] at this
  exact this
theorem sw_st (h : PS X st (tS G mo s)) : PS X st (tSW G mo dr (.st s)) := h.imp fun D σ H h => by
  obtain ⟨S0, base, Z, A, ρ, P, s, e, q⟩ := h
  simp only [exW] at e
  obtain ⟨o, e, hp⟩ := e
  exact ⟨S0, base, Z, A, ρ, o, s, e, q o hp⟩
theorem sw_nil : PSs X [] (tSW G mo dr .nop) := pss_nil.imp fun D σ H h => by
  obtain ⟨S0, base, Z, A, ρ, P, s, e, q⟩ := h
  simp only [exW] at e
  exact q _ e σ H A s
theorem sw_cons (h1 : PS X st (tSW G mo dr g)) (h2 : PSs X rest (tSW G mo dr h)) : PSs X (st :: rest) (tSW G mo dr (.seq g h)) := (pss_cons h1 h2).imp fun D σ H h => by
  obtain ⟨S0, base, Z, A, ρ, P, s, e, q⟩ := h
  simp only [exW] at e
  refine ⟨S0, base, Z, A, ρ, _, s, e, fun o ho => ?_⟩
  cases o with
  | nx ρ1 => exact fun σ' H' A' s' => ⟨S0, base, Z, A', ρ1, P, s', ho, q⟩
  | bk ρ1 => exact q _ ho
  | ct ρ1 => exact q _ ho
  | rt d => exact q _ ho
theorem sw_set_of {te : TE} (h : PS X st (tAsg te (gName i))) (w : ∀ σ H Q, tW G mo dr f σ H Q → te σ H Q) : PS X st (tSW G mo dr (.set i f)) := h.imp fun D σ H h => by
  obtain ⟨S0, base, Z, A, ρ, P, s, e, q⟩ := h
  simp only [exW] at e
  exact w _ _ _ (tW_run s.rv0 e fun d hd v H' s1 r hv => q _ hd _ H' _ ((s.grow s1).setV hv i))
theorem sw_setU_of {te : TE} {us : List Nat} (h : PS X st (tAsg te (gName i))) (w : ∀ σ H Q, tW G mo dr f σ H Q → te σ H Q) : PS X st (tSW G mo dr (.setU us i f)) := h.imp fun D σ H h => by
  obtain ⟨S0, base, Z, A, ρ, P, s, e, q⟩ := h
  simp only [exW] at e
  exact w _ _ _ (tW_run (s.rv us) e fun d ⟨hf, hd⟩ v H' s1 r hv => q _ hd _ H' _ ((s.grow s1).setV (flat_move (s.grow s1).dom hf hv) i))
theorem sw_tgt_of {t : T} {te : TE} (h : PS X st (tAsg te (gOf X.K t))) (w : ∀ σ H Q, tW G mo dr f σ H Q → te σ H Q) : PS X st (tSW G mo dr (.tgt t f)) := h.imp fun D σ H h => by
  obtain ⟨S0, base, Z, A, ρ, P, s, e, q⟩ := h
  simp only [exW] at e
  exact w _ _ _ (tW_run s.rv0 e fun d ⟨ρ2, e2, hd⟩ v H' s1 r hv => bindS_run X.K t e2 hv (s.grow s1) fun σ2 A2 s2 _ => q _ hd σ2 H' A2 s2)
theorem sw_par2 {i j : Nat} (h : PS X st (tPar i j (tWA G mo dr fs))) : PS X st (tSW G mo dr (.tgt (.tp (.cons (.nm i) (.cons (.nm j) .nil))) (.tup fs))) := h.imp fun D σ H h => by
  obtain ⟨S0, base, Z, A, ρ, P, s, e, q⟩ := h
  simp only [exW, evW] at e
  refine tWA_run s.rv0 e fun ds ⟨d, e1, ρ2, e2, hd⟩ vs H' s1 r hv => ?_
  obtain ⟨rfl, _⟩ := gtup_some e1
  rcases ds with _ | ⟨d1, _ | ⟨d2, _ | ⟨d3, ds⟩⟩⟩
  · simp [bindS, bindSs] at e2
  · simp [bindS, bindSs] at e2
  · cases hv with
    | cons h1 hr =>
      cases hr with
      | cons h2 hr =>
        cases hr
        simp [bindS, bindSs] at e2
        subst e2
        exact ⟨_, _, rfl, q _ hd _ H' _ (((s.grow s1).setV h1 i).setV (h2.weak (SA.sub fun k a z => (dropA_some z).1)) j)⟩
  · simp [bindS, bindSs] at e2
theorem sw_par3 {i j k : Nat} (h : PS X st (tPar3 i j k (tWA G mo dr fs))) : PS X st (tSW G mo dr (.tgt (.tp (.cons (.nm i) (.cons (.nm j) (.cons (.nm k) .nil)))) (.tup fs))) := h.imp fun D σ H h => by
  obtain ⟨S0, base, Z, A, ρ, P, s, e, q⟩ := h
  simp only [exW, evW] at e
  refine tWA_run s.rv0 e fun ds ⟨d, e1, ρ2, e2, hd⟩ vs H' s1 r hv => ?_
  obtain ⟨rfl, _⟩ := gtup_some e1
  rcases ds with _ | ⟨d1, _ | ⟨d2, _ | ⟨d3, _ | ⟨d4, ds⟩⟩⟩⟩
  · simp [bindS, bindSs] at e2
  · simp [bindS, bindSs] at e2
  · simp [bindS, bindSs] at e2
  · cases hv with
    | cons h1 hr =>
      cases hr with
      | cons h2 hr =>
        cases hr with
        | cons h3 hr =>
          cases hr
          simp [bindS, bindSs] at e2
          subst e2
          have w1 : ∀ a, SA S0 (dropA A i) a → SA S0 A a := SA.sub fun k a z => (dropA_some z).1
          have w2 : ∀ a, SA S0 (dropA (dropA A i) j) a → SA S0 (dropA A i) a := SA.sub fun k a z => (dropA_some z).1
          exact ⟨_, _, _, rfl, q _ hd _ H' _ ((((s.grow s1).setV h1 i).setV (h2.weak w1) j).setV ((h3.weak w1).weak w2) k)⟩
  · simp [bindS, bindSs] at e2
theorem sw_if {aa bb : List Stmt} (hc : PT X c (tWT G mo dr f)) (ha : PSs X aa (tSW G mo dr g)) (hb : PSs X bb (tSW G mo dr h)) : PS X (.If c aa bb pos) (tSW G mo dr (.ife f g h)) := (ps_if hc ha hb).imp fun D σ H h => by
  obtain ⟨S0, base, Z, A, ρ, P, s, e, q⟩ := h
  simp only [exW] at e
  refine tWT_run s.rv0 e fun d ⟨k, ek, h1, h2⟩ => ⟨k, ek, fun H' s1 r => ?_⟩
  cases k with
  | true => rw [if_pos rfl]; exact ⟨S0, base, Z, A, ρ, P, s.grow s1, h1 rfl, q⟩
  | false => rw [if_neg (by simp)]; exact ⟨S0, base, Z, A, ρ, P, s.grow s1, h2 rfl, q⟩
theorem sw_ifU {us : List Nat} {aa bb : List Stmt} (hc : PT X c (tWT G mo dr f)) (ha : PSs X aa (tSW G mo dr g)) (hb : PSs X bb (tSW G mo dr h)) : PS X (.If c aa bb pos) (tSW G mo dr (.ifU us f g h)) := (ps_if hc ha hb).imp fun D σ H h => by
  obtain ⟨S0, base, Z, A, ρ, P, s, e, q⟩ := h
  simp only [exW] at e
  refine tWT_run (s.rv us) e fun d ⟨k, ek, h1, h2⟩ => ⟨k, ek, fun H' s1 r => ?_⟩
  cases k with
  | true => rw [if_pos rfl]; exact ⟨S0, base, Z, A, ρ, P, s.grow s1, h1 rfl, q⟩
  | false => rw [if_neg (by simp)]; exact ⟨S0, base, Z, A, ρ, P, s.grow s1, h2 rfl, q⟩
theorem sw_ret (he : PE X e (tW G mo dr f)) : PS X (.Return (some e) pos) (tSW G mo dr (.ret f)) := (ps_ret he).imp fun D σ H h => by
  obtain ⟨S0, base, Z, A, ρ, P, s, e, q⟩ := h
  simp only [exW] at e
  exact tW_run (s.rv _) e fun d hd v H' s1 r hv => q _ hd v H' (s.same.trans s1) (hv.weak fun a z => .inl z)
/-- what a loop walks, told by what all it may be has -/
def tIG (G : Gm) (F : Rho → (List D → Prop) → Prop) : TI := fun σ H R => ∃ S ρ P, RV G S H ρ σ ∧ F ρ P ∧ ∀ xs, P xs → ∀ J H1, Same H H1 → Wk G S H1 J xs → R J H1
def tSWF (G : Gm) (mo : Mo) (dr : Nat → MD) (t : T) (F : Rho → (List D → Prop) → Prop) (g : WS) : TS := fun D' σ H => ∃ S0 base Z A ρ P, SE G S0 base Z H A ρ σ ∧ F (seen [] 0 ρ) (fun xs => loopX (bindS t) (exW mo dr g) xs ρ P) ∧ ∀ o, P o → EndS G S0 base Z D' o
theorem sw_forG {tg iter : Expr} {body : List Stmt} {t : T} {F : Rho → (List D → Prop) → Prop} (M : MoOk X G Γ mo n) (hp : PassesOwn (model X.prog X.w) X.A X.env X.xe) (hi : PI X tg iter (tIG G F)) (hg : PG X tg (gOf X.K t)) (hb : PSs X body (tSW G mo dr g)) (hs : ∀ x, foldedSetIterable iter X.env x = pure x) :
    PS X (.For tg iter body [] pos) (tSWF G mo dr t F g) := (ps_for hp M.calm hi hg hb hs).imp fun D σ H h => by
  obtain ⟨S0, base, Z, A, ρ, P, s, e, q⟩ := h
  refine ⟨_, _, _, s.rv [], e, fun xs e J H1 g1 wk => ?_⟩
  have s1 : SE G S0 base Z H1 (without A []) ρ σ := by rw [without_nil]; exact s.grow g1
  have sb1 := s1.rebase
  refine ⟨fun i k σ' H' => k = xs.length - i ∧ i ≤ xs.length ∧ ∃ A' ρ', SE G S0 (cutH H1 (OwnS (without A []))) (fun a => Z.1 a ∨ OwnS (without A []) a, Z.2) H' A' ρ' σ' ∧ loopX (bindS t) (exW mo dr g) (xs.drop i) ρ' P,
    ⟨_, rfl, Nat.zero_le _, _, _, sb1, e⟩, ?_⟩
  rintro i k σ1 H2 ⟨rfl, hi, A', ρ', s', e'⟩
  let S' : Addr → Prop := fun a => SA S0 A' a ∨ OwnS (without A []) a
  have cd : Cd (SA S0 (without A [])) S' H1 := by
    intro a na hs z
    rcases z with (z | ⟨j, z⟩) | z
    · exact na (.inl z)
    · obtain ⟨x, hx⟩ := Option.isSome_iff_exists.mp hs
      have := s'.nb j a z
      rw [cutH_of (fun z2 => na (.inr z2)) hx] at this
      cases this
    · exact na (.inr z)
  have ext : Ext S' H1 H2 := by
    refine ⟨fun b x nb h => s'.same _ _ (cutH_of (fun z => nb (.inr z)) h), fun b x y h => ?_⟩
    refine s'.same _ _ (cutH_of (fun ⟨j, z⟩ => ?_) h)
    obtain ⟨d, hd⟩ := s1.on j b z
    obtain ⟨b', z1, _, z3⟩ := s1.ow j d hd
    rw [z] at z1; cases z1
    obtain ⟨u, hu, _, hn⟩ := z3.there
    rw [h] at hu; cases hu
    exact hn _ _ rfl
  have dom : Dom S' H2 := fun a z => z.elim (s'.dom a) fun z => s'.dz a (.inr z)
  have hW : ∃ S', Cd (SA S0 (without A [])) S' H1 ∧ Ext S' H1 H2 ∧ Dom S' H2 := ⟨S', cd, ext, dom⟩
  by_cases hlt : i < xs.length
  · refine .inr ⟨wk.goes i H2 hlt hW, fun σ' H' => ∃ A' ρ', SE G S0 (cutH H1 (OwnS (without A []))) (fun a => Z.1 a ∨ OwnS (without A []) a, Z.2) H' A' ρ' σ' ∧ loopX (bindS t) (exW mo dr g) (xs.drop (i + 1)) ρ' P,
      fun σ' H' h => ⟨_, by omega, rfl, hlt, h⟩, fun x H3 y => ?_⟩
    obtain ⟨g3, hy⟩ := wk.yields i H2 x H3 hlt hW y
    obtain ⟨d, hd, hr⟩ := hy S' cd ext dom
    rw [drop_cons' hd] at e'
    simp only [loopX] at e'
    obtain ⟨ρ1, b1, e'⟩ := e'
    refine bindS_run X.K t b1 (hr.weak fun a z => .inl z) (s'.grow g3) fun σ2 A2 s2 _ => ⟨S0, _, _, A2, ρ1, _, s2, e', fun o2 e' => ?_⟩
    cases o2 with
    | nx ρ' => exact fun σ' H' A' s' => ⟨A', ρ', s', e'⟩
    | ct ρ' => exact fun σ' H' A' s' => ⟨A', ρ', s', e'⟩
    | bk ρ' => exact fun σ' H' A' s' => q _ e' σ' H' A' (s1.unbase s')
    | rt d =>
      intro v H' sm hv
      refine q _ e' v H' ?_ hv
      exact fun a o h => sm _ _ (cutH_of (fun ⟨j, h2⟩ => by rw [s1.nb j a h2] at h; cases h) (s1.same _ _ h))
  · have ei : i = xs.length := by omega
    subst ei
    rw [List.drop_length] at e'
    simp only [loopX] at e'
    exact .inl ⟨wk.stops H2 hW, q _ e' σ1 H2 A' (s1.unbase s')⟩
theorem sw_for {tg iter : Expr} {body : List Stmt} {t : T} {it : I} (M : MoOk X G Γ mo n) (hp : PassesOwn (model X.prog X.w) X.A X.env X.xe) (hi : PI X tg iter (tI G mo it)) (hg : PG X tg (gOf X.K t)) (hb : PSs X body (tSW G mo dr g)) (hs : ∀ x, foldedSetIterable iter X.env x = pure x) :
    PS X (.For tg iter body [] pos) (tSW G mo dr (.for t it g)) := (sw_forG (F := fun ρ P => ∃ xs, evI mo it ρ = some xs ∧ P xs) M hp (hi.imp fun σ H R h => by
  obtain ⟨S, ρ, P, r, ⟨xs, e, hp⟩, q⟩ := h
  exact ⟨S, ρ, xs, r, e, fun J H1 s1 wk => q xs hp J H1 s1 wk⟩) hg hb hs).imp fun D σ H h => by
  obtain ⟨S0, base, Z, A, ρ, P, s, e, q⟩ := h
  simp only [exW] at e
  exact ⟨S0, base, Z, A, ρ, P, s, e, q⟩
/-- for .. in range(e), e drawn -/
theorem sw_forR {tg : Expr} {body : List Stmt} {t : T} (M : MoOk X G Γ mo n) (hp : PassesOwn (model X.prog X.w) X.A X.env X.xe) (hgl : Gl X "range") (ha : PE X a (tW G mo dr f)) (h1 : noStar a = true) (hg : PG X tg (gOf X.K t)) (hb : PSs X body (tSW G mo dr g)) (hs : ∀ x, foldedSetIterable (.Call (.Name "range" p) [a] [] pos) X.env x = pure x) {pos' : Pos} :
    PS X (.For tg (.Call (.Name "range" p) [a] [] pos) body [] pos') (tSW G mo dr (.forW t f g)) := (sw_forG (F := fun ρ P => evW mo dr f ρ fun d => ∃ j, d = .int j ∧ fitsB j = true ∧ P (rngD 0 j.toNat)) M hp ((pi_range1 hgl (M.bl _ (by decide +kernel)) (pa_cons ha pa_nil (star_cons h1)) (star_cons h1)).imp fun σ H R h => by
  obtain ⟨S, ρ, P, r, e, q⟩ := h
  refine tW_run r e fun d ⟨j, e1, hf, hp⟩ v H1 s1 r1 hv => ?_
  subst e1
  cases hv
  obtain ⟨f1, f2⟩ := fits_of hf
  exact ⟨j, rfl, f1, f2, q _ hp _ H1 s1 (wk_range 0 _)⟩) hg hb hs).imp fun D σ H h => by
  obtain ⟨S0, base, Z, A, ρ, P, s, e, q⟩ := h
  simp only [exW] at e
  exact ⟨S0, base, Z, A, ρ, P, s, e, q⟩
/-- xs.append(e), e drawn -/
theorem sw_app (M : MoOk X G Γ mo n) {x : Str} {px apos cpos : Pos} {us : List Nat} (hi : X.N[i]? = some x) (hv : Vis X.env.scope x) (hd : (x == ("__debug__" : Str)) = false) (hcd : (x == ("__classdict__" : Str)) = false)
    (he : PE X e (tW G mo dr f)) (hn : noStar e = true) (hl : (apos.endLine == cpos.line) = true) : PS X (.Expr (.Call (.Attribute (.Name x px) "append" apos) [e] [] cpos) pos) (tSW G mo dr (.app i us f)) := by
  refine (ps_expr (pe_bm PySem.F.plainAttrs_list PySem.F.slot_list_append PySem.F.type_list_append mt_append (pe_var hi hv hd hcd) (pa_cons he pa_nil (star_cons hn)) (base_eq rfl)
    (by rw [star_cons hn]; rfl) hl (star_cons hn) rfl) rfl).imp fun D σ H h => ?_
  obtain ⟨S0, base, Z, A, ρ, P, s, e, q⟩ := h
  simp only [exW] at e
  obtain ⟨xs, own0, hlen, e⟩ := e
  obtain ⟨l, h1, h2, vs, h3, h4⟩ := s.ow i _ own0
  refine ⟨_, h2, .inl ⟨rfl, _, .inl (.inl h3)⟩, tW_run (s.rv us) e fun d ⟨hf, hp⟩ v H' sm _ hv => ?_⟩
  have s' := s.grow sm
  have hv' : Rp G (SA S0 A) H' v d := by
    rcases hf with hf | hf
    · subst hf; rw [without_nil] at hv; exact hv
    · exact flat_move s'.dom hf hv
  obtain ⟨l', g1, g2, vs', g3, g4⟩ := s'.ow i _ own0
  rw [h2] at g2
  cases g2
  refine ⟨l, vs', v, rfl, rfl, g3, lim_line (by rw [g4.length]; omega), ?_⟩
  refine q _ hp _ _ _ (s'.write own0 g1 (fun _ z => by cases z) ⟨_, upd_same, ?_⟩ fun _ _ z => by cases z)
  have ex : Ext (SA S0 A) H' (upd H' l (.lst (vs' ++ [v]))) := by
    refine ⟨fun b x nb e => ?_, fun b x y e => ?_⟩
    · rw [upd_ne fun z => nb (.inr ⟨i, by rw [z]; exact g1⟩)]; exact e
    · rw [upd_ne fun z => ?_]
      · exact e
      · subst z; rw [g3] at e; cases e
  exact (g4.append (.one hv')).move (fun _ n _ => n) ex
end
end PV
namespace PV
open PySem PySem.Spec PyProof.Rows L2 BK
/-! ### from the text to the terms with draws -/
def hasD (dn : List Str) : Nat → Expr → Bool
  | 0, _ => true
  | n + 1, e => match e with
    | .Call (.Name x _) args _ _ => dn.contains x || args.any (hasD dn n)
    | .Call (.Attribute a _ _) args _ _ => hasD dn n a || args.any (hasD dn n)
    | .BinOp a _ b _ => hasD dn n a || hasD dn n b
    | .UnaryOp _ a _ => hasD dn n a
    | .BoolOp _ vs _ => vs.any (hasD dn n)
    | .Compare a _ bs _ => hasD dn n a || bs.any (hasD dn n)
    | .IfExp t a b _ => hasD dn n t || (hasD dn n a || hasD dn n b)
    | .Tuple es _ _ => es.any (hasD dn n)
    | .List es _ => es.any (hasD dn n)
    | .Subscript a i _ => hasD dn n a || hasD dn n i
    | .Slice a b d _ => (match a with | some x => hasD dn n x | none => false) || ((match b with | some x => hasD dn n x | none => false) || (match d with | some x => hasD dn n x | none => false))
    | .Attribute a _ _ => hasD dn n a
    | .ListComp e gs _ _ => hasD dn n e || gs.any fun g => match g with | ⟨_, it, ifs, _⟩ => hasD dn n it || ifs.any (hasD dn n)
    | .SetComp e gs _ _ => hasD dn n e || gs.any fun g => match g with | ⟨_, it, ifs, _⟩ => hasD dn n it || ifs.any (hasD dn n)
    | _ => false
abbrev Dn := List (Str × Nat)
def pureB (dn : Dn) (e : Expr) : Bool := !hasD (dn.map (·.1)) 60 e
mutual
def cW (c : Cc) (dn : Dn) : Nat → Scope → Expr → Option WT
  | 0, _, _ => none
  | n + 1, sc, e => if pureB dn e = true then (cE c 60 sc e).map WT.pu else match e with
    | .BinOp a op b _ => (o2Of op).bind fun o => (cW c dn n sc a).bind fun ea => (cW c dn n sc b).bind fun eb => some (.bin o ea eb)
    | .Compare a [op] [b] _ => if behindInMarks op b = false then (cmOfOp op).bind fun o => (cW c dn n sc a).bind fun ea => (cW c dn n sc b).bind fun eb => some (.cmp o ea eb) else none
    | .IfExp t a b _ => (cWt c dn n sc t).bind fun et => (cW c dn n sc a).bind fun ea => (cW c dn n sc b).bind fun eb => some (.ite et ea eb)
    | .Tuple es _ _ => (cWA c dn n sc es).map WT.tup
    | .List es _ => (cWA c dn n sc es).map WT.lst
    | .Subscript a i _ => if plainB i = true then (cW c dn n sc a).bind fun ea => (cW c dn n sc i).bind fun ei => some (.idx ea ei) else none
    | .Call (.Name x _) (a :: args) [] _ => if nameB x = true ∧ glB sc x = true ∧ noStar a = true ∧ args.all noStar = true then (match dn.lookup x with
      | some k => (cWA c dn n sc (a :: args)).map (WT.drw k)
      | none => match biOf x with
        | some f => if impB c.Γ f = true then (cWA c dn n sc (a :: args)).map (WT.bi f) else none
        | none => match c.Γ.fns.lookup x with
          | some k => (cWA c dn n sc (a :: args)).map (WT.call k)
          | none => match c.Γ.cls.lookup x with
            | some k => (cWA c dn n sc (a :: args)).map (WT.mk k)
            | none => none) else none
    | .ListComp elt [⟨tg, it, ifs, ia⟩] scope _ =>
      if ia = 0 ∧ blkC c.N sc scope (ownOf c.N scope) = true ∧ notSet it = true then
        (if pureB dn it = true then cI c 60 sc tg it else none).bind fun i => (cTg c.N (asgC scope (relS scope sc)) 20 tg).bind fun t => (show Option WT from match ifs with | [] => some (WT.pu (.cbl true)) | [x] => cWt c dn n (relS scope sc) x | _ => none).bind fun f => (cW c dn n (relS scope sc) elt).bind fun e =>
          if (tsl t).all (fun j => ((ownOf c.N scope).map (·.2)).contains j) = true then some (.lc t i f e ((ownOf c.N scope).map (·.2))) else none
      else none
    | _ => none
def cWB (c : Cc) (dn : Dn) : Nat → Scope → BoolOp → List Expr → Option WT
  | 0, _, _, _ => none
  | n + 1, sc, op, vs => match vs with
    | [] => none
    | [a] => cWt c dn n sc a
    | a :: b :: r => (cWt c dn n sc a).bind fun ea => (cWB c dn n sc op (b :: r)).bind fun eb => some (match op with | .And => .and ea eb | .Or => .or ea eb)
def cWt (c : Cc) (dn : Dn) : Nat → Scope → Expr → Option WT
  | 0, _, _ => none
  | n + 1, sc, e => if pureB dn e = true then (if tst 40 e = true then (cE c 60 sc e).map WT.pu else none) else match e with
    | .UnaryOp .Not a _ => (cWt c dn n sc a).map WT.not
    | .BoolOp op vs _ => cWB c dn n sc op vs
    | .Compare a [op] [b] _ => if behindInMarks op b = false then (cmOfOp op).bind fun o => (cW c dn n sc a).bind fun ea => (cW c dn n sc b).bind fun eb => some (.cmp o ea eb) else none
    | .Call f as ks p => cW c dn n sc (.Call f as ks p)
    | _ => none
def cWA (c : Cc) (dn : Dn) : Nat → Scope → List Expr → Option WTs
  | 0, _, _ => none
  | n + 1, sc, es => match es with
    | [] => some .nil
    | a :: r => if noStar a = true then (cW c dn n sc a).bind fun ea => (cWA c dn n sc r).bind fun er => some (.cons ea er) else none
end
structure DX (X : Cx) (G : Gm) (l : Nat) (dr : Nat → MD) (dn : Dn) : Prop where
  d : ∀ x k, (x, k) ∈ dn → ∃ f fd ps, HasW X G l (dr k) f fd ps ∧ X.mg x = some (.ref f)
structure SndW (G : Gm) (c : Cc) (mo : Mo) (l : Nat) (dr : Nat → MD) (dn : Dn) (n : Nat) : Prop where
  e : ∀ (X : Cx) (sc : Scope) (e : Expr) (r : WT), XS X G c mo l sc → DX X G l dr dn → cW c dn n sc e = some r → PE X e (tW G mo dr r)
  t : ∀ (X : Cx) (sc : Scope) (e : Expr) (r : WT), XS X G c mo l sc → DX X G l dr dn → cWt c dn n sc e = some r → PT X e (tWT G mo dr r)
  a : ∀ (X : Cx) (sc : Scope) (es : List Expr) (r : WTs), XS X G c mo l sc → DX X G l dr dn → cWA c dn n sc es = some r → PA X es (tWA G mo dr r)
  b : ∀ (X : Cx) (sc : Scope) (op : BoolOp) (vs : List Expr) (pos : Pos) (r : WT), XS X G c mo l sc → DX X G l dr dn → cWB c dn n sc op vs = some r → PW X (.BoolOp op vs pos) (tWT G mo dr r)
theorem DX.blk {X : Cx} {G : Gm} {l : Nat} {dr : Nat → MD} {dn : Dn} (h : DX X G l dr dn) (s : Shared) (H : Hp) (scope : Scope) (env : Env) (fp : List Addr) : DX (X.blk s H scope env fp) G l dr dn :=
  ⟨fun x k e => let ⟨f, fd, ps, Hs, hm⟩ := h.d x k e; ⟨f, fd, ps, Hs.blk rfl rfl rfl rfl rfl, hm⟩⟩
section
variable {X : Cx} {G : Gm} {Γ : Nm} {mo : Mo} {dr : Nat → MD} {n : Nat} {a : Expr} {es : List Expr} {pos p : Pos} {fs : WTs}
theorem w_bi (M : MoOk X G Γ mo n) (f : BI) (hi : ∀ id, biImp f = some id → (biName f, id) ∈ Γ.imps) (hg : Gl X (biName f)) (he : noStar a = true) (hes : es.all noStar = true) (h : PA X (a :: es) (tWA G mo dr fs)) : PE X (.Call (.Name (biName f) p) (a :: es) [] pos) (tW G mo dr (.bi f fs)) := by
  have hm : biImp f = none → X.mg (biName f) = none := fun z => M.bl _ (by cases f <;> first | decide +kernel | cases z)
  have hm2 := hm
  cases f with
  | gcd =>
    refine (pe_callBfun (cl_gcd M) hg (M.imp _ _ (hi _ rfl)) h (by decide) (star_cons he) (star_any hes)).imp fun σ H Q h => ?_
    obtain ⟨S, ρ, P, r, e, q⟩ := h
    simp only [evW] at e
    exact tWA_run r e fun ds ⟨d, e1, hd⟩ vs H1 s1 r1 hv => ⟨S, ds, d, r1.dom, hv, e1, fun v H' s h => q d hd v H' (s1.trans s) h⟩
  | len => exact w_biB (cl_len M) hg (hm2 rfl) PySem.boot_len (by decide) (by decide) he hes h
  | sum => exact w_biB (cl_sum M) hg (hm2 rfl) (by decide +kernel) (by decide) (by decide) he hes h
  | max => exact w_biB (cl_max M) hg (hm2 rfl) (by decide +kernel) (by decide) (by decide) he hes h
  | min => exact w_biB (cl_min M) hg (hm2 rfl) (by decide +kernel) (by decide) (by decide) he hes h
  | all => exact w_biB (cl_all M) hg (hm2 rfl) (by decide +kernel) (by decide) (by decide) he hes h
  | any => exact w_biB (cl_any M) hg (hm2 rfl) (by decide +kernel) (by decide) (by decide) he hes h
  | abs => exact w_biB (cl_abs M) hg (hm2 rfl) (by decide +kernel) (by decide) (by decide) he hes h
  | int => exact w_biT (cl_int M) hg (hm2 rfl) (by decide +kernel) (by decide) (by decide) he hes h
  | list => exact w_biT (cl_list M) hg (hm2 rfl) (by decide +kernel) (by decide) (by decide) he hes h
  | tuple => exact w_biT (cl_tuple M) hg (hm2 rfl) (by decide +kernel) (by decide) (by decide) he hes h
  | sorted => exact w_biB (cl_sorted M) hg (hm2 rfl) (by decide +kernel) (by decide) (by decide) he hes h
end
theorem sndW (G : Gm) (c : Cc) (mo : Mo) (l : Nat) (dr : Nat → MD) (dn : Dn) : ∀ n, SndW G c mo l dr dn n := by
  intro n
  have S := snd G c mo l 60
  induction n with
  | zero => exact ⟨fun _ _ _ _ _ _ h => by simp [cW] at h, fun _ _ _ _ _ _ h => by simp [cWt] at h, fun _ _ _ _ _ _ h => by simp [cWA] at h, fun _ _ _ _ _ _ _ _ h => by simp [cWB] at h⟩
  | succ n ih =>
    refine ⟨?_, ?_, ?_, ?_⟩
    · intro X sc e r x dx h
      simp only [cW] at h
      split at h
      · obtain ⟨e1, h1, rfl⟩ := map_some h
        exact w_pure (S.e X sc _ _ x h1)
      · split at h
        · obtain ⟨o, h1, h⟩ := bind_some h
          obtain ⟨ea, h2, h⟩ := bind_some h
          obtain ⟨eb, h3, h⟩ := bind_some h
          cases h
          rw [o2Of_eq h1]
          exact w_bin x.M o (ih.e X sc _ _ x dx h2) (ih.e X sc _ _ x dx h3)
        · split at h
          · rename_i hm
            obtain ⟨o, h1, h⟩ := bind_some h
            obtain ⟨ea, h2, h⟩ := bind_some h
            obtain ⟨eb, h3, h⟩ := bind_some h
            cases h
            rw [cmOfOp_eq h1] at hm ⊢
            exact w_cmp x.M o (ih.e X sc _ _ x dx h2) (ih.e X sc _ _ x dx h3) hm
          · cases h
        · obtain ⟨o, h1, h⟩ := bind_some h
          obtain ⟨ea, h2, h⟩ := bind_some h
          obtain ⟨eb, h3, h⟩ := bind_some h
          cases h
          exact w_ite (ih.t X sc _ _ x dx h1) (ih.e X sc _ _ x dx h2) (ih.e X sc _ _ x dx h3)
        · obtain ⟨es, h1, rfl⟩ := map_some h
          exact w_tup (ih.a X sc _ _ x dx h1)
        · obtain ⟨es, h1, rfl⟩ := map_some h
          exact w_lst (ih.a X sc _ _ x dx h1)
        · split at h
          · rename_i hp
            obtain ⟨ea, h2, h⟩ := bind_some h
            obtain ⟨eb, h3, h⟩ := bind_some h
            cases h
            exact w_idx x.M (ih.e X sc _ _ x dx h2) (ih.e X sc _ _ x dx h3) hp
          · cases h
        · split at h
          · rename_i hp
            obtain ⟨p1, p2, p3, p4⟩ := hp
            have hgl := glB_gl (X := X) p2 x.sc
            have hdb := (nameB_of p1).1
            split at h
            · rename_i hk
              obtain ⟨es, h1, rfl⟩ := map_some h
              obtain ⟨f, fd, ps, Hs, hm⟩ := dx.d _ _ (lookup_mem hk)
              exact w_draw x.M Hs hm hgl hdb p3 p4 (ih.a X sc _ _ x dx h1)
            · split at h
              · rename_i hf
                split at h
                · rename_i hi
                  obtain ⟨es, h1, rfl⟩ := map_some h
                  have e := biOf_eq hf
                  subst e
                  exact w_bi x.M _ (impB_ok hi) hgl p3 p4 (ih.a X sc _ _ x dx h1)
                · cases h
              · split at h
                · rename_i hk
                  obtain ⟨es, h1, rfl⟩ := map_some h
                  obtain ⟨f, fd, ps, Hs, hm⟩ := x.M.fn _ _ (lookup_mem hk)
                  exact w_call x.M Hs hm hgl hdb p3 p4 (ih.a X sc _ _ x dx h1)
                · split at h
                  · rename_i hk
                    obtain ⟨es, h1, rfl⟩ := map_some h
                    exact wt_mk x.M (lookup_mem hk) hgl hdb p3 p4 (ih.a X sc _ _ x dx h1)
                  · cases h
          · cases h
        · split at h
          · rename_i hp
            obtain ⟨p1, p2, p3⟩ := hp
            subst p1
            obtain ⟨it, h1, h⟩ := bind_some h
            obtain ⟨t, h2, h⟩ := bind_some h
            obtain ⟨f, h3, h⟩ := bind_some h
            obtain ⟨e, h4, h⟩ := bind_some h
            split at h
            · rename_i hsub
              cases h
              split at h1
              · exact w_lc x.M (S.i X sc _ _ _ x h1) (by rw [x.N, x.sc]; exact blkOk_by p2) (fun s H C cl fp => pg_of (x.blk s H _ C cl fp) (asgC_ok x s H C cl fp) _ _ _ h2)
                  (fun s H C cl fp => by
                    split at h3
                    · cases h3; exact wts_nil
                    · exact wts_one (ih.t _ _ _ _ (x.blk s H _ C cl fp) (dx.blk s H _ _ fp) h3)
                    · cases h3)
                  (fun s H C cl fp => ih.e _ _ _ _ (x.blk s H _ C cl fp) (dx.blk s H _ _ fp) h4) (fs_of p3 _) (all_mem hsub)
              · cases h1
            · cases h
          · cases h
        · cases h
    · intro X sc e r x dx h
      simp only [cWt] at h
      split at h
      · split at h
        · rename_i ht
          obtain ⟨e1, h1, rfl⟩ := map_some h
          exact wt_pure (S.t X sc _ _ _ x h1 ht)
        · cases h
      · split at h
        · obtain ⟨e1, h1, rfl⟩ := map_some h
          exact wt_not (ih.t X sc _ _ x dx h1)
        · exact (ih.b X sc _ _ _ _ x dx h).pt
        · split at h
          · rename_i hm
            obtain ⟨o, h1, h⟩ := bind_some h
            obtain ⟨ea, h2, h⟩ := bind_some h
            obtain ⟨eb, h3, h⟩ := bind_some h
            cases h
            rw [cmOfOp_eq h1] at hm ⊢
            exact wt_cmp x.M o (ih.e X sc _ _ x dx h2) (ih.e X sc _ _ x dx h3) hm
          · cases h
        · exact wt_val (ih.e X sc _ _ x dx h) fun _ => rfl
        · cases h
    · intro X sc es r x dx h
      simp only [cWA] at h
      split at h
      · cases h; exact w_nil
      · split at h
        · rename_i hs
          obtain ⟨ea, h1, h⟩ := bind_some h
          obtain ⟨er, h2, h⟩ := bind_some h
          cases h
          exact w_cons (ih.e X sc _ _ x dx h1) (ih.a X sc _ _ x dx h2) (star_cons hs)
        · cases h
    · intro X sc op vs pos r x dx h
      simp only [cWB] at h
      split at h
      · cases h
      · cases op with
        | And => exact pw_and1 (ih.t X sc _ _ x dx h)
        | Or => exact pw_or1 (ih.t X sc _ _ x dx h)
      · obtain ⟨ea, h1, h⟩ := bind_some h
        obtain ⟨eb, h2, h⟩ := bind_some h
        cases h
        cases op with
        | And => exact wt_and (ih.t X sc _ _ x dx h1) (ih.b X sc _ _ _ _ x dx h2)
        | Or => exact wt_or (ih.t X sc _ _ x dx h1) (ih.b X sc _ _ _ _ x dx h2)
end PV
namespace PV
open PySem PySem.Spec PyProof.Rows L2 BK
/-! ### statements with draws, from the text -/
def isDraw : Expr → Bool
  | .Name x _ => decide (x = ("draw" : Str))
  | _ => false
/-- the slots of a text that are owned -/
def slotsE (c : Cc) : Nat → Expr → List Nat
  | 0, _ => []
  | n + 1, e => match e with
    | .Name x _ => match ixOf x c.N with | some i => [i] | none => []
    | .Call f args _ _ => slotsE c n f ++ args.flatMap (slotsE c n)
    | .BinOp a _ b _ => slotsE c n a ++ slotsE c n b
    | .UnaryOp _ a _ => slotsE c n a
    | .BoolOp _ vs _ => vs.flatMap (slotsE c n)
    | .Compare a _ bs _ => slotsE c n a ++ bs.flatMap (slotsE c n)
    | .IfExp t a b _ => slotsE c n t ++ slotsE c n a ++ slotsE c n b
    | .Tuple es _ _ => es.flatMap (slotsE c n)
    | .List es _ => es.flatMap (slotsE c n)
    | .Subscript a i _ => slotsE c n a ++ slotsE c n i
    | .Attribute a _ _ => slotsE c n a
    | _ => []
def wUs (M : List Nat) (e : Expr) (c : Cc) : List Nat := ((slotsE c 30 e).filter fun i => M.contains i).eraseDups
mutual
def cWS (c : Cc) (M : List Nat) (dn : Dn) : Nat → Scope → Stmt → WS
  | 0, _, _ => .st .bad
  | n + 1, sc, st => match st with
    | .Assign [.Name y py] e pos => (match ixOf y c.N with
      | some i => (match e with
        | .List [a, b] lp => if y = ("draw" : Str) ∧ asgD sc y = true then (match cWA c dn 60 sc [a, b] with
            | some es => .set i (.newd es)
            | none => .st .bad) else (if pureB dn e = true then .st (cS c M 60 sc st) else match cW c dn 60 sc e with
          | some r => if asgD sc y = true then .set i r else .st .bad
          | none => .st .bad)
        | e => if pureB dn e = true then .st (cS c M 60 sc st) else match cW c dn 60 sc e with
          | some r => if asgD sc y = true ∧ isLc e = false then (if wUs M e c = [] then .set i r else .setU (wUs M e c) i r) else (match e with
            | .ListComp elt [g] scope pos' => if asgD sc y = true ∧ cellB sc y = true then .set i r else if asgD sc y = true ∧ swB sc y py scope pos' = true ∧ localB sc y = true then .set i r else .st .bad
            | _ => .st .bad)
          | none => .st .bad)
      | none => .st .bad)
    | .Assign [.Tuple ts k pt] e pos => if pureB dn e = true then .st (cS c M 60 sc st) else
      (match cTg c.N (asgD sc) 20 (.Tuple ts k pt), cW c dn 60 sc e with
      | some t, some r => (match e with
          | .Tuple vs _ _ => (match ts, vs with
            | [.Name x px, .Name y py], [a, b] => if swap2 sc x y px py a b = true then .tgt t r else if noSwap sc ts vs = true then .tgt t r else .st .bad
            | [.Name x px, .Name y py, .Name z pz], [a, b, d] => if swap3 sc x y z px py pz a b d = true then .tgt t r else if noSwap sc ts vs = true then .tgt t r else .st .bad
            | ts, vs => if noSwap sc ts vs = true then .tgt t r else .st .bad)
          | _ => .tgt t r)
      | _, _ => .st .bad)
    | .If t a b _ => (match cWt c dn 60 sc t with
      | some r => if wUs M t c = [] then .ife r (cWL c M dn n sc a) (cWL c M dn n sc b) else .ifU (wUs M t c) r (cWL c M dn n sc a) (cWL c M dn n sc b)
      | none => .st .bad)
    | .Expr e pos => if pureB dn e = true then .st (cS c M 60 sc st) else (match e with
      | .Call (.Attribute (.Name y py) m ap) [a] [] cp => if m = ("append" : Str) then
          (match ixOf y c.N, cW c dn 60 sc a with
          | some i, some r => if visB sc y = true ∧ nameB y = true ∧ noStar a = true ∧ (ap.endLine == cp.line) = true then .app i (wUs M a c) r else .st .bad
          | _, _ => .st .bad) else .st .bad
      | _ => .st .bad)
    | .For tg (.Call (.Name x px) [a] [] p) b [] _ => if pureB dn (.Call (.Name x px) [a] [] p) = true then (match cTg c.N (asgD sc) 20 tg, cI c 60 sc tg (.Call (.Name x px) [a] [] p) with
      | some t, some r => if notSet (.Call (.Name x px) [a] [] p) = true then .for t r (cWL c M dn n sc b) else .st .bad
      | _, _ => .st .bad) else (match cTg c.N (asgD sc) 20 tg, cW c dn 60 sc a with
      | some t, some r => if x = ("range" : Str) ∧ glB sc x = true ∧ noStar a = true ∧ notSet (.Call (.Name x px) [a] [] p) = true then .forW t r (cWL c M dn n sc b) else .st .bad
      | _, _ => .st .bad)
    | .For tg it a [] _ => if pureB dn it = true then (match cTg c.N (asgD sc) 20 tg, cI c 60 sc tg it with
      | some t, some r => if notSet it = true then .for t r (cWL c M dn n sc a) else .st .bad
      | _, _ => .st .bad) else .st .bad
    | .Return (some e) _ => if pureB dn e = true then .st (cS c M 60 sc st) else (match cW c dn 60 sc e with | some r => .ret r | none => .st .bad)
    | st => .st (cS c M 60 sc st)
def cWL (c : Cc) (M : List Nat) (dn : Dn) : Nat → Scope → List Stmt → WS
  | 0, _, _ => .st .bad
  | n + 1, sc, sts => match sts with
    | [] => .nop
    | st :: r => .seq (cWS c M dn n sc st) (cWL c M dn n sc r)
end
section
variable {X : Cx} {G : Gm} {c : Cc} {mo : Mo} {l : Nat} {sc : Scope} {dr : Nat → MD} {dn : Dn}
theorem sws_bad {st : List Stmt} : PSs X st (tSW G mo dr (.st .bad)) := pss_never.imp fun D σ H h => by
  obtain ⟨S0, base, Z, A, ρ, o, s, e, q⟩ := h
  simp only [exW, ex] at e
  obtain ⟨_, e, _⟩ := e
  cases e
theorem sw_setX (y : YS X G c mo l sc) {z : Str} {py pos : Pos} {i : Nat} {e : Expr} {r : WT} (hi : ixOf z c.N = some i) (ha : asgD sc z = true) (he : PE X e (tW G mo dr r)) (hl : isLc e = false) : PS X (.Assign [.Name z py] e pos) (tSW G mo dr (.set i r)) :=
  sw_set_of (ps_set y.x.M.nd (by rw [y.x.N]; exact ixOf_get hi) (asgD_ok y z ha).1 he (swaps_name hl) (asgD_ok y z ha).2) fun _ _ _ h => h
theorem sw_setUX (y : YS X G c mo l sc) {z : Str} {py pos : Pos} {i : Nat} {us : List Nat} {e : Expr} {r : WT} (hi : ixOf z c.N = some i) (ha : asgD sc z = true) (he : PE X e (tW G mo dr r)) (hl : isLc e = false) : PS X (.Assign [.Name z py] e pos) (tSW G mo dr (.setU us i r)) :=
  sw_setU_of (ps_set y.x.M.nd (by rw [y.x.N]; exact ixOf_get hi) (asgD_ok y z ha).1 he (swaps_name hl) (asgD_ok y z ha).2) fun _ _ _ h => h
theorem sw_cellX (y : YS X G c mo l sc) {z : Str} {py pos pos' : Pos} {i : Nat} {elt : Expr} {gs : List Comprehension} {scope : Scope} {r : WT} (hi : ixOf z c.N = some i) (ha : asgD sc z = true) (hc : cellB sc z = true) (he : PE X (.ListComp elt gs scope pos') (tW G mo dr r)) :
    PS X (.Assign [.Name z py] (.ListComp elt gs scope pos') pos) (tSW G mo dr (.set i r)) :=
  sw_set_of (ps_set y.x.M.nd (by rw [y.x.N]; exact ixOf_get hi) (asgD_ok y z ha).1 he (swC_false y hc) (asgD_ok y z ha).2) fun _ _ _ h => h
theorem sw_lcX (y : YS X G c mo l sc) (dx : DX X G l dr dn) {z : Str} {py pos pos' : Pos} {i : Nat} {elt : Expr} {g : Comprehension} {scope : Scope} {r : WT} {n : Nat} (hi : ixOf z c.N = some i) (ha : asgD sc z = true) (hl : localB sc z = true) (hsw : swB sc z py scope pos' = true)
    (hp : ¬ pureB dn (.ListComp elt [g] scope pos') = true) (h : cW c dn (n + 1) sc (.ListComp elt [g] scope pos') = some r) : PS X (.Assign [.Name z py] (.ListComp elt [g] scope pos') pos) (tSW G mo dr (.set i r)) := by
  have S := snd G c mo l 60
  have W := sndW G c mo l dr dn n
  have x := y.x
  have hN : X.N[i]? = some z := by rw [x.N]; exact ixOf_get hi
  have hy : X.env.scope.names.lookup z = some .local := by rw [x.sc]; exact localB_of hl
  obtain ⟨tg, it, ifs, ia⟩ := g
  simp only [cW] at h
  rw [if_neg hp] at h
  split at h
  · rename_i hq
    obtain ⟨p1, p2, p3⟩ := hq
    subst p1
    obtain ⟨it, h1, h⟩ := bind_some h
    obtain ⟨t, h2, h⟩ := bind_some h
    obtain ⟨f, h3, h⟩ := bind_some h
    obtain ⟨e, h4, h⟩ := bind_some h
    split at h
    · rename_i hsub
      cases h
      split at h1
      · have go := ps_setLc (ifs := ifs) (g := gOf X.K t) (spos := pos) x.M.calm x.M.nd hN hy (swB_true y hsw) (S.i X sc _ _ _ x h1) (by rw [x.N, x.sc]; exact blkOk_by p2) (fun s H C cl fp => pg_of (x.blk s H _ C cl fp) (asgC_ok x s H C cl fp) _ _ _ h2)
          (tt := tWT G mo dr f) (fun s H C cl fp => by
            split at h3
            · cases h3; exact wts_nil
            · exact wts_one (W.t _ _ _ _ (x.blk s H _ C cl fp) (dx.blk s H _ _ fp) h3)
            · cases h3) (fun s H C cl fp => W.e _ _ _ _ (x.blk s H _ C cl fp) (dx.blk s H _ _ fp) h4) (fs_of p3 _)
        exact sw_set_of go fun σ H Q q => lcw_tlc (all_mem hsub) _ q
      · cases h1
    · cases h
  · cases h
theorem sw_tupX (y : YS X G c mo l sc) {ts : List Expr} {k : Nat} {pt pos : Pos} {e : Expr} {t : T} {r : WT} (ht : cTg c.N (asgD sc) 20 (.Tuple ts k pt) = some t) (he : PE X e (tW G mo dr r)) (hw : swappedStores [.Tuple ts k pt] e X.env = pure none) :
    PS X (.Assign [.Tuple ts k pt] e pos) (tSW G mo dr (.tgt t r)) :=
  sw_tgt_of (ps_asg he (pg_of y.x (asgD_ok y) 20 _ _ ht) (by
    show swapsWith e (some (.Tuple ts k pt)) pos.line X.env = pure false
    exact swap_false fun _ _ z => by cases z) hw rfl) fun _ _ _ h => h
theorem cW_tup {n : Nat} {vs : List Expr} {k : Nat} {p : Pos} {r : WT} (x : XS X G c mo l sc) (dx : DX X G l dr dn) (hp : ¬ pureB dn (.Tuple vs k p) = true) (h : cW c dn (n + 1) sc (.Tuple vs k p) = some r) : ∃ es, r = .tup es ∧ PA X vs (tWA G mo dr es) := by
  simp only [cW] at h
  rw [if_neg hp] at h
  obtain ⟨es, h1, rfl⟩ := map_some h
  exact ⟨es, rfl, (sndW G c mo l dr dn n).a X sc _ _ x dx h1⟩
theorem sw_swap2 (y : YS X G c mo l sc) (dx : DX X G l dr dn) {u v : Str} {pu pv pt p2 pos : Pos} {k k2 : Nat} {a b : Expr} {t : T} {r : WT} (ht : cTg c.N (asgD sc) 20 (.Tuple [.Name u pu, .Name v pv] k pt) = some t) (hp : ¬ pureB dn (.Tuple [a, b] k2 p2) = true) (he : cW c dn 60 sc (.Tuple [a, b] k2 p2) = some r) (h : swap2 sc u v pu pv a b = true) :
    PS X (.Assign [.Tuple [.Name u pu, .Name v pv] k pt] (.Tuple [a, b] k2 p2) pos) (tSW G mo dr (.tgt t r)) := by
  obtain ⟨es, rfl, ha⟩ := cW_tup y.x dx hp he
  obtain ⟨rs, h1, rfl⟩ := cTg_tup ht
  obtain ⟨t1, rs1, g1, g2, rfl⟩ := mapM_cons h1
  obtain ⟨t2, rs2, g3, g4, rfl⟩ := mapM_cons g2
  rw [mapM_nil g4]
  obtain ⟨i, rfl, i1, i2⟩ := cTg_nm g1
  obtain ⟨j, rfl, j1, j2⟩ := cTg_nm g3
  have hh := h
  unfold swap2 at hh
  simp only [Bool.and_eq_true, decide_eq_true_eq] at hh
  obtain ⟨⟨⟨⟨⟨⟨⟨h1, h2⟩, h3⟩, h4⟩, h5⟩, h6⟩, h7⟩, h8⟩ := hh
  exact sw_par2 (ps_par y.x.M.calm y.x.M.nd (by rw [y.x.N]; exact ixOf_get i1) (by rw [y.x.N]; exact ixOf_get j1) (neq_ix h4 i1 j1) (by rw [y.x.sc]; exact localB_of h1) (by rw [y.x.sc]; exact localB_of h2) ha (swap2_ok y h) (by
    show swapsWith (.Tuple [a, b] k2 p2) (some (.Tuple [.Name u pu, .Name v pv] k pt)) pos.line X.env = pure false
    exact swaps_name rfl))
theorem sw_swap3 (y : YS X G c mo l sc) (dx : DX X G l dr dn) {u v w : Str} {pu pv pw pt p2 pos : Pos} {k k2 : Nat} {a b d : Expr} {t : T} {r : WT} (ht : cTg c.N (asgD sc) 20 (.Tuple [.Name u pu, .Name v pv, .Name w pw] k pt) = some t) (hp : ¬ pureB dn (.Tuple [a, b, d] k2 p2) = true) (he : cW c dn 60 sc (.Tuple [a, b, d] k2 p2) = some r) (h : swap3 sc u v w pu pv pw a b d = true) :
    PS X (.Assign [.Tuple [.Name u pu, .Name v pv, .Name w pw] k pt] (.Tuple [a, b, d] k2 p2) pos) (tSW G mo dr (.tgt t r)) := by
  obtain ⟨es, rfl, ha⟩ := cW_tup y.x dx hp he
  obtain ⟨rs, h1, rfl⟩ := cTg_tup ht
  obtain ⟨t1, rs1, g1, g2, rfl⟩ := mapM_cons h1
  obtain ⟨t2, rs2, g3, g4, rfl⟩ := mapM_cons g2
  obtain ⟨t3, rs3, g5, g6, rfl⟩ := mapM_cons g4
  rw [mapM_nil g6]
  obtain ⟨i, rfl, i1, i2⟩ := cTg_nm g1
  obtain ⟨j, rfl, j1, j2⟩ := cTg_nm g3
  obtain ⟨q, rfl, q1, q2⟩ := cTg_nm g5
  have hh := h
  unfold swap3 at hh
  simp only [Bool.and_eq_true, decide_eq_true_eq] at hh
  obtain ⟨⟨⟨⟨⟨⟨⟨⟨⟨⟨⟨⟨h1, h2⟩, h2'⟩, h3⟩, h3'⟩, h4⟩, h4'⟩, h4''⟩, h5⟩, h6⟩, h6'⟩, h7⟩, h8⟩ := hh
  exact sw_par3 (ps_par3 y.x.M.calm y.x.M.nd (by rw [y.x.N]; exact ixOf_get i1) (by rw [y.x.N]; exact ixOf_get j1) (by rw [y.x.N]; exact ixOf_get q1) (neq_ix h4 i1 j1) (neq_ix h4' i1 q1) (neq_ix h4'' j1 q1)
    (by rw [y.x.sc]; exact localB_of h1) (by rw [y.x.sc]; exact localB_of h2) (by rw [y.x.sc]; exact localB_of h2') ha (swap3_ok y h) (by
    show swapsWith (.Tuple [a, b, d] k2 p2) (some (.Tuple [.Name u pu, .Name v pv, .Name w pw] k pt)) pos.line X.env = pure false
    exact swaps_name rfl))
theorem sndWS (G : Gm) (c : Cc) (mo : Mo) (l : Nat) (M : List Nat) (dr : Nat → MD) (dn : Dn) : ∀ n, (∀ (X : Cx) (sc : Scope) (st : Stmt), YS X G c mo l sc → DX X G l dr dn → PS X st (tSW G mo dr (cWS c M dn n sc st))) ∧
    (∀ (X : Cx) (sc : Scope) (sts : List Stmt), YS X G c mo l sc → DX X G l dr dn → PSs X sts (tSW G mo dr (cWL c M dn n sc sts))) := by
  intro n
  have bad : ∀ {X : Cx} {st : Stmt}, PS X st (tSW G mo dr (.st .bad)) := sw_st st_bad
  induction n with
  | zero => exact ⟨fun X sc st y dx => by simp only [cWS]; exact bad, fun X sc st y dx => by simp only [cWL]; exact sws_bad⟩
  | succ n ih =>
    refine ⟨fun X sc st y dx => ?_, fun X sc sts y dx => ?_⟩
    · have hp : PassesOwn (model X.prog X.w) X.A X.env X.xe := by rw [y.xe]; exact PassesOwn.never
      have S := snd G c mo l 60
      have W := sndW G c mo l dr dn 60
      have old : ∀ st : Stmt, PS X st (tSW G mo dr (.st (cS c M 60 sc st))) := fun st => sw_st ((snd_s G c mo l M 60).1 X sc st y)
      simp only [cWS]
      split
      · -- name = e
        split
        · split
          · split
            · rename_i hh
              split
              · exact sw_setX y (by assumption) hh.2 (w_newd (W.a X sc _ _ y.x dx (by assumption))) rfl
              · exact bad
            · split
              · exact old _
              · split
                · split
                  · exact sw_setX y (by assumption) (by assumption) (W.e X sc _ _ y.x dx (by assumption)) rfl
                  · exact bad
                · exact bad
          · split
            · exact old _
            · split
              · split
                · rename_i hh
                  split
                  · exact sw_setX y (by assumption) hh.1 (W.e X sc _ _ y.x dx (by assumption)) hh.2
                  · exact sw_setUX y (by assumption) hh.1 (W.e X sc _ _ y.x dx (by assumption)) hh.2
                · split
                  · split
                    · rename_i hh
                      exact sw_cellX y (by assumption) hh.1 hh.2 (W.e X sc _ _ y.x dx (by assumption))
                    · split
                      · rename_i hh
                        exact sw_lcX y dx (by assumption) hh.1 hh.2.2 hh.2.1 (by assumption) (by assumption)
                      · exact bad
                  · exact bad
              · exact bad
        · exact bad
      · split
        · exact old _
        · rename_i hpu
          split
          · split
            · split
              · split
                · rename_i hs; exact sw_swap2 y dx (by assumption) hpu (by assumption) hs
                · split
                  · rename_i hs; exact sw_tupX y (by assumption) (W.e X sc _ _ y.x dx (by assumption)) (noSwap_ok y hs)
                  · exact bad
              · split
                · rename_i hs; exact sw_swap3 y dx (by assumption) hpu (by assumption) hs
                · split
                  · rename_i hs; exact sw_tupX y (by assumption) (W.e X sc _ _ y.x dx (by assumption)) (noSwap_ok y hs)
                  · exact bad
              · split
                · rename_i hs; exact sw_tupX y (by assumption) (W.e X sc _ _ y.x dx (by assumption)) (noSwap_ok y hs)
                · exact bad
            · have hn : ∀ e : Expr, (∀ a b c, e = .Tuple a b c → False) → notTup e = true := by
                intro e n
                cases e <;> first | rfl | exact (n _ _ _ rfl).elim
              exact sw_tupX y (by assumption) (W.e X sc _ _ y.x dx (by assumption)) (swN_other (hn _ (by assumption)))
          · exact bad
      · split
        · split
          · exact sw_if (W.t X sc _ _ y.x dx (by assumption)) (ih.2 X sc _ y dx) (ih.2 X sc _ y dx)
          · exact sw_ifU (W.t X sc _ _ y.x dx (by assumption)) (ih.2 X sc _ y dx) (ih.2 X sc _ y dx)
        · exact bad
      · split
        · exact old _
        · split
          · split
            · rename_i hm
              subst hm
              split
              · split
                · rename_i hh
                  exact sw_app y.x.M (by rw [y.x.N]; exact ixOf_get (by assumption)) (visB_vis (X := X) hh.1 y.x.sc) (nameB_of hh.2.1).1 (nameB_of hh.2.1).2 (W.e X sc _ _ y.x dx (by assumption)) hh.2.2.1 hh.2.2.2
                · exact bad
              · exact bad
            · exact bad
          · exact bad
      · split
        · split
          · split
            · rename_i hs
              exact sw_for y.x.M hp (S.i X sc _ _ _ y.x (by assumption)) (pg_of y.x (asgD_ok y) 20 _ _ (by assumption)) (ih.2 X sc _ y dx) (fs_of hs _)
            · exact bad
          · exact bad
        · split
          · split
            · rename_i hs
              obtain ⟨h1, h2, h3, h4⟩ := hs
              subst h1
              exact sw_forR y.x.M hp (glB_gl (X := X) h2 y.x.sc) (W.e X sc _ _ y.x dx (by assumption)) h3 (pg_of y.x (asgD_ok y) 20 _ _ (by assumption)) (ih.2 X sc _ y dx) (fs_of h4 _)
            · exact bad
          · exact bad
      · split
        · split
          · split
            · rename_i hs
              exact sw_for y.x.M hp (S.i X sc _ _ _ y.x (by assumption)) (pg_of y.x (asgD_ok y) 20 _ _ (by assumption)) (ih.2 X sc _ y dx) (fs_of hs _)
            · exact bad
          · exact bad
        · exact bad
      · split
        · exact old _
        · split
          · exact sw_ret (W.e X sc _ _ y.x dx (by assumption))
          · exact bad
      · exact old _
    · simp only [cWL]
      split
      · exact sw_nil
      · exact sw_cons (ih.1 X sc _ y dx) (ih.2 X sc _ y dx)
end
end PV
namespace PV
open PySem PySem.Spec PyProof.Rows L2 BK
/-! ### defs that draw -/
def runW (mo : Mo) (dr : Nat → MD) (nl np : Nat) (b : WS) : MD := fun ds P => ds.length = np ∧ exW mo dr b (ds.map Sl.va ++ List.replicate (nl - np) Sl.no) fun o => match o with
  | .rt d => P d
  | .nx _ => P .non
  | _ => False
/-- a take: the count goes on by ee, what is handed on is r -/
def runT (mo : Mo) (nl np : Nat) (ee r : E) : MD := fun ds P => np = 2 ∧ ∃ p sc ns m, ds = [.drw p sc ns, .int m] ∧ ∀ n : Int, ∃ n' j : Int,
  ev mo ee (some (.lst [.scr ns, .int n]) :: some (.int m) :: List.replicate (nl - 2) none) = some (.int n') ∧
  ev mo r (some (.lst [.scr ns, .int n']) :: some (.int m) :: List.replicate (nl - 2) none) = some (.int j) ∧ P (.int j)
/-- the text of a take -/
def takeOf (c : Cc) (sc : Scope) : List Stmt → Option (E × E)
  | [.Assign [.Subscript (.Name x _) (.Constant (.int 1) _ _) _] e _, .Return (some f) _] => if ixOf x c.N = some 0 ∧ visB sc x = true ∧ nameB x = true ∧ isLc e = false then (cE c 60 sc e).bind fun ee => (cE c 60 sc f).map fun r => (ee, r) else none
  | _ => none
def DXG (P : Program) (w : World) (K : PySem.W.Frag) (mg : Str → Option Value) (base : Heap) (G : Gm) (l : Nat) (dr : Nat → MD) (dn : Dn) : Prop :=
  ∀ X : Cx, X.prog = P → X.w = w → X.K = K → X.mg = mg → X.base = base → DX X G l dr dn
section
variable {P : Program} {w : World} {K : PySem.W.Frag} {mg : Str → Option Value} {base : Heap} {G : Gm} {c : Cc} {mo : Mo} {l : Nat} {dr : Nat → MD} {dn : Dn}
theorem fn_okW {x qual : Str} {st : Stmt} {f : Addr} {fd : FuncData} {N ps : List Str} (F : Fun K x qual st f fd) (Sc : FnScope N ps (defScope st)) (hG : MoG P w K mg base G c.Γ mo l) (hD : DXG P w K mg base G l dr dn) (hN : c.N = N) (han : ∀ k, G.an k = anOf c.ats k) (M : List Nat) (n : Nat) :
    FnOk P w K mg base CX0 (l + 3) f fd ps (spW G ps.length (runW mo dr N.length ps.length (cWL c M dn n (defScope st) (defBody st)))) := by
  refine F.ok Sc (fun vs H Q E h => h.1) (fun cdv A outer s H vs Q E hr h => ?_)
  have hpl : ps.length ≤ N.length := by have := congrArg List.length Sc.pre; rw [List.length_take] at this; omega
  obtain ⟨hl, S, ds, Pd, dom, hA, ⟨hds, e⟩, q⟩ := h
  have xs : XS (cxOf CX0 P w K mg base N qual (defScope st) f cdv A outer s H E).nox G c mo l (defScope st) :=
    ⟨hG _ rfl rfl rfl rfl rfl rfl Sc.nd hr, hN.symm, rfl, han⟩
  have ys : YS (cxOf CX0 P w K mg base N qual (defScope st) f cdv A outer s H E).nox G c mo l (defScope st) := ⟨xs, Sc.kind, rfl, fun _ => rfl⟩
  refine ⟨_, (sndWS G c mo l M dr dn n).2 _ _ _ ys (hD _ rfl rfl rfl rfl rfl), ?_⟩
  have se : SE G S H ((fun _ => False), none) H (fun _ => none) (ds.map Sl.va ++ List.replicate (N.length - ps.length) Sl.no) (L2.start N vs) := by
    refine ⟨by rw [start_len]; simp [hA.length, hds], dom, Same.refl _, fun a z => z.elim, fun i a z => (by cases z), fun i j a z => (by cases z), fun i a z => (by cases z), fun i d h => ?_, fun i d h => (init_ow h).elim, fun x z => by cases z⟩
    obtain ⟨v, h1, h2⟩ := hA.get (init_va h)
    exact ⟨v, start_get h1, h2.weak fun a z => z.elim id fun ⟨_, z⟩ => by cases z⟩
  refine ⟨S, H, _, _, _, _, se, e, fun o ho => ?_⟩
  cases o with
  | nx ρ' => exact fun σ' H' A' s' => q .non ho .non H' s'.same .non
  | rt d => exact fun v H' s h => q d ho v H' s h
  | bk _ => exact ho.elim
  | ct _ => exact ho.elim
theorem spW_never {np : Nat} {vs : List V} {H : Hp} {Q : VK} {E : XK} (h : spW G np (fun _ _ => False) vs H Q E) : False := by
  obtain ⟨_, _, _, _, _, _, e, _⟩ := h; exact e
theorem ev_cint5 {i : Int} {ρ : Rho} : ev mo (.cint i) ρ = some (.int i) := by simp only [ev]
theorem take_ok {x qual : Str} {st : Stmt} {f : Addr} {fd : FuncData} {N ps : List Str} (F : Fun K x qual st f fd) (Sc : FnScope N ps (defScope st)) (hG : MoG P w K mg base G c.Γ mo l) (hN : c.N = N) (han : ∀ k, G.an k = anOf c.ats k) {ee r : E}
    (hb : takeOf c (defScope st) (defBody st) = some (ee, r)) : FnOk P w K mg base CX0 (l + 3) f fd ps (spW G ps.length (runT mo N.length ps.length ee r)) := by
  refine F.ok Sc (fun vs H Q E h => h.1) (fun cdv A outer s H vs Q E hr h => ?_)
  have hpl : ps.length ≤ N.length := by have := congrArg List.length Sc.pre; rw [List.length_take] at this; omega
  obtain ⟨hl, S, ds, Pd, dom, hA, ⟨hds, p, sc, ns, m, rfl, e⟩, q⟩ := h
  have x0 : XS (cxOf CX0 P w K mg base N qual (defScope st) f cdv A outer s H E).nox G c mo l (defScope st) :=
    ⟨hG _ rfl rfl rfl rfl rfl rfl Sc.nd hr, hN.symm, rfl, han⟩
  generalize (cxOf CX0 P w K mg base N qual (defScope st) f cdv A outer s H E).nox = X at x0
  unfold takeOf at hb
  split at hb
  · rename_i y py c1 c2 tp e0 pos f0 rp heq
    rw [heq]
    split at hb
    · rename_i hh
      obtain ⟨b1, b2, b3, hlc⟩ := hh
      obtain ⟨ee', b4, hb⟩ := bind_some hb
      obtain ⟨r', b5, hb⟩ := map_some hb
      cases hb
      have hN0 : X.N[0]? = some y := by rw [x0.N]; exact ixOf_get b1
      have pe1 := (snd G c mo l 60).e X _ _ _ x0 b4
      have pe2 := (snd G c mo l 60).e X _ _ _ x0 b5
      have ps1 := ps_asg (X := X) (pos := pos) (tg := .Subscript (.Name y py) (.Constant (.int 1) c1 c2) tp) pe1 (pg_sub (pos := tp) (pe_var hN0 (visB_vis b2 x0.sc) (nameB_of b3).1 (nameB_of b3).2) pe_int set_list (fun v => rfl)) (by
        show swapsWith e0 (some (.Subscript (.Name y py) (.Constant (.int 1) c1 c2) tp)) pos.line X.env = pure false
        exact swap_false fun _ _ z => by cases z) (by cases e0 <;> rfl) rfl
      have pss := pss_draw (pss_cons ps1 (pss_cons (ps_ret (pos := rp) pe2) pss_nil))
      refine ⟨_, pss, ?_⟩
      cases hA with
      | cons h1 hr1 =>
        cases hr1 with
        | cons h2 hr2 =>
          cases hr2
          cases h2
          cases h1 with
          | drw np0 hp hsc =>
            refine ⟨p, sc, hp, fun n => ?_⟩
            obtain ⟨n', j, e1, e2, hP⟩ := e n
            have kp0 : ∀ b o, b ≠ p → H b = some o → (upd H p (.lst [.ref sc, .int n])) b = some o := fun b o nb h => by rw [upd_ne nb]; exact h
            have scp : ∀ {H' : Hp}, (∀ b o, b ≠ p → H b = some o → H' b = some o) → Rp G S H' (.ref sc) (.scr ns) := fun {H'} kp => by
              have nq : ∀ {o : HO}, H sc = some o → (∀ f, o ≠ .ext f) → sc ≠ p := fun h1 h2 z => by
                subst z
                rw [hp] at h1
                cases h1
                exact h2 _ rfl
              rcases hsc with ⟨n0, q⟩ | ⟨o, q⟩ | q
              · exact .scr0 n0 (kp _ _ (nq q fun _ z => by cases z) q)
              · exact .scr1 (kp _ _ (nq q fun _ z => by cases z) q)
              · exact .scr2 q
            have rv : ∀ (H' : Hp) (n1 : Int), (∀ b o, b ≠ p → H b = some o → H' b = some o) → H' p = some (.lst [.ref sc, .int n1]) →
                RV G S H' (some (.lst [.scr ns, .int n1]) :: some (.int m) :: List.replicate (N.length - 2) none) (L2.start N [.ref p, .int m]) := fun H' n1 kp hH => by
              refine ⟨by rw [start_len]; simp only [List.length_cons, List.length_nil, List.length_replicate]; omega, fun a z => ?_, fun i d h => ?_⟩
              · obtain ⟨o, h1, h2⟩ := dom a z
                exact ⟨o, kp _ _ (fun e => np0 (e ▸ z)) h1, h2⟩
              · rcases i with _ | _ | i
                · cases h
                  exact ⟨_, start_get rfl, .lst np0 hH (.cons (scp kp) (.cons (.int _) .nil))⟩
                · cases h
                  exact ⟨_, start_get rfl, .int _⟩
                · simp only [List.getElem?_cons_succ, List.getElem?_replicate] at h
                  split at h <;> cases h
            refine tE_run (rv _ n kp0 upd_same) e1 fun v H1 s1 r1 hv => ?_
            cases hv
            have hp1 : H1 p = some (.lst [.ref sc, .int n]) := s1 _ _ upd_same
            refine ⟨_, start_get rfl, p, [.ref sc, .int n], 1, 1, rfl, rfl, hp1, rfl, ?_⟩
            have kp1 : ∀ b o, b ≠ p → H b = some o → (upd H1 p (.lst [.ref sc, .int n'])) b = some o := fun b o nb h => by rw [upd_ne nb]; exact s1 _ _ (kp0 b o nb h)
            refine tE_run (rv _ n' kp1 upd_same) e2 fun v H2 s2 r2 hv => ?_
            cases hv
            have hp2 : H2 p = some (.lst [.ref sc, .int n']) := s2 _ _ upd_same
            refine ⟨⟨n', hp2⟩, q _ hP _ _ (fun b o h => ?_) (.int _)⟩
            by_cases hb : b = p
            · subst hb
              rw [hp] at h
              cases h
              exact upd_same
            · rw [upd_ne hb]; exact s2 _ _ (kp1 b o hb h)
    · cases hb
  · cases hb
end
end PV
namespace PV
open PySem PySem.Spec PyProof.Rows L2 BK
/-! ### a table with defs that draw -/
inductive DW where
  | take (ee r : E) | fn (w : WS)
abbrev Wb := List (Nat × DW)
def dnOf (t : Tb) (ws : List Nat) : Dn := ws.filterMap fun k => (t.fns[k]?).map fun d => (d.at_.1, k)
def compDW (t : Tb) (dn : Dn) (d : Df) : DW := match takeOf (t.cc d) (defScope d.st) (defBody d.st) with
  | some q => .take q.1 q.2
  | none => .fn (cWL (t.cc d) d.muts dn 60 (defScope d.st) (defBody d.st))
def Tb.compW (t : Tb) (ws : List Nat) (k : Nat) : Option DW := (t.fns[k]?).map (compDW t (dnOf t ws))
def drD (mo : Mo) (dr : Nat → MD) (d : Df) : DW → MD
  | .take ee r => runT mo d.N.length d.np ee r
  | .fn w => runW mo dr d.N.length d.np w
def Tb.dr (t : Tb) (wb : Wb) : Nat → Nat → MD
  | 0 => fun _ _ _ => False
  | n + 1 => fun k => match wb.lookup k, t.fns[k]? with
    | some q, some d => drD (t.mo n) (t.dr wb n) d q
    | _, _ => fun _ _ => False
theorem look_memN {α : Type} {x : Nat} {v : α} : ∀ {l : List (Nat × α)}, l.lookup x = some v → (x, v) ∈ l
  | [], h => by simp at h
  | (y, w) :: r, h => by
    rw [List.lookup_cons] at h
    cases e : x == y with
    | true =>
      rw [e] at h
      have : x = y := by simpa using e
      cases h; rw [this]; exact List.mem_cons_self
    | false =>
      rw [e] at h
      exact List.mem_cons_of_mem _ (look_memN h)
section
variable {P : Program} {w : World} {K : PySem.W.Frag} {mg : Str → Option Value} {base h : Heap} {t : Tb} {wb : Wb}
/-- the promises of the drawing defs at a level -/
def AtW (P : Program) (w : World) (K : PySem.W.Frag) (mg : Str → Option Value) (base : Heap) (t : Tb) (dr : Nat → MD) (l : Nat) : Prop :=
  ∀ k d, t.fns[k]? = some d → (∀ fd, Fun K d.name d.qual d.st (He.fAd K d.at_) fd → FnOk P w K mg base CX0 l (He.fAd K d.at_) fd d.ps (spW (t.G K) d.ps.length (dr k))) ∧ ∀ ds Pd, dr k ds Pd → ds.length = d.ps.length
theorem AtW.dx (F : Facts t K) (KX : K.In h) (hn : h.Ns mainGlobals mg) {dr : Nat → MD} {l : Nat} (A : AtW P w K mg base t dr l) (ws : List Nat) : DXG P w K mg base (t.G K) l dr (dnOf t ws) := by
  intro X eP ew eK em eb
  refine ⟨fun x k hm => ?_⟩
  obtain ⟨k', _, e⟩ := List.mem_filterMap.mp hm
  obtain ⟨d, e1, e2⟩ := map_some e
  cases e2
  have hd := List.mem_of_getElem? e1
  obtain ⟨fd, f0, f3, f4⟩ := F.fun_ (mem_fns hd)
  obtain ⟨a1, a2⟩ := A _ _ e1
  refine ⟨He.fAd K d.at_, fd, d.ps, ⟨?_, a2, ?_, ?_⟩, ?_⟩
  · rw [eP, ew, eK, em, eb]; exact a1 fd f0
  · rw [eK]; exact f3
  · rw [eK]; exact f4
  · rw [em, fad_f (F.stat.2.2.2.2.2.2.1 d hd)]
    exact He.glo_ok KX hn (F.okb.fns d hd)
theorem drD_ar {mo : Mo} {dr : Nat → MD} {d : Df} {q : DW} {ds : List D} {Pd : D → Prop} (h : drD mo dr d q ds Pd) : ds.length = d.np := by
  cases q with
  | take ee r => obtain ⟨e, p, sc, ns, m, rfl, _⟩ := h; rw [e]; rfl
  | fn s => exact h.1
theorem Facts.stepW (F : Facts t K) (KX : K.In h) (hn : h.Ns mainGlobals mg) (hw : (wb.map fun q => some q.2) = wb.map fun q => t.compW (wb.map (·.1)) q.1) {n l : Nat} (A : AtL P w K mg base t (t.mo n) l) (B : AtW P w K mg base t (t.dr wb n) l) :
    AtW P w K mg base t (t.dr wb (n + 1)) (l + 3) := by
  have hG := F.moOk KX hn A
  have hD := B.dx F KX hn (wb.map (·.1))
  intro k d e
  have hd := mem_fns (List.mem_of_getElem? e)
  obtain ⟨sc, sl⟩ := F.ps hd
  have ed : t.dr wb (n + 1) k = match wb.lookup k with
      | some q => drD (t.mo n) (t.dr wb n) d q
      | none => fun _ _ => False := by
    show (match wb.lookup k, t.fns[k]? with
      | some q, some d => drD (t.mo n) (t.dr wb n) d q
      | _, _ => fun _ _ => False) = _
    rw [e]
    cases wb.lookup k <;> rfl
  rw [ed]
  cases eq : wb.lookup k with
  | none => exact ⟨fun fd f1 => ⟨fun vs H Q E h => h.1, fun A o s H args us vs Q E _ _ _ _ h => (spW_never h).elim⟩, fun ds Pd h => h.elim⟩
  | some q =>
    have eW : some q = t.compW (wb.map (·.1)) k := map_eq_mem hw (k, q) (look_memN eq)
    unfold Tb.compW at eW
    rw [e] at eW
    have eW : q = compDW t (dnOf t (wb.map (·.1))) d := Option.some.inj eW
    refine ⟨fun fd f1 => ?_, fun ds Pd h => by rw [sl]; exact drD_ar h⟩
    unfold compDW at eW
    cases et : takeOf (t.cc d) (defScope d.st) (defBody d.st) with
    | some z =>
      rw [et] at eW
      subst eW
      have := take_ok (P := P) (w := w) (mg := mg) (base := base) (mo := t.mo n) (l := l) (c := t.cc d) f1 sc hG rfl (fun k => rfl) (ee := z.1) (r := z.2) et
      rw [sl] at this ⊢
      exact this
    | none =>
      rw [et] at eW
      subst eW
      have := fn_okW (P := P) (w := w) (mg := mg) (base := base) (mo := t.mo n) (l := l) (c := t.cc d) f1 sc hG hD rfl (fun k => rfl) d.muts 60
      rw [sl] at this ⊢
      exact this
theorem Facts.atW (F : Facts t K) (KX : K.In h) (hn : h.Ns mainGlobals mg) (hw : (wb.map fun q => some q.2) = wb.map fun q => t.compW (wb.map (·.1)) q.1) : ∀ n, AtW P w K mg base t (t.dr wb n) (3 * n)
  | 0 => fun k d e => ⟨fun fd f1 => ⟨fun vs H Q E h => h.1, fun A o s H args us vs Q E _ _ _ _ h => (spW_never h).elim⟩, fun ds Pd h => h.elim⟩
  | n + 1 => F.stepW KX hn hw (F.at_ KX hn n) (F.atW KX hn hw n)
theorem Facts.lawW (F : Facts t K) (KX : K.In h) (hn : h.Ns mainGlobals mg) (hw : (wb.map fun q => some q.2) = wb.map fun q => t.compW (wb.map (·.1)) q.1) {n k : Nat} {d : Df} {f : Addr} (e : t.fns[k]? = some d) (hf : mg d.at_.1 = some (.ref f)) (hnp : d.ps = [("script" : Str)]) :
    ∃ fd : FuncData, (∀ (s : Shared) (v : Value), BindsTo s fd ⟨[v], []⟩ [("script", v)]) ∧ ∀ base : Heap, FnOk P w K mg base CX0 (3 * n) f fd ["script"] (spW (t.G K) 1 (t.dr wb n k)) := by
  have hd := mem_fns (List.mem_of_getElem? e)
  have ef : He.fAd K d.at_ = f := by
    have z := He.glo_ok KX hn (F.okb.fns d (List.mem_of_getElem? e))
    rw [← fad_f (F.stat.2.2.2.2.2.2.1 d (List.mem_of_getElem? e)), hf] at z
    cases z; rfl
  obtain ⟨fd, f0, f3, f4⟩ := F.fun_ hd
  refine ⟨fd, fun s v => ?_, fun base => ?_⟩
  · obtain ⟨oc, od, kV, doc, pm, an, cdv, ct, osl, rfl, lk, hcd⟩ := f0.ex
    have z := F.bi d hd kV doc pm an cdv ct [v] (by rw [hnp]; rfl)
    rw [hnp] at z
    exact .of_eq z
  · have z := ((F.atW (P := P) (w := w) (base := base) KX hn hw n) k d e).1 fd f0
    rw [ef, hnp] at z
    exact z
theorem law_spW {md : MD} (hg : ∀ ns : List Int, ns.length ≤ 63 → md [.scr ns] fun d => d = .bl true) (H : Hp) (a : Addr) (ns : List Int) (hl : ns.length ≤ 63) (hO : Only H) (hS : SqL K H a (ns.map V.int)) :
    spW (t.G K) 1 md [.ref a] H (fun v _ => v = .bl true) (fun _ _ _ => False) := by
  refine ⟨rfl, fun _ => False, [.scr ns], _, fun a z => z.elim, .cons (scr_rp hO hS) .nil, hg ns hl, fun d hd v H' _ h => ?_⟩
  subst hd
  cases h; rfl
/-- a law that draws, walked by its term -/
theorem walkW {l : PySem.W.OpenLaw} {q : Program} {loose : List Str} {XP : (Str → Option Value) → Heap → Prop} {d : DefRec} {n k : Nat} {df : Df}
    (hn : l.most = some 63) (hdf : d.params.defaults = []) (hr : Room (3 * n) callerA) (st : t.stat = true) (bi : (t.all.all fun d => plainA (defArgs d.st) d.ps) = true) (tm : (t.all.map fun d => d.tm) = t.all.map t.comp)
    (hw : (wb.map fun q => some q.2) = wb.map fun q => t.compW (wb.map (·.1)) q.1)
    (ek : t.fns[k]? = some df) (en : df.at_.1 = d.name) (ep : df.ps = [("script" : Str)]) (hg : ∀ ns : List Int, ns.length ≤ 63 → t.dr wb n k [.scr ns] fun d => d = .bl true) :
    PySem.W.WalkO q loose XP (hookR t).says l.row.toRowW d [] (fun f vs => PySem.call f vs) := by
  refine L2.walk_ofE (l := l) (n := 63) (k := 3 * n) (x := "script") (CX := L2.CX0) hn (by decide) hdf hr ?_ (fun _ _ _ _ z => z)
  intro w mg fa h Y G hmg
  obtain ⟨K, KX, c⟩ := Y
  have F := facts_of st bi tm (says_R st c)
  obtain ⟨fd, hb, hF⟩ := F.lawW (P := l.prog) (w := w) KX G hw (n := n) ek (by rw [en]; exact hmg) ep
  exact ⟨K, fd, spW (t.G K) 1 (t.dr wb n k), KX, hb, fun H a ns hl hO hS => law_spW hg H a ns hl hO hS, fun base _ _ => hF base⟩
end
end PV
namespace TT
open PySem PV
def w20e : E := (.bin .add (.idx (.var 0) (.cint 1)) (.cint 1))
def w20r : E := (.bin .mod (.bi .int (.cons (.call 19 (.cons (.idx (.var 0) (.cint 0)) (.cons (.bi .int (.cons (.idx (.var 0) (.cint 1)) .nil)) .nil))) .nil)) (.var 1))
def w21 : WS := (.seq (.st (.own 2 ⟨[], false⟩ (.lst .nil))) (.seq (.forW (.nm 3) (.bin .add (.pu (.cint 1)) (.drw 20 (.cons (.pu (.var 0)) (.cons (.pu (.var 1)) .nil)))) (.seq (.set 4 (.ite (.cmp .eq (.drw 20 (.cons (.pu (.var 0)) (.cons (.pu (.cint 3)) .nil))) (.pu (.cint 0))) (.drw 20 (.cons (.pu (.var 0)) (.cons (.pu (.cint 10)) .nil))) (.drw 20 (.cons (.pu (.var 0)) (.cons (.pu (.cint 4)) .nil))))) (.seq (.app 2 [2] (.ite (.and (.pu (.cmp .ne (.var 2) (.lst .nil))) (.cmp .eq (.drw 20 (.cons (.pu (.var 0)) (.cons (.pu (.cint 4)) .nil))) (.pu (.cint 0)))) (.pu (.idx (.var 2) (.neg (.cint 1)))) (.pu (.var 4)))) .nop))) (.seq (.st (.ret (.var 2))) .nop)))
def w22 : WS := (.seq (.ret (.bi .tuple (.cons (.bin .add (.pu (.lst (.cons (.cint 0) .nil))) (.lc (.nm 2) (.rng2 (.cint 1) (.var 1)) (.cmp .eq (.drw 20 (.cons (.pu (.var 0)) (.cons (.pu (.cint 2)) .nil))) (.pu (.cint 0))) (.pu (.var 2)) [2])) .nil))) .nop)
def w25 : WS := (.seq (.set 7 (.drw 20 (.cons (.pu (.var 0)) (.cons (.pu (.var 1)) .nil)))) (.seq (.set 8 (.bin .add (.pu (.bin .add (.var 7) (.cint 1))) (.drw 20 (.cons (.pu (.var 0)) (.cons (.pu (.bin .sub (.var 1) (.var 7))) .nil))))) (.seq (.st (.set 9 ⟨[], false⟩ (.lst .nil))) (.seq (.for (.tp (.cons (.nm 13) (.cons (.tp (.cons (.nm 14) (.cons (.nm 15) .nil))) .nil))) (.zip2 (.var 5) (.var 4)) (.seq (.st (.set 9 ⟨[], false⟩ (.bin .add (.var 9) (.bin .mul (.lst (.cons (.bin .mul (.var 13) (.bin .fdiv (.cint 27720) (.bin .sub (.var 15) (.var 14)))) .nil)) (.bin .sub (.var 15) (.var 14)))))) .nop)) (.seq (.ife (.pu (.cmp .ne (.call 17 (.cons (.var 6) (.cons (.var 7) (.cons (.var 8) .nil)))) (.call 24 (.cons (.bi .sum (.cons (.slc (.var 9) (.som (.var 7)) (.som (.var 8))) .nil)) (.cons (.cint 27720) .nil))))) (.seq (.st (.ret (.cbl false))) .nop) .nop) (.seq (.set 10 (.bi .tuple (.cons (.bin .add (.pu (.lst (.cons (.cint 0) .nil))) (.lc (.nm 16) (.of (.slc (.var 3) (.som (.cint 1)) .non)) (.cmp .eq (.drw 20 (.cons (.pu (.var 0)) (.cons (.pu (.cint 2)) .nil))) (.pu (.cint 0))) (.pu (.var 16)) [16])) .nil))) (.seq (.ife (.pu (.or (.cmp .ne (.call 18 (.cons (.var 6) (.cons (.var 10) .nil))) (.call 14 (.cons (.var 2) (.cons (.var 10) .nil)))) (.cmp .ne (.call 18 (.cons (.var 6) (.cons (.var 3) .nil))) (.var 6)))) (.seq (.st (.ret (.cbl false))) .nop) .nop) (.seq (.ife (.pu (.or (.cmp .ne (.bi .sum (.cons (.fld (.var 6) 6) .nil)) (.me 8 (.var 2) .nil)) (.cmp .ne (.call 17 (.cons (.var 6) (.cons (.cint 0) (.cons (.var 1) .nil)))) (.tup (.cons (.me 8 (.var 2) .nil) (.cons (.cint 1) .nil)))))) (.seq (.st (.ret (.cbl false))) .nop) .nop) (.seq (.st (.own 11 ⟨[], false⟩ (.bi .list (.cons (.var 5) .nil)))) (.seq (.setU [11] 12 (.drw 20 (.cons (.pu (.var 0)) (.cons (.pu (.bi .len (.cons (.var 11) .nil))) .nil)))) (.seq (.st (.sto 11 ⟨[11], true⟩ (.var 12) (.ite (.cmp .gt (.idx (.var 11) (.var 12)) (.cint 0)) (.cint 0) (.cint 1)))) (.seq (.ifU [11] (.pu (.or (.cmp .eq (.var 6) (.mk 1 (.cons (.var 1) (.cons (.var 3) (.cons (.bi .tuple (.cons (.var 11) .nil)) .nil))))) (.and (.cmp .lt (.var 1) (.cint 12)) (.cmp .eq (.var 6) (.mk 1 (.cons (.bin .add (.var 1) (.cint 1)) (.cons (.var 3) (.cons (.var 5) .nil)))))))) (.seq (.st (.ret (.cbl false))) .nop) .nop) (.seq (.st (.ret (.cbl true))) .nop)))))))))))))
def w26 : WS := (.seq (.set 1 (.newd (.cons (.pu (.var 0)) (.cons (.pu (.cint 0)) .nil)))) (.seq (.for (.nm 2) (.rng1 (.cint 5)) (.seq (.set 3 (.drw 21 (.cons (.pu (.var 1)) (.cons (.pu (.cint 12)) .nil)))) (.seq (.st (.tgt (.tp (.cons (.nm 8) (.cons (.nm 9) .nil))) ⟨[], false⟩ (.tup (.cons (.bi .len (.cons (.var 3) .nil)) (.cons (.mk 0 (.cons (.var 3) .nil)) .nil))))) (.seq (.set 4 (.drw 22 (.cons (.pu (.var 1)) (.cons (.pu (.var 8)) .nil)))) (.seq (.st (.set 5 ⟨[], false⟩ (.call 23 (.cons (.var 8) (.cons (.var 4) .nil))))) (.seq (.st (.set 6 ⟨[], false⟩ (.bi .tuple (.cons (.lc (.tp (.cons (.nm 10) (.cons (.nm 11) .nil))) (.of (.var 5)) (.cbl true) (.bi .sum (.cons (.slc (.var 3) (.som (.var 10)) (.som (.var 11))) .nil)) [10, 11]) .nil)))) (.seq (.st (.set 7 ⟨[], false⟩ (.call 14 (.cons (.var 9) (.cons (.var 4) .nil))))) (.seq (.ife (.pu (.cmp .ne (.tup (.cons (.fld (.var 7) 4) (.cons (.fld (.var 7) 5) (.cons (.fld (.var 7) 6) (.cons (.bi .len (.cons (.var 7) .nil)) .nil))))) (.tup (.cons (.var 8) (.cons (.var 4) (.cons (.var 6) (.cons (.bi .len (.cons (.var 4) .nil)) .nil))))))) (.seq (.st (.ret (.cbl false))) .nop) .nop) (.seq (.ife (.pu (.cmp .ne (.me 7 (.var 7) .nil) (.var 5))) (.seq (.st (.ret (.cbl false))) .nop) .nop) (.seq (.ife (.pu (.cmp .ne (.call 15 (.cons (.var 9) (.cons (.var 4) .nil))) (.bi .tuple (.cons (.lc (.tp (.cons (.nm 10) (.cons (.nm 11) .nil))) (.of (.var 5)) (.cbl true) (.bi .max (.cons (.slc (.var 3) (.som (.var 10)) (.som (.var 11))) .nil)) [10, 11]) .nil)))) (.seq (.st (.ret (.cbl false))) .nop) .nop) (.seq (.ife (.pu (.cmp .ne (.call 16 (.cons (.var 9) (.cons (.var 4) .nil))) (.bi .tuple (.cons (.lc (.tp (.cons (.nm 10) (.cons (.nm 11) .nil))) (.of (.var 5)) (.cbl true) (.bi .len (.cons (.lc (.nm 12) (.of (.slc (.var 3) (.som (.var 10)) (.som (.var 11)))) (.cmp .gt (.var 12) (.cint 0)) (.var 12) [12]) .nil)) [10, 11]) .nil)))) (.seq (.st (.ret (.cbl false))) .nop) .nop) (.seq (.ife (.pu (.or (.cmp .ne (.var 7) (.mk 1 (.cons (.var 8) (.cons (.var 4) (.cons (.var 6) .nil))))) (.and (.cmp .gt (.bi .len (.cons (.var 4) .nil)) (.cint 1)) (.cmp .eq (.var 7) (.call 14 (.cons (.var 9) (.cons (.slc (.var 4) .non (.som (.neg (.cint 1)))) .nil))))))) (.seq (.st (.ret (.cbl false))) .nop) .nop) (.seq (.ife (.not (.drw 25 (.cons (.pu (.var 1)) (.cons (.pu (.var 8)) (.cons (.pu (.var 9)) (.cons (.pu (.var 4)) (.cons (.pu (.var 5)) (.cons (.pu (.var 6)) (.cons (.pu (.var 7)) .nil))))))))) (.seq (.st (.ret (.cbl false))) .nop) .nop) .nop))))))))))))) (.seq (.st (.ret (.cbl true))) .nop)))
def wb : Wb := [(20, .take w20e w20r), (21, .fn w21), (22, .fn w22), (25, .fn w25), (26, .fn w26)]
theorem hw : (wb.map fun q => some q.2) = wb.map fun q => tb.compW (wb.map (·.1)) q.1 := by kernel_rfl
end TT
namespace PV
open PySem L2
section
variable {mo : Mo} {ρ : Rho} {r : Ro}
@[simp] theorem ev_sset {a : E} : ev mo (.sset a) ρ = (ev mo a ρ).bind fun x => (itemsD x).bind fun xs => (intsD xs).bind (setK .srt) := by first | (simp only [ev]; done) | (simp only [ev]; rfl) | rfl
@[simp] theorem ev_lrg {it : I} : ev mo (.lrg it) ρ = (evI mo it ρ).bind glst := by first | (simp only [ev]; done) | (simp only [ev]; rfl) | rfl
@[simp] theorem ex_sau {i : Nat} {o : O2} {m : Md} {x e : E} : ex mo (.sau i o m x e) r = (ev mo x (seen m.us 0 r)).bind fun k => (ev mo e (seen m.us 0 r)).bind fun v => match r[i]?, k, v with
    | some (.ow (.lst xs)), .int k, .int y => if 0 ≤ k then (match xs[k.toNat]? with
        | some (.int a) => (match o with
          | .add => some (.nx (r.set i (.ow (.lst (xs.set k.toNat (.int (a + y)))))))
          | .sub => some (.nx (r.set i (.ow (.lst (xs.set k.toNat (.int (a - y)))))))
          | _ => none)
        | _ => none) else none
    | _, _, _ => none := by first | (simp only [ex]; done) | (simp only [ex]; rfl) | rfl
@[simp] theorem cmp_isB {x y : Bool} : cmpD mo .isN (.bl x) (.bl y) = some (.bl (decide (x = y))) := rfl
@[simp] theorem cmp_notB {x y : Bool} : cmpD mo .notN (.bl x) (.bl y) = some (.bl (!decide (x = y))) := rfl
end
/-! ### tuples of ints -/
abbrev tN (ns : List Int) : D := .tup (ns.map D.int)
theorem tN_items (ns : List Int) : itemsD (tN ns) = some (ns.map D.int) := rfl
theorem lim_of {n : Nat} (h : n ≤ 100000) : n ≤ LIM := by unfold LIM; omega
theorem dt_tN (a : List Int) : Dt 1 (tN a) := .tup (Dt.ints 0 a)
theorem tN_inj {a b : List Int} : tN a = tN b ↔ a = b := by
  constructor
  · intro h
    have h' : a.map D.int = b.map D.int := by injection h
    have i1 := intsD_map a
    rw [h', intsD_map] at i1
    exact (Option.some.inj i1).symm
  · rintro rfl; rfl
theorem eq_tN {mo : Mo} (a b : List Int) : eqD mo (tN a) (tN b) = some (decide (a = b)) := by
  obtain ⟨k, h1, h2⟩ := eqD_dt (mo := mo) (dt_tN a) (dt_tN b) (by decide)
  rw [h1]
  congr 1
  rw [Bool.eq_iff_iff, h2, decide_eq_true_eq, tN_inj]
theorem eq_t0 {mo : Mo} (a : List Int) : eqD mo (tN a) (.tup []) = some (decide (a = [])) := eq_tN a []
theorem eq_2 {mo : Mo} (i j i' j' : Int) : eqD mo (.tup [.int i, .int j]) (.tup [.int i', .int j']) = some (decide (i = i') && decide (j = j')) := by
  have h := eq_tN (mo := mo) [i, j] [i', j']
  have e : decide ([i, j] = [i', j']) = (decide (i = i') && decide (j = j')) := by
    rw [Bool.eq_iff_iff, Bool.and_eq_true, decide_eq_true_eq, decide_eq_true_eq, decide_eq_true_eq]
    simp
  rw [e] at h
  exact h
/-- lists of ints -/
theorem eq_lI {mo : Mo} (a b : List Int) : eqD mo (.lst (a.map D.int)) (.lst (b.map D.int)) = some (decide (a = b)) := by
  obtain ⟨k, h1, h2⟩ := eqD_dt (mo := mo) (Dt.lst (n := 0) (Dt.ints 0 a)) (Dt.lst (n := 0) (Dt.ints 0 b)) (by decide)
  rw [h1]
  congr 1
  rw [Bool.eq_iff_iff, h2, decide_eq_true_eq]
  constructor
  · intro h
    have h' : a.map D.int = b.map D.int := by injection h
    have i1 := intsD_map a
    rw [h', intsD_map] at i1
    exact (Option.some.inj i1).symm
  · rintro rfl; rfl
theorem cut_tail (xs : List D) : cutD xs (some 1) none = xs.tail := by
  have := cut_from xs 1
  rw [List.drop_one] at this
  exact this
end PV
namespace PV
open PySem L2
section
variable {mo : Mo} {dr : Nat → MD} {ρ : Rho} {r : Ro}
@[simp] theorem evW_pu {e : E} {P : D → Prop} : evW mo dr (.pu e) ρ P = (∃ d, ev mo e ρ = some d ∧ P d) := by simp only [evW]
@[simp] theorem evW_bin {o : O2} {a b : WT} {P : D → Prop} : evW mo dr (.bin o a b) ρ P = evW mo dr a ρ fun x => evW mo dr b ρ fun y => ∃ d, binD o x y = some d ∧ P d := by simp only [evW]
@[simp] theorem evW_cmp {o : Cm} {a b : WT} {P : D → Prop} : evW mo dr (.cmp o a b) ρ P = evW mo dr a ρ fun x => evW mo dr b ρ fun y => ∃ d, cmpD mo o x y = some d ∧ P d := by simp only [evW]
@[simp] theorem evW_not {a : WT} {P : D → Prop} : evW mo dr (.not a) ρ P = evW mo dr a ρ fun x => ∃ k, x = .bl k ∧ P (.bl (!k)) := by simp only [evW]
@[simp] theorem evW_ite {c a b : WT} {P : D → Prop} : evW mo dr (.ite c a b) ρ P = evW mo dr c ρ fun x => ∃ k, x = .bl k ∧ (k = true → evW mo dr a ρ P) ∧ (k = false → evW mo dr b ρ P) := by simp only [evW]
@[simp] theorem evW_tup {es : WTs} {P : D → Prop} : evW mo dr (.tup es) ρ P = evWs mo dr es ρ fun ds => ∃ d, gtup ds = some d ∧ P d := by simp only [evW]
@[simp] theorem evW_lst {es : WTs} {P : D → Prop} : evW mo dr (.lst es) ρ P = evWs mo dr es ρ fun ds => ∃ d, glst ds = some d ∧ P d := by simp only [evW]
@[simp] theorem evW_idx {a b : WT} {P : D → Prop} : evW mo dr (.idx a b) ρ P = evW mo dr a ρ fun x => evW mo dr b ρ fun y => ∃ xs i d, (x = .tup xs ∨ x = .lst xs) ∧ y = .int i ∧ L2.atI xs i = some d ∧ P d := by simp only [evW]
@[simp] theorem evW_call {k : Nat} {es : WTs} {P : D → Prop} : evW mo dr (.call k es) ρ P = evWs mo dr es ρ fun ds => ∃ d, mo.fn k ds = some d ∧ P d := by simp only [evW]
@[simp] theorem evW_mk {k : Nat} {es : WTs} {P : D → Prop} : evW mo dr (.mk k es) ρ P = ((∃ ds d, mo.mkD k ds = some d) ∧ evWs mo dr es ρ fun ds => ∃ d, mo.mkD k ds = some d ∧ P d) := by simp only [evW]
@[simp] theorem evW_bi {f : BI} {es : WTs} {P : D → Prop} : evW mo dr (.bi f es) ρ P = evWs mo dr es ρ fun ds => ∃ d, biD mo f ds = some d ∧ P d := by simp only [evW]
@[simp] theorem evW_drw {k : Nat} {es : WTs} {P : D → Prop} : evW mo dr (.drw k es) ρ P = evWs mo dr es ρ fun ds => dr k ds P := by simp only [evW]
@[simp] theorem evW_newd {es : WTs} {P : D → Prop} : evW mo dr (.newd es) ρ P = evWs mo dr es ρ fun ds => ∃ ns i, ds = [.scr ns, .int i] ∧ ∀ p sc, P (.drw p sc ns) := by simp only [evW]
@[simp] theorem evW_and {a b : WT} {P : D → Prop} : evW mo dr (.and a b) ρ P = evW mo dr a ρ fun x => ∃ k, x = .bl k ∧ (k = true → evW mo dr b ρ P) ∧ (k = false → P (.bl false)) := by simp only [evW]
@[simp] theorem evW_or {a b : WT} {P : D → Prop} : evW mo dr (.or a b) ρ P = evW mo dr a ρ fun x => ∃ k, x = .bl k ∧ (k = true → P (.bl true)) ∧ (k = false → evW mo dr b ρ P) := by simp only [evW]
/-- one item of a comprehension that draws -/
def itX (mo : Mo) (dr : Nat → MD) (t : T) (c e : WT) (vs : List Nat) (ρ : Rho) (x : D) (K : Option D → Prop) : Prop := ∃ ρ2, bindT t x (wipeO ρ vs) = some ρ2 ∧ evW mo dr c ρ2 fun k => ∃ b, k = .bl b ∧ (b = true → evW mo dr e ρ2 fun y => K (some y)) ∧ (b = false → K none)
theorem evW_lc {t : T} {it : I} {c e : WT} {vs : List Nat} {P : D → Prop} : evW mo dr (.lc t it c e vs) ρ P = (∃ xs, evI mo it ρ = some xs ∧ xs.length ≤ LIM ∧ mapX (itX mo dr t c e vs ρ) xs fun ds => P (.lst ds)) := by simp only [evW]; rfl
@[simp] theorem mapX_nil {f : D → (Option D → Prop) → Prop} {P : List D → Prop} : mapX f [] P = P [] := by simp only [mapX]
def consO : Option D → List D → List D
  | some y, r => y :: r
  | none, r => r
theorem mapX_cons {f : D → (Option D → Prop) → Prop} {x : D} {xs : List D} {P : List D → Prop} : mapX f (x :: xs) P = f x fun o => mapX f xs fun r => P (consO o r) := by
  simp only [mapX]
  congr 1
  funext o
  congr 1
  funext r
  cases o <;> rfl
/-- a comprehension whose items all have a property, none left out -/
theorem mapX_all {f : D → (Option D → Prop) → Prop} {R : D → Prop} : ∀ (xs : List D) {P : List D → Prop}, (∀ x ∈ xs, ∀ Q : Option D → Prop, (∀ y, R y → Q (some y)) → f x Q) → (∀ ds, ds.length = xs.length → (∀ d ∈ ds, R d) → P ds) → mapX f xs P
  | [], P, _, q => by rw [mapX_nil]; exact q [] rfl fun _ z => by cases z
  | x :: xs, P, h, q => by
    rw [mapX_cons]
    refine h x List.mem_cons_self _ fun y hy => ?_
    refine mapX_all xs (fun z hz => h z (List.mem_cons_of_mem _ hz)) fun ds hl hd => q (y :: ds) (by simp [hl]) fun d hm => ?_
    rcases List.mem_cons.mp hm with e | e
    · rw [e]; exact hy
    · exact hd d e
/-- a comprehension that keeps some of its items -/
theorem mapX_sub {f : D → (Option D → Prop) → Prop} {g : D → D} : ∀ (xs : List D) {P : List D → Prop}, (∀ x ∈ xs, ∀ Q : Option D → Prop, Q (some (g x)) → Q none → f x Q) → (∀ ys : List D, ys.Sublist xs → P (ys.map g)) → mapX f xs P
  | [], P, _, q => by rw [mapX_nil]; exact q [] .slnil
  | x :: xs, P, h, q => by
    rw [mapX_cons]
    refine h x List.mem_cons_self _ ?_ ?_
    · exact mapX_sub xs (fun z hz => h z (List.mem_cons_of_mem _ hz)) fun ys s => q (x :: ys) (s.cons₂ x)
    · exact mapX_sub xs (fun z hz => h z (List.mem_cons_of_mem _ hz)) fun ys s => q ys (s.cons x)
@[simp] theorem evWs_nil {P : List D → Prop} : evWs mo dr .nil ρ P = P [] := by simp only [evWs]
@[simp] theorem evWs_cons {a : WT} {es : WTs} {P : List D → Prop} : evWs mo dr (.cons a es) ρ P = evW mo dr a ρ fun x => evWs mo dr es ρ fun xs => P (x :: xs) := by simp only [evWs]
@[simp] theorem exW_st {s : S} {P : Out → Prop} : exW mo dr (.st s) r P = (∃ o, ex mo s r = some o ∧ P o) := by simp only [exW]
@[simp] theorem exW_nop {P : Out → Prop} : exW mo dr .nop r P = P (.nx r) := by simp only [exW]
/-- what follows -/
def nxW (mo : Mo) (dr : Nat → MD) (b : WS) (P : Out → Prop) : Out → Prop
  | .nx ρ' => exW mo dr b ρ' P
  | o => P o
theorem nxW_nx {b : WS} {P : Out → Prop} : nxW mo dr b P (.nx r) = exW mo dr b r P := rfl
@[simp] theorem nxW_rt {b : WS} {P : Out → Prop} {d : D} : nxW mo dr b P (.rt d) = P (.rt d) := rfl
@[simp] theorem exW_seq {a b : WS} {P : Out → Prop} : exW mo dr (.seq a b) r P = exW mo dr a r (nxW mo dr b P) := by
  simp only [exW]
  congr 1
@[simp] theorem exW_set {i : Nat} {e : WT} {P : Out → Prop} : exW mo dr (.set i e) r P = evW mo dr e (seen [] 0 r) fun d => P (.nx (r.set i (.va d))) := by simp only [exW]
@[simp] theorem exW_setU {us : List Nat} {i : Nat} {e : WT} {P : Out → Prop} : exW mo dr (.setU us i e) r P = evW mo dr e (seen us 0 r) fun d => flatD d = true ∧ P (.nx (r.set i (.va d))) := by simp only [exW]
@[simp] theorem exW_tgt {t : T} {e : WT} {P : Out → Prop} : exW mo dr (.tgt t e) r P = evW mo dr e (seen [] 0 r) fun d => ∃ ρ', bindS t d r = some ρ' ∧ P (.nx ρ') := by simp only [exW]
@[simp] theorem exW_ife {c : WT} {a b : WS} {P : Out → Prop} : exW mo dr (.ife c a b) r P = evW mo dr c (seen [] 0 r) fun d => ∃ k, d = .bl k ∧ (k = true → exW mo dr a r P) ∧ (k = false → exW mo dr b r P) := by simp only [exW]
@[simp] theorem exW_for {t : T} {it : I} {b : WS} {P : Out → Prop} : exW mo dr (.for t it b) r P = (∃ xs, evI mo it (seen [] 0 r) = some xs ∧ loopX (bindS t) (exW mo dr b) xs r P) := by simp only [exW]
@[simp] theorem exW_ifU {us : List Nat} {c : WT} {a b : WS} {P : Out → Prop} : exW mo dr (.ifU us c a b) r P = evW mo dr c (seen us 0 r) fun d => ∃ k, d = .bl k ∧ (k = true → exW mo dr a r P) ∧ (k = false → exW mo dr b r P) := by simp only [exW]
theorem exW_app {i : Nat} {us : List Nat} {e : WT} {P : Out → Prop} : exW mo dr (.app i us e) r P = (∃ xs, r[i]? = some (.ow (.lst xs)) ∧ xs.length < LIM ∧ evW mo dr e (seen us 0 r) fun d => (us = [] ∨ flatD d = true) ∧ P (.nx (r.set i (.ow (.lst (xs ++ [d])))))) := by simp only [exW]
@[simp] theorem exW_forW {t : T} {a : WT} {b : WS} {P : Out → Prop} : exW mo dr (.forW t a b) r P = evW mo dr a (seen [] 0 r) fun d => ∃ j, d = .int j ∧ fitsB j = true ∧ loopX (bindS t) (exW mo dr b) (rngD 0 j.toNat) r P := by simp only [exW]
@[simp] theorem exW_ret {e : WT} {P : Out → Prop} : exW mo dr (.ret e) r P = evW mo dr e (seen (List.range r.length) 0 r) fun d => P (.rt d) := by simp only [exW]
/-- what a turn leaves -/
def lpX (g : D → Ro → Option Ro) (b : Ro → (Out → Prop) → Prop) (xs : List D) (P : Out → Prop) : Out → Prop
  | .nx ρ' => loopX g b xs ρ' P
  | .ct ρ' => loopX g b xs ρ' P
  | .bk ρ' => P (.nx ρ')
  | .rt d => P (.rt d)
theorem loopX_cons {g : D → Ro → Option Ro} {b : Ro → (Out → Prop) → Prop} {x : D} {xs : List D} {P : Out → Prop} : loopX g b (x :: xs) r P = (∃ ρ1, g x r = some ρ1 ∧ b ρ1 (lpX g b xs P)) := by
  have e : (fun o => match o with
    | .nx ρ' => loopX g b xs ρ' P
    | .ct ρ' => loopX g b xs ρ' P
    | .bk ρ' => P (.nx ρ')
    | .rt d => P (.rt d)) = lpX g b xs P := by funext o; cases o <;> rfl
  rw [← e]; rfl
/-- a loop by what holds at each place, its body taken to hand on what it must -/
theorem loopX_ix {g : D → Ro → Option Ro} {b : Ro → (Out → Prop) → Prop} {P : Out → Prop} {J : Nat → Ro → Prop} : ∀ (xs : List D) (k : Nat) (r : Ro), (∀ i x ρ, xs[i]? = some x → J (k + i) ρ → ∃ ρ1, g x ρ = some ρ1 ∧ ∀ Q : Out → Prop, (∀ ρ', J (k + i + 1) ρ' → Q (.nx ρ')) → b ρ1 Q) → J k r → (∀ ρ', J (k + xs.length) ρ' → P (.nx ρ')) → loopX g b xs r P
  | [], k, r, _, h, q => q r h
  | x :: xs, k, r, hb, h, q => by
    rw [loopX_cons]
    obtain ⟨ρ1, h1, h2⟩ := hb 0 x r rfl h
    refine ⟨ρ1, h1, h2 _ fun ρ' hj => ?_⟩
    refine loopX_ix xs (k + 1) ρ' (fun i y ρ hy hp => ?_) hj fun ρ' hp => q ρ' (by rw [List.length_cons, show k + (xs.length + 1) = k + 1 + xs.length by omega]; exact hp)
    have := hb (i + 1) y ρ (by simpa using hy) (by rw [show k + (i + 1) = k + 1 + i by omega]; exact hp)
    rw [show k + (i + 1) + 1 = k + 1 + i + 1 by omega] at this
    exact this
end
end PV
namespace TT
open PySem PV L2 M30 M23
abbrev lN (ns : List Int) : D := .lst (ns.map D.int)
abbrev nL (xs : List Nat) : List Int := List.map (fun x : Nat => (x : Int)) xs
theorem rng_map (R : Nat) : rngD 0 R = (List.range R).map fun i : Nat => D.int (0 + (i : Nat)) := rfl
theorem rng2_map (b l : Nat) : rngD (b : Int) l = (List.range' b l).map fun v : Nat => D.int (v : Int) := by
  unfold rngD
  rw [List.range'_eq_map_range, List.map_map]
  exact List.map_congr_left fun i _ => by simp
/-! ### draws -/
theorem cells_ok (ns : List Int) : ∃ ms : List Int, ms ≠ [] ∧ ms.length ≤ 63 ∧ (if ns.length = 0 then some (D.lst [.int 5]) else slcD (.scr ns) none (some 63)) = some (.lst (ms.map D.int)) := by
  by_cases h : ns.length = 0
  · exact ⟨[5], by simp, by simp, by rw [if_pos h]; rfl⟩
  · refine ⟨ns.take 63, fun e => ?_, List.length_take_le _ _, ?_⟩
    · have : (ns.take 63).length = 0 := by rw [e]; rfl
      rw [List.length_take] at this; omega
    · rw [if_neg h]
      show some (D.lst (cutD (ns.map D.int) none (some ((63 : Nat) : Int)))) = _
      rw [cut_to, List.map_take]
theorem mul48271 {i : Int} : binD .mul (.int i) (.int 48271) = some (.int (i * 48271)) := mul_r (by decide) (by decide)
theorem mul65537 {i : Int} : binD .mul (.int i) (.int 65537) = some (.int (i * 65537)) := mul_r (by decide) (by decide)
theorem mul977 {i : Int} : binD .mul (.int 977) (.int i) = some (.int (977 * i)) := mul_l (by decide) (by decide)
theorem mul31 {i : Int} : binD .mul (.int 31) (.int i) = some (.int (31 * i)) := mul_l (by decide) (by decide)
theorem mul13 {i : Int} : binD .mul (.int 13) (.int i) = some (.int (13 * i)) := mul_l (by decide) (by decide)
theorem modA {i : Int} : binD .mod (.int i) (.int 1000003) = some (.int (i % 1000003)) := mod_ok (by decide)
theorem divA {i : Int} : binD .fdiv (.int i) (.int 1000003) = some (.int (i / 1000003)) := rfl
theorem modB {i : Int} : binD .mod (.int i) (.int 999983) = some (.int (i % 999983)) := mod_ok (by decide)
theorem modE {i : Int} : binD .mod (.int i) (.int 65521) = some (.int (i % 65521)) := mod_ok (by decide)
theorem modC {i : Int} : binD .mod (.int i) (.int 2147483647) = some (.int (i % 2147483647)) := mod_ok (by decide)
theorem modD {i : Int} : binD .mod (.int i) (.int 2147483629) = some (.int (i % 2147483629)) := mod_ok (by decide)
theorem mulC {i j : Int} : binD .mul (.int (i % 2147483647)) (.int j) = some (.int (i % 2147483647 * j)) := by
  have h1 := Int.emod_nonneg i (b := 2147483647) (by decide)
  have h2 := Int.emod_lt_of_pos i (b := 2147483647) (by decide)
  have s : small64B (i % 2147483647) = true := inB_of (by omega) (by omega)
  show (if small64B (i % 2147483647) || small64B j then some (D.int (i % 2147483647 * j)) else none) = _
  rw [s]; rfl
/-- a drawn number -/
theorem r_number (n : Nat) (ns : List Int) (at_ : Int) : ∃ i, (tb.mo (n+1)).fn 19 [.scr ns, .int at_] = some (.int i) := by
  obtain ⟨ms, h0, hl, h1⟩ := cells_ok ns
  have e0 := scr_nil (mo := tb.mo n) ns
  have pos : 0 < (ms.length : Int) := by have := List.length_pos_iff.mpr h0; omega
  have m1 : binD .mod (.int at_) (.int ms.length) = some (.int (at_ % ms.length)) := mod_ok pos
  have d1 : binD .fdiv (.int at_) (.int ms.length) = some (.int (at_ / ms.length)) := div_ok pos (by omega)
  have i0 : 0 ≤ at_ % ms.length := Int.emod_nonneg _ (by omega)
  have i1 : at_ % ms.length < ms.length := Int.emod_lt_of_pos _ pos
  have ix : ∃ c : Int, idxD (tb.mo n) (.lst (ms.map D.int)) (.int (at_ % ms.length)) = some (.int c) := by
    obtain ⟨q, hq⟩ := Int.eq_ofNat_of_zero_le i0
    have hq' : q < ms.length := by omega
    refine ⟨ms[q], ?_⟩
    rw [hq]
    exact atI_map' D.int ms q hq'
  obtain ⟨c, ix⟩ := ix
  rw [u19]
  by_cases z : ns.length = 0
  · rw [if_pos z] at h1
    have h1' : ms.map D.int = [.int 5] := by injection h1 with h1; injection h1 with h1; exact h1.symm
    rw [h1'] at ix
    have l : (ms.length : Int) = 1 := by
      have := congrArg List.length h1'
      simp at this; omega
    rw [l] at m1 d1 ix
    rw [Int.emod_one] at ix
    exact ⟨_, by simp [runF, tm19, e0, z, m1, d1, ix, mul48271, mul65537, mul977, mul31, mul13, modA, divA, modB, modC, modD, modE, mulC, intsD]; rfl⟩
  · rw [if_neg z] at h1
    exact ⟨_, by simp [runF, tm19, e0, z, h1, m1, d1, ix, mul48271, mul65537, mul977, mul31, mul13, modA, divA, modB, modC, modD, modE, mulC, intsD_map]; rfl⟩


theorem dr20 (n : Nat) (ds : List D) (P : D → Prop) : tb.dr wb (n+1) 20 ds P = runT (tb.mo n) 2 2 w20e w20r ds P := rfl
theorem d_take (n : Nat) {p sc : Nat} {ns : List Int} {m : Int} {P : D → Prop} (hm : 0 < m) (h : ∀ j, 0 ≤ j → j < m → P (.int j)) : tb.dr wb (n+2) 20 [.drw p sc ns, .int m] P := by
  rw [dr20]
  refine ⟨rfl, p, sc, ns, m, rfl, fun k => ?_⟩
  obtain ⟨i, e⟩ := r_number n ns (k + 1)
  have i0 : ∀ d d' : D, L2.atI [d, d'] 0 = some d := fun d d' => rfl
  have i1 : ∀ d d' : D, L2.atI [d, d'] 1 = some d' := fun d d' => rfl
  refine ⟨k + 1, i % m, ?_, ?_, h _ (Int.emod_nonneg _ (by omega)) (Int.emod_lt_of_pos _ hm)⟩
  · simp [w20e, idxD, i1]
  · simp [w20r, idxD, i0, i1, e, mod_ok hm]
end TT
namespace TT
open PySem PV L2 M30 M23
/-- ranks of rows -/
def Rk (n : Nat) (s : List Int) : Prop := ∀ r ∈ s, 0 ≤ r ∧ r < (n : Int)
/-- drawn counts -/
structure ColM (M : Int) (cs : List Int) : Prop where
  l1 : 1 ≤ cs.length
  l2 : (cs.length : Int) ≤ M
  v : ∀ c ∈ cs, 0 ≤ c ∧ c ≤ 9
/-- what a take gives, wherever it stands -/
def Tk (dr : Nat → MD) : Prop := ∀ (p sc : Nat) (ns : List Int) (m : Int) (P : D → Prop), 0 < m → (∀ j, 0 ≤ j → j < m → P (.int j)) → dr 20 [.drw p sc ns, .int m] P
theorem tk (n : Nat) : Tk (tb.dr wb (n+2)) := fun p sc ns m P hm h => d_take n hm h
/-- a comprehension over a range that keeps what is drawn -/
theorem some_lc {mo : Mo} {dr : Nat → MD} {t : T} {c e : WT} {vs : List Nat} {ρ : Rho} {R : Nat} {P : List D → Prop}
    (hf : ∀ (i : Nat) (Q : Option D → Prop), Q (some (.int (0 + (i : Nat)))) → Q none → itX mo dr t c e vs ρ (.int (0 + (i : Nat))) Q) (hP : ∀ s : List Int, s.Sublist ((List.range R).map fun i : Nat => 0 + (i : Int)) → P (s.map D.int)) :
    mapX (itX mo dr t c e vs ρ) (rngD 0 R) P := by
  refine mapX_sub (g := fun x => x) (rngD 0 R) (fun x hx Q h1 h2 => ?_) fun ys s => ?_
  · rw [rng_map] at hx
    obtain ⟨i, _, rfl⟩ := List.mem_map.mp hx
    exact hf i Q h1 h2
  · have e : rngD 0 R = ((List.range R).map fun i : Nat => 0 + (i : Int)).map D.int := by rw [List.map_map]; rfl
    rw [e] at s
    obtain ⟨l, h1, rfl⟩ := List.sublist_map_iff.mp s
    rw [List.map_id']
    exact hP l h1
theorem sub_rng {R : Nat} {s : List Int} (h : s.Sublist ((List.range R).map fun i : Nat => 0 + (i : Int))) : s.Pairwise (· < ·) ∧ Rk R s ∧ s.length ≤ R := by
  refine ⟨List.Pairwise.sublist h ?_, fun r hr => ?_, ?_⟩
  · rw [List.pairwise_map]
    exact List.pairwise_lt_range.imp fun h => by omega
  · obtain ⟨i, hi, rfl⟩ := List.mem_map.mp (h.subset hr)
    have := List.mem_range.mp hi
    omega
  · have := h.length_le
    simpa using this
def body21 : WS := (.seq (.set 4 (.ite (.cmp .eq (.drw 20 (.cons (.pu (.var 0)) (.cons (.pu (.cint 3)) .nil))) (.pu (.cint 0))) (.drw 20 (.cons (.pu (.var 0)) (.cons (.pu (.cint 10)) .nil))) (.drw 20 (.cons (.pu (.var 0)) (.cons (.pu (.cint 4)) .nil))))) (.seq (.app 2 [2] (.ite (.and (.pu (.cmp .ne (.var 2) (.lst .nil))) (.cmp .eq (.drw 20 (.cons (.pu (.var 0)) (.cons (.pu (.cint 4)) .nil))) (.pu (.cint 0)))) (.pu (.idx (.var 2) (.neg (.cint 1)))) (.pu (.var 4)))) .nop))
theorem w21_is : w21 = (.seq (.st (.own 2 ⟨[], false⟩ (.lst .nil))) (.seq (.forW (.nm 3) (.bin .add (.pu (.cint 1)) (.drw 20 (.cons (.pu (.var 0)) (.cons (.pu (.var 1)) .nil)))) body21) (.seq (.st (.ret (.var 2))) .nop))) := rfl
section
variable {mo : Mo} {dr : Nat → MD} {p sc : Nat} {ns : List Int} {M : Int}
theorem app21 (T : Tk dr) {cs : List Int} {c : Int} {s3 : D} {P : Out → Prop} (hl : cs.length ≤ 100) (hv : ∀ x ∈ cs, 0 ≤ x ∧ x ≤ 9) (hc : 0 ≤ c ∧ c ≤ 9) (h : ∀ x, 0 ≤ x ∧ x ≤ 9 → P (.nx [.va (.drw p sc ns), .va (.int M), .ow (lN (cs ++ [x])), .va s3, .va (.int c)])) :
    exW mo dr (.app 2 [2] (.ite (.and (.pu (.cmp .ne (.var 2) (.lst .nil))) (.cmp .eq (.drw 20 (.cons (.pu (.var 0)) (.cons (.pu (.cint 4)) .nil))) (.pu (.cint 0)))) (.pu (.idx (.var 2) (.neg (.cint 1)))) (.pu (.var 4)))) [.va (.drw p sc ns), .va (.int M), .ow (lN cs), .va s3, .va (.int c)] P := by
  rw [exW_app]
  refine ⟨_, rfl, (by unfold LIM; simp; omega), ?_⟩
  have hx : ∀ x, 0 ≤ x ∧ x ≤ 9 → P (.nx [.va (.drw p sc ns), .va (.int M), .ow (.lst (cs.map D.int ++ [.int x])), .va s3, .va (.int c)]) := fun x z => by
    have q := h x z
    have e2 : lN (cs ++ [x]) = .lst (cs.map D.int ++ [.int x]) := by simp [lN]
    rw [e2] at q
    exact q
  by_cases e : cs.length = 0
  · have en := eq_nil (mo := mo) cs
    rw [decide_eq_true e] at en
    simp [en, flatD]
    exact hx c hc
  · have en := eq_nil (mo := mo) cs
    rw [decide_eq_false e] at en
    simp [en, flatD]
    refine T p sc ns 4 _ (by decide) fun j j0 j1 => ?_
    obtain ⟨d, x, rfl⟩ : ∃ d x, cs = d ++ [x] := ⟨cs.dropLast, cs.getLast (fun z => e (by rw [z]; rfl)), (List.dropLast_concat_getLast _).symm⟩
    have hix : idxD mo (lN (d ++ [x])) (.int (-1)) = some (.int x) := atI_last D.int d x
    have hxv := hv x (by simp)
    by_cases ej : j = 0
    · simp [ej] at hix ⊢
      simp [hix, flatD]
      have := hx x hxv
      simpa using this
    · simp [ej]
      have := hx c hc
      simpa using this
end
section
variable {mo : Mo} {dr : Nat → MD} {p sc : Nat} {ns : List Int} {M : Int}
theorem set21 (T : Tk dr) {a b s3 s4 : Sl} {P : Out → Prop} (h : ∀ c, 0 ≤ c ∧ c ≤ 9 → P (.nx [.va (.drw p sc ns), a, b, s3, .va (.int c)])) :
    exW mo dr (.set 4 (.ite (.cmp .eq (.drw 20 (.cons (.pu (.var 0)) (.cons (.pu (.cint 3)) .nil))) (.pu (.cint 0))) (.drw 20 (.cons (.pu (.var 0)) (.cons (.pu (.cint 10)) .nil))) (.drw 20 (.cons (.pu (.var 0)) (.cons (.pu (.cint 4)) .nil))))) [.va (.drw p sc ns), a, b, s3, s4] P := by
  simp
  refine T p sc ns 3 _ (by decide) fun j j0 j1 => ?_
  by_cases ej : j = 0
  · simp [ej]
    exact T p sc ns 10 _ (by decide) fun c c0 c1 => h c ⟨c0, by omega⟩
  · simp [ej]
    exact T p sc ns 4 _ (by decide) fun c c0 c1 => h c ⟨c0, by omega⟩
theorem body21_ok (T : Tk dr) {cs : List Int} {s3 : D} {s4 : Sl} {P : Out → Prop} (hl : cs.length ≤ 100) (hv : ∀ x ∈ cs, 0 ≤ x ∧ x ≤ 9) (h : ∀ x c, 0 ≤ x ∧ x ≤ 9 → P (.nx [.va (.drw p sc ns), .va (.int M), .ow (lN (cs ++ [x])), .va s3, .va (.int c)])) :
    exW mo dr body21 [.va (.drw p sc ns), .va (.int M), .ow (lN cs), .va s3, s4] P := by
  unfold body21
  rw [exW_seq]
  refine set21 T fun c hc => ?_
  rw [nxW_nx, exW_seq]
  refine app21 T hl hv hc fun x hx => ?_
  rw [nxW_nx, exW_nop]
  exact h x c hx
theorem run21 (T : Tk dr) (M1 : 1 ≤ M) (M2 : M ≤ 12) {P : D → Prop} (h : ∀ cs, ColM M cs → P (lN cs)) : runW mo dr 5 2 w21 [.drw p sc ns, .int M] P := by
  refine ⟨rfl, ?_⟩
  rw [w21_is]
  simp [nxW_nx]
  refine T p sc ns M _ (by omega) fun j j0 j1 => ?_
  have f : fitsB (1 + j) = true := fits_small (by omega) (by omega)
  simp [f]
  refine loopX_ix (J := fun i ρ => ∃ cs s3 s4, ρ = [.va (.drw p sc ns), .va (.int M), .ow (lN cs), s3, s4] ∧ cs.length = i ∧ ∀ x ∈ cs, 0 ≤ x ∧ x ≤ 9) _ 0 _ (fun i x ρ hx hj => ?_) ⟨[], .no, .no, rfl, rfl, fun _ z => by cases z⟩ fun ρ' hj => ?_
  · obtain ⟨cs, s3, s4, rfl, hl, hv⟩ := hj
    have hi : i < (rngD 0 (1 + j).toNat).length := (List.getElem?_eq_some_iff.mp hx).1
    have hi2 : i < (1 + j).toNat := by unfold rngD at hi; simpa using hi
    refine ⟨_, bindS_nm, fun Q q => ?_⟩
    exact body21_ok T (by omega) hv fun y c hy => q _ ⟨cs ++ [y], .va x, .va (.int c), rfl, by simp; omega, fun z hz => by
      rcases List.mem_append.mp hz with hz | hz
      · exact hv z hz
      · rw [List.mem_singleton.mp hz]; exact hy⟩
  · obtain ⟨cs, s3, s4, rfl, hl, hv⟩ := hj
    have e : (rngD 0 (1 + j).toNat).length = (1 + j).toNat := by unfold rngD; simp
    rw [e] at hl
    simp [nxW_nx]
    exact h cs ⟨by omega, by omega, hv⟩
end
theorem dr21 (n : Nat) (ds : List D) (P : D → Prop) : tb.dr wb (n+1) 21 ds P = runW (tb.mo n) (tb.dr wb n) 5 2 w21 ds P := rfl
theorem d_counts (n : Nat) {p sc : Nat} {ns : List Int} {M : Int} (M1 : 1 ≤ M) (M2 : M ≤ 12) {P : D → Prop} (h : ∀ cs, ColM M cs → P (lN cs)) : tb.dr wb (n+3) 21 [.drw p sc ns, .int M] P := by
  rw [dr21]
  exact run21 (tk n) M1 M2 h
end TT
namespace TT
open PySem PV L2 M30 M23
theorem some_lc2 {mo : Mo} {dr : Nat → MD} {t : T} {c e : WT} {vs : List Nat} {ρ : Rho} {b l : Nat} {P : List D → Prop}
    (hf : ∀ (i : Nat) (Q : Option D → Prop), Q (some (.int (i : Int))) → Q none → itX mo dr t c e vs ρ (.int (i : Int)) Q) (hP : ∀ s : List Nat, s.Sublist (List.range' b l) → P ((nL s).map D.int)) :
    mapX (itX mo dr t c e vs ρ) (rngD (b : Int) l) P := by
  rw [rng2_map]
  refine mapX_sub (g := fun x => x) _ (fun x hx Q h1 h2 => ?_) fun ys s => ?_
  · obtain ⟨i, _, rfl⟩ := List.mem_map.mp hx
    exact hf i Q h1 h2
  · obtain ⟨r, h1, rfl⟩ := List.sublist_map_iff.mp s
    rw [List.map_id']
    have e : (r.map fun v : Nat => D.int (v : Int)) = (nL r).map D.int := by unfold nL; rw [List.map_map]; rfl
    rw [e]
    exact hP r h1
theorem dr22 (n : Nat) (ds : List D) (P : D → Prop) : tb.dr wb (n+1) 22 ds P = runW (tb.mo n) (tb.dr wb n) 3 2 w22 ds P := rfl
def a22 : WT := (.lc (.nm 2) (.rng2 (.cint 1) (.var 1)) (.cmp .eq (.drw 20 (.cons (.pu (.var 0)) (.cons (.pu (.cint 2)) .nil))) (.pu (.cint 0))) (.pu (.var 2)) [2])
theorem w22_is : w22 = (.seq (.ret (.bi .tuple (.cons (.bin .add (.pu (.lst (.cons (.cint 0) .nil))) a22) .nil))) .nop) := rfl
section
variable {mo : Mo} {dr : Nat → MD} {p sc : Nat} {ns : List Int}
theorem a22_ok (T : Tk dr) {w : Nat} {P : D → Prop} (h1 : 1 ≤ w) (h2 : w ≤ 100) (h : ∀ s : List Nat, s.Sublist (List.range' 1 (w - 1)) → P (lN (nL s))) : evW mo dr a22 [some (.drw p sc ns), some (.int (w : Int)), none] P := by
  have f : fitsB (w : Int) = true := fits_small (by omega) (by omega)
  have f1 : fitsB 1 = true := rfl
  have e : ((w : Int) - 1).toNat = w - 1 := by omega
  unfold a22
  rw [evW_lc]
  refine ⟨rngD 1 (w - 1), by simp [f, f1, e], by unfold rngD LIM; simp; omega, some_lc2 (b := 1) (fun i Q q1 q2 => ?_) fun s hs => h s hs⟩
  refine ⟨_, bindT_nm, ?_⟩
  simp
  refine T p sc ns 2 _ (by decide) fun j j0 j1 => ?_
  by_cases ej : j = 0
  · simp [ej]
    exact q1
  · simp [ej]
    exact q2
theorem run22 (T : Tk dr) {w : Nat} {P : D → Prop} (h1 : 1 ≤ w) (h2 : w ≤ 100) (h : ∀ s : List Nat, s.Sublist (List.range' 1 (w - 1)) → P (tN (nL (0 :: s)))) : runW mo dr 3 2 w22 [.drw p sc ns, .int (w : Int)] P := by
  refine ⟨rfl, ?_⟩
  rw [w22_is]
  show exW mo dr _ [.va (.drw p sc ns), .va (.int (w : Int)), .no] _
  rw [exW_seq, exW_ret, evW_bi, evWs_cons, evW_bin, evW_pu]
  refine ⟨.lst [.int 0], by simp, ?_⟩
  refine a22_ok T h1 h2 fun s hs => ?_
  have ls : s.length ≤ w - 1 := by have := hs.length_le; simpa using this
  have g : glst (D.int 0 :: (nL s).map D.int) = some (lN (nL (0 :: s))) := glst_ok (lim_of (by simp; omega))
  refine ⟨lN (nL (0 :: s)), g, ?_⟩
  rw [evWs_nil]
  exact ⟨tN (nL (0 :: s)), rfl, h s hs⟩
end
theorem d_cuts (n : Nat) {p sc : Nat} {ns : List Int} {w : Nat} {P : D → Prop} (h1 : 1 ≤ w) (h2 : w ≤ 100) (h : ∀ s : List Nat, s.Sublist (List.range' 1 (w - 1)) → P (tN (nL (0 :: s)))) : tb.dr wb (n+3) 22 [.drw p sc ns, .int (w : Int)] P := by
  rw [dr22]
  exact run22 (tk n) h1 h2 h
end TT
namespace TT
open PySem PV L2 M30 M23
/-! ### the law's buckets -/
theorem lawbk0 {mo : Mo} {k : Nat} {c : List Int} {bs : List Bk} (h : Hs k c bs) (hl : bs.length ≤ 20) : runF mo 2 2 tm23 [.int ((k : Int) + 1), tI c] = some (psD bs) := by
  have hc : c.length ≤ 20 := by rw [h.len]; exact hl
  have e2 : zipD (c.map D.int) ((c.map D.int).tail ++ [D.int ((k : Int) + 1)]) = bs.map fun B => pD (pB B) := by
    have e1 : (c.map D.int).tail ++ [D.int ((k : Int) + 1)] = (c.tail ++ [(k : Int) + 1]).map D.int := by simp
    rw [e1, show zipD (c.map D.int) ((c.tail ++ [(k : Int) + 1]).map D.int) = (c.zip (c.tail ++ [(k : Int) + 1])).map pD from zipD_map _ _ _ _, pairs_zip h.cut.ne, h.bk, List.map_map]; rfl
  have g : glst ((c.map D.int).tail ++ [D.int ((k : Int) + 1)]) = some (.lst ((c.map D.int).tail ++ [D.int ((k : Int) + 1)])) := glst_ok (by unfold LIM; simp; omega)
  have mn : min (c.map D.int).length ((c.map D.int).tail ++ [D.int ((k : Int) + 1)]).length ≤ 1000 := by simp; omega
  have it := tI_items c
  have sl : slcD (tI c) (some 1) none = some (.tup ((c.map D.int).tail)) := by
    show some (D.tup (cutD (c.map D.int) (some 1) none)) = _
    rw [TT.cut_tail]
  generalize tI c = T at *
  show _ = some (D.lst (bs.map fun B => pD (pB B)))
  generalize (bs.map fun B => pD (pB B)) = Z at *
  generalize c.map D.int = A at *
  simp only [runF, tm23, List.length, List.map, List.replicate, List.cons_append, List.nil_append, if_true, ex_seq, ex_ret, ex_nop, ev_lz, ev_bin, ev_bi, list_d, ev_slc, ev_lst, evs_cons, evs_nil, evo_som, evo_non, ev_var, ev_cint, seen_va, seen_nil, List.getElem?_cons_succ, List.getElem?_cons_zero, Option.bind_some, Option.map_some, sl, items_tup, items_lst, glst_1, add_lsts, g, it, mn, e2]
/-! ### the law's fraction -/
theorem ex_whl' {mo : Mo} {m : Md} {c : E} {b : S} {r : Ro} : ex mo (.whl m c b) r = loopW (fun ρ => (tB (ev mo c (seen m.us 0 ρ))).map fun k => (k, ρ)) (ex mo b) FUEL r := by first | (simp only [ex]; done) | (simp only [ex]; rfl) | rfl
def c24 : E := (.cmp .ne (.var 3) (.cint 0))
def b24 : S := (.seq (.tgt (.tp (.cons (.nm 2) (.cons (.nm 3) .nil))) ⟨[], false⟩ (.tup (.cons (.var 3) (.cons (.bin .mod (.var 2) (.var 3)) .nil)))) .nop)
theorem euclid {mo : Mo} {a b : D} : ∀ (n y x : Nat), y < n → loopW (fun ρ => (tB (ev mo c24 (seen [] 0 ρ))).map fun k => (k, ρ)) (ex mo b24) n [.va a, .va b, .va (.int (x : Int)), .va (.int (y : Int))] = some (.nx [.va a, .va b, .va (.int ((Nat.gcd x y : Nat) : Int)), .va (.int 0)])
  | 0, y, x, h => absurd h (Nat.not_lt_zero _)
  | n + 1, y, x, h => by
    rw [loopW]
    by_cases hy : y = 0
    · subst hy
      have c : (tB (ev mo c24 (seen [] 0 [.va a, .va b, .va (.int (x : Int)), .va (.int ((0 : Nat) : Int))]))) = some false := by simp [c24]
      rw [c, Nat.gcd_zero_right]
      rfl
    · have yp : (0 : Int) < (y : Int) := by omega
      have y0 : ¬ (y : Int) = 0 := by omega
      have c : (tB (ev mo c24 (seen [] 0 [.va a, .va b, .va (.int (x : Int)), .va (.int (y : Int))]))) = some true := by simp [c24, hy]
      have m : binD .mod (.int (x : Int)) (.int (y : Int)) = some (.int ((x % y : Nat) : Int)) := by rw [mod_ok yp]; rfl
      have bd : ex mo b24 [.va a, .va b, .va (.int (x : Int)), .va (.int (y : Int))] = some (.nx [.va a, .va b, .va (.int (y : Int)), .va (.int ((x % y : Nat) : Int))]) := by simp [b24, m]
      have ih := euclid (mo := mo) (a := a) (b := b) n (x % y) y (by have := Nat.mod_lt x (Nat.pos_of_ne_zero hy); omega)
      have g : Nat.gcd y (x % y) = Nat.gcd x y := by rw [Nat.gcd_comm y, ← Nat.gcd_rec, Nat.gcd_comm]
      rw [c]
      simp only [Option.map_some, Option.bind_some, if_true, bd]
      rw [ih, g]
theorem r_frac (n : Nat) {s : Int} (hs : 0 ≤ s) : (tb.mo (n+1)).fn 24 [.int s, .int 27720] = some (.tup [.int (s / gG s), .int (27720 / gG s)]) := by
  obtain ⟨h1, h2, _, _⟩ := gG_ok s
  obtain ⟨x, rfl⟩ := Int.eq_ofNat_of_zero_le hs
  have eu := euclid (mo := tb.mo n) (a := .int (x : Int)) (b := .int 27720) FUEL 27720 x (by unfold FUEL; decide)
  have eg : ((Nat.gcd x 27720 : Nat) : Int) = gG (x : Int) := by unfold gG; rw [Int.natAbs_natCast]
  rw [eg] at eu
  have eu' : loopW (fun ρ => (tB (ev (tb.mo n) c24 (seen [] 0 ρ))).map fun k => (k, ρ)) (ex (tb.mo n) b24) FUEL [.va (.int (x : Int)), .va (.int 27720), .va (.int (x : Int)), .va (.int 27720)] = some (.nx [.va (.int (x : Int)), .va (.int 27720), .va (.int (gG (x : Int))), .va (.int 0)]) := eu
  have d1 : binD .fdiv (.int (x : Int)) (.int (gG (x : Int))) = some (.int ((x : Int) / gG (x : Int))) := div_ok h1 (by omega)
  have d2 : binD .fdiv (.int 27720) (.int (gG (x : Int))) = some (.int (27720 / gG (x : Int))) := div_ok h1 (by omega)
  have e24 : tm24 = (.seq (.tgt (.tp (.cons (.nm 2) (.cons (.nm 3) .nil))) ⟨[], false⟩ (.tup (.cons (.var 0) (.cons (.var 1) .nil)))) (.seq (.whl ⟨[], false⟩ c24 b24) (.seq (.ret (.tup (.cons (.bin .fdiv (.var 0) (.var 2)) (.cons (.bin .fdiv (.var 1) (.var 2)) .nil)))) .nop))) := rfl
  rw [u24, e24]
  generalize gG (x : Int) = G at *
  generalize (x : Int) / G = Q1 at *
  generalize 27720 / G = Q2 at *
  generalize (x : Int) = X at *
  have w : ex (tb.mo n) (.whl ⟨[], false⟩ c24 b24) [.va (.int X), .va (.int 27720), .va (.int X), .va (.int 27720)] = some (.nx [.va (.int X), .va (.int 27720), .va (.int G), .va (.int 0)]) := by rw [ex_whl']; exact eu'
  simp [runF, w, d1, d2]
/-! ### rows, equality -/
theorem rows0 {mo : Mo} {x : D} {ns : List Int} (f : fldD mo 3 x = some (.ptp ns)) : runF mo 1 1 tm31 [x] = some (.int ns.sum) := by
  have i := intsD_map ns
  have it : itemsD (.ptp ns) = some (ns.map D.int) := rfl
  generalize ns.map D.int = N at *
  generalize D.ptp ns = P at *
  simp [runF, tm31, f, it, i]
theorem r_rows (n : Nat) (xs : List Int) : meD (tb.mo (n+2)) 8 (coP xs) [] = some (.int xs.sum) :=
  (um0_8 (n+1) [coP xs]).trans (rows0 (coP_fld n xs))
theorem heq0 {mo : Mo} {x y C T C' T' : D} {W W' : Int} {b1 b2 : Bool} (ty : tyD y = .own 1) (is : mo.isi (.own 1) (.own 1) = some true) (x4 : fldD mo 4 x = some (.int W)) (y4 : fldD mo 4 y = some (.int W')) (x5 : fldD mo 5 x = some C) (y5 : fldD mo 5 y = some C') (x6 : fldD mo 6 x = some T) (y6 : fldD mo 6 y = some T') (q1 : eqD mo C C' = some b1) (q2 : eqD mo T T' = some b2) : runF mo 2 2 tm33 [x, y] = some (.bl (decide (W = W') && (b1 && b2))) := by
  by_cases h : W = W' <;> cases b1 <;> simp [runF, tm33, isiD, ty, is, x4, y4, x5, y5, x6, y6, q1, q2, h]
theorem eq_tI {mo : Mo} (a b : List Int) : eqD mo (tI a) (tI b) = some (decide (a = b)) := by
  obtain ⟨k, h1, h2⟩ := eqD_dt (mo := mo) (Dt.tup (n := 0) (Dt.ints 0 a)) (Dt.tup (n := 0) (Dt.ints 0 b)) (by decide)
  rw [h1]
  congr 1
  rw [Bool.eq_iff_iff, h2, decide_eq_true_eq]
  constructor
  · intro h
    have h : a.map D.int = b.map D.int := by injection h
    exact ints_inj h
  · rintro rfl; rfl
theorem eq_ob {mo : Mo} {c : Nat} {fs fs' : List (Nat × D)} {k : Bool} (h : mo.me c 1 [.obj c fs, .obj c fs'] = some (.bl k)) : eqD mo (.obj c fs) (.obj c fs') = some k := by
  simp [eqD, h]
theorem r_heq (n : Nat) (k k' : Nat) (c c' : List Int) (bs bs' : List Bk) : eqD (tb.mo (n+2)) (hiD k c bs) (hiD k' c' bs') = some (decide ((k : Int) + 1 = (k' : Int) + 1) && (decide (c = c') && decide (bs.map (·.t) = bs'.map (·.t)))) :=
  eq_ob ((um1_1 (n+1) [hiD k c bs, hiD k' c' bs']).trans (heq0 rfl (by first | rfl | simp) (fld_h3 n k c bs) (fld_h3 n k' c' bs') (fld_h4 n k c bs) (fld_h4 n k' c' bs') (fld_h5 n k c bs) (fld_h5 n k' c' bs') (eq_tI c c') (eq_tI _ _)))
end TT
namespace TT
open PySem PV L2 M30 M23
theorem mem_tI (c : List Int) (i : Int) : memD (.int i) (tI c) = some (decide (i ∈ c)) := by
  rw [mem_tup]
  have e : (c.any fun y => decide (y = i)) = decide (i ∈ c) := by
    rw [Bool.eq_iff_iff, List.any_eq_true, decide_eq_true_eq]
    constructor
    · rintro ⟨y, hy, e⟩
      rw [← of_decide_eq_true e]; exact hy
    · intro h; exact ⟨i, h, decide_eq_true rfl⟩
  rw [e]
theorem cut_pairs : ∀ {m : List Int} {a v : Int} {q : Int × Int} {x : Int}, (a :: (m ++ [v])).Pairwise (· < ·) → q ∈ pairs (a :: (m ++ [v])) → (x ∈ a :: m ∨ x = v) → x ≤ q.1 ∨ q.2 ≤ x
  | [], a, v, q, x, hp, hq, hx => by
    have e : pairs [a, v] = [(a, v)] := rfl
    rw [List.nil_append, e] at hq
    rw [List.mem_singleton.mp hq]
    rcases hx with hx | hx
    · left; rw [List.mem_singleton.mp hx]; exact Int.le_refl _
    · right; rw [hx]; exact Int.le_refl _
  | b :: m, a, v, q, x, hp, hq, hx => by
    have e : pairs (a :: (b :: m ++ [v])) = (a, b) :: pairs (b :: (m ++ [v])) := rfl
    rw [e] at hq
    have hp' := List.pairwise_cons.mp hp
    rcases List.mem_cons.mp hq with z | z
    · rw [z]
      rcases hx with hx | hx
      · rcases List.mem_cons.mp hx with y | y
        · left; rw [y]; exact Int.le_refl _
        · right
          rcases List.mem_cons.mp y with y | y
          · rw [y]; exact Int.le_refl _
          · have := (List.pairwise_cons.mp hp'.2).1 x (List.mem_append_left _ y)
            show b ≤ x
            omega
      · right
        have := (List.pairwise_cons.mp hp'.2).1 v (List.mem_append_right _ (List.mem_singleton.mpr rfl))
        show b ≤ x
        omega
    · rcases hx with hx | hx
      · rcases List.mem_cons.mp hx with y | y
        · left
          rw [y]
          have key : ∀ {l : List Int} {q : Int × Int}, q ∈ pairs l → q.1 ∈ l := by
            intro l
            induction l with
            | nil => intro q h; cases h
            | cons u l ih =>
              intro q h
              cases l with
              | nil => cases h
              | cons w l =>
                rcases List.mem_cons.mp (show q ∈ (u, w) :: pairs (w :: l) from h) with e | e
                · rw [e]; exact List.mem_cons_self
                · exact List.mem_cons_of_mem _ (ih e)
          have := hp'.1 q.1 (key z)
          omega
        · exact cut_pairs hp'.2 z (.inl y)
      · exact cut_pairs hp'.2 z (.inr hx)
theorem pairs_fst : ∀ {c : List Int} {v : Int}, c ≠ [] → (pairs (c ++ [v])).map Prod.fst = c
  | [], _, h => absurd rfl h
  | [a], v, _ => rfl
  | a :: b :: r, v, _ => by
    have ih := pairs_fst (c := b :: r) (v := v) (by simp)
    have e : pairs (a :: b :: r ++ [v]) = (a, b) :: pairs (b :: r ++ [v]) := rfl
    rw [e, List.map_cons, ih]
theorem pairs_snd : ∀ {c : List Int} {v : Int} {q : Int × Int}, q ∈ pairs (c ++ [v]) → q.2 = v ∨ q.2 ∈ c
  | [], v, q, h => by cases h
  | [a], v, q, h => by
    rw [List.mem_singleton.mp (show q ∈ [(a, v)] from h)]; exact .inl rfl
  | a :: b :: r, v, q, h => by
    rcases List.mem_cons.mp (show q ∈ (a, b) :: pairs (b :: r ++ [v]) from h) with e | e
    · rw [e]; exact .inr (List.mem_cons_of_mem _ List.mem_cons_self)
    · rcases pairs_snd e with z | z
      · exact .inl z
      · exact .inr (List.mem_cons_of_mem _ z)
section
variable {k : Nat} {c c2 xs : List Int} {bs : List Bk}
theorem bs_b (h : Hs k c bs) : bs.map (·.b) = c := by
  have e := pairs_fst (c := c) (v := (k : Int) + 1) h.cut.ne
  rw [h.bk, List.map_map] at e
  exact e
theorem bk_in (h : Hs k c bs) {B : Bk} (hB : B ∈ bs) : B.b ∈ c ∧ (B.e = (k : Int) + 1 ∨ B.e ∈ c) := by
  refine ⟨?_, ?_⟩
  · have e := bs_b h
    rw [← e]; exact List.mem_map.mpr ⟨B, hB, rfl⟩
  · have hq : pB B ∈ bs.map pB := List.mem_map.mpr ⟨B, hB, rfl⟩
    rw [← h.bk] at hq
    exact pairs_snd hq
theorem al_bk (h : Hs k c bs) {f p : Int} (hf : f ∈ c) (hp : p = (k : Int) + 1 ∨ p ∈ c) {B : Bk} (hB : B ∈ bs) : (f ≤ B.b ∨ B.e ≤ f) ∧ (p ≤ B.b ∨ B.e ≤ p) := by
  have hb := h.bk
  have hm := h.cut.marks
  have hq : pB B ∈ bs.map pB := List.mem_map.mpr ⟨B, hB, rfl⟩
  rw [← hb] at hq
  cases c with
  | nil => cases hf
  | cons a r => exact ⟨cut_pairs hm hq (.inl hf), cut_pairs (x := p) hm hq (by rcases hp with z | z; exact .inr z; exact .inl z)⟩
theorem sum_filter (q : Bk → Bool) (t : Bk → Int) : ∀ l : List Bk, (l.map fun B => if q B = true then t B else 0).sum = ((l.filter q).map t).sum
  | [] => rfl
  | B :: l => by
    have ih := sum_filter q t l
    rw [List.map_cons, List.sum_cons, List.filter_cons, ih]
    by_cases e : q B = true
    · rw [if_pos e, if_pos e, List.map_cons, List.sum_cons]
    · rw [if_neg e, if_neg e, Int.zero_add]
theorem fsum (hx : Co k xs) (hc : Cut k c) {f p : Int} (h0 : 0 ≤ f) (h1 : f < p) (h2 : p ≤ (k : Int) + 1) (hf : f ∈ c) (hp : p = (k : Int) + 1 ∨ p ∈ c) : (((bsX k xs c).filter fun B => decide (f ≤ B.b) && decide (B.b < p)).map (·.t)).sum = (slcI xs f p).sum := by
  have h := bsX_hs hx hc
  rw [sum_all (bsX_chain (xs := xs) hc) h0 h1 h2, ← sum_filter]
  congr 1
  refine List.map_congr_left fun B hB => ?_
  obtain ⟨F, w⟩ := bsX_f hx hc hB
  have a := al_bk h hf hp hB
  have t := F.t
  rw [slc_sum xs (by omega)] at t
  unfold ins cl
  by_cases e : (decide (f ≤ B.b) && decide (B.b < p)) = true
  · rw [if_pos e]
    rw [Bool.and_eq_true, decide_eq_true_eq, decide_eq_true_eq] at e
    rw [show max f (min B.e p) = B.e by omega, show max f (min B.b p) = B.b by omega]
    exact t.symm
  · rw [if_neg e]
    rw [Bool.and_eq_true, decide_eq_true_eq, decide_eq_true_eq] at e
    rw [show max f (min B.e p) = max f (min B.b p) by omega, Int.sub_self]
end
def b18 : S := (.seq (.tgt (.tp (.cons (.nm 4) (.cons (.nm 5) .nil))) ⟨[], false⟩ (.var 3)) (.seq (.app 2 ⟨[], false⟩ (.bi .sum (.cons (.lc (.tp (.cons (.nm 6) (.cons (.nm 7) .nil))) (.zip2 (.fld (.var 0) 5) (.fld (.var 0) 6)) (.chn .le .lt (.var 4) (.var 6) (.var 5)) (.var 7) [6, 7]) .nil))) .nop))
theorem coarse0 {mo : Mo} {k : Nat} {c c2 xs : List Int} {x o : D} {W : D} (hx : Co k xs) (hc : Cut k c) (hc2 : Cut k c2) (sub : ∀ i ∈ c2, i ∈ c) (l1 : c.length ≤ 20) (l2 : c2.length ≤ 20) (f12 : mo.fn 12 [x] = some .non) (w : fldD mo 4 x = some W) (f5 : mo.fn 5 [tI c2, W] = some .non) (x5 : fldD mo 5 x = some (tI c)) (x6 : fldD mo 6 x = some (tsD (bsX k xs c))) (f7 : mo.fn 7 [tI c2, W] = some (psD (bsX k xs c2))) (mk : mo.mkD 1 [W, tI c2, tsD (bsX k xs c2)] = some o) : runF mo 8 2 tm18 [x, tI c2] = some o := by
  have h := bsX_hs hx hc
  have h2 := bsX_hs hx hc2
  have bl2 : (bsX k xs c2).length ≤ 20 := by rw [← h2.len]; exact l2
  have bl : (bsX k xs c).length ≤ 20 := by rw [← h.len]; exact l1
  have key : ∀ B ∈ bsX k xs c2, (((bsX k xs c).filter fun A => decide (B.b ≤ A.b) && decide (A.b < B.e)).map (·.t)).sum = B.t := fun B hB => by
    obtain ⟨F, w⟩ := bsX_f hx hc2 hB
    obtain ⟨i1, i2⟩ := bk_in h2 hB
    rw [fsum hx hc w.1 w.2.1 w.2.2 (sub _ i1) (i2.imp id (sub _))]
    exact F.t
  have hz : zipD (c.map D.int) ((bsX k xs c).map fun B => D.int B.t) = (bsX k xs c).map fun B => .tup [.int B.b, .int B.t] := by
    have e : c.map D.int = (bsX k xs c).map fun B => D.int B.b := by
      have e := congrArg (List.map D.int) (bs_b h)
      rw [List.map_map] at e
      exact e.symm
    rw [e]; exact zipB _ _ _
  generalize hbs : bsX k xs c = bs at *
  generalize hbs2 : bsX k xs c2 = bs2 at *
  have x6' : fldD mo 6 x = some (.tup (bs.map fun B => D.int B.t)) := by rw [x6]; simp only [tsD, tI, map_t]
  obtain ⟨ρ', L, s3, s4, s5, rfl⟩ := loopF_ix (P := fun i ρ => ∃ s3 s4 s5, ρ = [Sl.va x, .va (tI c2), .ow (lI ((bs2.take i).map (·.t))), s3, s4, s5, .no, .no]) (enc := fun B : Bk => pD (pB B)) (g := bindS (.nm 3)) (b := ex mo b18) (xs := bs2) (ρ := [.va x, .va (tI c2), .ow (.lst []), .no, .no, .no, .no, .no]) (fun i B ρ hB ⟨s3, s4, s5, e⟩ => by
      subst e
      have kb := key B (List.mem_of_getElem? hB)
      have tk : bs2.take (i + 1) = bs2.take i ++ [B] := by rw [List.take_succ, hB]; rfl
      have mm : mapO (lcF mo (.tp (.cons (.nm 6) (.cons (.nm 7) .nil))) (.chn .le .lt (.var 4) (.var 6) (.var 5)) (.var 7) [6, 7] [some x, some (tI c2), none, some (pD (pB B)), some (.int B.b), some (.int B.e), none, none]) (bs.map fun A => .tup [.int A.b, .int A.t]) = some ((bs.filter fun A => decide (B.b ≤ A.b) && decide (A.b < B.e)).map fun A => D.int A.t) :=
        mapO_filter fun A _ => by
          generalize pD (pB B) = PB at *
          generalize tI c2 = TC at *
          cases h1 : decide (B.b ≤ A.b) <;> cases h2 : decide (A.b < B.e) <;> simp only [lcF, bindT_tp, bindTs_cons, bindTs_nil, bindT_nm, wipeO_cons, wipeO_nil, List.set, Option.bind_some, ev_chn, tB_bl, if_true, cmp_le, cmp_lt, h1, h2, ev_var, List.getElem?_cons_succ, List.getElem?_cons_zero, Option.map_some, Bool.and_true, Bool.and_false, Bool.false_and, Bool.true_and] <;> rfl
      have ii := intsD_mapf (fun A : Bk => A.t) (bs.filter fun A => decide (B.b ≤ A.b) && decide (A.b < B.e))
      have fl := List.length_filter_le (fun A : Bk => decide (B.b ≤ A.b) && decide (A.b < B.e)) bs
      have g : glst ((bs.filter fun A => decide (B.b ≤ A.b) && decide (A.b < B.e)).map fun A => D.int A.t) = some (.lst ((bs.filter fun A => decide (B.b ≤ A.b) && decide (A.b < B.e)).map fun A => D.int A.t)) := glst_ok (by unfold LIM; rw [List.length_map]; omega)
      have lt : (bs2.take i).length ≤ 20 := by rw [List.length_take]; omega
      have ed : lI ((bs2.take (i + 1)).map (·.t)) = .lst (((bs2.take i).map (·.t)).map D.int ++ [.int B.t]) := by rw [tk]; simp
      rw [ed]
      have lA : (((bs2.take i).map (·.t)).map D.int).length < LIM := by unfold LIM; rw [List.length_map, List.length_map]; omega
      have it5 := tI_items c
      have el : lI ((bs2.take i).map (·.t)) = .lst (((bs2.take i).map (·.t)).map D.int) := rfl
      rw [el]
      have hpd : pD (pB B) = .tup [.int B.b, .int B.e] := rfl
      generalize ((bs2.take i).map (·.t)).map D.int = A0 at *
      generalize ((bs.filter fun A => decide (B.b ≤ A.b) && decide (A.b < B.e)).map fun A => D.int A.t) = FF at *
      generalize ((bs.filter fun A => decide (B.b ≤ A.b) && decide (A.b < B.e)).map fun A => A.t) = FI at *
      generalize (bs.map fun A => D.tup [.int A.b, .int A.t]) = ZZ at *
      generalize (bs.map fun B => D.int B.t) = T6 at *
      generalize tI c = TC at *
      generalize c.map D.int = CC at *
      generalize tI c2 = TC2 at *
      rw [hpd] at mm
      refine ⟨_, [Sl.va x, .va TC2, .ow (.lst (A0 ++ [.int B.t])), .va (.tup [.int B.b, .int B.e]), .va (.int B.b), .va (.int B.e), .no, .no], bindS_nm, .inl ?_, _, _, _, rfl⟩
      simp [b18, hpd, x5, x6', it5, hz, mm, g, ii, kb, lA]) ⟨_, _, _, rfl⟩
  rw [List.take_length] at L
  have m1 : mapO (lcF mo (.nm 6) (.cbl true) (.cmp .inn (.var 6) (.fld (.var 0) 5)) [6] [some x, some (tI c2), none, none, none, none, none, none]) (c2.map D.int) = some (c2.map fun _ => D.bl true) :=
    mapO_map fun i hi => by
      have mi := mem_tI c i
      rw [decide_eq_true (sub i hi)] at mi
      generalize tI c = TC at *
      generalize tI c2 = TC2 at *
      simp only [lcF, bindT_nm, wipeO_cons, wipeO_nil, List.set, Option.bind_some, ev_cbl, tB_bl, if_true, ev_cmp, cmp_in, ev_fld, x5, mi, ev_var, List.getElem?_cons_succ, List.getElem?_cons_zero, Option.map_some]
  have g1 : glst (c2.map fun _ => D.bl true) = some (.lst (c2.map fun _ => D.bl true)) := glst_ok (by unfold LIM; rw [List.length_map]; omega)
  have b1 : blsD (c2.map fun _ => D.bl true) = some (c2.map fun _ => true) := by rw [← blsD_map, List.map_map]; rfl
  have a1 : ((c2.map fun _ => true).all id) = true := List.all_eq_true.mpr fun x hx => by obtain ⟨_, _, rfl⟩ := List.mem_map.mp hx; rfl
  have it2 := tI_items c2
  have mk' : mo.mkD 1 [W, tI c2, .tup ((bs2.map (·.t)).map D.int)] = some o := mk
  have f7' : mo.fn 7 [tI c2, W] = some (.lst (bs2.map fun B => pD (pB B))) := f7
  have L' : loopF (bindS (.nm 3)) (ex mo b18) (bs2.map fun B => pD (pB B)) [.va x, .va (tI c2), .ow (.lst []), .no, .no, .no, .no, .no] = some (.nx [.va x, .va (tI c2), .ow (.lst ((bs2.map (·.t)).map D.int)), s3, s4, s5, .no, .no]) := L
  have e18 : tm18 = (.seq (.drop ⟨[], false⟩ (.call 12 (.cons (.var 0) .nil))) (.seq (.drop ⟨[], false⟩ (.call 5 (.cons (.var 1) (.cons (.fld (.var 0) 4) .nil)))) (.seq (.ife ⟨[], false⟩ (.not (.bi .all (.cons (.lc (.nm 6) (.of (.var 1)) (.cbl true) (.cmp .inn (.var 6) (.fld (.var 0) 5)) [6]) .nil))) (.seq .bad .nop) .nop) (.seq (.own 2 ⟨[], false⟩ (.lst .nil)) (.seq (.for (.nm 3) [] (.of (.call 7 (.cons (.var 1) (.cons (.fld (.var 0) 4) .nil)))) b18) (.seq (.ret (.mk 1 (.cons (.fld (.var 0) 4) (.cons (.var 1) (.cons (.bi .tuple (.cons (.var 2) .nil)) .nil))))) .nop)))))) := rfl
  rw [e18]
  generalize (bs2.map (·.t)).map D.int = T2 at *
  generalize (bs2.map fun B => pD (pB B)) = P2 at *
  generalize (c2.map fun _ => D.bl true) = B1 at *
  generalize (c2.map fun _ => true) = B2 at *
  generalize tI c2 = TC2 at *
  generalize c2.map D.int = C2 at *
  cases s3 <;> cases s4 <;> cases s5 <;> simp [runF, f12, w, f5, it2, m1, g1, b1, a1, f7', L', mk']
theorem r_coarser (n : Nat) {k : Nat} {c c2 xs : List Int} (hx' : Co k xs) (hc : Cut k c) (hc2 : Cut k c2) (sub : ∀ i ∈ c2, i ∈ c) (l1 : c.length ≤ 20) (l2 : c2.length ≤ 20) : (tb.mo (n+8)).fn 18 [hiD k c (bsX k xs c), tI c2] = some (hiD k c2 (bsX k xs c2)) :=
  (u18 (n+7) _).trans (coarse0 hx' hc hc2 sub l1 l2 (r_chkhist (n+5) k c _) (fld_h3 (n+6) k c _) (r_ckcuts n hc2 (by omega)) (fld_h4 (n+6) k c _) (fld_h5 (n+6) k c _) (r_bpairs (n+6) (bsX_hs hx' hc2) l2) (r_mkhist n (bsX_hs hx' hc2) l2))
end TT
namespace TT
open PySem PV L2 M30 M23
/-! ### totals, spread evenly -/
def vB (B : Bk) : Int := B.t * (27720 / (B.e - B.b))
def evS : List Bk → List Int
  | [] => []
  | B :: r => List.replicate (B.e - B.b).toNat (vB B) ++ evS r
theorem sum_rep (n : Nat) (v : Int) : (List.replicate n v).sum = (n : Int) * v := by
  induction n with
  | zero => simp
  | succ n ih =>
    rw [List.replicate_succ, List.sum_cons, ih]
    have : ((n + 1 : Nat) : Int) = (n : Int) + 1 := by omega
    rw [this, Int.add_mul, Int.one_mul]; omega
theorem ev_pre : ∀ {a v : Int} {bs : List Bk}, Chain a bs v → 0 ≤ a → ∀ x0 : List Int, (x0.length : Int) = a → ∀ B ∈ bs, ∀ u, B.b ≤ u → u ≤ B.e → preI (x0 ++ evS bs) u = preI (x0 ++ evS bs) B.b + (u - B.b) * vB B
  | _, _, _, .nil, _, _, _, B, hB, _, _, _ => by cases hB
  | _, _, _, .cons (B := A) (r := r) hb ch, h0, x0, hx, B, hB, u, h1, h2 => by
    have e : x0 ++ evS (A :: r) = x0 ++ (List.replicate (A.e - A.b).toNat (vB A) ++ evS r) := rfl
    rcases List.mem_cons.mp hB with z | z
    · subst z
      have p := fun w w1 w2 => pre_app (x0 := x0) (y := List.replicate (B.e - B.b).toNat (vB B)) (z := evS r) (u := w) w1 w2
      rw [e, p u (by omega) (by rw [List.length_replicate]; omega), p B.b (by omega) (by rw [List.length_replicate]; omega)]
      rw [List.take_replicate, List.take_replicate, sum_rep, sum_rep]
      have e1 : ((min (u - (x0.length : Int)).toNat (B.e - B.b).toNat : Nat) : Int) = u - B.b := by omega
      have e2 : ((min (B.b - (x0.length : Int)).toNat (B.e - B.b).toNat : Nat) : Int) = 0 := by omega
      rw [e1, e2, Int.zero_mul]; omega
    · have ih := ev_pre ch (by omega) (x0 ++ List.replicate (A.e - A.b).toNat (vB A)) (by rw [List.length_append, List.length_replicate]; omega) B z u h1 h2
      rw [e, ← List.append_assoc]
      exact ih
theorem ev_sum {bs : List Bk} {f p v : Int} (ch : Chain 0 bs v) (h0 : 0 ≤ f) (h1 : f < p) (h2 : p ≤ v) : (slcI (evS bs) f p).sum = esS f p bs := by
  rw [sum_all ch h0 h1 h2]
  unfold esS
  congr 1
  refine List.map_congr_left fun B hB => ?_
  have w := ch.le.2 B hB
  have pr := ev_pre ch (by omega) [] rfl B hB
  rw [List.nil_append] at pr
  unfold ins esB
  have em : mIn f p B = cl f p B.e - cl f p B.b := rfl
  have ev : B.t * mIn f p B * (27720 / (B.e - B.b)) = mIn f p B * vB B := by unfold vB; rw [Int.mul_comm B.t, Int.mul_assoc]
  rw [ev]
  by_cases z : cl f p B.e = cl f p B.b
  · rw [em, z, Int.sub_self, Int.sub_self, Int.zero_mul]
  · have b1 : B.b ≤ cl f p B.b ∧ cl f p B.b ≤ B.e ∧ B.b ≤ cl f p B.e ∧ cl f p B.e ≤ B.e := by unfold cl at *; omega
    rw [pr _ b1.2.2.1 b1.2.2.2, pr _ b1.1 b1.2.1, em, Int.sub_mul, Int.sub_mul, Int.sub_mul]
    omega
theorem ev_len : ∀ {a v : Int} {bs : List Bk}, Chain a bs v → ((evS bs).length : Int) = v - a
  | _, _, _, .nil => by simp [evS]
  | _, _, _, .cons (B := A) (r := r) hb ch => by
    have ih := ev_len ch
    show (((List.replicate (A.e - A.b).toNat (vB A) ++ evS r).length : Nat) : Int) = _
    rw [List.length_append, List.length_replicate]; omega
theorem ev_snoc : ∀ (bs : List Bk) (B : Bk), evS (bs ++ [B]) = evS bs ++ List.replicate (B.e - B.b).toNat (vB B)
  | [], B => by simp [evS]
  | A :: r, B => by
    show List.replicate _ _ ++ evS (r ++ [B]) = _
    rw [ev_snoc r B, ← List.append_assoc]; rfl
theorem es_nn {k : Nat} {c : List Int} {bs : List Bk} (h : Hs k c bs) (f p : Int) : 0 ≤ esS f p bs := by
  have key : ∀ as : List Bk, (∀ B ∈ as, B ∈ bs) → 0 ≤ esS f p as := by
    intro as
    induction as with
    | nil => intro _; simp [esS]
    | cons B as ih =>
      intro hs
      have i := ih fun A hA => hs A (List.mem_cons_of_mem _ hA)
      have hB := hs B List.mem_cons_self
      have sm := h.small hB
      have mb := mIn_bounds (f := f) (p := p) sm.2.1
      have e : 0 ≤ esB f p B := Int.mul_nonneg (Int.mul_nonneg (h.tot B hB).1 mb.1) (Int.ediv_nonneg (by decide) (by omega))
      unfold esS at *
      simp only [List.map_cons, List.sum_cons]
      omega
  exact key bs fun B h => h
theorem es_whole {k : Nat} {c : List Int} {bs : List Bk} (h : Hs k c bs) : esS 0 ((k : Int) + 1) bs = 27720 * (bs.map (·.t)).sum := by
  have key : ∀ as : List Bk, (∀ B ∈ as, B ∈ bs) → esS 0 ((k : Int) + 1) as = 27720 * (as.map (·.t)).sum := by
    intro as
    induction as with
    | nil => intro _; simp [esS]
    | cons B as ih =>
      intro hs
      have i := ih fun A hA => hs A (List.mem_cons_of_mem _ hA)
      have hB := hs B List.mem_cons_self
      have sm := h.small hB
      have w := h.chain.le.2 B hB
      have em : mIn 0 ((k : Int) + 1) B = B.e - B.b := by unfold mIn cl; omega
      have e : esB 0 ((k : Int) + 1) B = 27720 * B.t := by
        unfold esB
        rw [em, Int.mul_assoc]
        have : (B.e - B.b) * (27720 / (B.e - B.b)) = 27720 := by
          generalize hL : B.e - B.b = L at *
          have : L = 1 ∨ L = 2 ∨ L = 3 ∨ L = 4 ∨ L = 5 ∨ L = 6 ∨ L = 7 ∨ L = 8 ∨ L = 9 ∨ L = 10 ∨ L = 11 ∨ L = 12 := by omega
          rcases this with h | h | h | h | h | h | h | h | h | h | h | h <;> (subst h; decide)
        rw [this, Int.mul_comm]
      unfold esS at *
      simp only [List.map_cons, List.sum_cons]
      omega
  exact key bs fun B h => h
def fracD (s : Int) : D := .tup [.int (s / gG s), .int (27720 / gG s)]
theorem frac_whole {R : Int} (h : 0 ≤ R) : fracD (27720 * R) = .tup [.int R, .int 1] := by
  obtain ⟨r, rfl⟩ := Int.eq_ofNat_of_zero_le h
  have g : gG (27720 * (r : Int)) = 27720 := by
    unfold gG
    have : (27720 * (r : Int)).natAbs = 27720 * r := by omega
    rw [this, Nat.gcd_mul_right_left]; rfl
  unfold fracD
  rw [g, Int.mul_ediv_cancel_left _ (by decide)]
  rfl
theorem tot_rows {k : Nat} {c xs : List Int} (hx : Co k xs) (hc : Cut k c) : ((bsX k xs c).map (·.t)).sum = xs.sum := by
  have e := fsum hx hc (f := 0) (p := (k : Int) + 1) (by omega) (by omega) (by omega) hc.zero (.inl rfl)
  have hl := hx.len
  have s : slcI xs 0 ((k : Int) + 1) = xs := by
    unfold slcI
    rw [show ((k : Int) + 1).toNat - (0 : Int).toNat = xs.length by omega]
    simp
  rw [s] at e
  rw [← e]
  congr 1
  congr 1
  symm
  rw [List.filter_eq_self]
  intro B hB
  have w := (bsX_chain (xs := xs) hc).le.2 B hB
  rw [Bool.and_eq_true, decide_eq_true_eq, decide_eq_true_eq]; omega
/-! ### other histograms -/
theorem bent_hs {k : Nat} {c : List Int} {bs : List Bk} (h : Hs k c bs) {j : Nat} {B : Bk} (hj : bs[j]? = some B) {v : Int} (hv : 0 ≤ v ∧ v ≤ 1) : Hs k c (bs.set j { B with t := v }) ∧ (bs.set j { B with t := v }).map (·.t) = (bs.map (·.t)).set j v := by
  obtain ⟨hlt, hB⟩ := List.getElem?_eq_some_iff.mp hj
  refine ⟨⟨h.cut, h.most, ?_, fun A hA => ?_⟩, by rw [List.map_set]⟩
  · rw [List.map_set, h.bk]
    have e : pB { B with t := v } = (bs.map pB)[j]'(by rw [List.length_map]; exact hlt) := by rw [List.getElem_map, hB]
    rw [e, List.set_getElem_self]
  · rcases List.mem_or_eq_of_mem_set hA with z | z
    · exact h.tot A z
    · subst z
      have w := h.chain.le.2 B (List.mem_of_getElem? hj)
      show 0 ≤ v ∧ v ≤ 9 * (B.e - B.b)
      omega
theorem bent_ne {l : List Int} {j : Nat} {t v : Int} (hj : l[j]? = some t) (hv : v ≠ t) : l ≠ l.set j v := fun e => by
  obtain ⟨hlt, ht⟩ := List.getElem?_eq_some_iff.mp hj
  have := congrArg (fun l : List Int => l[j]?) e
  simp only [List.getElem?_set_self hlt, hj] at this
  exact hv (Option.some.inj this).symm
def wideB (k : Nat) (B : Bk) : Bk := if B.e = (k : Int) + 1 then { B with e := (k : Int) + 2 } else B
theorem pairs_ext : ∀ {c : List Int} {v v' : Int}, (∀ x ∈ c, x < v) → pairs (c ++ [v']) = (pairs (c ++ [v])).map fun q => if q.2 = v then (q.1, v') else q
  | [], _, _, _ => rfl
  | [a], v, v', _ => by
    show [(a, v')] = [if v = v then (a, v') else (a, v)]
    rw [if_pos rfl]
  | a :: b :: r, v, v', h => by
    have ih := pairs_ext (c := b :: r) (v := v) (v' := v') fun x hx => h x (List.mem_cons_of_mem _ hx)
    have hb := h b (List.mem_cons_of_mem _ List.mem_cons_self)
    have e1 : pairs (a :: b :: r ++ [v']) = (a, b) :: pairs (b :: r ++ [v']) := rfl
    have e2 : pairs (a :: b :: r ++ [v]) = (a, b) :: pairs (b :: r ++ [v]) := rfl
    rw [e1, e2, List.map_cons, ih]
    show _ = (if b = v then (a, v') else (a, b)) :: _
    rw [if_neg (by omega)]
theorem wide_hs {k : Nat} {c : List Int} {bs : List Bk} (h : Hs k c bs) (hk : k + 1 < 12) : Hs (k + 1) c (bs.map (wideB k)) ∧ (bs.map (wideB k)).map (·.t) = bs.map (·.t) := by
  refine ⟨⟨⟨h.cut.rise, h.cut.head, fun x hx => ?_⟩, hk, ?_, fun A hA => ?_⟩, ?_⟩
  · have := h.cut.lt x hx; omega
  · have e : (((k + 1 : Nat) : Int) + 1) = (k : Int) + 2 := by omega
    rw [e, pairs_ext (v := (k : Int) + 1) h.cut.lt, h.bk, List.map_map, List.map_map]
    refine List.map_congr_left fun B _ => ?_
    show (if B.e = (k : Int) + 1 then (B.b, (k : Int) + 2) else (B.b, B.e)) = pB (wideB k B)
    unfold wideB
    split <;> rfl
  · obtain ⟨B, hB, rfl⟩ := List.mem_map.mp hA
    have t := h.tot B hB
    unfold wideB
    split
    · rename_i he
      show 0 ≤ B.t ∧ B.t ≤ 9 * ((k : Int) + 2 - B.b)
      omega
    · exact t
  · rw [List.map_map]
    refine List.map_congr_left fun B _ => ?_
    show (wideB k B).t = B.t
    unfold wideB
    split <;> rfl
theorem mul_single {d : D} {n : Int} (h0 : 0 ≤ n) (h1 : n ≤ 1000) : binD .mul (.lst [d]) (.int n) = some (.lst (List.replicate n.toNat d)) := by
  have f : ∀ m : Nat, (List.replicate m [d]).flatten = List.replicate m d := by
    intro m
    induction m with
    | zero => rfl
    | succ m ih => rw [List.replicate_succ, List.flatten_cons, ih]; rfl
  show (if inB 9223372036854775807 n then glst (List.replicate n.toNat [d]).flatten else none) = _
  rw [inB_of (by omega) (by omega), if_pos rfl, f, glst_ok (by unfold LIM; rw [List.length_replicate]; omega)]
end TT
namespace TT
open PySem PV L2 M30 M23
def e_1 : WS := (.set 7 (.drw 20 (.cons (.pu (.var 0)) (.cons (.pu (.var 1)) .nil))))
def e_2 : WS := (.set 8 (.bin .add (.pu (.bin .add (.var 7) (.cint 1))) (.drw 20 (.cons (.pu (.var 0)) (.cons (.pu (.bin .sub (.var 1) (.var 7))) .nil)))))
def e_3 : WS := (.st (.set 9 ⟨[], false⟩ (.lst .nil)))
def e_4 : WS := (.for (.tp (.cons (.nm 13) (.cons (.tp (.cons (.nm 14) (.cons (.nm 15) .nil))) .nil))) (.zip2 (.var 5) (.var 4)) (.seq (.st (.set 9 ⟨[], false⟩ (.bin .add (.var 9) (.bin .mul (.lst (.cons (.bin .mul (.var 13) (.bin .fdiv (.cint 27720) (.bin .sub (.var 15) (.var 14)))) .nil)) (.bin .sub (.var 15) (.var 14)))))) .nop))
def e_5 : WS := (.ife (.pu (.cmp .ne (.call 17 (.cons (.var 6) (.cons (.var 7) (.cons (.var 8) .nil)))) (.call 24 (.cons (.bi .sum (.cons (.slc (.var 9) (.som (.var 7)) (.som (.var 8))) .nil)) (.cons (.cint 27720) .nil))))) (.seq (.st (.ret (.cbl false))) .nop) .nop)
def e_6 : WS := (.set 10 (.bi .tuple (.cons (.bin .add (.pu (.lst (.cons (.cint 0) .nil))) (.lc (.nm 16) (.of (.slc (.var 3) (.som (.cint 1)) .non)) (.cmp .eq (.drw 20 (.cons (.pu (.var 0)) (.cons (.pu (.cint 2)) .nil))) (.pu (.cint 0))) (.pu (.var 16)) [16])) .nil)))
def e_7 : WS := (.ife (.pu (.or (.cmp .ne (.call 18 (.cons (.var 6) (.cons (.var 10) .nil))) (.call 14 (.cons (.var 2) (.cons (.var 10) .nil)))) (.cmp .ne (.call 18 (.cons (.var 6) (.cons (.var 3) .nil))) (.var 6)))) (.seq (.st (.ret (.cbl false))) .nop) .nop)
def e_8 : WS := (.ife (.pu (.or (.cmp .ne (.bi .sum (.cons (.fld (.var 6) 6) .nil)) (.me 8 (.var 2) .nil)) (.cmp .ne (.call 17 (.cons (.var 6) (.cons (.cint 0) (.cons (.var 1) .nil)))) (.tup (.cons (.me 8 (.var 2) .nil) (.cons (.cint 1) .nil)))))) (.seq (.st (.ret (.cbl false))) .nop) .nop)
def e_9 : WS := (.st (.own 11 ⟨[], false⟩ (.bi .list (.cons (.var 5) .nil))))
def e_10 : WS := (.setU [11] 12 (.drw 20 (.cons (.pu (.var 0)) (.cons (.pu (.bi .len (.cons (.var 11) .nil))) .nil))))
def e_11 : WS := (.st (.sto 11 ⟨[11], true⟩ (.var 12) (.ite (.cmp .gt (.idx (.var 11) (.var 12)) (.cint 0)) (.cint 0) (.cint 1))))
def e_12 : WS := (.ifU [11] (.pu (.or (.cmp .eq (.var 6) (.mk 1 (.cons (.var 1) (.cons (.var 3) (.cons (.bi .tuple (.cons (.var 11) .nil)) .nil))))) (.and (.cmp .lt (.var 1) (.cint 12)) (.cmp .eq (.var 6) (.mk 1 (.cons (.bin .add (.var 1) (.cint 1)) (.cons (.var 3) (.cons (.var 5) .nil)))))))) (.seq (.st (.ret (.cbl false))) .nop) .nop)
def e_13 : WS := (.st (.ret (.cbl true)))
theorem w25_split : w25 = (.seq e_1 (.seq e_2 (.seq e_3 (.seq e_4 (.seq e_5 (.seq e_6 (.seq e_7 (.seq e_8 (.seq e_9 (.seq e_10 (.seq e_11 (.seq e_12 (.seq e_13 .nop))))))))))))) := rfl
/-- what the law's parts give, wherever it stands -/
structure MF (mo : Mo) (dr : Nat → MD) : Prop where
  T : Tk dr
  f14 : ∀ k (c xs : List Int), Co k xs → Cut k c → c.length ≤ 20 → mo.fn 14 [coP xs, tI c] = some (hiD k c (bsX k xs c))
  f15 : ∀ k (c xs : List Int), Co k xs → Cut k c → c.length ≤ 20 → mo.fn 15 [coP xs, tI c] = some (qsD (bsX k xs c))
  f16 : ∀ k (c xs : List Int), Co k xs → Cut k c → c.length ≤ 20 → mo.fn 16 [coP xs, tI c] = some (usD (bsX k xs c))
  f17 : ∀ k (c : List Int) (bs : List Bk) (f q : Int), Hs k c bs → c.length ≤ 20 → 0 ≤ f → f < q → q ≤ (k : Int) + 1 → mo.fn 17 [hiD k c bs, .int f, .int q] = some (fracD (esS f q bs))
  f18 : ∀ k (c c2 xs : List Int), Co k xs → Cut k c → Cut k c2 → (∀ i ∈ c2, i ∈ c) → c.length ≤ 20 → c2.length ≤ 20 → mo.fn 18 [hiD k c (bsX k xs c), tI c2] = some (hiD k c2 (bsX k xs c2))
  f23 : ∀ k (c : List Int) (bs : List Bk), Hs k c bs → c.length ≤ 20 → mo.fn 23 [.int ((k : Int) + 1), tI c] = some (psD bs)
  f24 : ∀ s : Int, 0 ≤ s → mo.fn 24 [.int s, .int 27720] = some (fracD s)
  heq : ∀ k k' (c c' : List Int) (bs bs' : List Bk), eqD mo (hiD k c bs) (hiD k' c' bs') = some (decide ((k : Int) + 1 = (k' : Int) + 1) && (decide (c = c') && decide (bs.map (·.t) = bs'.map (·.t))))
  rows : ∀ xs : List Int, meD mo 8 (coP xs) [] = some (.int xs.sum)
  h4 : ∀ k (c : List Int) (bs : List Bk), fldD mo 4 (hiD k c bs) = some (.int ((k : Int) + 1))
  h5 : ∀ k (c : List Int) (bs : List Bk), fldD mo 5 (hiD k c bs) = some (tI c)
  h6 : ∀ k (c : List Int) (bs : List Bk), fldD mo 6 (hiD k c bs) = some (tsD bs)
  bk : ∀ k (c : List Int) (bs : List Bk), Hs k c bs → c.length ≤ 20 → meD mo 7 (hiD k c bs) [] = some (psD bs)
  hl : ∀ k (c : List Int) (bs : List Bk), Hs k c bs → c.length ≤ 20 → biD mo .len [hiD k c bs] = some (.int bs.length)
  mk0 : ∀ k (xs : List Int), Co k xs → mo.mkD 0 [lI xs] = some (coP xs)
  mk1 : ∀ k (c : List Int) (bs : List Bk), Hs k c bs → c.length ≤ 20 → mo.mkD 1 [.int ((k : Int) + 1), tI c, tsD bs] = some (hiD k c bs)
  d21 : ∀ (p sc : Nat) (ns : List Int) (P : D → Prop), (∀ k xs, Co k xs → P (lI xs)) → dr 21 [.drw p sc ns, .int 12] P
  d22 : ∀ (p sc : Nat) (ns : List Int) (k : Nat) (P : D → Prop), k < 12 → (∀ c, Cut k c → c.length ≤ 12 → P (tI c)) → dr 22 [.drw p sc ns, .int ((k : Int) + 1)] P
theorem cut_of {k : Nat} {s : List Nat} (hs : s.Sublist (List.range' 1 k)) : Cut k (nL (0 :: s)) ∧ (nL (0 :: s)).length ≤ k + 1 := by
  have ps : s.Pairwise (· < ·) := List.Pairwise.sublist hs (by simpa using List.pairwise_lt_range' (s := 1) (n := k))
  have mem : ∀ x ∈ s, 1 ≤ x ∧ x < k + 1 := fun x hx => by
    have := hs.subset hx
    simp at this
    omega
  have hl := hs.length_le
  rw [List.length_range'] at hl
  refine ⟨⟨?_, rfl, fun x hx => ?_⟩, by rw [List.length_map, List.length_cons]; omega⟩
  · rw [List.pairwise_map]
    refine List.pairwise_cons.mpr ⟨fun x hx => by have := mem x hx; omega, ps.imp fun h => by omega⟩
  · obtain ⟨y, hy, rfl⟩ := List.mem_map.mp hx
    rcases List.mem_cons.mp hy with e | e
    · omega
    · have := mem y e; omega
theorem mf (n : Nat) : MF (tb.mo (n+10)) (tb.dr wb (n+10)) where
  T := tk (n+8)
  f14 := fun k c xs h1 h2 h3 => r_hist n h1 h2 (by rw [← (bsX_hs h1 h2).len]; exact h3)
  f15 := fun k c xs h1 h2 h3 => r_caps (n+1) h1 h2 (by rw [← (bsX_hs h1 h2).len]; exact h3)
  f16 := fun k c xs h1 h2 h3 => r_fills (n+1) h1 h2 (by rw [← (bsX_hs h1 h2).len]; exact h3)
  f17 := fun k c bs f q h hl h0 h1 h2 => r_est (n+5) h hl h0 h1 h2
  f18 := fun k c c2 xs h1 h2 h3 sub l1 l2 => r_coarser (n+2) h1 h2 h3 sub l1 l2
  f23 := fun k c bs h hl => (u23 (n+9) _).trans (lawbk0 h (by rw [← h.len]; exact hl))
  f24 := fun s hs => r_frac (n+9) hs
  heq := fun k k' c c' bs bs' => r_heq (n+8) k k' c c' bs bs'
  rows := fun xs => r_rows (n+8) xs
  h4 := fun k c bs => fld_h3 (n+9) k c bs
  h5 := fun k c bs => fld_h4 (n+9) k c bs
  h6 := fun k c bs => fld_h5 (n+9) k c bs
  bk := fun k c bs h hl => (hx (n+8) h hl).b
  hl := fun k c bs h hl => (hx (n+8) h hl).len
  mk0 := fun k xs h => r_mkcol (n+5) h
  mk1 := fun k c bs h hl => r_mkhist (n+3) h hl
  d21 := fun p sc ns P h => d_counts (n+7) (by decide) (by decide) fun cs hc => h (cs.length - 1) cs ⟨by have := hc.l1; omega, by have := hc.l1; have := hc.l2; omega, hc.v⟩
  d22 := fun p sc ns k P hk h => by
    have z := d_cuts (n+7) (p := p) (sc := sc) (ns := ns) (w := k + 1) (P := P) (by omega) (by omega) fun s hs => by
      obtain ⟨h1, h2⟩ := cut_of (k := k) hs
      exact h _ h1 (by omega)
    exact z
section
variable {mo : Mo} {dr : Nat → MD} {p sc : Nat} {ns : List Int} {k : Nat} {c xs c2 : List Int} {bs : List Bk} {f q v : Int} {j : Nat} {x7 x8 x9 x10 x11 x12 x13 x14 x15 x16 : Sl} {P : Out → Prop}
theorem et1 (M : MF mo dr) (h : ∀ f : Int, 0 ≤ f → f < (k : Int) + 1 → P (.nx [.va (.drw p sc ns), .va (.int ((k : Int) + 1)), .va (coP xs), .va (tI c), .va (psD bs), .va (tsD bs), .va (hiD k c bs), .va (.int f), x8, x9, x10, x11, x12, x13, x14, x15, x16])) : exW mo dr e_1 [.va (.drw p sc ns), .va (.int ((k : Int) + 1)), .va (coP xs), .va (tI c), .va (psD bs), .va (tsD bs), .va (hiD k c bs), x7, x8, x9, x10, x11, x12, x13, x14, x15, x16] P := by
  unfold e_1
  generalize coP xs = CO at *
  generalize tI c = TC at *
  generalize psD bs = PS at *
  generalize tsD bs = TS at *
  generalize hiD k c bs = H at *
  simp
  exact M.T _ _ _ ((k : Int) + 1) _ (by omega) fun j j0 j1 => h j j0 j1
theorem et2 (M : MF mo dr) (f0 : 0 ≤ f) (f1 : f < (k : Int) + 1) (h : ∀ q : Int, f < q → q ≤ (k : Int) + 1 → P (.nx [.va (.drw p sc ns), .va (.int ((k : Int) + 1)), .va (coP xs), .va (tI c), .va (psD bs), .va (tsD bs), .va (hiD k c bs), .va (.int f), .va (.int q), x9, x10, x11, x12, x13, x14, x15, x16])) : exW mo dr e_2 [.va (.drw p sc ns), .va (.int ((k : Int) + 1)), .va (coP xs), .va (tI c), .va (psD bs), .va (tsD bs), .va (hiD k c bs), .va (.int f), x8, x9, x10, x11, x12, x13, x14, x15, x16] P := by
  unfold e_2
  generalize coP xs = CO at *
  generalize tI c = TC at *
  generalize psD bs = PS at *
  generalize tsD bs = TS at *
  generalize hiD k c bs = H at *
  simp
  refine M.T _ _ _ ((k : Int) + 1 - f) _ (by omega) fun j j0 j1 => ?_
  exact ⟨_, rfl, h (f + 1 + j) (by omega) (by omega)⟩
theorem et3 (h : P (.nx [.va (.drw p sc ns), .va (.int ((k : Int) + 1)), .va (coP xs), .va (tI c), .va (psD bs), .va (tsD bs), .va (hiD k c bs), .va (.int f), .va (.int q), .va (lI []), x10, x11, x12, x13, x14, x15, x16])) : exW mo dr e_3 [.va (.drw p sc ns), .va (.int ((k : Int) + 1)), .va (coP xs), .va (tI c), .va (psD bs), .va (tsD bs), .va (hiD k c bs), .va (.int f), .va (.int q), x9, x10, x11, x12, x13, x14, x15, x16] P := by
  unfold e_3
  generalize coP xs = CO at *
  generalize tI c = TC at *
  generalize psD bs = PS at *
  generalize tsD bs = TS at *
  generalize hiD k c bs = H at *
  simp
  exact h
def eb4 : WS := (.seq (.st (.set 9 ⟨[], false⟩ (.bin .add (.var 9) (.bin .mul (.lst (.cons (.bin .mul (.var 13) (.bin .fdiv (.cint 27720) (.bin .sub (.var 15) (.var 14)))) .nil)) (.bin .sub (.var 15) (.var 14)))))) .nop)
theorem e4_is : e_4 = .for (.tp (.cons (.nm 13) (.cons (.tp (.cons (.nm 14) (.cons (.nm 15) .nil))) .nil))) (.zip2 (.var 5) (.var 4)) eb4 := rfl
theorem et4 (H : Hs k c bs) (h : ∀ x13 x14 x15, P (.nx [.va (.drw p sc ns), .va (.int ((k : Int) + 1)), .va (coP xs), .va (tI c), .va (psD bs), .va (tsD bs), .va (hiD k c bs), .va (.int f), .va (.int q), .va (lI (evS bs)), x10, x11, x12, x13, x14, x15, x16])) : exW mo dr e_4 [.va (.drw p sc ns), .va (.int ((k : Int) + 1)), .va (coP xs), .va (tI c), .va (psD bs), .va (tsD bs), .va (hiD k c bs), .va (.int f), .va (.int q), .va (lI []), x10, x11, x12, x13, x14, x15, x16] P := by
  have z := zipB (fun B : Bk => D.int B.t) (fun B => pD (pB B)) bs
  have evi : evI mo (.zip2 (.var 5) (.var 4)) (seen [] 0 [.va (.drw p sc ns), .va (.int ((k : Int) + 1)), .va (coP xs), .va (tI c), .va (psD bs), .va (tsD bs), .va (hiD k c bs), .va (.int f), .va (.int q), .va (lI []), x10, x11, x12, x13, x14, x15, x16]) = some (bs.map fun B => D.tup [.int B.t, pD (pB B)]) := by
    have i5 : itemsD (tsD bs) = some (bs.map fun B => D.int B.t) := by rw [← map_t]; rfl
    have i4 : itemsD (psD bs) = some (bs.map fun B => pD (pB B)) := rfl
    generalize (bs.map fun B => D.tup [.int B.t, pD (pB B)]) = ZZ at *
    generalize (bs.map fun B => D.int B.t) = Z1 at *
    generalize (bs.map fun B => pD (pB B)) = Z2 at *
    generalize psD bs = PS at *
    generalize tsD bs = TS at *
    simp [i4, i5, z]
  rw [e4_is, exW_for]
  refine ⟨_, evi, ?_⟩
  refine loopX_ix (J := fun i ρ => ∃ x13 x14 x15, ρ = [.va (.drw p sc ns), .va (.int ((k : Int) + 1)), .va (coP xs), .va (tI c), .va (psD bs), .va (tsD bs), .va (hiD k c bs), .va (.int f), .va (.int q), .va (lI (evS (bs.take i))), x10, x11, x12, x13, x14, x15, x16]) _ 0 _ (fun i x ρ hx hj => ?_) ⟨x13, x14, x15, rfl⟩ fun ρ' hj => ?_
  · obtain ⟨x13, x14, x15, rfl⟩ := hj
    rw [Nat.zero_add]
    rw [List.getElem?_map] at hx
    obtain ⟨B, hB, rfl⟩ := Option.map_eq_some_iff.mp hx
    have mB := List.mem_of_getElem? hB
    have sm := H.small mB
    have tt := H.tot B mB
    have tk : bs.take (i + 1) = bs.take i ++ [B] := by rw [List.take_succ, hB]; rfl
    have el : ((evS (bs.take i)).length : Int) ≤ 12 := by
      have e := ev_len H.chain
      have hm := H.most
      have e2 : ∀ l : List Bk, evS bs = evS (bs.take i) ++ evS (bs.drop i) := fun _ => by
        have key : ∀ a b : List Bk, evS (a ++ b) = evS a ++ evS b := by
          intro a
          induction a with
          | nil => intro b; rfl
          | cons A a ih => intro b; show List.replicate _ _ ++ evS (a ++ b) = _; rw [ih, ← List.append_assoc]; rfl
        rw [← key, List.take_append_drop]
      have e3 := congrArg List.length (e2 [])
      rw [List.length_append] at e3
      omega
    have d1 : binD .fdiv (.int 27720) (.int (B.e - B.b)) = some (.int (27720 / (B.e - B.b))) := div_ok (by omega) (by omega)
    have m1 : binD .mul (.int B.t) (.int (27720 / (B.e - B.b))) = some (.int (vB B)) := mul_l (by omega) (by omega)
    have ms := mul_single (d := D.int (vB B)) (n := B.e - B.b) (by omega) (by omega)
    have g : glst ((evS (bs.take i)).map D.int ++ List.replicate (B.e - B.b).toNat (D.int (vB B))) = some (lI (evS (bs.take (i + 1)))) := by
      rw [tk, ev_snoc, glst_ok (by unfold LIM; rw [List.length_append, List.length_map, List.length_replicate]; omega)]
      show _ = some (D.lst _)
      rw [List.map_append, List.map_replicate]
    refine ⟨[.va (.drw p sc ns), .va (.int ((k : Int) + 1)), .va (coP xs), .va (tI c), .va (psD bs), .va (tsD bs), .va (hiD k c bs), .va (.int f), .va (.int q), .va (lI (evS (bs.take i))), x10, x11, x12, .va (.int B.t), .va (.int B.b), .va (.int B.e), x16], by simp [pD, pB], fun Q qq => ?_⟩
    have q' := qq [.va (.drw p sc ns), .va (.int ((k : Int) + 1)), .va (coP xs), .va (tI c), .va (psD bs), .va (tsD bs), .va (hiD k c bs), .va (.int f), .va (.int q), .va (lI (evS (bs.take (i + 1)))), x10, x11, x12, .va (.int B.t), .va (.int B.b), .va (.int B.e), x16] ⟨_, _, _, rfl⟩
    generalize coP xs = CO at *
    generalize tI c = TC at *
    generalize psD bs = PS at *
    generalize tsD bs = TS at *
    generalize hiD k c bs = H at *
    generalize lI (evS (bs.take (i + 1))) = EV at *
    simp [eb4, nxW_nx, d1, m1, ms, g]
    exact q'
  · obtain ⟨x13, x14, x15, rfl⟩ := hj
    rw [List.length_map, Nat.zero_add, List.take_length]
    exact h _ _ _
end
end TT
namespace TT
open PySem PV L2 M30 M23

theorem dt_frac (s : Int) : Dt 1 (fracD s) := .tup fun x hx => by
  rcases List.mem_cons.mp hx with rfl | hx
  · exact .int _
  · rcases List.mem_cons.mp hx with rfl | hx
    · exact .int _
    · cases hx
theorem eq_frac {mo : Mo} (s : Int) : eqD mo (fracD s) (fracD s) = some true := eqD_self (dt_frac s) (by decide)
section
variable {mo : Mo} {dr : Nat → MD} {p sc : Nat} {ns : List Int} {k : Nat} {c xs c2 : List Int} {bs : List Bk} {f q v : Int} {j : Nat} {x7 x8 x9 x10 x11 x12 x13 x14 x15 x16 : Sl} {P : Out → Prop}
theorem et5 (M : MF mo dr) (H : Hs k c bs) (hc : c.length ≤ 20) (f0 : 0 ≤ f) (f1 : f < q) (f2 : q ≤ (k : Int) + 1) (h : P (.nx [.va (.drw p sc ns), .va (.int ((k : Int) + 1)), .va (coP xs), .va (tI c), .va (psD bs), .va (tsD bs), .va (hiD k c bs), .va (.int f), .va (.int q), .va (lI (evS bs)), x10, x11, x12, x13, x14, x15, x16])) : exW mo dr e_5 [.va (.drw p sc ns), .va (.int ((k : Int) + 1)), .va (coP xs), .va (tI c), .va (psD bs), .va (tsD bs), .va (hiD k c bs), .va (.int f), .va (.int q), .va (lI (evS bs)), x10, x11, x12, x13, x14, x15, x16] P := by
  have e17 := M.f17 k c bs f q H hc f0 f1 f2
  have e24 := M.f24 (esS f q bs) (es_nn H f q)
  have sl : slcD (lI (evS bs)) (some f) (some q) = some (lI (slcI (evS bs) f q)) := by
    have l := ev_len H.chain
    have := cut_slc (evS bs) f0 (by omega) (show q ≤ (evS bs).length by omega)
    show some (D.lst (cutD ((evS bs).map D.int) (some f) (some q))) = _
    rw [this]
  have it : itemsD (lI (slcI (evS bs) f q)) = some ((slcI (evS bs) f q).map D.int) := rfl
  have ii := intsD_map (slcI (evS bs) f q)
  have es := ev_sum H.chain f0 f1 f2
  have qq := eq_frac (mo := mo) (esS f q bs)
  unfold e_5
  generalize coP xs = CO at *
  generalize tI c = TC at *
  generalize psD bs = PS at *
  generalize tsD bs = TS at *
  generalize hiD k c bs = HH at *
  generalize fracD (esS f q bs) = FR at *
  generalize lI (evS bs) = EV at *
  generalize lI (slcI (evS bs) f q) = SL at *
  generalize (slcI (evS bs) f q).map D.int = SM at *
  generalize slcI (evS bs) f q = SN at *
  simp [e17, sl, it, ii, es, e24, qq]
  exact h
def a6 : WT := (.lc (.nm 16) (.of (.slc (.var 3) (.som (.cint 1)) .non)) (.cmp .eq (.drw 20 (.cons (.pu (.var 0)) (.cons (.pu (.cint 2)) .nil))) (.pu (.cint 0))) (.pu (.var 16)) [16])
theorem e6_is : e_6 = .set 10 (.bi .tuple (.cons (.bin .add (.pu (.lst (.cons (.cint 0) .nil))) a6) .nil)) := rfl
theorem et6 (M : MF mo dr) (hc : Cut k c) (hl : c.length ≤ 20) (h : ∀ c2, Cut k c2 → (∀ i ∈ c2, i ∈ c) → c2.length ≤ 20 → P (.nx [.va (.drw p sc ns), .va (.int ((k : Int) + 1)), .va (coP xs), .va (tI c), .va (psD bs), .va (tsD bs), .va (hiD k c bs), .va (.int f), .va (.int q), .va (lI (evS bs)), .va (tI c2), x11, x12, x13, x14, x15, x16])) : exW mo dr e_6 [.va (.drw p sc ns), .va (.int ((k : Int) + 1)), .va (coP xs), .va (tI c), .va (psD bs), .va (tsD bs), .va (hiD k c bs), .va (.int f), .va (.int q), .va (lI (evS bs)), x10, x11, x12, x13, x14, x15, x16] P := by
  rw [e6_is, exW_set, evW_bi, evWs_cons, evW_bin, evW_pu]
  refine ⟨.lst [.int 0], by simp, ?_⟩
  unfold a6
  rw [evW_lc]
  have sl : slcD (tI c) (some 1) none = some (.tup ((c.map D.int).tail)) := by
    show some (D.tup (cutD (c.map D.int) (some 1) none)) = _
    rw [TT.cut_tail]
  have et : (c.map D.int).tail = c.tail.map D.int := by rw [List.map_tail]
  rw [et] at sl
  refine ⟨c.tail.map D.int, ?_, by unfold LIM; simp; omega, mapX_sub (g := fun x => x) _ (fun x hx Q q1 q2 => ?_) fun ys s => ?_⟩
  · generalize coP xs = CO at *
    generalize tI c = TC at *
    generalize psD bs = PS at *
    generalize tsD bs = TS at *
    generalize hiD k c bs = HH at *
    simp [sl]
  · obtain ⟨i, _, rfl⟩ := List.mem_map.mp hx
    refine ⟨_, bindT_nm, ?_⟩
    simp
    refine M.T p sc ns 2 _ (by decide) fun j j0 j1 => ?_
    by_cases ej : j = 0
    · simp [ej]
      exact q1
    · simp [ej]
      exact q2
  · obtain ⟨r, h1, rfl⟩ := List.sublist_map_iff.mp s
    rw [List.map_id']
    have hh := hc.head
    obtain ⟨a, r0, rfl⟩ : ∃ a r0, c = a :: r0 := by
      cases c with
      | nil => exact absurd rfl hc.ne
      | cons a r0 => exact ⟨a, r0, rfl⟩
    have ea : a = 0 := by simpa using hh
    subst ea
    have h1 : r.Sublist r0 := h1
    have rl := h1.length_le
    have hl : r0.length + 1 ≤ 20 := hl
    have c2c : Cut k (0 :: r) := ⟨List.Pairwise.sublist (h1.cons₂ 0) hc.rise, rfl, fun x hx => hc.lt x ((h1.cons₂ 0).subset hx)⟩
    have g : glst (D.int 0 :: r.map D.int) = some (lI (0 :: r)) := glst_ok (by unfold LIM; simp; omega)
    refine ⟨lI (0 :: r), g, ?_⟩
    rw [evWs_nil]
    exact ⟨tI (0 :: r), rfl, h (0 :: r) c2c (fun i hi => (h1.cons₂ 0).subset hi) (by simp; omega)⟩
theorem et7 (M : MF mo dr) (hx : Co k xs) (hc : Cut k c) (hl : c.length ≤ 20) (hb : bs = bsX k xs c) (hc2 : Cut k c2) (sub : ∀ i ∈ c2, i ∈ c) (l2 : c2.length ≤ 20) (h : P (.nx [.va (.drw p sc ns), .va (.int ((k : Int) + 1)), .va (coP xs), .va (tI c), .va (psD bs), .va (tsD bs), .va (hiD k c bs), .va (.int f), .va (.int q), .va (lI (evS bs)), .va (tI c2), x11, x12, x13, x14, x15, x16])) : exW mo dr e_7 [.va (.drw p sc ns), .va (.int ((k : Int) + 1)), .va (coP xs), .va (tI c), .va (psD bs), .va (tsD bs), .va (hiD k c bs), .va (.int f), .va (.int q), .va (lI (evS bs)), .va (tI c2), x11, x12, x13, x14, x15, x16] P := by
  have e18 := M.f18 k c c2 xs hx hc hc2 sub hl l2
  have e14 := M.f14 k c2 xs hx hc2 l2
  have e18' := M.f18 k c c xs hx hc hc (fun i h => h) hl hl
  have q1 := M.heq k k c2 c2 (bsX k xs c2) (bsX k xs c2)
  have q2 := M.heq k k c c (bsX k xs c) (bsX k xs c)
  rw [decide_eq_true rfl, decide_eq_true rfl, decide_eq_true rfl] at q1 q2
  rw [← hb] at e18 e18' q2
  unfold e_7
  generalize coP xs = CO at *
  generalize tI c = TC at *
  generalize psD bs = PS at *
  generalize tsD bs = TS at *
  generalize hiD k c bs = HH at *
  generalize hiD k c2 (bsX k xs c2) = H2 at *
  generalize tI c2 = TC2 at *
  simp [e18, e14, q1, e18', q2]
  exact h
theorem et8 (M : MF mo dr) (hx : Co k xs) (hc : Cut k c) (H : Hs k c bs) (hl : c.length ≤ 20) (hb : bs = bsX k xs c) (h : P (.nx [.va (.drw p sc ns), .va (.int ((k : Int) + 1)), .va (coP xs), .va (tI c), .va (psD bs), .va (tsD bs), .va (hiD k c bs), .va (.int f), .va (.int q), .va (lI (evS bs)), .va (tI c2), x11, x12, x13, x14, x15, x16])) : exW mo dr e_8 [.va (.drw p sc ns), .va (.int ((k : Int) + 1)), .va (coP xs), .va (tI c), .va (psD bs), .va (tsD bs), .va (hiD k c bs), .va (.int f), .va (.int q), .va (lI (evS bs)), .va (tI c2), x11, x12, x13, x14, x15, x16] P := by
  have hm := hx.most
  have e17 := M.f17 k c bs 0 ((k : Int) + 1) H hl (by omega) (by omega) (by omega)
  have tr := tot_rows hx hc
  rw [← hb] at tr
  have nn : 0 ≤ xs.sum := (sum_le hx.v).1
  rw [es_whole H, tr, frac_whole nn] at e17
  have h6 := M.h6 k c bs
  have i6 : itemsD (tsD bs) = some ((bs.map (·.t)).map D.int) := rfl
  have n6 := intsD_map (bs.map (·.t))
  have rw' := M.rows xs
  have qq : eqD mo (.tup [.int xs.sum, .int 1]) (.tup [.int xs.sum, .int 1]) = some true := eqD_self (n := 1) (.tup fun x hx => by
    rcases List.mem_cons.mp hx with rfl | hx
    · exact .int _
    · rcases List.mem_cons.mp hx with rfl | hx
      · exact .int _
      · cases hx) (by decide)
  unfold e_8
  generalize coP xs = CO at *
  generalize tI c = TC at *
  generalize psD bs = PS at *
  generalize (bs.map (·.t)).map D.int = T1 at *
  generalize bs.map (·.t) = T2 at *
  generalize tsD bs = TS at *
  generalize hiD k c bs = HH at *
  generalize xs.sum = R at *
  simp [h6, i6, n6, tr, rw', e17, qq]
  exact h
theorem et9 (h : P (.nx [.va (.drw p sc ns), .va (.int ((k : Int) + 1)), .va (coP xs), .va (tI c), .va (psD bs), .va (tsD bs), .va (hiD k c bs), .va (.int f), .va (.int q), .va (lI (evS bs)), .va (tI c2), .ow (lI (bs.map (·.t))), x12, x13, x14, x15, x16])) : exW mo dr e_9 [.va (.drw p sc ns), .va (.int ((k : Int) + 1)), .va (coP xs), .va (tI c), .va (psD bs), .va (tsD bs), .va (hiD k c bs), .va (.int f), .va (.int q), .va (lI (evS bs)), .va (tI c2), x11, x12, x13, x14, x15, x16] P := by
  have i6 : itemsD (tsD bs) = some ((bs.map (·.t)).map D.int) := rfl
  have el : lI (bs.map (·.t)) = .lst ((bs.map (·.t)).map D.int) := rfl
  rw [el] at h
  unfold e_9
  generalize (bs.map (·.t)).map D.int = T1 at *
  generalize coP xs = CO at *
  generalize tI c = TC at *
  generalize psD bs = PS at *
  generalize tsD bs = TS at *
  generalize hiD k c bs = HH at *
  have ow : ownable (.lst T1) = true := rfl
  simp [i6, ow]
  exact h
theorem et10 (M : MF mo dr) (H : Hs k c bs) (h : ∀ j : Nat, j < bs.length → P (.nx [.va (.drw p sc ns), .va (.int ((k : Int) + 1)), .va (coP xs), .va (tI c), .va (psD bs), .va (tsD bs), .va (hiD k c bs), .va (.int f), .va (.int q), .va (lI (evS bs)), .va (tI c2), .ow (lI (bs.map (·.t))), .va (.int (j : Int)), x13, x14, x15, x16])) : exW mo dr e_10 [.va (.drw p sc ns), .va (.int ((k : Int) + 1)), .va (coP xs), .va (tI c), .va (psD bs), .va (tsD bs), .va (hiD k c bs), .va (.int f), .va (.int q), .va (lI (evS bs)), .va (tI c2), .ow (lI (bs.map (·.t))), x12, x13, x14, x15, x16] P := by
  have ln : biD mo .len [lI (bs.map (·.t))] = some (.int (bs.length : Int)) := by
    show some (D.int (((bs.map (·.t)).map D.int).length : Int)) = _
    rw [List.length_map, List.length_map]
  have pos : 0 < bs.length := by rw [← H.len]; exact List.length_pos_iff.mpr H.cut.ne
  unfold e_10
  generalize coP xs = CO at *
  generalize tI c = TC at *
  generalize psD bs = PS at *
  generalize tsD bs = TS at *
  generalize hiD k c bs = HH at *
  generalize lI (bs.map (·.t)) = BT at *
  simp [ln]
  refine M.T _ _ _ _ _ (by omega) fun j j0 j1 => ?_
  obtain ⟨i, rfl⟩ := Int.eq_ofNat_of_zero_le j0
  simp [flatD]
  exact h i (by omega)
theorem et11 {B : Bk} (hj : bs[j]? = some B) (h : ∀ v : Int, 0 ≤ v → v ≤ 1 → v ≠ B.t → P (.nx [.va (.drw p sc ns), .va (.int ((k : Int) + 1)), .va (coP xs), .va (tI c), .va (psD bs), .va (tsD bs), .va (hiD k c bs), .va (.int f), .va (.int q), .va (lI (evS bs)), .va (tI c2), .ow (lI ((bs.map (·.t)).set j v)), .va (.int (j : Int)), x13, x14, x15, x16])) (t0 : 0 ≤ B.t) : exW mo dr e_11 [.va (.drw p sc ns), .va (.int ((k : Int) + 1)), .va (coP xs), .va (tI c), .va (psD bs), .va (tsD bs), .va (hiD k c bs), .va (.int f), .va (.int q), .va (lI (evS bs)), .va (tI c2), .ow (lI (bs.map (·.t))), .va (.int (j : Int)), x13, x14, x15, x16] P := by
  have hj' : (bs.map (·.t))[j]? = some B.t := by rw [List.getElem?_map, hj]; rfl
  obtain ⟨hlt, ht⟩ := List.getElem?_eq_some_iff.mp hj'
  have ix : idxD mo (lI (bs.map (·.t))) (.int (j : Int)) = some (.int B.t) := by
    have z := atI_map' D.int (bs.map (·.t)) j hlt
    rw [ht] at z
    exact z
  have ixn : ixN ((bs.map (·.t)).map D.int).length (j : Int) = some j := by
    unfold ixN
    rw [if_pos (by omega), if_pos (by rw [List.length_map]; omega)]
    rfl
  have st : ∀ v : Int, (((bs.map (·.t)).map D.int).set j (.int v)) = ((bs.map (·.t)).set j v).map D.int := fun v => by rw [List.map_set]
  have el : lI (bs.map (·.t)) = .lst ((bs.map (·.t)).map D.int) := rfl
  have hv : ∀ v : Int, 0 ≤ v → v ≤ 1 → v ≠ B.t → P (.nx [.va (.drw p sc ns), .va (.int ((k : Int) + 1)), .va (coP xs), .va (tI c), .va (psD bs), .va (tsD bs), .va (hiD k c bs), .va (.int f), .va (.int q), .va (lI (evS bs)), .va (tI c2), .ow (.lst (((bs.map (·.t)).map D.int).set j (.int v))), .va (.int (j : Int)), x13, x14, x15, x16]) := fun v a b d => by
    rw [st]; exact h v a b d
  rw [el] at ix ⊢
  unfold e_11
  generalize (bs.map (·.t)).map D.int = T1 at *
  generalize coP xs = CO at *
  generalize tI c = TC at *
  generalize psD bs = PS at *
  generalize tsD bs = TS at *
  generalize hiD k c bs = HH at *
  by_cases z : 0 < B.t
  · have w := hv 0 (by omega) (by omega) (by omega)
    simp [ix, z, flatD, ixn]
    exact w
  · have w := hv 1 (by omega) (by omega) (by omega)
    simp [ix, z, flatD, ixn]
    exact w
theorem et12 (M : MF mo dr) (H : Hs k c bs) (hl : c.length ≤ 20) {B : Bk} (hj : bs[j]? = some B) (v0 : 0 ≤ v) (v1 : v ≤ 1) (ne : v ≠ B.t) (h : P (.nx [.va (.drw p sc ns), .va (.int ((k : Int) + 1)), .va (coP xs), .va (tI c), .va (psD bs), .va (tsD bs), .va (hiD k c bs), .va (.int f), .va (.int q), .va (lI (evS bs)), .va (tI c2), .ow (lI ((bs.map (·.t)).set j v)), .va (.int (j : Int)), x13, x14, x15, x16])) : exW mo dr e_12 [.va (.drw p sc ns), .va (.int ((k : Int) + 1)), .va (coP xs), .va (tI c), .va (psD bs), .va (tsD bs), .va (hiD k c bs), .va (.int f), .va (.int q), .va (lI (evS bs)), .va (tI c2), .ow (lI ((bs.map (·.t)).set j v)), .va (.int (j : Int)), x13, x14, x15, x16] P := by
  obtain ⟨hb, tb'⟩ := bent_hs H hj ⟨v0, v1⟩
  have mk := M.mk1 k c _ hb hl
  have q1 := M.heq k k c c bs (bs.set j { B with t := v })
  have hj' : (bs.map (·.t))[j]? = some B.t := by rw [List.getElem?_map, hj]; rfl
  rw [tb', decide_eq_false (bent_ne hj' ne), Bool.and_false, Bool.and_false] at q1
  have ets : tsD (bs.set j { B with t := v }) = .tup (((bs.map (·.t)).set j v).map D.int) := by
    show D.tup (((bs.set j { B with t := v }).map (·.t)).map D.int) = _
    rw [tb']
  rw [ets] at mk
  have it : itemsD (lI ((bs.map (·.t)).set j v)) = some (((bs.map (·.t)).set j v).map D.int) := rfl
  have tu : tupleD (lI ((bs.map (·.t)).set j v)) = some (.tup (((bs.map (·.t)).set j v).map D.int)) := rfl
  have wide : k + 1 < 12 → mo.mkD 1 [.int ((k : Int) + 1 + 1), tI c, tsD bs] = some (hiD (k + 1) c (bs.map (wideB k))) ∧ eqD mo (hiD k c bs) (hiD (k + 1) c (bs.map (wideB k))) = some false := fun hk => by
    obtain ⟨w1, w2⟩ := wide_hs H hk
    have m := M.mk1 (k + 1) c _ w1 hl
    have q := M.heq k (k + 1) c c bs (bs.map (wideB k))
    have e : ((k + 1 : Nat) : Int) + 1 = (k : Int) + 1 + 1 := by omega
    have et : tsD (bs.map (wideB k)) = tsD bs := by
      show D.tup (((bs.map (wideB k)).map (·.t)).map D.int) = _
      rw [w2]
    rw [e, et] at m
    rw [decide_eq_false (show ¬ (k : Int) + 1 = ((k + 1 : Nat) : Int) + 1 by omega), Bool.false_and] at q
    exact ⟨m, q⟩
  unfold e_12
  generalize lI ((bs.map (·.t)).set j v) = BT at *
  generalize D.tup (((bs.map (·.t)).set j v).map D.int) = TT2 at *
  generalize coP xs = CO at *
  generalize tI c = TC at *
  generalize psD bs = PS at *
  generalize tsD bs = TS at *
  generalize hiD k c bs = HH at *
  generalize hiD k c (bs.set j { B with t := v }) = H2 at *
  generalize hiD (k + 1) c (bs.map (wideB k)) = H3 at *
  by_cases hk : (k : Int) + 1 < 12
  · obtain ⟨w1, w2⟩ := wide (by omega)
    simp [tu, mk, q1, hk, w1, w2]
    exact h
  · simp [tu, mk, q1, hk]
    exact h
theorem est_ok (M : MF mo dr) (hx : Co k xs) (hc : Cut k c) (hl : c.length ≤ 20) (hb : bs = bsX k xs c) {PP : D → Prop} (hp : PP (.bl true)) : runW mo dr 17 7 w25 [.drw p sc ns, .int ((k : Int) + 1), coP xs, tI c, psD bs, tsD bs, hiD k c bs] PP := by
  have H : Hs k c bs := by rw [hb]; exact bsX_hs hx hc
  refine ⟨rfl, ?_⟩
  rw [w25_split]
  show exW mo dr _ [.va (.drw p sc ns), .va (.int ((k : Int) + 1)), .va (coP xs), .va (tI c), .va (psD bs), .va (tsD bs), .va (hiD k c bs), .no, .no, .no, .no, .no, .no, .no, .no, .no, .no] _
  rw [exW_seq]
  refine et1 M fun f f0 f1 => ?_
  rw [nxW_nx, exW_seq]
  refine et2 M f0 f1 fun q q0 q1 => ?_
  rw [nxW_nx, exW_seq]
  refine et3 ?_
  rw [nxW_nx, exW_seq]
  refine et4 H fun x13 x14 x15 => ?_
  rw [nxW_nx, exW_seq]
  refine et5 M H hl f0 q0 q1 ?_
  rw [nxW_nx, exW_seq]
  refine et6 M hc hl fun c2 hc2 sub l2 => ?_
  rw [nxW_nx, exW_seq]
  refine et7 M hx hc hl hb hc2 sub l2 ?_
  rw [nxW_nx, exW_seq]
  refine et8 M hx hc H hl hb ?_
  rw [nxW_nx, exW_seq]
  refine et9 ?_
  rw [nxW_nx, exW_seq]
  refine et10 M H fun j hj => ?_
  obtain ⟨B, hB⟩ : ∃ B, bs[j]? = some B := ⟨bs[j], List.getElem?_eq_getElem hj⟩
  have tB := (H.tot B (List.mem_of_getElem? hB)).1
  rw [nxW_nx, exW_seq]
  refine et11 hB (fun v v0 v1 ne => ?_) tB
  rw [nxW_nx, exW_seq]
  refine et12 M H hl hB v0 v1 ne ?_
  rw [nxW_nx, exW_seq]
  unfold e_13
  simp
  exact hp
end
theorem dr25 (n : Nat) (ds : List D) (P : D → Prop) : tb.dr wb (n+1) 25 ds P = runW (tb.mo n) (tb.dr wb n) 17 7 w25 ds P := rfl
end TT
namespace TT
open PySem PV L2 M30 M23
def gbody : WS := (.seq (.set 3 (.drw 21 (.cons (.pu (.var 1)) (.cons (.pu (.cint 12)) .nil)))) (.seq (.st (.tgt (.tp (.cons (.nm 8) (.cons (.nm 9) .nil))) ⟨[], false⟩ (.tup (.cons (.bi .len (.cons (.var 3) .nil)) (.cons (.mk 0 (.cons (.var 3) .nil)) .nil))))) (.seq (.set 4 (.drw 22 (.cons (.pu (.var 1)) (.cons (.pu (.var 8)) .nil)))) (.seq (.st (.set 5 ⟨[], false⟩ (.call 23 (.cons (.var 8) (.cons (.var 4) .nil))))) (.seq (.st (.set 6 ⟨[], false⟩ (.bi .tuple (.cons (.lc (.tp (.cons (.nm 10) (.cons (.nm 11) .nil))) (.of (.var 5)) (.cbl true) (.bi .sum (.cons (.slc (.var 3) (.som (.var 10)) (.som (.var 11))) .nil)) [10, 11]) .nil)))) (.seq (.st (.set 7 ⟨[], false⟩ (.call 14 (.cons (.var 9) (.cons (.var 4) .nil))))) (.seq (.ife (.pu (.cmp .ne (.tup (.cons (.fld (.var 7) 4) (.cons (.fld (.var 7) 5) (.cons (.fld (.var 7) 6) (.cons (.bi .len (.cons (.var 7) .nil)) .nil))))) (.tup (.cons (.var 8) (.cons (.var 4) (.cons (.var 6) (.cons (.bi .len (.cons (.var 4) .nil)) .nil))))))) (.seq (.st (.ret (.cbl false))) .nop) .nop) (.seq (.ife (.pu (.cmp .ne (.me 7 (.var 7) .nil) (.var 5))) (.seq (.st (.ret (.cbl false))) .nop) .nop) (.seq (.ife (.pu (.cmp .ne (.call 15 (.cons (.var 9) (.cons (.var 4) .nil))) (.bi .tuple (.cons (.lc (.tp (.cons (.nm 10) (.cons (.nm 11) .nil))) (.of (.var 5)) (.cbl true) (.bi .max (.cons (.slc (.var 3) (.som (.var 10)) (.som (.var 11))) .nil)) [10, 11]) .nil)))) (.seq (.st (.ret (.cbl false))) .nop) .nop) (.seq (.ife (.pu (.cmp .ne (.call 16 (.cons (.var 9) (.cons (.var 4) .nil))) (.bi .tuple (.cons (.lc (.tp (.cons (.nm 10) (.cons (.nm 11) .nil))) (.of (.var 5)) (.cbl true) (.bi .len (.cons (.lc (.nm 12) (.of (.slc (.var 3) (.som (.var 10)) (.som (.var 11)))) (.cmp .gt (.var 12) (.cint 0)) (.var 12) [12]) .nil)) [10, 11]) .nil)))) (.seq (.st (.ret (.cbl false))) .nop) .nop) (.seq (.ife (.pu (.or (.cmp .ne (.var 7) (.mk 1 (.cons (.var 8) (.cons (.var 4) (.cons (.var 6) .nil))))) (.and (.cmp .gt (.bi .len (.cons (.var 4) .nil)) (.cint 1)) (.cmp .eq (.var 7) (.call 14 (.cons (.var 9) (.cons (.slc (.var 4) .non (.som (.neg (.cint 1)))) .nil))))))) (.seq (.st (.ret (.cbl false))) .nop) .nop) (.seq (.ife (.not (.drw 25 (.cons (.pu (.var 1)) (.cons (.pu (.var 8)) (.cons (.pu (.var 9)) (.cons (.pu (.var 4)) (.cons (.pu (.var 5)) (.cons (.pu (.var 6)) (.cons (.pu (.var 7)) .nil))))))))) (.seq (.st (.ret (.cbl false))) .nop) .nop) .nop))))))))))))
def g_1 : WS := (.set 3 (.drw 21 (.cons (.pu (.var 1)) (.cons (.pu (.cint 12)) .nil))))
def g_2 : WS := (.st (.tgt (.tp (.cons (.nm 8) (.cons (.nm 9) .nil))) ⟨[], false⟩ (.tup (.cons (.bi .len (.cons (.var 3) .nil)) (.cons (.mk 0 (.cons (.var 3) .nil)) .nil)))))
def g_3 : WS := (.set 4 (.drw 22 (.cons (.pu (.var 1)) (.cons (.pu (.var 8)) .nil))))
def g_4 : WS := (.st (.set 5 ⟨[], false⟩ (.call 23 (.cons (.var 8) (.cons (.var 4) .nil)))))
def g_5 : WS := (.st (.set 6 ⟨[], false⟩ (.bi .tuple (.cons (.lc (.tp (.cons (.nm 10) (.cons (.nm 11) .nil))) (.of (.var 5)) (.cbl true) (.bi .sum (.cons (.slc (.var 3) (.som (.var 10)) (.som (.var 11))) .nil)) [10, 11]) .nil))))
def g_6 : WS := (.st (.set 7 ⟨[], false⟩ (.call 14 (.cons (.var 9) (.cons (.var 4) .nil)))))
def g_7 : WS := (.ife (.pu (.cmp .ne (.tup (.cons (.fld (.var 7) 4) (.cons (.fld (.var 7) 5) (.cons (.fld (.var 7) 6) (.cons (.bi .len (.cons (.var 7) .nil)) .nil))))) (.tup (.cons (.var 8) (.cons (.var 4) (.cons (.var 6) (.cons (.bi .len (.cons (.var 4) .nil)) .nil))))))) (.seq (.st (.ret (.cbl false))) .nop) .nop)
def g_8 : WS := (.ife (.pu (.cmp .ne (.me 7 (.var 7) .nil) (.var 5))) (.seq (.st (.ret (.cbl false))) .nop) .nop)
def g_9 : WS := (.ife (.pu (.cmp .ne (.call 15 (.cons (.var 9) (.cons (.var 4) .nil))) (.bi .tuple (.cons (.lc (.tp (.cons (.nm 10) (.cons (.nm 11) .nil))) (.of (.var 5)) (.cbl true) (.bi .max (.cons (.slc (.var 3) (.som (.var 10)) (.som (.var 11))) .nil)) [10, 11]) .nil)))) (.seq (.st (.ret (.cbl false))) .nop) .nop)
def g_10 : WS := (.ife (.pu (.cmp .ne (.call 16 (.cons (.var 9) (.cons (.var 4) .nil))) (.bi .tuple (.cons (.lc (.tp (.cons (.nm 10) (.cons (.nm 11) .nil))) (.of (.var 5)) (.cbl true) (.bi .len (.cons (.lc (.nm 12) (.of (.slc (.var 3) (.som (.var 10)) (.som (.var 11)))) (.cmp .gt (.var 12) (.cint 0)) (.var 12) [12]) .nil)) [10, 11]) .nil)))) (.seq (.st (.ret (.cbl false))) .nop) .nop)
def g_11 : WS := (.ife (.pu (.or (.cmp .ne (.var 7) (.mk 1 (.cons (.var 8) (.cons (.var 4) (.cons (.var 6) .nil))))) (.and (.cmp .gt (.bi .len (.cons (.var 4) .nil)) (.cint 1)) (.cmp .eq (.var 7) (.call 14 (.cons (.var 9) (.cons (.slc (.var 4) .non (.som (.neg (.cint 1)))) .nil))))))) (.seq (.st (.ret (.cbl false))) .nop) .nop)
def g_12 : WS := (.ife (.not (.drw 25 (.cons (.pu (.var 1)) (.cons (.pu (.var 8)) (.cons (.pu (.var 9)) (.cons (.pu (.var 4)) (.cons (.pu (.var 5)) (.cons (.pu (.var 6)) (.cons (.pu (.var 7)) .nil))))))))) (.seq (.st (.ret (.cbl false))) .nop) .nop)
theorem g_split : gbody = (.seq g_1 (.seq g_2 (.seq g_3 (.seq g_4 (.seq g_5 (.seq g_6 (.seq g_7 (.seq g_8 (.seq g_9 (.seq g_10 (.seq g_11 (.seq g_12 .nop)))))))))))) := rfl
def g0 : WS := (.set 1 (.newd (.cons (.pu (.var 0)) (.cons (.pu (.cint 0)) .nil))))
def gE : WS := (.st (.ret (.cbl true)))
theorem w26_split : w26 = (.seq g0 (.seq (.for (.nm 2) (.rng1 (.cint 5)) gbody) (.seq gE .nop))) := rfl
theorem slc_lI (ns : List Int) {a b : Int} (h0 : 0 ≤ a) (h1 : 0 ≤ b) (h : b ≤ ns.length) : slcD (lI ns) (some a) (some b) = some (lI (slcI ns a b)) := by
  have := cut_slc ns h0 h1 h
  show some (D.lst (cutD (ns.map D.int) (some a) (some b))) = _
  rw [this]
theorem dt_ps (bs : List Bk) : Dt 2 (psD bs) := .lst fun x hx => by
  obtain ⟨B, _, rfl⟩ := List.mem_map.mp hx
  exact .tup fun y hy => by
    rcases List.mem_cons.mp hy with rfl | hy
    · exact .int _
    · rcases List.mem_cons.mp hy with rfl | hy
      · exact .int _
      · cases hy
theorem dt_4 (i j : Int) (a b : List Int) : Dt 2 (.tup [.int i, tI a, tI b, .int j]) := .tup fun x hx => by
  rcases List.mem_cons.mp hx with rfl | hx
  · exact .int _
  · rcases List.mem_cons.mp hx with rfl | hx
    · exact .tup (Dt.ints 0 a)
    · rcases List.mem_cons.mp hx with rfl | hx
      · exact .tup (Dt.ints 0 b)
      · rcases List.mem_cons.mp hx with rfl | hx
        · exact .int _
        · cases hx
theorem slc_init {c : List Int} (h : 1 ≤ c.length) : slcD (tI c) none (some (-1)) = some (tI c.dropLast) := by
  have e : cutD (c.map D.int) none (some (-1)) = (c.dropLast).map D.int := by
    unfold cutD
    have l : (c.map D.int).length = c.length := List.length_map _
    have s0 : HT.sIx (c.map D.int).length 0 none = 0 := rfl
    have s1 : HT.sIx (c.map D.int).length (c.map D.int).length (some (-1)) = c.length - 1 := by
      rw [l]
      unfold HT.sIx
      simp
      try omega
    rw [s0, s1, List.drop_zero, Nat.sub_zero, List.dropLast_eq_take, List.map_take]
  show some (D.tup (cutD (c.map D.int) none (some (-1)))) = _
  rw [e]
theorem cut_init {k : Nat} {c : List Int} (h : Cut k c) (hl : 1 < c.length) : Cut k c.dropLast := by
  obtain ⟨a, b, r, rfl⟩ : ∃ a b r, c = a :: b :: r := by
    cases c with
    | nil => simp at hl
    | cons a c =>
      cases c with
      | nil => simp at hl
      | cons b r => exact ⟨a, b, r, rfl⟩
  have sub : (a :: b :: r).dropLast.Sublist (a :: b :: r) := List.dropLast_sublist _
  exact ⟨List.Pairwise.sublist sub h.rise, h.head, fun x hx => h.lt x (sub.subset hx)⟩
section
variable {mo : Mo} {dr : Nat → MD} {p sc : Nat} {ns : List Int} {scr : D} {k : Nat} {c xs : List Int} {bs : List Bk} {x2 x3 x4 x5 x6 x7 x8 x9 x10 x11 x12 : Sl} {P : Out → Prop}
theorem gt1 (M : MF mo dr) (h : ∀ k xs, Co k xs → P (.nx [.va scr, .va (.drw p sc ns), x2, .va (lI xs), x4, x5, x6, x7, x8, x9, x10, x11, x12])) : exW mo dr g_1 [.va scr, .va (.drw p sc ns), x2, x3, x4, x5, x6, x7, x8, x9, x10, x11, x12] P := by
  unfold g_1
  simp
  exact M.d21 _ _ _ _ h
theorem gt2 (M : MF mo dr) (hx : Co k xs) (h : P (.nx [.va scr, .va (.drw p sc ns), x2, .va (lI xs), x4, x5, x6, x7, .va (.int ((k : Int) + 1)), .va (coP xs), x10, x11, x12])) : exW mo dr g_2 [.va scr, .va (.drw p sc ns), x2, .va (lI xs), x4, x5, x6, x7, x8, x9, x10, x11, x12] P := by
  have mk := M.mk0 k xs hx
  have hl := hx.len
  have ln : biD mo .len [lI xs] = some (.int ((k : Int) + 1)) := by
    show some (D.int ((xs.map D.int).length : Int)) = _
    rw [List.length_map, hl]; rfl
  unfold g_2
  generalize lI xs = L at *
  generalize coP xs = CO at *
  simp [mk, ln]
  exact h
theorem gt3 (M : MF mo dr) (hx : Co k xs) (h : ∀ c, Cut k c → c.length ≤ 20 → P (.nx [.va scr, .va (.drw p sc ns), x2, .va (lI xs), .va (tI c), x5, x6, x7, .va (.int ((k : Int) + 1)), .va (coP xs), x10, x11, x12])) : exW mo dr g_3 [.va scr, .va (.drw p sc ns), x2, .va (lI xs), x4, x5, x6, x7, .va (.int ((k : Int) + 1)), .va (coP xs), x10, x11, x12] P := by
  have hm := hx.most
  unfold g_3
  generalize lI xs = L at *
  generalize coP xs = CO at *
  simp
  exact M.d22 _ _ _ k _ hm fun c hc hl => h c hc (by omega)
theorem gt4 (M : MF mo dr) (H : Hs k c bs) (hl : c.length ≤ 20) (h : P (.nx [.va scr, .va (.drw p sc ns), x2, .va (lI xs), .va (tI c), .va (psD bs), x6, x7, .va (.int ((k : Int) + 1)), .va (coP xs), x10, x11, x12])) : exW mo dr g_4 [.va scr, .va (.drw p sc ns), x2, .va (lI xs), .va (tI c), x5, x6, x7, .va (.int ((k : Int) + 1)), .va (coP xs), x10, x11, x12] P := by
  have f := M.f23 k c bs H hl
  unfold g_4
  generalize lI xs = L at *
  generalize coP xs = CO at *
  generalize tI c = TC at *
  generalize psD bs = PS at *
  simp [f]
  exact h
theorem gt5 (hx : Co k xs) (H : Hs k c bs) (hl : c.length ≤ 20) (ht : ∀ B ∈ bs, (slcI xs B.b B.e).sum = B.t) (h : P (.nx [.va scr, .va (.drw p sc ns), x2, .va (lI xs), .va (tI c), .va (psD bs), .va (tsD bs), x7, .va (.int ((k : Int) + 1)), .va (coP xs), x10, x11, x12])) : exW mo dr g_5 [.va scr, .va (.drw p sc ns), x2, .va (lI xs), .va (tI c), .va (psD bs), x6, x7, .va (.int ((k : Int) + 1)), .va (coP xs), x10, x11, x12] P := by
  have bl : bs.length ≤ 20 := by rw [← H.len]; exact hl
  have xl := hx.len
  have mm : ∀ (o3 o7 : Option D), mapO (lcF mo (.tp (.cons (.nm 10) (.cons (.nm 11) .nil))) (.cbl true) (.bi .sum (.cons (.slc (.var 3) (.som (.var 10)) (.som (.var 11))) .nil)) [10, 11] [some scr, some (.drw p sc ns), sO x2, some (lI xs), some (tI c), some (psD bs), sO x6, sO x7, some (.int ((k : Int) + 1)), some (coP xs), sO x10, sO x11, sO x12]) (bs.map fun B => pD (pB B)) = some (bs.map fun B => D.int B.t) := fun _ _ =>
    mapO_map fun B hB => by
      have w := H.chain.le.2 B hB
      have sl := slc_lI xs (a := B.b) (b := B.e) w.1 (by omega) (by omega)
      have i := intsD_map (slcI xs B.b B.e)
      have e := ht B hB
      have it : itemsD (lI (slcI xs B.b B.e)) = some ((slcI xs B.b B.e).map D.int) := rfl
      generalize lI (slcI xs B.b B.e) = Y0 at *
      generalize (slcI xs B.b B.e).map D.int = Y1 at *
      generalize slcI xs B.b B.e = Y2 at *
      generalize lI xs = L at *
      generalize coP xs = CO at *
      generalize tI c = TC at *
      generalize psD bs = PS at *
      simp only [lcF, pD, pB, bindT_tp, bindTs_cons, bindTs_nil, bindT_nm, wipeO_cons, wipeO_nil, List.set, Option.bind_some, ev_cbl, tB_bl, if_true, ev_bi, evs_cons, evs_nil, ev_slc, evo_som, ev_var, List.getElem?_cons_succ, List.getElem?_cons_zero, sl, sum_d, it, i, e, Option.map_some]
  have mm := mm none none
  rw [← map_t] at mm
  have g : glst ((bs.map (·.t)).map D.int) = some (.lst ((bs.map (·.t)).map D.int)) := glst_ok (by unfold LIM; rw [List.length_map, List.length_map]; omega)
  have ip : itemsD (psD bs) = some (bs.map fun B => pD (pB B)) := rfl
  have ets : tsD bs = .tup ((bs.map (·.t)).map D.int) := rfl
  rw [ets] at h
  unfold g_5
  generalize (bs.map (·.t)).map D.int = T1 at *
  generalize (bs.map fun B => pD (pB B)) = P1 at *
  generalize lI xs = L at *
  generalize coP xs = CO at *
  generalize tI c = TC at *
  generalize psD bs = PS at *
  simp [ip, mm, g]
  exact h
theorem gt6 (M : MF mo dr) (hx : Co k xs) (hc : Cut k c) (hl : c.length ≤ 20) (hb : bs = bsX k xs c) (h : P (.nx [.va scr, .va (.drw p sc ns), x2, .va (lI xs), .va (tI c), .va (psD bs), .va (tsD bs), .va (hiD k c bs), .va (.int ((k : Int) + 1)), .va (coP xs), x10, x11, x12])) : exW mo dr g_6 [.va scr, .va (.drw p sc ns), x2, .va (lI xs), .va (tI c), .va (psD bs), .va (tsD bs), x7, .va (.int ((k : Int) + 1)), .va (coP xs), x10, x11, x12] P := by
  have f := M.f14 k c xs hx hc hl
  rw [← hb] at f
  unfold g_6
  generalize lI xs = L at *
  generalize coP xs = CO at *
  generalize tI c = TC at *
  generalize psD bs = PS at *
  generalize tsD bs = TS at *
  generalize hiD k c bs = HH at *
  simp [f]
  exact h
theorem gt7 (M : MF mo dr) (H : Hs k c bs) (hl : c.length ≤ 20) (h : P (.nx [.va scr, .va (.drw p sc ns), x2, .va (lI xs), .va (tI c), .va (psD bs), .va (tsD bs), .va (hiD k c bs), .va (.int ((k : Int) + 1)), .va (coP xs), x10, x11, x12])) : exW mo dr g_7 [.va scr, .va (.drw p sc ns), x2, .va (lI xs), .va (tI c), .va (psD bs), .va (tsD bs), .va (hiD k c bs), .va (.int ((k : Int) + 1)), .va (coP xs), x10, x11, x12] P := by
  have h4 := M.h4 k c bs
  have h5 := M.h5 k c bs
  have h6 := M.h6 k c bs
  have ln := M.hl k c bs H hl
  have lc : biD mo .len [tI c] = some (.int (bs.length : Int)) := by
    show some (D.int ((c.map D.int).length : Int)) = _
    rw [List.length_map, H.len]
  have q : eqD mo (.tup [.int ((k : Int) + 1), tI c, tsD bs, .int (bs.length : Int)]) (.tup [.int ((k : Int) + 1), tI c, tsD bs, .int (bs.length : Int)]) = some true := eqD_self (dt_4 _ _ _ _) (by decide)
  unfold g_7
  generalize lI xs = L at *
  generalize coP xs = CO at *
  generalize tI c = TC at *
  generalize psD bs = PS at *
  generalize tsD bs = TS at *
  generalize hiD k c bs = HH at *
  simp [h4, h5, h6, ln, lc, q]
  exact h
theorem gt8 (M : MF mo dr) (H : Hs k c bs) (hl : c.length ≤ 20) (h : P (.nx [.va scr, .va (.drw p sc ns), x2, .va (lI xs), .va (tI c), .va (psD bs), .va (tsD bs), .va (hiD k c bs), .va (.int ((k : Int) + 1)), .va (coP xs), x10, x11, x12])) : exW mo dr g_8 [.va scr, .va (.drw p sc ns), x2, .va (lI xs), .va (tI c), .va (psD bs), .va (tsD bs), .va (hiD k c bs), .va (.int ((k : Int) + 1)), .va (coP xs), x10, x11, x12] P := by
  have b := M.bk k c bs H hl
  have q : eqD mo (psD bs) (psD bs) = some true := eqD_self (dt_ps bs) (by decide)
  unfold g_8
  generalize lI xs = L at *
  generalize coP xs = CO at *
  generalize tI c = TC at *
  generalize psD bs = PS at *
  generalize tsD bs = TS at *
  generalize hiD k c bs = HH at *
  simp [b, q]
  exact h
theorem gt9 (M : MF mo dr) (hx : Co k xs) (hc : Cut k c) (H : Hs k c bs) (hl : c.length ≤ 20) (hb : bs = bsX k xs c) (hq : ∀ B ∈ bs, slcI xs B.b B.e ≠ [] ∧ maxI (slcI xs B.b B.e) = B.q) (h : P (.nx [.va scr, .va (.drw p sc ns), x2, .va (lI xs), .va (tI c), .va (psD bs), .va (tsD bs), .va (hiD k c bs), .va (.int ((k : Int) + 1)), .va (coP xs), x10, x11, x12])) : exW mo dr g_9 [.va scr, .va (.drw p sc ns), x2, .va (lI xs), .va (tI c), .va (psD bs), .va (tsD bs), .va (hiD k c bs), .va (.int ((k : Int) + 1)), .va (coP xs), x10, x11, x12] P := by
  have f := M.f15 k c xs hx hc hl
  rw [← hb] at f
  have bl : bs.length ≤ 20 := by rw [← H.len]; exact hl
  have xl := hx.len
  have mm : mapO (lcF mo (.tp (.cons (.nm 10) (.cons (.nm 11) .nil))) (.cbl true) (.bi .max (.cons (.slc (.var 3) (.som (.var 10)) (.som (.var 11))) .nil)) [10, 11] [some scr, some (.drw p sc ns), sO x2, some (lI xs), some (tI c), some (psD bs), some (tsD bs), some (hiD k c bs), some (.int ((k : Int) + 1)), some (coP xs), sO x10, sO x11, sO x12]) (bs.map fun B => pD (pB B)) = some (bs.map fun B => D.int B.q) :=
    mapO_map fun B hB => by
      have w := H.chain.le.2 B hB
      have sl := slc_lI xs (a := B.b) (b := B.e) w.1 (by omega) (by omega)
      have i := intsD_map (slcI xs B.b B.e)
      obtain ⟨ne, e⟩ := hq B hB
      have pos : 0 < (slcI xs B.b B.e).length := List.length_pos_iff.mpr ne
      have it : itemsD (lI (slcI xs B.b B.e)) = some ((slcI xs B.b B.e).map D.int) := rfl
      generalize lI (slcI xs B.b B.e) = Y0 at *
      generalize (slcI xs B.b B.e).map D.int = Y1 at *
      generalize slcI xs B.b B.e = Y2 at *
      generalize lI xs = L at *
      generalize coP xs = CO at *
      generalize tI c = TC at *
      generalize psD bs = PS at *
      generalize tsD bs = TS at *
      generalize hiD k c bs = HH at *
      simp only [lcF, pD, pB, bindT_tp, bindTs_cons, bindTs_nil, bindT_nm, wipeO_cons, wipeO_nil, List.set, Option.bind_some, ev_cbl, tB_bl, if_true, ev_bi, evs_cons, evs_nil, ev_slc, evo_som, ev_var, List.getElem?_cons_succ, List.getElem?_cons_zero, sl, max_d, it, i, pos, e, Option.map_some]
  rw [← map_q] at mm
  have g : glst ((bs.map (·.q)).map D.int) = some (.lst ((bs.map (·.q)).map D.int)) := glst_ok (by unfold LIM; rw [List.length_map, List.length_map]; omega)
  have ip : itemsD (psD bs) = some (bs.map fun B => pD (pB B)) := rfl
  have q := eq_tI (mo := mo) (bs.map (·.q)) (bs.map (·.q))
  rw [decide_eq_true rfl] at q
  have f' : mo.fn 15 [coP xs, tI c] = some (.tup ((bs.map (·.q)).map D.int)) := f
  have q' : eqD mo (.tup ((bs.map (·.q)).map D.int)) (.tup ((bs.map (·.q)).map D.int)) = some true := q
  unfold g_9
  generalize (bs.map (·.q)).map D.int = T1 at *
  generalize (bs.map fun B => pD (pB B)) = P1 at *
  generalize lI xs = L at *
  generalize coP xs = CO at *
  generalize tI c = TC at *
  generalize psD bs = PS at *
  generalize tsD bs = TS at *
  generalize hiD k c bs = HH at *
  simp [ip, mm, g, f', q']
  exact h
theorem gt10 (M : MF mo dr) (hx : Co k xs) (hc : Cut k c) (H : Hs k c bs) (hl : c.length ≤ 20) (hb : bs = bsX k xs c) (hu : ∀ B ∈ bs, (fil (slcI xs B.b B.e) : Int) = B.u) (h : P (.nx [.va scr, .va (.drw p sc ns), x2, .va (lI xs), .va (tI c), .va (psD bs), .va (tsD bs), .va (hiD k c bs), .va (.int ((k : Int) + 1)), .va (coP xs), x10, x11, x12])) : exW mo dr g_10 [.va scr, .va (.drw p sc ns), x2, .va (lI xs), .va (tI c), .va (psD bs), .va (tsD bs), .va (hiD k c bs), .va (.int ((k : Int) + 1)), .va (coP xs), x10, x11, x12] P := by
  have f := M.f16 k c xs hx hc hl
  rw [← hb] at f
  have bl : bs.length ≤ 20 := by rw [← H.len]; exact hl
  have xl := hx.len
  have xm := hx.most
  have mm : mapO (lcF mo (.tp (.cons (.nm 10) (.cons (.nm 11) .nil))) (.cbl true) (.bi .len (.cons (.lc (.nm 12) (.of (.slc (.var 3) (.som (.var 10)) (.som (.var 11)))) (.cmp .gt (.var 12) (.cint 0)) (.var 12) [12]) .nil)) [10, 11] [some scr, some (.drw p sc ns), sO x2, some (lI xs), some (tI c), some (psD bs), some (tsD bs), some (hiD k c bs), some (.int ((k : Int) + 1)), some (coP xs), sO x10, sO x11, sO x12]) (bs.map fun B => pD (pB B)) = some (bs.map fun B => D.int B.u) :=
    mapO_map fun B hB => by
      have w := H.chain.le.2 B hB
      have sl := slc_lI xs (a := B.b) (b := B.e) w.1 (by omega) (by omega)
      have it : itemsD (lI (slcI xs B.b B.e)) = some ((slcI xs B.b B.e).map D.int) := rfl
      have e := hu B hB
      have inner : ∀ o12 : Option D, mapO (lcF mo (.nm 12) (.cmp .gt (.var 12) (.cint 0)) (.var 12) [12] [some scr, some (.drw p sc ns), sO x2, some (lI xs), some (tI c), some (psD bs), some (tsD bs), some (hiD k c bs), some (.int ((k : Int) + 1)), some (coP xs), some (.int B.b), some (.int B.e), o12]) ((slcI xs B.b B.e).map D.int) = some (((slcI xs B.b B.e).filter fun z => decide (0 < z)).map D.int) := fun o12 =>
        mapO_filter fun z _ => by
          generalize lI xs = L at *
          generalize coP xs = CO at *
          generalize tI c = TC at *
          generalize psD bs = PS at *
          generalize tsD bs = TS at *
          generalize hiD k c bs = HH at *
          cases h1 : decide (0 < z) <;> simp only [lcF, bindT_nm, wipeO_cons, wipeO_nil, List.set, Option.bind_some, ev_cmp, ev_cint, tB_bl, if_true, cmp_gt, h1, ev_var, List.getElem?_cons_succ, List.getElem?_cons_zero, Option.map_some] <;> rfl
      have fl := List.length_filter_le (fun z : Int => decide (0 < z)) (slcI xs B.b B.e)
      have sll := slc_len xs (a := B.b) (b := B.e) w.1 (by omega) (by omega)
      have g : glst (((slcI xs B.b B.e).filter fun z => decide (0 < z)).map D.int) = some (.lst (((slcI xs B.b B.e).filter fun z => decide (0 < z)).map D.int)) := glst_ok (by unfold LIM; rw [List.length_map]; omega)
      have ln : biD mo .len [.lst (((slcI xs B.b B.e).filter fun z => decide (0 < z)).map D.int)] = some (.int B.u) := by
        show some (D.int ((((slcI xs B.b B.e).filter fun z => decide (0 < z)).map D.int).length : Int)) = _
        rw [List.length_map, ← e]; rfl
      generalize ((slcI xs B.b B.e).filter fun z => decide (0 < z)).map D.int = F0 at *
      generalize lI (slcI xs B.b B.e) = Y0 at *
      generalize (slcI xs B.b B.e).map D.int = Y1 at *
      generalize lI xs = L at *
      generalize coP xs = CO at *
      generalize tI c = TC at *
      generalize psD bs = PS at *
      generalize tsD bs = TS at *
      generalize hiD k c bs = HH at *
      simp only [lcF, pD, pB, bindT_tp, bindTs_cons, bindTs_nil, bindT_nm, wipeO_cons, wipeO_nil, List.set, Option.bind_some, ev_cbl, tB_bl, if_true, ev_bi, evs_cons, evs_nil, ev_lc, evI_of, ev_slc, evo_som, ev_var, List.getElem?_cons_succ, List.getElem?_cons_zero, sl, it, inner, g, ln, Option.map_some]
  rw [← map_u] at mm
  have g : glst ((bs.map (·.u)).map D.int) = some (.lst ((bs.map (·.u)).map D.int)) := glst_ok (by unfold LIM; rw [List.length_map, List.length_map]; omega)
  have ip : itemsD (psD bs) = some (bs.map fun B => pD (pB B)) := rfl
  have q := eq_tI (mo := mo) (bs.map (·.u)) (bs.map (·.u))
  rw [decide_eq_true rfl] at q
  have f' : mo.fn 16 [coP xs, tI c] = some (.tup ((bs.map (·.u)).map D.int)) := f
  have q' : eqD mo (.tup ((bs.map (·.u)).map D.int)) (.tup ((bs.map (·.u)).map D.int)) = some true := q
  unfold g_10
  generalize (bs.map (·.u)).map D.int = T1 at *
  generalize (bs.map fun B => pD (pB B)) = P1 at *
  generalize lI xs = L at *
  generalize coP xs = CO at *
  generalize tI c = TC at *
  generalize psD bs = PS at *
  generalize tsD bs = TS at *
  generalize hiD k c bs = HH at *
  simp [ip, mm, g, f', q']
  exact h
theorem gt11 (M : MF mo dr) (hx : Co k xs) (hc : Cut k c) (H : Hs k c bs) (hl : c.length ≤ 20) (h : P (.nx [.va scr, .va (.drw p sc ns), x2, .va (lI xs), .va (tI c), .va (psD bs), .va (tsD bs), .va (hiD k c bs), .va (.int ((k : Int) + 1)), .va (coP xs), x10, x11, x12])) : exW mo dr g_11 [.va scr, .va (.drw p sc ns), x2, .va (lI xs), .va (tI c), .va (psD bs), .va (tsD bs), .va (hiD k c bs), .va (.int ((k : Int) + 1)), .va (coP xs), x10, x11, x12] P := by
  have mk := M.mk1 k c bs H hl
  have q1 := M.heq k k c c bs bs
  rw [decide_eq_true rfl, decide_eq_true rfl, decide_eq_true rfl] at q1
  have lc : biD mo .len [tI c] = some (.int (c.length : Int)) := by
    show some (D.int ((c.map D.int).length : Int)) = _
    rw [List.length_map]
  have rest : 1 < c.length → slcD (tI c) none (some (-1)) = some (tI c.dropLast) ∧ ∃ h2, mo.fn 14 [coP xs, tI c.dropLast] = some h2 ∧ eqD mo (hiD k c bs) h2 = some false := fun hl1 => by
    have c2 := cut_init hc hl1
    have l2 : c.dropLast.length ≤ 20 := by rw [List.length_dropLast]; omega
    have q := M.heq k k c c.dropLast bs (bsX k xs c.dropLast)
    have ne : c ≠ c.dropLast := fun e => by
      have := congrArg List.length e
      rw [List.length_dropLast] at this; omega
    rw [decide_eq_false ne, Bool.false_and, Bool.and_false] at q
    exact ⟨slc_init (by omega), _, M.f14 k c.dropLast xs hx c2 l2, q⟩
  unfold g_11
  generalize lI xs = L at *
  generalize coP xs = CO at *
  generalize tI c.dropLast = TC2 at *
  generalize tI c = TC at *
  generalize psD bs = PS at *
  generalize tsD bs = TS at *
  generalize hiD k c bs = HH at *
  by_cases z : 1 < c.length
  · obtain ⟨r1, h2, r2, r3⟩ := rest z
    have z' : (1 : Int) < (c.length : Int) := by omega
    simp [mk, q1, lc, z, z', r1, r2, r3]
    exact h
  · have z' : ¬ (1 : Int) < (c.length : Int) := by omega
    simp [mk, q1, lc, z, z']
    exact h
theorem gt12 (d25 : ∀ PP : D → Prop, PP (.bl true) → dr 25 [.drw p sc ns, .int ((k : Int) + 1), coP xs, tI c, psD bs, tsD bs, hiD k c bs] PP) (h : P (.nx [.va scr, .va (.drw p sc ns), x2, .va (lI xs), .va (tI c), .va (psD bs), .va (tsD bs), .va (hiD k c bs), .va (.int ((k : Int) + 1)), .va (coP xs), x10, x11, x12])) : exW mo dr g_12 [.va scr, .va (.drw p sc ns), x2, .va (lI xs), .va (tI c), .va (psD bs), .va (tsD bs), .va (hiD k c bs), .va (.int ((k : Int) + 1)), .va (coP xs), x10, x11, x12] P := by
  unfold g_12
  generalize lI xs = L at *
  generalize coP xs = CO at *
  generalize tI c = TC at *
  generalize psD bs = PS at *
  generalize tsD bs = TS at *
  generalize hiD k c bs = HH at *
  simp
  exact d25 _ (by simp; exact h)
theorem body_ok (M : MF mo dr) (d25 : ∀ (k : Nat) (xs c : List Int) (bs : List Bk) (PP : D → Prop), Co k xs → Cut k c → c.length ≤ 20 → bs = bsX k xs c → PP (.bl true) → dr 25 [.drw p sc ns, .int ((k : Int) + 1), coP xs, tI c, psD bs, tsD bs, hiD k c bs] PP) (h : ∀ y2 y3 y4 y5 y6 y7 y8 y9 y10 y11 y12, P (.nx [.va scr, .va (.drw p sc ns), y2, y3, y4, y5, y6, y7, y8, y9, y10, y11, y12])) : exW mo dr gbody [.va scr, .va (.drw p sc ns), x2, x3, x4, x5, x6, x7, x8, x9, x10, x11, x12] P := by
  rw [g_split, exW_seq]
  refine gt1 M fun k xs hx => ?_
  rw [nxW_nx, exW_seq]
  refine gt2 M hx ?_
  rw [nxW_nx, exW_seq]
  refine gt3 M hx fun c hc hl => ?_
  have H := bsX_hs hx hc
  have F := fun B hB => bsX_f (c := c) hx hc (B := B) hB
  have Q : ∀ B ∈ bsX k xs c, slcI xs B.b B.e ≠ [] ∧ maxI (slcI xs B.b B.e) = B.q := fun B hB => ⟨fun z => by
    obtain ⟨f, w⟩ := F B hB
    have l := f.l
    rw [z] at l
    simp at l
    omega, (congrArg Bk.q (bsX_mem hB)).symm⟩
  obtain ⟨bs, hb⟩ : ∃ bs, bs = bsX k xs c := ⟨_, rfl⟩
  rw [← hb] at H F Q
  rw [nxW_nx, exW_seq]
  refine gt4 M H hl ?_
  rw [nxW_nx, exW_seq]
  refine gt5 hx H hl (fun B hB => (F B hB).1.t) ?_
  rw [nxW_nx, exW_seq]
  refine gt6 M hx hc hl hb ?_
  rw [nxW_nx, exW_seq]
  refine gt7 M H hl ?_
  rw [nxW_nx, exW_seq]
  refine gt8 M H hl ?_
  rw [nxW_nx, exW_seq]
  refine gt9 M hx hc H hl hb Q ?_
  rw [nxW_nx, exW_seq]
  refine gt10 M hx hc H hl hb (fun B hB => (F B hB).1.u) ?_
  rw [nxW_nx, exW_seq]
  refine gt11 M hx hc H hl ?_
  rw [nxW_nx, exW_seq]
  refine gt12 (fun PP hp => d25 k xs c bs PP hx hc hl hb hp) ?_
  rw [nxW_nx, exW_nop]
  exact h _ _ _ _ _ _ _ _ _ _ _
end
theorem dr26 (n : Nat) (ds : List D) (P : D → Prop) : tb.dr wb (n+1) 26 ds P = runW (tb.mo n) (tb.dr wb n) 13 1 w26 ds P := rfl
theorem law_ok (n : Nat) (ns : List Int) : tb.dr wb (n+12) 26 [.scr ns] fun d => d = .bl true := by
  rw [dr26]
  refine ⟨rfl, ?_⟩
  have M := mf (n+1)
  have E : ∀ (p sc : Nat) (k : Nat) (xs c : List Int) (bs : List Bk) (PP : D → Prop), Co k xs → Cut k c → c.length ≤ 20 → bs = bsX k xs c → PP (.bl true) → tb.dr wb (n+11) 25 [.drw p sc ns, .int ((k : Int) + 1), coP xs, tI c, psD bs, tsD bs, hiD k c bs] PP := fun p sc k xs c bs PP hx hc hl hb hp => by
    rw [dr25]
    exact est_ok (mf n) hx hc hl hb hp
  generalize tb.mo (n+11) = mo at *
  generalize tb.dr wb (n+11) = dr at *
  rw [w26_split]
  show exW mo dr _ [.va (.scr ns), .no, .no, .no, .no, .no, .no, .no, .no, .no, .no, .no, .no] _
  rw [exW_seq]
  unfold g0
  simp
  intro p sc
  rw [nxW_nx, exW_seq, exW_for]
  refine ⟨rngD 0 5, by simp; rfl, ?_⟩
  refine loopX_ix (J := fun i ρ => ∃ y2 y3 y4 y5 y6 y7 y8 y9 y10 y11 y12, ρ = [.va (.scr ns), .va (.drw p sc ns), y2, y3, y4, y5, y6, y7, y8, y9, y10, y11, y12]) _ 0 _ (fun i x ρ hx hj => ?_) ⟨_, _, _, _, _, _, _, _, _, _, _, rfl⟩ fun ρ' hj => ?_
  · obtain ⟨y2, y3, y4, y5, y6, y7, y8, y9, y10, y11, y12, rfl⟩ := hj
    refine ⟨_, bindS_nm, fun Q q => ?_⟩
    exact body_ok (scr := .scr ns) M (E p sc) fun z2 z3 z4 z5 z6 z7 z8 z9 z10 z11 z12 => q _ ⟨_, _, _, _, _, _, _, _, _, _, _, rfl⟩
  · obtain ⟨y2, y3, y4, y5, y6, y7, y8, y9, y10, y11, y12, rfl⟩ := hj
    rw [nxW_nx]
    unfold gE
    simp
end TT
namespace TT
open PySem PV L2
theorem bi : (tb.all.all fun d => plainA (defArgs d.st) d.ps) = true := by kernel_rfl
end TT
open PySem PySem.W PySem.Calls PyProof.Rows
theorem PySem.Challenge.cw_bucketsums_k03_whole_histograms_holds : PySem.Challenge.rw_bucketsums_k03_whole_histograms.Holds := by
  w_on; o_law
  refine HandSHeadRun.head_imp (r := OpenLaw.row PySem.Challenge.rw_bucketsums_k03_whole_histograms) (q := view (OpenLaw.row PySem.Challenge.rw_bucketsums_k03_whole_histograms).prog [0, 45]) (H := TT.hk) (ob := TT.ob) (M := 15000) (loose := TT.loose) (d := HandSHeadRun.topDef (OpenLaw.row PySem.Challenge.rw_bucketsums_k03_whole_histograms).prog 45) (kwd := []) TT.ob_eq
    TT.run (by kernel_rfl) (by kernel_rfl) (by kernel_rfl) (by rfl) (by first | assumption | decide +kernel) (by decide +kernel) ⟨rfl, rfl, rfl, rfl, rfl, by decide +kernel⟩ ?hw ?hc
  case hw => w_witness2
  case hc =>
    exact PV.walkW (l := PySem.Challenge.rw_bucketsums_k03_whole_histograms) (t := TT.tb) (wb := TT.wb) (n := 12) (k := 26) rfl (by kernel_rfl) ⟨rfl, by decide, by decide⟩ TT.stat TT.bi TT.tmE TT.hw rfl (by kernel_rfl) (by kernel_rfl) (fun ns _ => TT.law_ok 0 ns)
