import PyProof.Rows.All
import Wide.All
import OpenK.AllK
import Wide.FinOn
import PyProof.EqAt
import PyProof.EqKinds
import PyProof.TupleCall
import HandS.Base
import HandS.Call
import HandS.List
import HandS.Exc
import HandS.ExcOwn
import HandS.ExcInit
import HandS.ForMost
import HandS.ForExc
import KE.KExcIs
import PyProof.RowDictHeap
import PyProof.NeKinds
import PyProof.NeData
import PyProof.ReprLen
import PyProof.Rows.StrDigitsNeg
import HandS.WideBits
import HandS.IsInst
import PyProof.P3Eq
import PySem.Challenge.RW_bitcounts_k01_constants_and_errors
set_option Elab.async false
set_option linter.all false
set_option maxRecDepth 100000
set_option maxHeartbeats 4000000
namespace KwExc
open PySem PySem.HandSPX PySem.Builtin PySem.Builtin.ObjectAttr
section
variable {M : Model} {A : Around} {E : Value → Shared → Prop} {h : Heap} {g : Array GenState} {d : Drawn} {t : Nat} {os : OsState}
variable {nm q : Str} {C N : Addr} {bs bm bmB : List Value} {hdct : Bool} {sn : List Str} {sub : List Value} {ab : Bool} {col : Option Bool} {dd : Option Addr} {k0 k1 k2 k3 k5 : Option Value} {B newId initId : String} {kw : List (Str × Value)}

theorem chk_new (F : ExcBaseFacts B newId initId bmB)
    (hT : ∀ X : String, bm.contains (.type X) = bmB.contains (.type X)) {rest : List Value} {Q : Unit → Shared → Prop}
    (hC : h.get? C = some (excClassObj nm q C N bs bm hdct sn sub ab col dd k0 k1 k2 k3 k5 newId))
    (hq : Q () ⟨h, g, d, t, os⟩) :
    wpAny M A (checkBuiltinCall newId ⟨.ref C :: rest, kw⟩) Q E ⟨h, g, d, t, os⟩ := by
  have c1 : (Value.ref C :: bm).contains (.type B) = true := by
    rw [List.contains_cons, hT, F.hasB, Bool.or_true]
  have c2 := F.noStar
  simp only [checkBuiltinCall, F.newKind, F.newSplit, F.newRow]
  repeat (first
    | refine wpAny_loadPart_at hC ?_
    | (refine wpAny_isSubtype_exc hC ?_; rw [c1])
    | refine wpAny_staticBase_exc hC ?_
    | refine wpAny_madeBy_exc hC ?_
    | simp only [bne_self_eq_false, Bool.false_eq_true, if_false]
    | wp_step)
  exact hq
end
section
variable {prog : Program} {w : World} {A : Around} {E : Value → Shared → Prop} {R : Result → Shared → Prop} {h : Heap} {g : Array GenState} {d : Drawn} {t : Nat} {os : OsState}
variable {nm q : Str} {C N : Addr} {bs bm bmB : List Value} {hdct : Bool} {sn : List Str} {sub : List Value} {ab : Bool} {col : Option Bool} {dd : Option Addr} {k0 k1 k2 k3 k5 : Option Value} {B newId initId : String} {kw : List (Str × Value)}

theorem run_new (F : ExcBaseFacts B newId initId bmB)
    (hT : ∀ X : String, bm.contains (.type X) = bmB.contains (.type X)) {rest : List Value}
    (hC : h.get? C = some (excClassObj nm q C N bs bm hdct sn sub ab col dd k0 k1 k2 k3 k5 newId))
    (hrest : rest.length ≤ sizeLine)
    (hq : R (.ok (.ret (.ref (h.objs.size + 1)))) ⟨(h.push (W.kdv_tup rest)).push (excO C h.objs.size), g, d, t, os⟩) :
    codeAny (model prog w) A (.builtin newId ⟨.ref C :: rest, kw⟩) R ⟨h, g, d, t, os⟩ := by
  have e0 := F.ends
  have c1 : (Value.ref C :: bm).contains (.type B) = true := by
    rw [List.contains_cons, hT, F.hasB, Bool.or_true]
  have c2 : (Value.ref C :: bm).contains (.type "AttributeError") = false := by
    rw [List.contains_cons, hT, F.noAttr]
    rfl
  have c3 : (Value.ref C :: bm).contains (.type "NameError") = false := by
    rw [List.contains_cons, hT, F.noName]
    rfl
  refine codeAny_builtinAt F.entry ?_
  unfold Builtin.«BaseException.__new__»
  refine wpAt_bind ?_
  show wpAt _ _ _ (stack >>= _) _ _ _
  refine wpAt_bind (wpAt_stack fun p below => wpAt_of_wpAny ?_)
  wp_walk
  refine wpAt_of_wpAny ?_
  rw [F.owner]
  repeat (first
    | with_reducible refine wpAny_madeHere_exc F.canon hC ?_
    | with_reducible refine wpAny_loadPart_at hC ?_
    | (with_reducible refine wpAny_isSubtype_exc hC ?_
       first
         | rw [c1]
         | rw [c2]
         | rw [c3])
    | wp_step)
  show R _ _
  rw [Heap.size_push]
  exact hq

theorem run_type (F : ExcBaseFacts B newId initId bmB)
    (hT : ∀ X : String, bm.contains (.type X) = bmB.contains (.type X)) {rest : List Value} {fI : Addr} {Q : Fin → Shared → Prop}
    (hC : h.get? C = some (excClassObj nm q C N bs bm hdct sn sub ab col dd k0 k1 k2 k3 k5 newId))
    (hi : W.Looks (model prog w) h (typeLookup (.ref C) "__init__") (some (.ref fI)))
    (hb : ∀ self, W.Looks (model prog w) h (bindSpecial (.ref fI) self) (.ref fI, [self]))
    (hrest : rest.length ≤ sizeLine)
    (hq : codeAny (model prog w) A (.call (.ref fI) ⟨.ref (h.objs.size + 1) :: rest, kw⟩)
      (fun r s' => match r with
        | .ok (.ret v) => v = .none ∧ Q (.done (.ret (.ref (h.objs.size + 1)))) s'
        | .ok _ => False
        | .error e => E e s')
      ⟨(h.push (W.kdv_tup rest)).push (excO C h.objs.size), g, d, t, os⟩) :
    wpAny (model prog w) A (Builtin.«type.__call__» ⟨.ref C :: rest, kw⟩) Q E ⟨h, g, d, t, os⟩ := by
  repeat (first
    | with_reducible refine wpAny_loadPart_at hC ?_
    | with_reducible refine wpAny_madeBy_exc hC ?_
    | wp_step)
  trace_state
  refine codeAny_call_builtin_code (Code.quiet_builtin _ F.quiet) (chk_new F hT hC ?_)
  refine run_new F hT hC hrest ?_
  show wpAny _ _ _ _ _ _
  have k : ∀ b o, h.get? b = some o → ((h.push (W.kdv_tup rest)).push (excO C h.objs.size)).get? b = some o :=
    fun b o e => Heap.get?_push_of_some _ (Heap.get?_push_of_some _ e)
  have hC1 := k _ _ hC
  have hget : ((h.push (W.kdv_tup rest)).push (excO C h.objs.size)).get? (h.objs.size + 1) = some (excO C h.objs.size) := by heap_get
  have hcC : (Value.ref C :: bm).contains (.ref C) = true := by simp
  have i1 := hi.keeps k
  have b1 := (hb (.ref (h.objs.size + 1))).keeps k
  unfold isInstance
  repeat (first
    | with_reducible refine wpAny_loadPart_at hget ?_
    | (with_reducible refine wpAny_isSubtype_exc hC1 ?_
       rw [hcC])
    | wp_step)
  show wpAny _ _ (typeLookup (.ref C) _) _ _ _
  refine i1.at ?_
  refine wpAny_holding (wpAny_bind (b1.at ?_))
  refine wpAny_bind (wpAny_call (codeAny_mono hq fun r s' z => ?_))
  rcases r with e | (v | _ | _ | _) <;> first | exact z | exact z.elim | skip
  obtain ⟨rfl, z⟩ := z
  first
    | exact wpAny_pure (wpAny_pure z)
    | (wp_walk
       exact z)

theorem run_call (F : ExcBaseFacts B newId initId bmB)
    (hT : ∀ X : String, bm.contains (.type X) = bmB.contains (.type X)) {rest : List Value} {fI : Addr}
    (hC : h.get? C = some (excClassObj nm q C N bs bm hdct sn sub ab col dd k0 k1 k2 k3 k5 newId))
    (hi : W.Looks (model prog w) h (typeLookup (.ref C) "__init__") (some (.ref fI)))
    (hb : ∀ self, W.Looks (model prog w) h (bindSpecial (.ref fI) self) (.ref fI, [self]))
    (hrest : rest.length ≤ sizeLine)
    (hq : codeAny (model prog w) (A.under (.builtin "type.__call__" ⟨.ref C :: rest, kw⟩)) (.call (.ref fI) ⟨.ref (h.objs.size + 1) :: rest, kw⟩)
      (W.InitBack (h.objs.size + 1) R) ⟨(h.push (W.kdv_tup rest)).push (excO C h.objs.size), g, d, t, os⟩) :
    codeAny (model prog w) A (.call (.ref C) ⟨rest, kw⟩) R ⟨h, g, d, t, os⟩ := by
  have f1 := tc_lookup
  have f2 := tc_bind (.ref C)
  have hTy : (⟨h, g, d, t, os⟩ : Shared).TypeIs (.ref C) "type" := ⟨_, hC, rfl⟩
  refine codeAny_of_tree ?_
  show wpAny _ _ (callAny (.ref C) _) _ _ _
  repeat (any_goals (first
    | assumption
    | with_reducible refine wpAny_loadPart_at hC ?_
    | wp_step))
  refine ⟨rfl, ?_⟩
  refine codeAny_call_builtin_at (Code.quiet_builtin _ (by decide +kernel)) entry_typeCall ?_
  trace_state
  refine wpAny_check_type_call_sub hC (run_type F hT hC hi hb hrest ?_)
  refine codeAny_mono hq fun r s' z => ?_
  rcases r with e | (v | _ | _ | _) <;> exact z
end
end KwExc


set_option Elab.async false
set_option linter.all false
set_option maxRecDepth 100000
set_option maxHeartbeats 4000000
/-! exceptions of own classes as values: made by place and by name, their field, whose instances they are -/
namespace XV
open PySem PySem.W PySem.Calls PyProof.Rows PySem.HandSPX PySem.Builtin PySem.Builtin.ObjectAttr
/-- own classes, then the built-in base's own chain -/
def refsT (t : List Value) : List Value → Bool
  | .ref _ :: r => refsT t r
  | l => l == t
theorem refsT_cases {t : List Value} : ∀ l : List Value, refsT t l = true → (∃ c r, l = .ref c :: r ∧ refsT t r = true) ∨ l = t
  | .ref c :: r, e => .inl ⟨c, r, rfl, e⟩
  | [], e => .inr (beq_iff_eq.mp e)
  | .none :: _, e => .inr (beq_iff_eq.mp e)
  | .ellipsis :: _, e => .inr (beq_iff_eq.mp e)
  | .notImplemented :: _, e => .inr (beq_iff_eq.mp e)
  | .bool _ :: _, e => .inr (beq_iff_eq.mp e)
  | .int _ _ :: _, e => .inr (beq_iff_eq.mp e)
  | .float _ _ :: _, e => .inr (beq_iff_eq.mp e)
  | .str _ _ :: _, e => .inr (beq_iff_eq.mp e)
  | .bytes _ _ :: _, e => .inr (beq_iff_eq.mp e)
  | .type _ :: _, e => .inr (beq_iff_eq.mp e)
  | .builtin _ :: _, e => .inr (beq_iff_eq.mp e)
/-- what is asked of the built-in base's chain -/
structure TailOk (t : List Value) : Prop where
  pass : ∀ self, refuseLoop self "__setattr__" t = pure ()
  ne : t.isEmpty = false
  obj : t.contains (.type "object") = true
theorem refsT_pass {t : List Value} (T : TailOk t) (self : Value) : ∀ l : List Value, refsT t l = true → refuseLoop self "__setattr__" l = pure () := by
  intro l
  induction l with
  | nil =>
    intro e
    rcases refsT_cases [] e with ⟨c, r, q, _⟩ | q
    · cases q
    · rw [q]
      exact T.pass self
  | cons a r ih =>
    intro e
    rcases refsT_cases (a :: r) e with ⟨c, r', q, h⟩ | q
    · obtain ⟨rfl, rfl⟩ := List.cons.inj q
      rw [refuseLoop_ref]
      exact ih h
    · rw [q]
      exact T.pass self
theorem refsT_has {t : List Value} (X : String) : ∀ l : List Value, refsT t l = true → l.contains (.type X) = t.contains (.type X) := by
  intro l
  induction l with
  | nil =>
    intro e
    rcases refsT_cases [] e with ⟨c, r, q, _⟩ | q
    · cases q
    · rw [q]
  | cons a r ih =>
    intro e
    rcases refsT_cases (a :: r) e with ⟨c, r', q, h⟩ | q
    · obtain ⟨rfl, rfl⟩ := List.cons.inj q
      rw [List.contains_cons, ih h]
      rfl
    · rw [q]
theorem refsT_ne {t l : List Value} (T : TailOk t) (e : refsT t l = true) : l.isEmpty = false := by
  cases l with
  | cons _ _ => rfl
  | nil =>
    rcases refsT_cases [] e with ⟨c, r, q, _⟩ | q
    · cases q
    · rw [q]
      exact T.ne
theorem tail_VE : TailOk [.type "ValueError", .type "Exception", .type "BaseException", .type "object"] := ⟨fun _ => by kernel_rfl, rfl, by decide +kernel⟩
theorem tail_LE : TailOk [.type "LookupError", .type "Exception", .type "BaseException", .type "object"] := ⟨fun _ => by kernel_rfl, rfl, by decide +kernel⟩
theorem tail_AE : TailOk [.type "ArithmeticError", .type "Exception", .type "BaseException", .type "object"] := ⟨fun _ => by kernel_rfl, rfl, by decide +kernel⟩
section
variable {prog : Program} {w : World} {A : Around} {E : Value → Shared → Prop} {R : Result → Shared → Prop} {hp : Heap} {g : Array GenState} {d : Drawn} {t : Nat} {os : OsState}
/-- the first field of an exception is stored -/
theorem osa_first {K : W.Frag} {name : Str} {tk : Tok} {v : Value} {x C : Addr} {fv : Array Value} {cd : ClassData} {tl : List Value}
    (X : K.In hp) (hx : hp.get? x = some { cls := .ref C, data := .fields fv }) (hcd : W.clsIn K C = some cd) (T : TailOk tl)
    (hm : refsT tl cd.mro = true) (hh : cd.hasDict = true) (ha : W.findIn K (.ref C) name = some none)
    (hq : ∀ h' tk' dx, (∀ b o, b ≠ x → hp.get? b = some o → h'.get? b = some o) → hp.objs.size ≤ dx → dx ≠ x →
      h'.get? x = some { cls := .ref C, dict := some dx, data := .fields fv } →
      h'.Ns1 dx (fun y => if y = name then some v else none) → R (.ok (.ret .none)) ⟨h', g, d, tk', os⟩) :
    codeAny (model prog w) A (.call (.builtin "object.__setattr__") ⟨[.ref x, .str name tk, v], []⟩) R ⟨hp, g, d, t, os⟩ := by
  have I : W.InstAt hp x { cls := .ref C, data := .fields fv } C none := ⟨hx, rfl, rfl, trivial⟩
  have SF := F.store_object
  have ne := refsT_ne T hm
  have hob : cd.mro.contains (.type "object") = true := (refsT_has "object" _ hm).trans T.obj
  have hxs : x ≠ hp.objs.size := Nat.ne_of_lt (Heap.lt_size hx)
  have sb : W.Looks (model prog w) hp (isInstance (.ref x) (.type "object")) true :=
    I.type.andThen (W.looks_mroIn X (by
      unfold W.mroIn
      rw [hcd, Option.bind_some, if_neg (by rw [ne]; decide), hob]))
  refine codeAny_call_builtin SF.slot.plain SF.entry ?_
  refine @W.check_slot (model prog w) _ _ ⟨hp, g, d, t, os⟩ "object.__setattr__" "object" "__setattr__" (.ref x) [.str name tk, v] [] _ SF.kind SF.split sb (SF.args (.ref x) (.str name tk) v) ?_
  have hmr : W.Looks (model prog w) hp (mroOf (.ref C)) cd.mro := (W.looks_clsIn X hcd).andThen .now
  have L3 : W.Looks (model prog w) hp (storeTaker? none) none := .now
  have hcls : W.Looks (model prog w) hp (classData C) cd := W.looks_clsIn X hcd
  rw [W.osa_eq, refuse_eq]
  refine PySem.wpAny_bind (PySem.wpAny_bind (I.type.at (PySem.wpAny_bind (hmr.at ?_))))
  rw [refsT_pass T _ _ hm]
  refine wpAny_pure (PySem.wpAny_bind (I.type.at (PySem.wpAny_bind ((W.looks_findIn X ha).at (PySem.wpAny_bind (L3.at ?_))))))
  show wpAny _ _ (storeInOwnDict (.ref x) (.ref C) (.str name tk) name v false) _ _ _
  obtain ⟨nm, bs, mro, ns, qn, hd, sn, sb', ab, col, del⟩ := cd
  dsimp only at hh
  subst hh
  unfold storeInOwnDict ownDictForStores
  repeat (first
    | with_reducible refine store_in_new ?_ ?_
    | with_reducible refine wpAny_loadPart_at hx ?_
    | with_reducible refine hcls.at ?_
    | wp_step)
  · exact ⟨_, #[], _, (Heap.get?_update_ne _ _ _ _ hxs.symm).trans (Heap.get?_push_at rfl rfl), rfl, fun e he => absurd he (by simp), fun _ => rfl⟩
  · intro h' tk' hn' hs
    have hx1 : (hp.push { cls := .type "dict", data := .dict #[] }).get? x = some { cls := .ref C, data := .fields fv } := Heap.get?_push_of_some _ hx
    refine hq h' tk' hp.objs.size (fun b o hb ho => ?_) (Nat.le_refl _) hxs.symm ?_ hn'
    · exact (hs.2 b (Nat.ne_of_lt (Heap.lt_size ho))).trans ((Heap.get?_update_ne _ _ _ _ hb).trans (Heap.get?_push_of_some _ ho))
    · exact (hs.2 x hxs).trans (Heap.get?_update_self _ hx1 rfl)
end
end XV


set_option Elab.async false
set_option linter.all false
set_option maxRecDepth 100000
set_option maxHeartbeats 4000000
namespace XV
open PySem PySem.W PySem.Calls PyProof.Rows PySem.HandSPX
/-- the text of an __init__ that keeps its one argument -/
structure InitText (f : Str) (st : Stmt) : Prop where
  body : ∃ q1 q2 q3 q4 : Pos, L2.defBody st = [.Assign [.Attribute (.Name "self" q1) f q2] (.Name f q3) q4]
  kind : (L2.defScope st).kind = .function
  co : (L2.defScope st).isCoroutine = false
  gen : (L2.defScope st).isGenerator = false
  lself : (L2.defScope st).names.lookup ("self" : Str) = some .local
  lf : (L2.defScope st).names.lookup f = some .local
  ne : f ≠ "self"
  dbg : (f == ("__debug__" : Str)) = false
  place : ∀ (qual : Str) (kV doc pm cdv ct a v : Value) (an : Option Addr),
    bindArgs (fnOf "__init__" qual (L2.defArgs st) (L2.defBody st) (L2.defScope st) .none kV doc pm an cdv ct) ⟨[a, v], []⟩ = pure [(("self" : Str), a), (f, v)]
  named : ∀ (qual : Str) (kV doc pm cdv ct a v : Value) (an : Option Addr),
    bindArgs (fnOf "__init__" qual (L2.defArgs st) (L2.defBody st) (L2.defScope st) .none kV doc pm an cdv ct) ⟨[a], [(f, v)]⟩ = pure [(("self" : Str), a), (f, v)]
/-- the class, as the top has written it -/
structure XCls (K : Frag) (C : Addr) (newId : String) (tl : List Value) : Prop where
  cls : ∃ nm q N bs bm sn sub ab col dd k0 k1 k2 k3 k5, K.lookup C = some (excClassObj nm q C N bs bm true sn sub ab col dd k0 k1 k2 k3 k5 newId) ∧ refsT tl bm = true
  kC : keepIn K (.ref C) = true
  tail : TailOk tl
structure XTxt (K : Frag) (f : Str) (C fI : Addr) (st : Stmt) (newId : String) (tl : List Value) : Prop extends XCls K C newId tl where
  sa : findIn K (.ref C) "__setattr__" = some (some (.builtin "object.__setattr__"))
  noN : findIn K (.ref C) f = some none
  iC : findIn K (.ref C) "__init__" = some (some (.ref fI))
  tC : typeIn K (.ref fI) = some (.type "function")
  fn : ∃ (qual : Str) (oc : Value) (od : Option Addr) (kV doc pm : Value) (an : Option Addr) (cdv ct : Value) (osl : Array (Option Value)),
    K.lookup fI = some ⟨oc, od, .func (fnOf "__init__" qual (L2.defArgs st) (L2.defBody st) (L2.defScope st) .none kV doc pm an cdv ct), osl⟩ ∧ codeIn K cdv qual = true
  txt : InitText f st
/-- what is left of a call of the class: the exception at e, its dict at d -/
structure Made1 (h h' : Heap) (e C d : Addr) (f : Str) (v : Value) : Prop where
  keep : ∀ b o, h.get? b = some o → h'.get? b = some o
  new : h.objs.size ≤ e
  obj : ∃ t1 : Addr, h'.get? e = some ({ cls := .ref C, dict := some d, data := .fields #[.ref t1, .none, .none, .none, .bool false, .none] } : Obj)
  dbig : h.objs.size ≤ d
  dne : d ≠ e
  ns : h'.Ns1 d (fun y => if y = f then some v else none)
theorem one_size (v : Value) : [v].length ≤ sizeLine := by
  rw [sizeLine_eq]
  exact (by decide : 1 ≤ 16777216)
theorem nil_size : ([] : List Value).length ≤ sizeLine := by
  rw [sizeLine_eq]
  exact (by decide : 0 ≤ 16777216)
section
variable {prog : Program} {w : World} {A : Around} {E : Value → Shared → Prop} {R : Result → Shared → Prop} {s : Shared} {K : Frag} {C fI : Addr} {f : Str} {st : Stmt} {newId B initId : String} {tl : List Value}
theorem ld_loc {M : Model} {name : Str} {scope : Scope} {L a : Addr} {cd : Value} {m : Str → Option Value} {x : Str} {pos : Pos} {v : Value} {Q : Value → Shared → Prop} (hk : scope.kind = .function)
    (hl : scope.names.lookup x = some .local) (hd : (x == ("__debug__" : Str)) = false) (hn : s.heap.Ns L m) (hv : m x = some v) (h : Q v s) :
    wpAny M A (eval (.Name x pos) (envOfC name scope L a cd)) Q E s := wpAny_Name (wpAny_loadName_local hk hl hn hv h) hd
theorem init_run (T : XTxt K f C fI st newId tl) {args : Args} {x t0 : Addr} {v : Value} (X : K.In s.heap) (hlim : s.heap.NoLimit) (hx : s.heap.get? x = some (excO C t0)) (hroom : A.depth < recursionLimit)
    (hargs : args = ⟨[.ref x, v], []⟩ ∨ args = ⟨[.ref x], [(f, v)]⟩)
    (hq : ∀ h' tk dx, (∀ b o, b ≠ x → s.heap.get? b = some o → h'.get? b = some o) →
      h'.get? x = some { cls := .ref C, dict := some dx, data := .fields #[.ref t0, .none, .none, .none, .bool false, .none] } → s.heap.objs.size ≤ dx → dx ≠ x →
      h'.Ns1 dx (fun y => if y = f then some v else none) → R (.ok (.ret .none)) { s with heap := h', toks := tk }) :
    codeAny (model prog w) A (.call (.ref fI) args) R s := by
  obtain ⟨qual, oc, od, kV, doc, pm, an, cdv, ct, osl, ho, hcd⟩ := T.fn
  obtain ⟨nm, q, N, bs, bm, sn, sub, ab, col, dd, k0, k1, k2, k3, k5, hC, hbm⟩ := T.cls
  obtain ⟨q1, q2, q3, q4, eb⟩ := T.txt.body
  have hcl : clsIn K C = some { name := nm, bases := bs, mro := .ref C :: bm, ns := N, qualname := q, hasDict := true, slotNames := sn, subclasses := sub, abstract := ab, collection := col, hasDel := false } := by unfold clsIn; rw [hC] <;> rfl
  have hb : BindsTo s (fnOf "__init__" qual (L2.defArgs st) (L2.defBody st) (L2.defScope st) .none kV doc pm an cdv ct) args [(("self" : Str), .ref x), (f, v)] := by
    rcases hargs with e | e
    · rw [e]
      exact BindsTo.of_eq (T.txt.place qual kV doc pm cdv ct (.ref x) v an)
    · rw [e]
      exact BindsTo.of_eq (T.txt.named qual kV doc pm cdv ct (.ref x) v an)
  have hk1 : ([(("self" : Str), Value.ref x), (f, v)].all fun y => (L2.defScope st).names.lookup y.1 == some .local || (L2.defScope st).names.lookup y.1 == some .cell) = true := by
    simp only [List.all_cons, List.all_nil, T.txt.lself, T.txt.lf]
    rfl
  refine _root_.Att.call_fn X hlim ho hcd hroom hb hk1 (fun s1 IC => ?_) T.txt.co T.txt.gen T.txt.kind
  obtain ⟨h1, tk1, rfl⟩ := IC.toInCall.same
  have k : ∀ b o, s.heap.get? b = some o → h1.get? b = some o := IC.toInCall.keep
  have hn := IC.toInCall.ns
  have X1 : K.In h1 := X.keeps k
  have hx1 := k _ _ hx
  have e1 : bindL (envOfC qual (L2.defScope st) s.heap.objs.size fI cdv).kindOf [(("self" : Str), Value.ref x), (f, v)] (fun _ => none) "self" = some (.ref x) :=
    L2.bindL_get (P := [("self" : Str), f]) (vs := [.ref x, v]) (i := 0) (by simp [T.txt.ne.symm]) rfl rfl T.txt.lself
  have e2 : bindL (envOfC qual (L2.defScope st) s.heap.objs.size fI cdv).kindOf [(("self" : Str), Value.ref x), (f, v)] (fun _ => none) f = some v :=
    L2.bindL_get (P := [("self" : Str), f]) (vs := [.ref x, v]) (i := 1) (by simp [T.txt.ne.symm]) rfl rfl T.txt.lf
  rw [eb]
  refine wpAny_execs_cons (plainObj_wpAny_Assign_Attribute ?_)
  refine ld_loc T.txt.kind T.txt.lf T.txt.dbg hn e2 (ld_loc T.txt.kind T.txt.lself (by decide) hn e1 ?_)
  refine set_plain X1 (ox := excO C t0) (od := none) ⟨hx1, rfl, rfl, trivial⟩ T.sa ?_
  refine osa_first X1 hx1 hcl T.tail (show refsT tl (.ref C :: bm) = true from hbm) rfl T.noN (fun h3 tk3 dx k3 dn dne hx3 hn3 => ?_)
  have z : s.heap.objs.size < h1.objs.size := hn.lt
  exact wpAny_execs_nil (hq h3 tk3 dx (fun b o hb e => k3 b o hb (k b o e)) hx3 (Nat.le_of_lt (Nat.lt_of_lt_of_le z dn)) dne hn3)
theorem made_run (T : XTxt K f C fI st newId tl) (F : ExcBaseFacts B newId initId tl) {rest : List Value} {kw : List (Str × Value)} {v : Value} (X : K.In s.heap) (hlim : s.heap.NoLimit) (hroom : A.depth + 1 < recursionLimit)
    (hargs : (rest = [v] ∧ kw = []) ∨ (rest = [] ∧ kw = [(f, v)]))
    (hq : ∀ h' tk e d, Made1 s.heap h' e C d f v → R (.ok (.ret (.ref e))) { s with heap := h', toks := tk }) :
    codeAny (model prog w) A (.call (.ref C) ⟨rest, kw⟩) R s := by
  obtain ⟨nm, q, N, bs, bm, sn, sub, ab, col, dd, k0, k1, k2, k3, k5, hC, hbm⟩ := T.cls
  obtain ⟨hp, g, dr, tk, os⟩ := s
  have k : ∀ b o, hp.get? b = some o → ((hp.push (kdv_tup rest)).push (excO C hp.objs.size)).get? b = some o := fun b o e => Heap.get?_push_of_some _ (Heap.get?_push_of_some _ e)
  have hget : ((hp.push (kdv_tup rest)).push (excO C hp.objs.size)).get? (hp.objs.size + 1) = some (excO C hp.objs.size) := by heap_get
  have hr : rest.length ≤ sizeLine := by
    rcases hargs with ⟨e, _⟩ | ⟨e, _⟩
    · rw [e]
      exact one_size v
    · rw [e]
      exact nil_size
  refine KwExc.run_call F (fun Y => refsT_has Y bm hbm) (X _ _ hC) (looks_findIn X T.iC) (fun self => bind_fn X self T.tC) hr ?_
  refine init_run (s := ⟨(hp.push (kdv_tup rest)).push (excO C hp.objs.size), g, dr, tk, os⟩) (v := v) T (X.keeps k) (hlim.keeps k) hget ?_ ?_ fun h' tk' dx k' hx dn dne hns => ?_
  · show A.depth + 1 < recursionLimit
    exact hroom
  · rcases hargs with ⟨e, e'⟩ | ⟨e, e'⟩
    · rw [e, e']
      exact .inl rfl
    · rw [e, e']
      exact .inr rfl
  · have old : ∀ b o, hp.get? b = some o → h'.get? b = some o := fun b o e => k' b o (Nat.ne_of_lt (Nat.lt_succ_of_lt (Heap.lt_size e))) (k b o e)
    have z : hp.objs.size + 1 + 1 ≤ dx := by
      have q := dn
      rw [Heap.size_push, Heap.size_push] at q
      exact q
    exact ⟨rfl, hq h' tk' (hp.objs.size + 1) dx ⟨old, Nat.le_succ _, ⟨_, hx⟩, Nat.le_trans (Nat.le_trans (Nat.le_succ _) (Nat.le_succ _)) z, dne, hns⟩⟩
end
end XV


set_option Elab.async false
set_option linter.all false
set_option maxRecDepth 100000
set_option maxHeartbeats 4000000
namespace XV
open PySem PySem.Spec PyProof.Rows L2
section
variable {X : Cx} {pins : List (Addr × Obj)} {σ : L2.St} {H : Hp} {s : Shared}
/-- two new objects are laid and tracked -/
theorem laid2 {h' : Heap} {d e : Addr} {od oe : HO} {t' : Nat} (I : Inv X pins σ H s) (k : ∀ b u, s.heap.get? b = some u → h'.get? b = some u) (hd : s.heap.objs.size ≤ d) (he : s.heap.objs.size ≤ e) (dne : d ≠ e)
    (n1 : ObjOk X.prog X.w (upd (upd H d od) e oe) h' d od) (n2 : ObjOk X.prog X.w (upd (upd H d od) e oe) h' e oe) :
    Inv X pins σ (upd (upd H d od) e oe) { s with heap := h', toks := t' } := by
  have fd : H d = none := I.hok.fresh hd
  have fe : H e = none := I.hok.fresh he
  have old : ∀ {b : Addr} {o : Obj}, s.heap.get? b = some o → b ≠ d ∧ b ≠ e := fun {b o} q =>
    ⟨Nat.ne_of_lt (Nat.lt_of_lt_of_le (Heap.lt_size q) hd), Nat.ne_of_lt (Nat.lt_of_lt_of_le (Heap.lt_size q) he)⟩
  have keepH : ∀ {b : Addr} {o : HO}, H b = some o → upd (upd H d od) e oe b = some o := fun {b o} q => by
    rw [upd_ne (ne_of_none q fe), upd_ne (ne_of_none q fd)]
    exact q
  refine I.un (h' := h') (t' := t') { keep := fun b o q _ _ _ => k b o q, slot := fun b o q _ _ _ => ⟨o.slots, k b o q⟩, free := fun b o q n _ => ?_, there := fun b o q _ => ⟨o, k b o q⟩, tups := fun b xs q => keepH q, frzs := fun b o v q => keepH q, tbls := fun b ps q => ⟨#[], by rw [keepH q]; simp⟩ } fun b o q => ?_
  · obtain ⟨z1, z2⟩ := old q
    rw [upd_ne z2, upd_ne z1]
    exact n
  · by_cases hb : b = e
    · subst hb
      rw [upd_same] at q
      cases q
      exact n2
    · rw [upd_ne hb] at q
      by_cases hb2 : b = d
      · subst hb2
        rw [upd_same] at q
        cases q
        exact n1
      · rw [upd_ne hb2] at q
        exact (I.hok b o q).stay (fun c v _ z => k c v z) (fun c z => keepH z) fun c xs z => keepH z
end
/-- an exception of the class at C that holds v under f -/
def exAt (H : Hp) (e C : Addr) (f : Str) (v : V) : Prop := ∃ d, H e = some (exo e C (some d)) ∧ H d = some (exd d [(f, v)])
/-- C(a), C(f = a) -/
def tMk1 (C : Addr) (f : Str) (ta : TA) : TE := fun σ H Q => ta σ H fun vs H1 => ∃ v, vs = [v] ∧ ∀ e d, H1 e = none → H1 d = none → d ≠ e → Q (.ref e) (upd (upd H1 d (exd d [(f, v)])) e (exo e C (some d)))
def tMk0 (C : Addr) : TE := fun σ H Q => ∀ e, H e = none → Q (.ref e) (upd H e (exo e C none))
section
variable {X : Cx} {C fI : Addr} {f nm : Str} {st : Stmt} {newId B initId : String} {tl : List Value} {p pos kpos : Pos} {a : Expr} {ta : TA} {te : TE} {k : Nat}
theorem vals_one {v : V} {us : List Value} (r : Vals [v] us) : ∃ u, us = [u] ∧ RelV v u := by
  cases r with
  | cons rv rn =>
    cases rn
    exact ⟨_, rfl, rv⟩
theorem relO_one {v : V} {u : Value} (r : RelV v u) (g : Str) : RelO (List.lookup g [(f, v)]) (if g = f then some u else none) := by
  rw [lookup_put]
  by_cases h : g = f
  · rw [if_pos h, if_pos h]
    exact r
  · rw [if_neg h, if_neg h]
    trivial
theorem mk1_end {pins : List (Addr × Obj)} {σ : L2.St} {H : Hp} {s : Shared} {h' : Heap} {tk : Nat} {e d : Addr} {v : V} {u : Value} {Q : VK} (I : Inv X pins σ H s) (r : RelV v u) (M : Made1 s.heap h' e C d f u)
    (q : ∀ e d, H e = none → H d = none → d ≠ e → Q (.ref e) (upd (upd H d (exd d [(f, v)])) e (exo e C (some d)))) : EP X pins σ Q (.ref e) { s with heap := h', toks := tk } := by
  obtain ⟨t1, ho⟩ := M.obj
  exact ⟨.ref e, _, laid2 I M.keep M.dbig M.new M.dne (exd_ok M.ns (relO_one r)) (exo_ok ho), rfl, q e d (I.hok.fresh M.new) (I.hok.fresh M.dbig) M.dne⟩
theorem pe_mk1 (T : XTxt X.K f C fI st newId tl) (F : ExcBaseFacts B newId initId tl) (hr : Room k X.A) (hg : Gl X nm) (hm : X.mg nm = some (.ref C)) (ha : PA X [a] ta) (hdb : (nm == ("__debug__" : Str)) = false := by decide)
    (he : starEach (a :: []) X.env = (false, eval a X.env) :: starEach [] X.env := by rfl) (hpl : (backTo pos (starEach [] X.env)).any (·.1) = false := by rfl) : PE X (.Call (.Name nm p) [a] [] pos) (tMk1 C f ta) := by
  refine ⟨fun pins s σ H Q I h => ?_⟩
  refine wpAny_Call_Name_kw (ld_glob I hg hm ?_ hdb)
  refine PySem.W.callWith_K (h₀ := X.base) I.ok.mod.kin T.kC (thn (ha.run pos pins s σ H _ I h) fun us s1 ⟨vs, H1, I1, r1, v, ev, q⟩ => ⟨I1.kIn, ?_⟩) he hpl
  subst ev
  obtain ⟨u, rfl, rv⟩ := vals_one r1
  show wpAny _ _ (call (.ref C) [u]) _ _ _
  refine wpAny_call (made_run (v := u) T F I1.kIn I1.nolimit (by have := hr.dp; omega) (.inl ⟨rfl, rfl⟩) fun h' tk e d M => ?_)
  exact mk1_end I1 rv M q
theorem pe_mk1K (T : XTxt X.K f C fI st newId tl) (F : ExcBaseFacts B newId initId tl) (hr : Room k X.A) (hg : Gl X nm) (hm : X.mg nm = some (.ref C)) (ha : PE X a te) (hdb : (nm == ("__debug__" : Str)) = false := by decide)
    (hall : (backToKw pos (keywordEach [⟨some f, a, kpos⟩] X.env)).all (·.1.isSome) = true := by rfl) (hks : (backToKw pos (keywordEach [⟨some f, a, kpos⟩] X.env)).filterMap (·.1) = [f] := by rfl)
    (hpl : ((backTo pos (starEach [] X.env)).any (·.1) || (backToKw pos (keywordEach [⟨some f, a, kpos⟩] X.env)).any (·.1.isNone)) = false := by rfl) :
    PE X (.Call (.Name nm p) [] [⟨some f, a, kpos⟩] pos) (tMk1 C f (tCons te tNil)) := by
  refine ⟨fun pins s σ H Q I h => ?_⟩
  refine wpAny_Call_Name_kw (ld_glob I hg hm ?_ hdb)
  refine PySem.W.callWith_KW0 (h₀ := X.base) I.ok.mod.kin T.kC hall ?_ hpl
  refine thn ((pk_cons ha pk_nil).run pos pins s σ H _ I h) fun us s1 ⟨vs, H1, I1, r1, v, ev, q⟩ => ⟨I1.kIn, ?_⟩
  subst ev
  rw [hks]
  obtain ⟨u, rfl, rv⟩ := vals_one r1
  show wpAny _ _ (call (.ref C) [] [(f, u)]) _ _ _
  refine wpAny_call (made_run (v := u) T F I1.kIn I1.nolimit (by have := hr.dp; omega) (.inr ⟨rfl, rfl⟩) fun h' tk e d M => ?_)
  exact mk1_end I1 rv M q
/-- C(), a class without an own __init__ -/
theorem pe_mk0 (F : ExcBaseFacts B newId initId tl) (q : PySem.W.excIn X.K C tl newId = true) (kC : PySem.W.keepIn X.K (.ref C) = true) (hg : Gl X nm) (hm : X.mg nm = some (.ref C)) (hdb : (nm == ("__debug__" : Str)) = false := by decide) :
    PE X (.Call (.Name nm p) [] [] pos) (tMk0 C) := by
  refine ⟨fun pins s σ H Q I h => ?_⟩
  refine wpAny_Call_Name_kw (ld_glob I hg hm ?_ hdb)
  refine PySem.W.callWith_K0 I.kIn kC ?_
  show wpAny _ _ (call (.ref C) []) _ _ _
  obtain ⟨bm, N, nm', qn, bs, hdct, sn, sub, ab, col, dd, k0, k1, k2, k3, k5, mN, hC, hN, hni, T⟩ := exc_obj I.kIn q
  obtain ⟨hp, g, dr, tk, os⟩ := s
  refine wpAny_call_exc_subT F T hC hN hni (fun h' e M => ?_) (by rw [sizeLine_eq]; exact (by decide : 0 ≤ 16777216))
  obtain ⟨t1, ho, _, _⟩ := M.there
  have hn : H e = none := I.hok.gone M.new
  have J : Inv X pins σ (upd H e (exo e C none)) ⟨h', g, dr, tk, os⟩ := by
    refine I.un (h' := h') (t' := tk) { keep := fun b o q _ _ _ => M.keeps b o q, slot := fun b o q _ _ _ => ⟨o.slots, M.keeps b o q⟩, free := fun b o q n _ => ?_, there := fun b o q _ => ⟨o, M.keeps b o q⟩, tups := fun b xs q => ?_, frzs := fun b o v q => ?_, tbls := fun b ps q => ⟨#[], ?_⟩ } fun b o q => ?_
    · rw [upd_ne (fun z => by
        subst z
        have q' : hp.get? b = some o := q
        rw [show hp.get? b = none from M.new] at q'
        cases q')]
      exact n
    · rw [upd_ne (ne_of_none q hn)]
      exact q
    · rw [upd_ne (ne_of_none q hn)]
      exact q
    · rw [upd_ne (ne_of_none q hn), q]
      simp
    · by_cases hb : b = e
      · subst hb
        rw [upd_same] at q
        cases q
        exact exo_ok ho
      · rw [upd_ne hb] at q
        exact (I.hok b o q).stay (fun c v _ z => M.keeps c v z) (fun c z => by rw [upd_ne (ne_of_none z hn)]; exact z) fun c xs z => by rw [upd_ne (ne_of_none z hn)]; exact z
  exact ⟨.ref e, _, J, rfl, h e hn⟩
/-- what reading a field asks of the class -/
structure XGet (K : PySem.W.Frag) (C : Addr) : Prop where
  ga : PySem.W.findIn K (.ref C) "__getattribute__" = some (some (.builtin "BaseException.__getattribute__"))
  gg : PySem.W.findIn K (.ref C) "__getattr__" = some none
  exC : PySem.W.subIn K (.ref C) (.type "BaseException") = some true
  hdC : PySem.W.hasDictIn K C = true
/-- e.f -/
def tXg (K : PySem.W.Frag) (f : Str) (te : TE) : TE := fun σ H Q => te σ H fun x H1 => ∃ (a C : Addr) (v : V), x = .ref a ∧ exAt H1 a C f v ∧ XGet K C ∧ PySem.W.findIn K (.ref C) f = some none ∧ Q v H1
theorem pe_xg {n : Str} {e : Expr} (he : PE X e te) (hb : attributeBase e n X.env (eval e X.env) = eval e X.env := by rfl) : PE X (.Attribute e n pos) (tXg X.K n te) := by
  refine ⟨fun pins s σ H Q I h => ?_⟩
  refine attr_of hb (thn (he.run pins s σ H _ I h) fun u s1 hh => ?_)
  obtain ⟨x, H1, I1, rx, a, C, v, ex, ⟨d, e1, e2⟩, G, hno, q⟩ := hh
  subst ex
  obtain rfl : u = Value.ref a := rx
  obtain ⟨t1, ho⟩ := exo_at I1.hok e1
  obtain ⟨mA, hns, rel⟩ := exd_at I1.hok e2
  obtain ⟨od, hd, hl⟩ := lookIn_ns hns
  have r0 := rel n
  rw [lookup_put, if_pos rfl] at r0
  obtain ⟨w, hw, rw'⟩ := RelO.some_of r0
  have J : PySem.W.InstAt s1.heap a _ C (some od) := ⟨ho, rfl, rfl, hd⟩
  exact HandSPX.exc_get I1.kIn J G.ga G.gg G.exC (PySem.W.findObj_own G.hdC hno rfl (by rw [hl, hw])) (handed_of rw') ⟨v, H1, I1.tok _, rw', q⟩
end
end XV


set_option Elab.async false
set_option linter.all false
set_option maxRecDepth 100000
set_option maxHeartbeats 4000000
namespace XV
open PySem PySem.Spec PyProof.Rows L2
/-! ### isinstance of an exception that is held -/
structure XIs (K : PySem.W.Frag) (C : Addr) : Prop where
  cl : (PySem.W.clsIn K C).isSome = true
  ga : PySem.W.findIn K (.ref C) "__getattribute__" = some (some (.builtin "BaseException.__getattribute__"))
  gg : PySem.W.findIn K (.ref C) "__getattr__" = some none
  sb : PySem.W.subIn K (.ref C) (.type "BaseException") = some true
  ca : PySem.W.findIn K (.ref C) "__class__" = some (some (.builtin "object.__class__"))
  gt : PySem.W.specialIn K (.builtin "object.__class__") "__get__" = some (some (.builtin "getset_descriptor.__get__"))
  tk : PySem.W.takesIn K (.builtin "object.__class__") = some true
  ob : PySem.W.mroIn K C (.type "object") = some true
/-- an exception stands at a, with or without its dict -/
def exHere (H : Hp) (a C : Addr) : Prop := H a = some (exo a C none) ∨ ∃ d fs, H a = some (exo a C (some d)) ∧ H d = some (exd d fs)
def rIsX (K : PySem.W.Frag) : List V → Hp → VK → Prop := fun xs H Q => ∃ (a C : Addr) (c : V) (cv : Value) (b : Bool), xs = [.ref a, c] ∧ exHere H a C ∧ XIs K C ∧ (∀ u, RelV c u → u = cv) ∧ PySem.W.kitOne K (.ref C) cv = some b ∧ Q (.bl b) H
theorem call_isX {X : Cx} : CallR X (.builtin "isinstance") (rIsX X.K) := by
  intro pins s σ H xs us Q I r h
  obtain ⟨a, C, c, cv, b, rfl, hx, T, hcv, e, q⟩ := h
  cases r with
  | cons rx rr =>
    cases rr with
    | cons rt rr =>
      cases rr
      cases rx
      have ec := hcv _ rt
      subst ec
      have J : ∃ ox od, PySem.W.InstAt s.heap a ox C od := by
        rcases hx with h0 | ⟨d, fs, h0, h1⟩
        · obtain ⟨t1, ho⟩ := exo_at I.hok h0
          exact ⟨_, none, ho, rfl, rfl, trivial⟩
        · obtain ⟨t1, ho⟩ := exo_at I.hok h0
          obtain ⟨mA, hns, rel⟩ := exd_at I.hok h1
          obtain ⟨od, hd, hl⟩ := lookIn_ns hns
          exact ⟨_, some od, ho, rfl, rfl, hd⟩
      obtain ⟨ox, od, J⟩ := J
      exact PySem.W.kia_one (PySem.W.kitx_exc (ox := ox) (od := od) T.cl T.ga T.gg T.sb T.ca T.gt T.tk T.ob) I.kIn J e (fun z => nomatch z) fun tk => ⟨.bl b, H, I.kept (t' := tk) fun _ _ z => z, rfl, q⟩
/-! ### repr -/
def scalD : V → Option PyData
  | .non => some .none
  | .bl b => some (.bool b)
  | .int i => some (.int i)
  | .str x => some (.str x)
  | _ => none
theorem scal_reads {h : Heap} {v : V} {u : Value} {d : PyData} (e : scalD v = some d) (r : RelV v u) : Reads h u d [] := by
  cases v with
  | non => cases e; cases r; exact .none
  | bl b => cases e; cases r; exact .bool b
  | int i => cases e; obtain ⟨t, rfl⟩ := r; exact .int i t
  | str x => cases e; obtain ⟨t, rfl⟩ := r; exact .str x t
  | byt _ => cases e
  | flt _ => cases e
  | ref _ => cases e
  | ty _ => cases e
/-- x stands for the data d: data of any depth, or a dict of plain things under plain keys -/
inductive Dd (K : PySem.W.Frag) (H : Hp) : V → PyData → Prop
  | deep {v : V} {d : PyData} : Dp K H v d → d.hasDict = false → Dd K H v d
  | dic {a : Addr} {kvs : List (Key × V)} {ds : List (PyData × PyData)} : H a = some (.dK kvs) → Paired (fun (p : Key × V) (q : PyData × PyData) => scalD (kV p.1) = some q.1 ∧ scalD p.2 = some q.2) kvs ds → Dd K H (.ref a) (.dict ds)
theorem Dp.same {K : PySem.W.Frag} {H H' : Hp} (e : ∀ b o, H b = some o → H' b = some o) {v : V} {d : PyData} (h : Dp K H v d) : Dp K H' v d := by
  refine Dp.rec (motive_1 := fun v d _ => Dp K H' v d) (motive_2 := fun vs ds _ => DpAll K H' vs ds) .non (fun b => .bl b) (fun i => .int i) (fun x => .str x) (fun hs _ ih => .lst ?_ ih) (fun hs _ ih => .tup ?_ ih) .nil (fun _ _ a b => .cons a b) h
  · exact Same.seq e hs
  · rcases hs with (z | ⟨o, z⟩) | z
    · exact .inl (.inl (e _ _ z))
    · exact .inl (.inr ⟨o, e _ _ z⟩)
    · exact .inr z
theorem Dd.same {K : PySem.W.Frag} {H H' : Hp} (e : ∀ b o, H b = some o → H' b = some o) {v : V} {d : PyData} (h : Dd K H v d) : Dd K H' v d := by
  cases h with
  | deep a b => exact .deep (Dp.same e a) b
  | dic a b => exact .dic (e _ _ a) b
end XV


set_option Elab.async false
set_option linter.all false
set_option maxRecDepth 100000
set_option maxHeartbeats 4000000
namespace XV
open PySem PySem.Spec PyProof.Rows L2
def encK : Key → PyData
  | .inl i => .int i
  | .inr x => .str x
theorem encK_is (k : Key) : scalD (kV k) = some (encK k) := by cases k <;> rfl
theorem reads_key {h : Heap} : ∀ (k : Key) (key : Value), keyIs k key = true → Reads h key (encK k) [] := fun k key e => by
  rcases keyIs_shape e with ⟨i, t, rfl, rfl⟩ | ⟨x, t, rfl, rfl⟩
  · exact .int i t
  · exact .str x t
theorem pairsRead {h : Heap} : ∀ {kvs : List (Key × V)} {vs : List (Key × Value)} {ds : List (PyData × PyData)}, KV kvs vs → Paired (fun (p : Key × V) (q : PyData × PyData) => scalD (kV p.1) = some q.1 ∧ scalD p.2 = some q.2) kvs ds → PyProof.V.PairsRead h encK vs ds []
  | _, _, _, .nil, .nil => .nil
  | (k, v) :: kvs, (k', u) :: vs, (d1, d2) :: ds, .cons r rs, .cons q qs => by
    obtain ⟨rfl, ru⟩ : k = k' ∧ RelV v u := r
    obtain ⟨q1, q2⟩ : scalD (kV k) = some d1 ∧ scalD v = some d2 := q
    rw [encK_is] at q1
    obtain rfl : encK k = d1 := Option.some.inj q1
    exact .cons (as := []) (scal_reads q2 ru) (pairsRead rs qs)
section
variable {X : Cx} {pins : List (Addr × Obj)} {σ : L2.St} {H : Hp} {s : Shared}
theorem Dd.reads (I : Inv X pins σ H s) {v : V} {d : PyData} {u : Value} (h : Dd X.K H v d) (r : RelV v u) : ∃ as, Reads s.heap u d as ∧ (d.hasDict = true → sysModules ∉ as) := by
  cases h with
  | deep a b =>
    obtain ⟨as, q⟩ := Dp.reads I d v u a r
    exact ⟨as, q, fun z => by rw [b] at z; cases z⟩
  | dic a b =>
    rename_i ad kvs ds
    cases r
    have x : ObjOk X.prog X.w H s.heap ad (.dK kvs) := I.hok ad _ a
    obtain ⟨hz, hs, vs, kv, hd⟩ := x
    refine ⟨_, PyProof.V.reads_dictOf (enc := encK) (bs := []) (fun k key e => reads_key k key e) hd (pairsRead kv b), fun _ z => ?_⟩
    rcases List.mem_cons.mp z with z | z
    · rw [← z] at hs
      simp at hs
    · cases z
/-- what repr tells of x -/
def Shows (K : PySem.W.Frag) (H : Hp) (x : V) (t : Str) : Prop := ∃ d, Dd K H x d ∧ d.showable = true ∧ d.depth ≤ 60 ∧ d.shown.length ≤ sizeLine ∧ t = d.shown
theorem Shows.same {K : PySem.W.Frag} {H H' : Hp} (e : ∀ b o, H b = some o → H' b = some o) {x : V} {t : Str} (h : Shows K H x t) : Shows K H' x t := by
  obtain ⟨d, a, b⟩ := h
  exact ⟨d, Dd.same e a, b⟩
theorem call_reprX (hg : X.A.guards = some []) (hu : X.A.units + 100 < cLine) : CallR X (.builtin "repr") (fun xs H Q => ∃ x t, xs = [x] ∧ Shows X.K H x t ∧ Q (.str t) H) := by
  intro pins s σ H xs us Q I r h
  obtain ⟨x, t, rfl, ⟨d, hd, hs, hdep, hsz, rfl⟩, q⟩ := h
  obtain ⟨u, rfl, ru⟩ := vals_one r
  obtain ⟨as, rd, hsm⟩ := Dd.reads I hd ru
  have fin : ∀ (h' : Heap) (tk tok : Nat), (∀ b o, s.heap.get? b = some o → h'.get? b = some o) → EP X pins σ Q (.str d.shown tok) { s with heap := h', toks := tk } := fun h' tk tok k => ⟨.str d.shown, H, I.kept (t' := tk) k, ⟨_, rfl⟩, q⟩
  cases rd with
  | none => exact PySem.P.repr_of_none (fin s.heap _ _ fun _ _ e => e)
  | bool b => exact PySem.P.repr_of_bool (fin s.heap _ _ fun _ _ e => e)
  | int i tk => exact PySem.P.repr_of_int (of_decide_eq_true hs) (fin s.heap _ _ fun _ _ e => e)
  | str y tk => exact PySem.P.repr_of_str (fin s.heap _ _ fun _ _ e => e) hsz
  | list a b c e => exact PySem.repr_of_reads' (.list a b c e) hs hsm hg (by omega) (fun _ _ z => z) (fun h' tok tk k => fin h' tk tok k) hsz
  | tuple a b c e => exact PySem.repr_of_reads' (.tuple a b c e) hs hsm hg (by omega) (fun _ _ z => z) (fun h' tok tk k => fin h' tk tok k) hsz
  | dict a b c e f => exact PySem.repr_of_reads' (.dict a b c e f) hs hsm hg (by omega) (fun _ _ z => z) (fun h' tok tk k => fin h' tk tok k) hsz
end
end XV


set_option Elab.async false
set_option linter.all false
set_option maxRecDepth 100000
set_option maxHeartbeats 4000000
/-! promises of defs that are called where no repr is at work: repr of lists, tuples and dicts asks for that -/
namespace XV
open PySem PySem.Spec PyProof.Rows L2
/-- a def's promise, where no guard stands around -/
structure FnG (P : Program) (w : World) (K : PySem.W.Frag) (mg : Str → Option Value) (base : Heap) (CX : CXT) (k : Nat) (f : Addr) (fd : FuncData) (ps : List Str) (sp : Sp) : Prop where
  len : ∀ vs H Q E, sp vs H Q E → vs.length = ps.length
  run : ∀ (A : Around) (outer : List Env) (s : Shared) (H : Hp) (args : Args) (us : List Value) (vs : List V) (Q : VK) (E : XK), A.guards = some [] → Room k A →
    Env0 P w K mg base A outer s H → BindsTo s fd args (ps.zip us) → Vals vs us → sp vs H Q E → codeAny (model P w) A (.call (.ref f) args) (CR CX outer P w H s Q E) s
section
variable {P : Program} {w : World} {K : PySem.W.Frag} {mg : Str → Option Value} {base : Heap} {CX : CXT} {k : Nat} {f : Addr} {fd : FuncData} {ps N : List Str} {sp : Sp}
theorem FnG.of (F : FnOk P w K mg base CX k f fd ps sp) : FnG P w K mg base CX k f fd ps sp := ⟨F.len, fun A o s H a us vs Q E _ => F.run A o s H a us vs Q E⟩
def flowV : Flow → Value
  | .ret v => v
  | _ => .none
/-- the end of a body is the end of the call -/
theorem body_end {name : Str} {scope : Scope} {cdv : Value} {A : Around} {outer : List Env} {s s' : Shared} {H : Hp} {Q : VK} {E : XK} {fl : Flow}
    (hs : SP (cxOf CX P w K mg base N name scope f cdv A outer s H E) [] { nx := fun _ H' => Q .non H', rt := Q } fl s') : CR CX outer P w H s Q E (.ok (.ret (flowV fl))) s' := by
  cases fl with
  | brk =>
    obtain ⟨_, _, _, z⟩ := hs
    exact z.elim
  | cont =>
    obtain ⟨_, _, _, z⟩ := hs
    exact z.elim
  | next =>
    obtain ⟨σ', H', J, z⟩ := hs
    exact ⟨.non, H', J.os, J.bare, J.base, J.hok, rfl, z⟩
  | ret u =>
    obtain ⟨v, σ', H', J, r, z⟩ := hs
    exact ⟨v, H', J.os, J.bare, J.base, J.hok, r, z⟩
/-- a def of the text, by its body -/
theorem okG {x qual : Str} {st : Stmt} (F : Fun K x qual st f fd) (S : FnScope N ps (defScope st)) (len : ∀ vs H Q E, sp vs H Q E → vs.length = ps.length)
    (hbody : ∀ (cdv : Value) (A : Around) (outer : List Env) (s : Shared) (H : Hp) (vs : List V) (Q : VK) (E : XK), A.guards = some [] →
      Room k (A.deeper (envOfC qual (defScope st) s.heap.objs.size f cdv)) → sp vs H Q E →
      ∃ t, PSs (cxOf CX P w K mg base N qual (defScope st) f cdv A outer s H E) (defBody st) t ∧ t { nx := fun _ H' => Q .non H', rt := Q } (start N vs) H) : FnG P w K mg base CX (k + 1) f fd ps sp := by
  obtain ⟨oc, od, kV, doc, pm, an, cdv, ct, osl, rfl, lk, hcd⟩ := F.ex
  refine ⟨len, fun A outer s H args us vs Q E hg hr e0 hb r hsp => ?_⟩
  have keep : ∀ b o, base.get? b = some o → s.heap.get? b = some o := fun b o e => (e0.bs b o e).1
  have KX : K.In s.heap := e0.mod.kin.keeps keep
  have kinds : ∀ y ∈ ps.zip us, (defScope st).names.lookup y.1 = some .local ∨ ((defScope st).names.lookup y.1 = some .cell ∧ ((cellsFrom (s.heap.objs.size + 1) (defScope st).names []).lookup y.1).isSome = true) := by
    intro y hy
    rcases S.par y.1 (List.of_mem_zip (a := y.1) (b := y.2) hy).1 with q | q
    · exact .inl q
    · exact .inr ⟨q, PySem.W.cellsFrom_some _ _ _ (.inl q)⟩
  refine codeAny_call_function hr.depth (KX _ _ lk) rfl S.co S.gen rfl (PySem.W.codeRec_of KX hcd) (hb _ _ _ _ ?_)
  refine wpAny_newFunctionEnv_cells S.kind kinds fun env he s1 y => ?_
  subst he
  refine ⟨(e0.mod.nolimit.keeps keep).keeps y.toInCall.keep, codeAny_func ?_⟩
  obtain ⟨t, ht, hq⟩ := hbody cdv A outer s H vs Q E hg (hr.deeper _) hsp
  exact wpAny_mono (ht.run [] s1 (start N vs) H _ (inv_start S hr.hd e0 (len _ _ _ _ hsp) r y) hq) (fun fl s' hs => (by
    have z := body_end hs
    cases fl <;> exact z)) fun e s' hs => hs
end
section
variable {X : Cx} {CX : CXT} {k : Nat} {f : Addr} {fd : FuncData} {ps : List Str} {sp : Sp} {E : XK} {x : Str} {p pos : Pos} {e : Expr} {es : List Expr} {t : TA}
/-- f(e, ..) -/
theorem pe_callG (F : FnG X.prog X.w X.K X.mg X.base CX k f fd ps sp) (hgd : X.A.guards = some []) (hr : Room k X.A) (hg : Gl X x) (hm : X.mg x = some (.ref f)) (hk : PySem.W.keepIn X.K (.ref f) = true)
    (hb : Binds X.K fd ps []) (hx : Passes CX X E) (ha : PA X (e :: es) t) (hdb : (x == ("__debug__" : Str)) = false := by decide)
    (he : starEach (e :: es) X.env = (false, eval e X.env) :: starEach es X.env := by rfl) (hpl : (backTo pos (starEach es X.env)).any (·.1) = false := by rfl) : PE X (.Call (.Name x p) (e :: es) [] pos) (tCall sp [] E t) := by
  refine ⟨fun pins s σ H Q I h => wpAny_Call_Name_kw (ld_glob I hg hm ?_ hdb)⟩
  refine PySem.W.callWith_K (h₀ := X.base) I.ok.mod.kin hk (thn (ha.run pos pins s σ H _ I h) fun us s1 ⟨vs, H1, I1, r, q⟩ => ⟨I1.kIn, ?_⟩) he hpl
  have q : sp (vs ++ []) H1 Q E := q
  rw [List.append_nil] at q
  have hl : us.length = ps.length := r.length.symm.trans (F.len _ _ _ _ q)
  have hb' := hb s1 us I1.kIn (by rw [List.append_nil]; exact hl)
  rw [List.append_nil] at hb'
  refine wpAny_call (codeAny_mono (F.run X.A X.stack s1 H1 ⟨us, []⟩ us vs Q E hgd hr I1.env0 hb' r q) fun r s' z => ?_)
  cases r with
  | error er => exact hx pins σ H1 s1 er s' I1 z
  | ok fl =>
    cases fl with
    | ret u => exact I1.after z
    | next => exact z.elim
    | brk => exact z.elim
    | cont => exact z.elim
end
/-- the law's call, from its promise -/
theorem lawG {P : Program} {w : World} {K : PySem.W.Frag} {mg mb : Str → Option Value} {CX : CXT} {k : Nat} {fa a : Addr} {fd : FuncData} {x : Str} {sp : Sp} {s1 : Shared} {vs : List Value} {ns : List Int}
    (KX : K.In s1.heap) (hns : s1.heap.Ns mainGlobals mg) (hb : s1.heap.Ns builtinsNs mb) (hbb : ∀ x : Str, x ≠ "__name__" → mb x = bootBuiltins x) (hlim : s1.heap.NoLimit) (hg : s1.gens = #[])
    (ha : s1.heap.get? a = some { cls := .type "list", data := .seq vs.toArray }) (hi : IntsAre vs ns) (hl : ns.length ≤ sizeLine) (hr : Room k callerA)
    (F : ∀ base : Heap, K.In base → base.Ns mainGlobals mg → FnG P w K mg base CX k fa fd [x] sp) (hbind : ∀ (s : Shared) (u : Value), BindsTo s fd ⟨[u], []⟩ [(x, u)])
    (hsp : ∀ H : Hp, Only H → SqL K H a (ns.map V.int) → sp [.ref a] H (fun v _ => v = .bl true) fun _ _ _ => False) (hCX : ∀ H e s', CX [] H s1 (fun _ _ _ => False) e s' → False) :
    codeAny (model P w) callerA (.call (.ref fa) ⟨[.ref a], []⟩) (fun r s' => r = .ok (.ret (.bool true)) ∧ OldK s1.heap s'.heap ∧ s'.os = s1.os ∧ AllBare s'.gens) s1 := by
  have rv := vals_ints hi
  have key : ∀ H : Hp, Only H → SqL K H a (ns.map V.int) → HOk P w H s1.heap → (∀ b u, H b = some u → b = a ∧ K.lookup a = none) →
      codeAny (model P w) callerA (.call (.ref fa) ⟨[.ref a], []⟩) (fun r s' => r = .ok (.ret (.bool true)) ∧ OldK s1.heap s'.heap ∧ s'.os = s1.os ∧ AllBare s'.gens) s1 := by
    intro H hO hS hok hA
    have untr : ∀ {b : Addr} {o : Obj}, s1.heap.get? b = some o → (b = a → False) → (hidT s1.heap H).get? b = some o := fun {b o} e z => hidT_get e (by
      cases q : H b with
      | none => rfl
      | some u => exact (z (hA b u q).1).elim)
    have dict : ∀ {b : Addr} {o : Obj} {es : Array DictEntry} {ep : Nat}, s1.heap.get? b = some o → o.data = .dict es ep → b = a → False := fun {b o es ep} e d z => by
      rw [z, ha] at e
      cases e
      cases d
    have nsK : ∀ {b : Addr} {m : Str → Option Value}, s1.heap.Ns b m → (hidT s1.heap H).Ns b m := fun {b m} ⟨o, es, ep, e, d, r⟩ => ⟨o, es, ep, untr e (dict e d), d, r⟩
    have kIn : K.In (hidT s1.heap H) := fun b o e => hidT_get (KX b o e) (by
      cases q : H b with
      | none => rfl
      | some u =>
        obtain ⟨z1, z2⟩ := hA b u q
        rw [← z1, e] at z2
        cases z2)
    have M : Mod K mg (hidT s1.heap H) := ⟨kIn, nsK hns, ⟨mb, nsK hb, hbb⟩, let ⟨mc, z1, z2⟩ := hlim; ⟨mc, nsK z1, z2⟩⟩
    have e0 : Env0 P w K mg (hidT s1.heap H) callerA [] s1 H := ⟨rfl, M, fun b o e => of_hidT e, Nat.le_of_eq (hidT_size _ _), trivial, (fun b hb => by cases hb), hok, .of_eq hg⟩
    refine codeAny_mono ((F _ kIn (nsK hns)).run callerA [] s1 H ⟨[.ref a], []⟩ [.ref a] [.ref a] _ _ rfl hr e0 (hbind s1 (.ref a)) (.cons rfl .nil) (hsp H hO hS)) fun r s' z => ?_
    cases r with
    | error e => exact (hCX H e s' z).elim
    | ok fl =>
      cases fl with
      | next => exact z.elim
      | brk => exact z.elim
      | cont => exact z.elim
      | ret u =>
        obtain ⟨v, H', os, bare, un, hok', r', q⟩ := z
        obtain rfl : v = .bl true := q
        obtain rfl : u = Value.bool true := r'
        refine ⟨rfl, OldK.of_keep fun b o e => ?_, os, bare⟩
        rcases hO b with q | ⟨ob, xs, q⟩
        · exact un.keep b o e q (fun z => by cases z) (fun z => by cases z)
        · obtain ⟨e1, _⟩ := hok b _ q
          obtain ⟨e2, _⟩ := hok' b _ (un.frzs b ob _ q)
          rw [e] at e1
          cases e1
          exact e2
  cases hk : K.lookup a with
  | some o =>
    have e := KX a o hk
    rw [ha] at e
    cases e
    refine key (fun _ => none) (fun _ => .inl rfl) (.inr ⟨_, vs.toArray, _, hk, rfl, rfl, rfl, ?_, by simpa using rv⟩) (fun b u z => by cases z) fun b u z => by cases z
    rw [List.size_toArray, hi.length]
    exact hl
  | none =>
    have at_a : ∀ (b : Addr) (u : HO), (if b = a then some (HO.frz { cls := .type "list", data := .seq vs.toArray } (.lst (ns.map V.int))) else none) = some u → b = a ∧ u = HO.frz { cls := .type "list", data := .seq vs.toArray } (.lst (ns.map V.int)) := fun b u z => by
      by_cases hb : b = a
      · rw [if_pos hb] at z
        cases z
        exact ⟨hb, rfl⟩
      · rw [if_neg hb] at z
        cases z
    refine key (fun b => if b = a then some (.frz { cls := .type "list", data := .seq vs.toArray } (.lst (ns.map V.int))) else none) (fun b => ?_) (.inl (.inr ⟨_, if_pos rfl⟩)) (fun b u z => ?_) fun b u z => ⟨(at_a b u z).1, hk⟩
    · by_cases hb : b = a
      · exact .inr ⟨_, _, if_pos hb⟩
      · exact .inl (if_neg hb)
    · obtain ⟨rfl, rfl⟩ := at_a b u z
      exact ⟨ha, by rw [List.length_map]; exact hl, vs, _, rv, ha⟩
/-- what k_head leaves, from the law's promise -/
theorem walkG {l : PySem.W.OpenLaw} {n k : Nat} {q : Program} {loose : List Str} {XP : (Str → Option Value) → Heap → Prop} {YP : World → Heap → Prop} {d : DefRec} {K : Params → PySem.W.Frag} {CX : CXT} {sp : PySem.W.Frag → Sp} {x : Str}
    (hn : l.most = some n) (hn2 : n ≤ sizeLine) (hdf : d.params.defaults = []) (hr : Room k callerA) (hY : ∀ (w : World) (h : Heap), YP w h → (K w.params).In h)
    (F : ∀ (w : World) (mg : Str → Option Value) (fa : Addr) (h : Heap), (K w.params).In h → h.Ns mainGlobals mg → mg d.name = some (.ref fa) →
      ∃ fd : FuncData, (∀ (s : Shared) (u : Value), BindsTo s fd ⟨[u], []⟩ [(x, u)]) ∧ ∀ base : Heap, (K w.params).In base → base.Ns mainGlobals mg → FnG l.prog w (K w.params) mg base CX k fa fd [x] (sp (K w.params)))
    (hsp : ∀ (K : PySem.W.Frag) (H : Hp) (a : Addr) (ns : List Int), ns.length ≤ n → Only H → SqL K H a (ns.map V.int) → sp K [.ref a] H (fun v _ => v = .bl true) fun _ _ _ => False)
    (hCX : ∀ (H : Hp) (s : Shared) (e : Value) (s' : Shared), CX [] H s (fun _ _ _ => False) e s' → False) : PySem.W.WalkO q loose XP YP l.row.toRowW d [] (fun f vs => PySem.call f vs) := by
  refine Att.attach_call hn hdf fun w s0 s1 mg mb fa o pm cd doc a vs ns G Y ho hd hcd hmg hobj hints hlen hg => ?_
  obtain ⟨fd, hb, hF⟩ := F w mg fa _ (hY w _ Y) G.T.g hmg
  exact lawG (hY w _ Y) G.T.g G.T.b G.T.builtins G.T.nolimit hg hobj hints (Nat.le_trans hlen hn2) hr hF hb (fun H hO hS => hsp (K w.params) H a ns hlen hO hS) fun H e s' => hCX H s1 e s'
end XV


set_option Elab.async false
set_option linter.all false
set_option maxRecDepth 100000
set_option maxHeartbeats 4000000
namespace XV
open PySem PySem.Spec PyProof.Rows L2
theorem vals_strs : ∀ {ts : List Str} {us : List Value}, Vals (ts.map V.str) us → us.length = ts.length ∧ ∀ j (h : j < us.length), ∃ t u, ts[j]? = some t ∧ us[j] = Value.str t u
  | [], us, r => by
    cases r
    exact ⟨rfl, fun j h => absurd h (Nat.not_lt_zero _)⟩
  | t :: ts, us, r => by
    cases r with
    | cons r1 r2 =>
      obtain ⟨u, rfl⟩ := r1
      obtain ⟨h1, h2⟩ := vals_strs r2
      refine ⟨by simp [h1], fun j h => ?_⟩
      cases j with
      | zero => exact ⟨t, u, rfl, rfl⟩
      | succ j =>
        obtain ⟨a, b, e1, e2⟩ := h2 j (by simpa using h)
        exact ⟨a, b, by simpa using e1, by simpa using e2⟩
/-- two lists of the same texts are not unlike -/
def rNeStrs (K : PySem.W.Frag) : R2 := fun x y H Q => ∃ (a b : Addr) (ts : List Str), x = .ref a ∧ y = .ref b ∧ SqL K H a (ts.map V.str) ∧ SqL K H b (ts.map V.str) ∧ Q (.bl false) H
theorem op_neStrs {X : Cx} (hu : X.A.units + 64 < cLine) : OpR X (compareOp .NotEq) (rNeStrs X.K) := by
  intro pins s σ H x y v u Q I rx ry h
  obtain ⟨a, b, ts, rfl, rfl, ha, hb, q⟩ := h
  cases rx
  cases ry
  obtain ⟨its, r1, p1, _⟩ := I.list ha
  obtain ⟨its2, r2, p2, _⟩ := I.list hb
  obtain ⟨n1, g1⟩ := vals_strs r1
  obtain ⟨n2, g2⟩ := vals_strs r2
  have e : (!(List.range its.toArray.size).all fun _ => true) = false := by simp
  refine SeqAt.RcNeAt.lists p1.isList p2.isList (e := fun _ => true) (by simp [n1, n2]) (by omega) (fun j h1 h2 => ?_) X.prog X.w _ _ ?_
  · obtain ⟨t1, w1, q1, e1⟩ := g1 j (by simpa using h1)
    obtain ⟨t2, w2, q2, e2⟩ := g2 j (by simpa using h2)
    rw [q1] at q2
    cases q2
    have z := SeqAt.EqAt.str_str (A := X.A.in1) (s := s) t1 w1 t1 w2
    rw [beq_self_eq_true] at z
    simpa [e1, e2] using z
  · rw [e]
    exact ⟨.bl false, H, I, rfl, q⟩
/-- the walk over enumerate of a list -/
theorem for_enum {K : PySem.W.Frag} {a : Addr} {xs : List V} {g : TG} {tb : TS} {D : Ends} {σ : L2.St} {H : Hp} (Pv : Nat → L2.St → Hp → Prop) (h0 : Pv 0 σ H) (hq : ∀ i σ H, Pv i σ H → SqL K H a xs)
    (hs : ∀ (i : Nat) (x : V) (T : Addr) (σ : L2.St) (H : Hp), xs[i]? = some x → Pv i σ H → H T = none → g (.ref T) σ (upd H T (.tup [.int (i : Nat), x])) fun σ2 H2 => tb { D with nx := Pv (i + 1), ct := Pv (i + 1), bk := D.nx } σ2 H2)
    (hd : ∀ σ H, Pv xs.length σ H → D.nx σ H) :
    ∃ W : Nat → Nat → L2.St → Hp → Prop, (∃ m, W 0 m σ H) ∧ ∀ i m σ H, W i m σ H →
      ((Ite K a).stop i H ∧ D.nx σ H) ∨ ((Ite K a).go i H ∧ ∃ N : L2.St → Hp → Prop, (∀ σ' H', N σ' H' → ∃ m', m' < m ∧ W (i + 1) m' σ' H') ∧ ∀ v H', (Ite K a).yld i H v H' → g v σ H' fun σ2 H2 => tb { D with nx := N, ct := N, bk := D.nx } σ2 H2) := by
  refine ⟨fun i m σ H => m + i = xs.length ∧ Pv i σ H, ⟨xs.length, rfl, h0⟩, fun i m σ H hW => ?_⟩
  obtain ⟨hm, p⟩ := hW
  have q := hq i σ H p
  cases m with
  | zero =>
    obtain rfl : i = xs.length := by omega
    exact .inl ⟨⟨xs, q, Nat.le_refl _⟩, hd σ H p⟩
  | succ m =>
    have hlt : i < xs.length := by omega
    have ex : xs[i]? = some xs[i] := List.getElem?_eq_getElem hlt
    refine .inr ⟨⟨xs, xs[i], q, ex⟩, Pv (i + 1), fun σ' H' p' => ⟨m, Nat.lt_succ_self m, by omega, p'⟩, fun v H' y => ?_⟩
    obtain ⟨T, x, rfl, hT, rfl, hx⟩ := y
    exact hs i x T σ H (hx xs q) p hT
end XV


set_option Elab.async false
set_option linter.all false
set_option maxRecDepth 100000
set_option maxHeartbeats 4000000
/-! what repr tells of the small things that a law draws -/
namespace XV
open PySem PySem.Spec PyProof.Rows L2
theorem log2_small {n : Int} (h1 : -1000000000000 < n) (h2 : n < 1000000000000) : n.natAbs.log2 < 1920 :=
  PySem.Flt.log2_lt_of (by decide) (Nat.lt_of_lt_of_le (m := 1000000000000) (by omega) (by decide +kernel))
theorem int_short {n : Int} (h1 : -1000000000000 < n) (h2 : n < 1000000000000) : (PyData.shown (.int n)).length ≤ 13 := by
  show (Str.ofString (toString n)).length ≤ 13
  by_cases h : 0 ≤ n
  · exact Nat.le_trans (toString_length_le h (k := 12) (by decide) (by omega)) (by decide)
  · rw [len_text_neg (by omega)]
    have := toString_length_le (v := 0 - n) (by omega) (k := 12) (by decide) (by omega)
    omega
theorem chars_small (s : String) : ((Str.ofString s).cps.toList.all fun c => decide (c < 16 ^ 8)) = true := by
  rw [Str.ofString_eq_toList]
  rw [List.all_eq_true]
  intro c hc
  obtain ⟨ch, _, rfl⟩ := List.mem_map.mp (by simpa using hc)
  refine decide_eq_true ?_
  exact Nat.lt_of_lt_of_le ch.val.toNat_lt (by decide)
/-- plain data of few short parts are told in full -/
theorem shows_of {K : PySem.W.Frag} {H : Hp} {x : V} {d : PyData} (h : Dd K H x d) (hs : d.showable = true) (hd : d.depth ≤ 60) (hl : d.leavesShort 13 = true) (hw : d.weight ≤ 2 ^ 20) : Shows K H x d.shown :=
  ⟨d, h, hs, hd, PyData.shown_fits (B := 13) (by decide) (by decide) hl hw, rfl⟩
theorem w_int {n : Int} (h1 : -1000000000000 < n) (h2 : n < 1000000000000) : PyData.weight (.int n) ≤ 2000 := by
  unfold PyData.weight
  have := log2_small h1 h2
  split <;> omega
section
variable {K : PySem.W.Frag} {H : Hp} {n : Int}
theorem shows_none : Shows K H .non (PyData.shown .none) := shows_of (.deep .non rfl) rfl (by decide) rfl (by decide)
theorem shows_bool (b : Bool) : Shows K H (.bl b) (PyData.shown (.bool b)) := shows_of (.deep (.bl b) rfl) rfl (by show 0 ≤ 60; decide) rfl (by show 0 ≤ 2 ^ 20; decide)
theorem shows_int (h1 : -1000000000000 < n) (h2 : n < 1000000000000) : Shows K H (.int n) (PyData.shown (.int n)) :=
  shows_of (.deep (.int n) rfl) (decide_eq_true (log2_small h1 h2)) (by show 0 ≤ 60; decide) (decide_eq_true (int_short h1 h2)) (Nat.le_trans (w_int h1 h2) (by decide))
theorem shows_str (s : String) (h : (Str.ofString s).cps.size ≤ 1000) : Shows K H (.str (Str.ofString s)) (PyData.shown (.str (Str.ofString s))) :=
  shows_of (.deep (.str _) rfl) rfl (by show 0 ≤ 60; decide) (chars_small s) (Nat.le_trans h (by decide))
theorem shows_list {a : Addr} {s : String} (hs : (Str.ofString s).cps.size ≤ 1000) (h1 : -1000000000000 < n) (h2 : n < 1000000000000) (h : H a = some (.lst [.int n, .str (Str.ofString s)])) :
    Shows K H (.ref a) (PyData.shown (.list [.int n, .str (Str.ofString s)])) := by
  refine shows_of (.deep (.lst (.inl (.inl h)) (.cons (.int n) (.cons (.str _) .nil))) rfl) ?_ (by show max 0 (max 0 0) + 1 ≤ 60; decide) ?_ ?_
  · show (decide (n.natAbs.log2 < 1920) && (true && true)) = true
    rw [decide_eq_true (log2_small h1 h2)]
    rfl
  · show (decide (_ ≤ 13) && (((Str.ofString s).cps.toList.all fun c => decide (c < 16 ^ 8)) && true)) = true
    rw [decide_eq_true (int_short h1 h2), chars_small s]
    rfl
  · show PyData.weight (.int n) + 1 + ((Str.ofString s).cps.size + 1 + 0) ≤ 2 ^ 20
    have := w_int h1 h2
    omega
theorem shows_dict {a : Addr} {s : String} (hs : (Str.ofString s).cps.size ≤ 1000) (h1 : -1000000000000 < n) (h2 : n < 1000000000000) (h : H a = some (.dK [(Sum.inr (Str.ofString s), .int n)])) :
    Shows K H (.ref a) (PyData.shown (.dict [(.str (Str.ofString s), .int n)])) := by
  refine shows_of (.dic h (.cons ⟨rfl, rfl⟩ .nil)) ?_ (by show max (max 0 0) 0 + 1 ≤ 60; decide) ?_ ?_
  · show (true && decide (n.natAbs.log2 < 1920) && true) = true
    rw [decide_eq_true (log2_small h1 h2)]
    rfl
  · show (((Str.ofString s).cps.toList.all fun c => decide (c < 16 ^ 8)) && decide (_ ≤ 13) && true) = true
    rw [decide_eq_true (int_short h1 h2), chars_small s]
    rfl
  · show (Str.ofString s).cps.size + PyData.weight (.int n) + 2 + 0 ≤ 2 ^ 20
    have := w_int h1 h2
    omega
theorem shows_pairs {a b c : Addr} {s u : String} (hs : (Str.ofString s).cps.size ≤ 1000) (hu : (Str.ofString u).cps.size ≤ 1000) (h1 : -1000000000000 < n) (h2 : n < 1000000000000)
    (hb : H b = some (.tup [.str (Str.ofString s), .int n])) (hc : H c = some (.tup [.str (Str.ofString u), .non])) (ha : H a = some (.tup [.ref b, .ref c])) :
    Shows K H (.ref a) (PyData.shown (.tuple [.tuple [.str (Str.ofString s), .int n], .tuple [.str (Str.ofString u), .none]])) := by
  refine shows_of (.deep (.tup (.inl (.inl ha)) (.cons (.tup (.inl (.inl hb)) (.cons (.str _) (.cons (.int n) .nil))) (.cons (.tup (.inl (.inl hc)) (.cons (.str _) (.cons .non .nil))) .nil))) rfl) ?_ (by show max (max 0 (max 0 0) + 1) (max (max 0 (max 0 0) + 1) 0) + 1 ≤ 60; decide) ?_ ?_
  · show ((true && (decide (n.natAbs.log2 < 1920) && true)) && ((true && (true && true)) && true)) = true
    rw [decide_eq_true (log2_small h1 h2)]
    rfl
  · show ((((Str.ofString s).cps.toList.all fun c => decide (c < 16 ^ 8)) && (decide (_ ≤ 13) && true)) && ((((Str.ofString u).cps.toList.all fun c => decide (c < 16 ^ 8)) && (true && true)) && true)) = true
    rw [decide_eq_true (int_short h1 h2), chars_small s, chars_small u]
    rfl
  · show ((Str.ofString s).cps.size + 1 + (PyData.weight (.int n) + 1 + 0)) + 1 + (((Str.ofString u).cps.size + 1 + (0 + 1 + 0)) + 1 + 0) ≤ 2 ^ 20
    have := w_int h1 h2
    omega
end
end XV


set_option Elab.async false
set_option linter.all false
set_option maxRecDepth 100000
set_option maxHeartbeats 4000000
namespace K01
open PySem PySem.Spec PyProof.Rows L2 XV
def top (i : Nat) : Stmt := PySem.Challenge.pw_bitcounts_k01_constants_and_errors.main.body.getD i (.Pass ⟨0, 0, 0, 0⟩)
abbrev sNumber : Stmt := top 28
abbrev sSource : Stmt := top 29
abbrev sDraw : Stmt := top 30
/-- the built-in names that the law uses are the built-in ones -/
structure TxtB (mg : Str → Option Value) : Prop where
  len : mg "len" = none
  int : mg "int" = none
  abs : mg "abs" = none
  dvm : mg "divmod" = none
  str : mg "str" = none
  repr : mg "repr" = none
  range : mg "range" = none
  enum : mg "enumerate" = none
  all : mg "all" = none
  max : mg "max" = none
  min : mg "min" = none
  isi : mg "isinstance" = none
  vE : mg "ValueError" = none
  lE : mg "LookupError" = none
  aE : mg "ArithmeticError" = none
def spNumber (K : PySem.W.Frag) : Sp := fun vs H Q _ => ∃ (a : Addr) (ns : List Int) (k : Int), vs = [.ref a, .int k] ∧ SqL K H a (ns.map V.int) ∧ ns.length ≤ 63 ∧ 0 ≤ k ∧ ∀ z H', Same H H' → Q (.int z) H'
/-- a source: what is mixed, digits to come, how many draws were made -/
def srcAt (H : Hp) (p : Addr) : Prop := ∃ x g c : Int, H p = some (.lst [.int x, .int g, .int c])
def spSource : Sp := fun vs H Q _ => ∃ d : Int, vs = [.int d] ∧ ∀ (p : Addr) (H' : Hp), H p = none → Same H H' → srcAt H' p → Q (.ref p) H'
def spDraw : Sp := fun vs H Q _ => ∃ (p : Addr) (m : Int), vs = [.ref p, .int m] ∧ srcAt H p ∧ 0 < m ∧ m ≤ 1000000000000 ∧
  ∀ (r : Int) (H' : Hp), 0 ≤ r → r < m → srcAt H' p → (∀ b o, b ≠ p → H b = some o → H' b = some o) → Q (.int r) H'
section
variable {P : Program} {w : World} {K : PySem.W.Frag} {mg : Str → Option Value} {base : Heap}
theorem scNumber : FnScope ["_law_script", "_law_k", "_law_mixed", "_law_cell"] ["_law_script", "_law_k"] (defScope sNumber) := ⟨rfl, rfl, rfl, by decide +kernel, rfl, by decide +kernel, by decide +kernel⟩
theorem ok_number {f : Addr} {fd : FuncData} (F : Fun K "_law_number" "_law_number" sNumber f fd) (T : TxtB mg) : FnOk P w K mg base CX0 1 f fd ["_law_script", "_law_k"] (spNumber K) := by
  refine F.ok scNumber (fun vs H Q E h => ?_) (fun cdv A outer s H vs Q E hr h => ?_)
  · obtain ⟨a, ns, k, rfl, _⟩ := h
    rfl
  · obtain ⟨a, ns, k, rfl, hS, hl, hk, q⟩ := h
    have nd := scNumber.nd
    refine ⟨_, pss_cons (ps_if (pt_cmpR op_lt (pv 1) (pe_callB call_len_seq (by rfl) T.len PySem.boot_len (pa_cons (pv 0) pa_nil)) (nomark _))
        (pss_one (ps_ret (pe_callTy call_int1 (by rfl) T.int boot_int (pa_cons (pe_ix ix_list (pv 0) (pv 1) (fun _ _ => rfl)) pa_nil)))) pss_nil)
      (pss_cons (ps_set (i := 2) nd rfl (.inl rfl) (pe_op op_mod (pe_callTy call_int1 (by rfl) T.int boot_int (pa_cons (pe_op op_add (pe_op op_mul pe_int (pv 1)) pe_int) pa_nil)) pe_int))
      (pss_cons (ps_for PassesOwn.never rfl (pi_list (pe_slice sl_list (pv 0) po_none (po_some pe_int))) (pg_name (i := 3) nd rfl (.inl rfl))
        (pss_one (ps_set (i := 2) nd rfl (.inl rfl) (pe_op op_mod (pe_callTy call_int1 (by rfl) T.int boot_int (pa_cons (pe_op op_add (pe_op op_add (pe_op op_mul (pv 2) pe_int) (pe_op op_fdiv (pv 2) pe_int))
          (pe_callTy call_int1 (by rfl) T.int boot_int (pa_cons (pv 3) pa_nil))) pa_nil)) pe_int))))
      (pss_one (ps_ret (pv 2))))), ?_⟩
    have hlen : (ns.map V.int).length = ns.length := List.length_map ..
    refine ⟨_, rfl, _, rfl, a, _, rfl, .inl hS, _, _, rfl, rfl, _, rfl, ?_⟩
    refine ite2 (fun c => ?_) (fun c => ?_)
    · -- return int(script[k])
      have c' : k < (ns.length : Int) := by simpa [hlen] using c
      obtain ⟨j, rfl⟩ : ∃ j : Nat, k = (j : Int) := ⟨k.toNat, by omega⟩
      have hj : j < ns.length := by omega
      have e : (ns.map V.int)[j]? = some (V.int ns[j]) := by rw [List.getElem?_map, List.getElem?_eq_getElem hj]; rfl
      refine ⟨_, rfl, _, rfl, a, _, _, _, rfl, rfl, hS, atI_nat e, .inl ⟨_, rfl, ?_⟩⟩
      exact q _ H (Same.refl H)
    · refine ⟨_, rfl, _, _, rfl, rfl, .inl ⟨by decide, by decide⟩, _, _, rfl, rfl, .inl ⟨_, rfl, _, _, rfl, rfl, (by show (0 : Int) < 2147483563; decide), ?_⟩⟩
      -- for cell in script[:5]
      refine ⟨_, rfl, _, rfl, a, _, rfl, hS, fun p hp => ⟨p, rfl, ?_⟩⟩
      have allInt : ∀ (i : Nat) (y : V), (cutV (ns.map V.int) none (some 5))[i]? = some y → ∃ z, y = V.int z := fun i y e => by
        have m1 := List.mem_of_getElem? e
        unfold cutV at m1
        obtain ⟨z, _, e⟩ := List.mem_map.mp (List.mem_of_mem_drop (List.mem_of_mem_take m1))
        exact ⟨z, e.symm⟩
      refine ⟨⟨_, .inl (.inl upd_same)⟩, for_list (K := K) (a := p) (xs := cutV (ns.map V.int) none (some 5)) (fun i σ H' => ∃ (m : Int) (v : Option V), σ = [some (.ref a), some (.int k), some (.int m), v] ∧ Same H H' ∧ H' p = some (.lst (cutV (ns.map V.int) none (some 5))))
        ⟨_, none, rfl, fun b o e => by rw [upd_ne (ne_of_none e hp)]; exact e, upd_same⟩ (fun i σ H' _ ⟨_, _, _, _, e⟩ => .inl (.inl e)) ?_ ?_⟩
      · rintro i y σ H' hi ⟨m, v, rfl, s2, e⟩
        obtain ⟨z, rfl⟩ := allInt i y hi
        refine ⟨_, rfl, _, _, rfl, rfl, .inr ⟨by decide, by decide⟩, _, rfl, _, _, rfl, rfl, ⟨by decide, by decide⟩, _, _, rfl, rfl, _, rfl, .inl ⟨_, rfl, _, _, rfl, rfl, .inl ⟨_, rfl, _, _, rfl, rfl, (by show (0 : Int) < 2147483563; decide), ?_⟩⟩⟩
        exact ⟨_, _, rfl, s2, e⟩
      · rintro σ H' ⟨m, v, rfl, s2, e⟩
        exact ⟨_, rfl, q _ H' s2⟩
theorem scSource : FnScope ["_law_drawn", "_law_great"] ["_law_drawn"] (defScope sSource) := ⟨rfl, rfl, rfl, by decide +kernel, rfl, by decide +kernel, by decide +kernel⟩
theorem ok_source {f : Addr} {fd : FuncData} (F : Fun K "_law_source" "_law_source" sSource f fd) (T : TxtB mg) : FnOk P w K mg base CX0 1 f fd ["_law_drawn"] spSource := by
  refine F.ok scSource (fun vs H Q E h => ?_) (fun cdv A outer s H vs Q E hr h => ?_)
  · obtain ⟨d, rfl, _⟩ := h
    rfl
  · obtain ⟨d, rfl, q⟩ := h
    have nd := scSource.nd
    refine ⟨_, pss_cons (ps_set (i := 1) nd rfl (.inl rfl) (pe_ifExp (PW.pt (pw_or (pt_cmpR op_lt (pv 0) pe_int (nomark _)) (pw_or1 (pt_cmpR op_ge (pv 0) (pe_op op_pow pe_int pe_int) (nomark _)))))
        (pe_callB call_abs (by rfl) T.abs boot_abs (pa_cons (pe_callTy call_int1 (by rfl) T.int boot_int (pa_cons (pv 0) pa_nil)) pa_nil)) pe_int))
      (pss_one (ps_ret (pe_lst (pa_cons (pe_op op_mod (pe_callTy call_int1 (by rfl) T.int boot_int (pa_cons (pe_op op_add (pe_op op_mul (pv 0) pe_int) pe_int) pa_nil)) pe_int) (pa_cons (pv 1) (pa_cons pe_int pa_nil)))))), ?_⟩
    have fin : ∀ great : Int, tRet (tLst (tCons (tOp (rI (fun _ j => 0 < j) fun i j => V.int (i % j)) (tCB (fun xs H Q => (∃ i, xs = [.int i] ∧ Q (.int i) H) ∨ ∃ k, xs = [.bl k] ∧ Q (.int (if k then 1 else 0)) H)
        (tCons (tOp (rI0 fun i j => V.int (i + j)) (tOp (rI CMul fun i j => V.int (i * j)) (tVar 0) (tC (.int 48271))) (tC (.int 11))) tNil)) (tC (.int 2147483563))) (tCons (tVar 1) (tCons (tC (.int 0)) tNil)))) { nx := fun _ H' => Q .non H', rt := Q } [some (.int d), some (.int great)] H := fun great => by
      refine ⟨_, rfl, _, _, rfl, rfl, .inr ⟨by decide, by decide⟩, _, _, rfl, rfl, .inl ⟨_, rfl, _, _, rfl, rfl, (by show (0 : Int) < 2147483563; decide), _, rfl, (by show 3 ≤ sizeLine; decide), fun p hp => ?_⟩⟩
      exact q p _ hp (fun b o e => by rw [upd_ne (ne_of_none e hp)]; exact e) ⟨_, _, _, upd_same⟩
    refine ⟨_, rfl, _, _, rfl, rfl, _, rfl, ?_⟩
    refine ite2 (fun c => ?_) (fun c => ?_)
    · refine iteT ?_
      refine ⟨_, rfl, .inl ⟨_, rfl, _, rfl, fin _⟩⟩
    · refine ⟨_, rfl, _, _, rfl, rfl, ⟨by decide, by decide, by decide⟩, _, _, rfl, rfl, _, rfl, ?_⟩
      refine ite2 (fun c => ?_) (fun c => ?_)
      · exact ⟨_, rfl, .inl ⟨_, rfl, _, rfl, fin _⟩⟩
      · exact fin _
theorem scDraw : FnScope ["_law_source_here", "_law_many", "_law_state", "_law_digit"] ["_law_source_here", "_law_many"] (defScope sDraw) := ⟨rfl, rfl, rfl, by decide +kernel, rfl, by decide +kernel, by decide +kernel⟩
theorem ok_draw {f : Addr} {fd : FuncData} (F : Fun K "_law_draw" "_law_draw" sDraw f fd) (T : TxtB mg) : FnOk P w K mg base CX0 1 f fd ["_law_source_here", "_law_many"] spDraw := by
  refine F.ok scDraw (fun vs H Q E h => ?_) (fun cdv A outer s H vs Q E hr h => ?_)
  · obtain ⟨p, m, rfl, _⟩ := h
    rfl
  · obtain ⟨p, m, rfl, ⟨x, g, c, hp⟩, hm, hm2, q⟩ := h
    have nd := scDraw.nd
    refine ⟨_, pss_cons (ps_asg (pe_op op_add (pe_ix ix_list (pv 0) pe_int (fun _ _ => rfl)) pe_int) (pg_sub (pv 0) pe_int set_list))
      (pss_cons (ps_set (i := 2) nd rfl (.inl rfl) (pe_callTy call_int1 (by rfl) T.int boot_int (pa_cons (pe_ix ix_list (pv 0) pe_int (fun _ _ => rfl)) pa_nil)))
      (pss_cons (ps_set (i := 2) nd rfl (.inl rfl) (pe_callTy call_int1 (by rfl) T.int boot_int (pa_cons (pe_op op_add (pe_op op_add (pe_op op_add (pe_op op_mul (pv 2) pe_int)
          (pe_op op_mul (pe_op op_fdiv (pv 2) pe_int) (pe_op op_add (pe_op op_mod (pv 2) pe_int) pe_int))) (pe_op op_mul pe_int (pe_ix ix_list (pv 0) pe_int (fun _ _ => rfl)))) pe_int) pa_nil)))
      (pss_cons (ps_asg (pe_op op_mod (pv 2) pe_int) (pg_sub (pv 0) pe_int set_list))
      (pss_cons (ps_if (pt_cmpR op_gt (pe_ix ix_list (pv 0) pe_int (fun _ _ => rfl)) pe_int (nomark _))
        (pss_cons (ps_asg (pe_callB call_divmodW (by rfl) T.dvm boot_divmod (pa_cons (pe_callTy call_int1 (by rfl) T.int boot_int (pa_cons (pe_ix ix_list (pv 0) pe_int (fun _ _ => rfl)) pa_nil)) (pa_cons (pv 1) pa_nil)))
          (pg_tup rfl (pgs_cons (pg_sub (pv 0) pe_int set_list) (pgs_cons (pg_name (i := 3) nd rfl (.inl rfl)) pgs_nil))))
        (pss_one (ps_ret (pv 3)))) pss_nil)
      (pss_one (ps_ret (pe_op op_mod (pe_callTy call_int1 (by rfl) T.int boot_int (pa_cons (pe_op op_fdiv (pe_ix ix_list (pv 0) pe_int (fun _ _ => rfl)) pe_int) pa_nil)) (pv 1)))))))), ?_⟩
    have a0 : ∀ x g c : Int, atI [V.int x, V.int g, V.int c] 0 = some (V.int x) := fun x g c => atI_nat (j := 0) rfl
    have a1 : ∀ x g c : Int, atI [V.int x, V.int g, V.int c] 1 = some (V.int g) := fun x g c => atI_nat (j := 1) rfl
    have a2 : ∀ x g c : Int, atI [V.int x, V.int g, V.int c] 2 = some (V.int c) := fun x g c => atI_nat (j := 2) rfl
    have rd : ∀ {H : Hp} {xs : List V}, H p = some (.lst xs) → SqL K H p xs := fun h => .inl (.inl h)
    -- source[2] = source[2] + 1
    refine ⟨_, rfl, p, _, _, _, rfl, rfl, rd hp, a2 _ _ _, _, _, rfl, rfl, _, rfl, p, _, _, 2, rfl, rfl, hp, (by show ixN 3 (2 : Int) = some 2; decide), ?_⟩
    -- state
    refine ⟨_, rfl, p, _, _, _, rfl, rfl, rd upd_same, a0 _ _ _, .inl ⟨_, rfl, ?_⟩⟩
    refine ⟨_, rfl, _, _, rfl, rfl, .inr ⟨by decide, by decide⟩, _, rfl, _, _, rfl, rfl, ⟨by decide, by decide⟩, _, rfl, _, _, rfl, rfl, (by show (0 : Int) < 1009; decide), _, _, rfl, rfl, _, _, rfl, rfl, ?_, ?_⟩
    · exact .inr ⟨by omega, by omega⟩
    refine ⟨_, _, rfl, rfl, _, rfl, p, _, _, _, rfl, rfl, rd upd_same, a2 _ _ _, _, _, rfl, rfl, .inl ⟨by decide, by decide⟩, _, _, rfl, rfl, _, _, rfl, rfl, .inl ⟨_, rfl, ?_⟩⟩
    -- source[0] = state % ..
    refine ⟨_, rfl, _, _, rfl, rfl, (by show (0 : Int) < 2147483563; decide), _, rfl, p, _, _, 0, rfl, rfl, upd_same, (by show ixN 3 (0 : Int) = some 0; decide), ?_⟩
    refine ⟨_, rfl, p, _, _, _, rfl, rfl, rd upd_same, a1 _ _ _, _, _, rfl, rfl, _, rfl, ?_⟩
    have old : ∀ (o1 o2 : HO) (b : Addr) (o : HO), b ≠ p → H b = some o → upd (upd H p o1) p o2 b = some o := fun o1 o2 b o hb e => by
      rw [upd_ne hb, upd_ne hb]
      exact e
    refine ite2 (fun cc => ?_) (fun cc => ?_)
    · -- source[1], digit = divmod(int(source[1]), many)
      refine ⟨_, rfl, p, _, _, _, rfl, rfl, rd upd_same, a1 _ _ _, .inl ⟨_, rfl, _, rfl, _, _, rfl, ⟨hm, PyProof.noPylong_of_log2 ?_⟩, fun t ht => ?_⟩⟩
      · have : m.natAbs < 2 ^ 9000 := Nat.lt_of_le_of_lt (m := 1000000000000) (by omega) (by decide +kernel)
        exact PySem.Flt.log2_lt_of (by decide) this
      · have tp : t ≠ p := fun z => by
          rw [z, upd_same] at ht
          cases ht
        have pt : p ≠ t := fun z => tp z.symm
        refine ⟨t, _, rfl, .inl (.inl upd_same), rfl, _, _, rfl, _, rfl, p, _, _, 1, rfl, rfl, (by rw [upd_ne pt]; exact upd_same), (by show ixN 3 (1 : Int) = some 1; decide), _, _, rfl, rfl, _, rfl, ?_⟩
        refine q _ _ (Int.emod_nonneg _ (by omega)) (Int.emod_lt_of_pos _ hm) ⟨_, _, _, upd_same⟩ fun b o hb e => ?_
        rw [upd_ne hb, upd_ne (ne_of_none (old _ _ b o hb e) ht)]
        exact old _ _ b o hb e
    · refine ⟨_, rfl, p, _, _, _, rfl, rfl, rd upd_same, a0 _ _ _, _, _, rfl, rfl, ⟨by decide, by decide⟩, .inl ⟨_, rfl, _, rfl, _, _, rfl, rfl, hm, ?_⟩⟩
      exact q _ _ (Int.emod_nonneg _ (by omega)) (Int.emod_lt_of_pos _ hm) ⟨_, _, _, upd_same⟩ fun b o hb e => old _ _ b o hb e
end
end K01


set_option Elab.async false
set_option linter.all false
set_option maxRecDepth 100000
set_option maxHeartbeats 4000000
namespace K01
open PySem PySem.Spec PyProof.Rows L2 XV
abbrev sThing : Stmt := top 32
/-- a def of the text: where it stands, and that it stands there still -/
structure At (K : PySem.W.Frag) (mg : Str → Option Value) (x : Str) (st : Stmt) (f : Addr) (fd : FuncData) (ps : List Str) : Prop where
  fn : Fun K x x st f fd
  gl : mg x = some (.ref f)
  kp : PySem.W.keepIn K (.ref f) = true
  bd : Binds K fd ps []
def spThing (K : PySem.W.Frag) : Sp := fun vs H Q _ => ∃ p : Addr, vs = [.ref p] ∧ srcAt H p ∧ ∀ (x : V) (t : Str) (H' : Hp), Shows K H' x t → (∀ b o, b ≠ p → H b = some o → H' b = some o) → Q x H'
section
variable {P : Program} {w : World} {K : PySem.W.Frag} {mg : Str → Option Value} {base : Heap}
theorem scThing : FnScope ["_law_source_here", "_law_way", "_law_drawn"] ["_law_source_here"] (defScope sThing) := ⟨rfl, rfl, rfl, by decide +kernel, rfl, by decide +kernel, by decide +kernel⟩
theorem ok_thing {f fD : Addr} {fd fdD : FuncData} (F : At K mg "_law_thing" sThing f fd ["_law_source_here"]) (D : At K mg "_law_draw" sDraw fD fdD ["_law_source_here", "_law_many"]) (T : TxtB mg) :
    FnOk P w K mg base CX0 2 f fd ["_law_source_here"] (spThing K) := by
  have GD : FnOk P w K mg base CX0 1 fD fdD ["_law_source_here", "_law_many"] spDraw := ok_draw D.fn T
  refine F.fn.ok scThing (fun vs H Q E h => ?_) (fun cdv A outer s H vs Q E hr h => ?_)
  · obtain ⟨p, rfl, _⟩ := h
    rfl
  · obtain ⟨p, rfl, hp, q⟩ := h
    have nd := scThing.nd
    have hu := hu_of hr
    refine ⟨_, pss_cons (ps_par (i := 1) (j := 2) rfl nd rfl rfl (by decide) rfl rfl (pa_cons (pe_call GD hr (by rfl) D.gl D.kp D.bd .nil pass0 (pa_cons (pv 0) (pa_cons pe_int pa_nil)))
        (pa_cons (pe_op op_sub (pe_call GD hr (by rfl) D.gl D.kp D.bd .nil pass0 (pa_cons (pv 0) (pa_cons (pe_op op_pow pe_int pe_int) pa_nil))) (pe_op op_pow pe_int pe_int)) pa_nil)) (by first | rfl | kernel_rfl))
      (pss_cons (ps_if (pt_cmpR op_lt (pv 1) pe_int (nomark _)) (pss_one (ps_ret (pe_ix ix_list (pe_lst (pa_cons pe_non (pa_cons pe_bl (pa_cons pe_bl (pa_cons pe_str pa_nil))))) (pv 1) (fun _ _ => rfl)))) pss_nil)
      (pss_cons (ps_if (pt_cmpR op_eq (pv 1) pe_int (nomark _)) (pss_one (ps_ret (pv 2))) pss_nil)
      (pss_cons (ps_if (pt_cmpR op_eq (pv 1) pe_int (nomark _)) (pss_one (ps_ret (pe_lst (pa_cons (pv 2) (pa_cons pe_str pa_nil))))) pss_nil)
      (pss_one (ps_ret (pe_ifExp (pt_cmpR op_eq (pv 1) pe_int (nomark _)) (pe_tup (pa_cons (pe_tup (pa_cons pe_str (pa_cons (pv 2) pa_nil))) (pa_cons (pe_tup (pa_cons pe_str (pa_cons pe_non pa_nil))) pa_nil)))
        (pe_ifExp (pt_cmpR op_eq (pv 1) pe_int (nomark _)) (pe_disp (pps_cons pe_str (pv 2) pps_nil) rfl rfl (by simp) (by decide)) (pe_callTy call_str_int (by rfl) T.str boot_str (pa_cons (pv 2) pa_nil))))))))), ?_⟩
    refine ⟨_, rfl, p, _, rfl, hp, by decide, by decide, fun r H1 r0 r1 s1 k1 => ?_⟩
    refine ⟨_, rfl, _, _, rfl, rfl, ⟨by decide, by decide, by decide⟩, p, _, rfl, s1, by decide, by decide, fun d0 H2 z0 z1 s2 k2 => ?_⟩
    refine ⟨_, _, rfl, rfl, ⟨by decide, by decide, by decide⟩, _, _, rfl, rfl, _, _, rfl, ?_⟩
    have ed1 : (10 : Int) ^ (12 : Int).toNat = 1000000000000 := by decide
    have ed2 : (10 : Int) ^ (6 : Int).toNat = 1000000 := by decide
    have z1 : d0 < 1000000000000 := by
      have z : d0 < (10 : Int) ^ (12 : Int).toNat := z1
      rw [ed1] at z
      exact z
    have k12 : ∀ b o, b ≠ p → H b = some o → H2 b = some o := fun b o hb e => k2 b o hb (k1 b o hb e)
    obtain ⟨d, hd, e1, e2⟩ : ∃ d : Int, d0 - (10 : Int) ^ (6 : Int).toNat = d ∧ -1000000000000 < d ∧ d < 1000000000000 := ⟨_, rfl, by rw [ed2]; omega, by rw [ed2]; omega⟩
    rw [show (fun i j : Int => V.int (i - j)) d0 ((10 : Int) ^ (6 : Int).toNat) = V.int d from congrArg V.int hd]
    have new : ∀ {o : HO} {l : Addr}, H2 l = none → ∀ b u, b ≠ p → H b = some u → upd H2 l o b = some u := fun {o l} hl b u hb e => by
      rw [upd_ne (ne_of_none (k12 b u hb e) hl)]
      exact k12 b u hb e
    refine ⟨_, rfl, _, _, rfl, rfl, _, rfl, ?_⟩
    refine ite2 (fun c => ?_) (fun c => ?_)
    · have c : r < 4 := of_decide_eq_true c
      refine ⟨by show 4 ≤ sizeLine; decide, fun l hl => ⟨_, rfl, l, [.non, .bl true, .bl false, .str ""], r, ?_⟩⟩
      obtain rfl | rfl | rfl | rfl : r = 0 ∨ r = 1 ∨ r = 2 ∨ r = 3 := by omega
      · exact ⟨_, rfl, rfl, .inl (.inl upd_same), atI_nat (j := 0) rfl, q _ _ _ shows_none (new hl)⟩
      · exact ⟨_, rfl, rfl, .inl (.inl upd_same), atI_nat (j := 1) rfl, q _ _ _ (shows_bool true) (new hl)⟩
      · exact ⟨_, rfl, rfl, .inl (.inl upd_same), atI_nat (j := 2) rfl, q _ _ _ (shows_bool false) (new hl)⟩
      · exact ⟨_, rfl, rfl, .inl (.inl upd_same), atI_nat (j := 3) rfl, q _ _ _ (shows_str "" (by decide)) (new hl)⟩
    refine ⟨_, rfl, rfl, _, rfl, ?_⟩
    refine ite2 (fun c => ?_) (fun c => ?_)
    · exact ⟨_, rfl, q _ _ _ (shows_int e1 e2) k12⟩
    refine ⟨_, rfl, rfl, _, rfl, ?_⟩
    refine ite2 (fun c => ?_) (fun c => ?_)
    · exact ⟨_, rfl, by show 2 ≤ sizeLine; decide, fun l hl => q _ _ _ (shows_list (s := "a") (by decide) e1 e2 upd_same) (new hl)⟩
    refine ⟨_, rfl, rfl, _, rfl, ?_⟩
    refine ite2 (fun c => ?_) (fun c => ?_)
    · refine ⟨_, rfl, by show 2 ≤ sizeLine; decide, fun b hb => ⟨by show 2 ≤ sizeLine; decide, fun c hc => ⟨by show 2 ≤ sizeLine; decide, fun a ha => ?_⟩⟩⟩
      have bc : b ≠ c := fun z => by
        rw [← z, upd_same] at hc
        cases hc
      have ca : c ≠ a := fun z => by
        rw [← z, upd_same] at ha
        cases ha
      have ba : b ≠ a := fun z => by
        rw [← z, upd_ne bc, upd_same] at ha
        cases ha
      have hc2 : H2 c = none := by
        rw [upd_ne (fun z => bc z.symm)] at hc
        exact hc
      have ha2 : H2 a = none := by
        rw [upd_ne (fun z => ca z.symm), upd_ne (fun z => ba z.symm)] at ha
        exact ha
      refine q _ _ _ (shows_pairs (s := "m") (u := "n") (b := b) (c := c) (by decide) (by decide) e1 e2 ?_ ?_ upd_same) fun x u hx e => ?_
      · rw [upd_ne ba, upd_ne bc]
        exact upd_same
      · rw [upd_ne ca]
        exact upd_same
      · have e' := k12 x u hx e
        rw [upd_ne (ne_of_none e' ha2), upd_ne (ne_of_none e' hc2), upd_ne (ne_of_none e' hb)]
        exact e'
    refine ⟨_, rfl, rfl, _, rfl, ?_⟩
    refine ite2 (fun c => ?_) (fun c => ?_)
    · refine fun l hl => ⟨_, rfl, upd_same, [(Sum.inr "m", .int d)], rfl, by show 1 ≤ 15; decide, ?_⟩
      have em : upd (upd H2 l (.dK [])) l (.dK (mergeK [] [(Sum.inr "m", V.int d)])) = upd H2 l (.dK [(Sum.inr "m", V.int d)]) := upd_upd
      show Q (.ref l) (upd (upd H2 l (.dK [])) l (.dK (mergeK [] [(Sum.inr "m", V.int d)])))
      rw [em]
      exact q _ _ _ (shows_dict (s := "m") (by decide) e1 e2 upd_same) (new hl)
    · exact ⟨_, rfl, _, rfl, log2_small e1 e2, q _ _ _ (shows_str (toString d) (Nat.le_trans (int_short e1 e2) (by decide))) k12⟩
end
end K01


set_option Elab.async false
set_option linter.all false
set_option maxRecDepth 100000
set_option maxHeartbeats 4000000
namespace K01
open PySem PySem.Spec PyProof.Rows L2 XV
abbrev sPlace : Stmt := top 33
abbrev sName : Stmt := top 34
abbrev sFields : Stmt := top 35
abbrev sSorts : Stmt := top 36
abbrev sBases : Stmt := top 37
abbrev tlV : List Value := [.type "ValueError", .type "Exception", .type "BaseException", .type "object"]
abbrev tlL : List Value := [.type "LookupError", .type "Exception", .type "BaseException", .type "object"]
abbrev tlA : List Value := [.type "ArithmeticError", .type "Exception", .type "BaseException", .type "object"]
/-- a class of errors without a field -/
structure Bare (K : PySem.W.Frag) (C : Addr) (tl : List Value) (newId : String) : Prop where
  ex : PySem.W.excIn K C tl newId = true
  kC : PySem.W.keepIn K (.ref C) = true
/-- the classes, by the order of the law -/
structure Cs where
  InvalidName : Addr
  InvalidNumber : Addr
  InvalidValues : Addr
  InvalidDeeds : Addr
  InvalidText : Addr
  InvalidCommand : Addr
  NotAWord : Addr
  NotAFormula : Addr
  NotATest : Addr
  NotAVariable : Addr
  WrongNames : Addr
  UnknownName : Addr
  Refused : Addr
  Parted : Addr
  Busy : Addr
  NothingToUndo : Addr
  TooMany : Addr
  TooManyNames : Addr
  TooManyClasses : Addr
  iInvalidName : Addr
  iInvalidNumber : Addr
  iInvalidValues : Addr
  iInvalidDeeds : Addr
  iInvalidText : Addr
  iInvalidCommand : Addr
  iNotAWord : Addr
  iNotAFormula : Addr
  iNotATest : Addr
  iNotAVariable : Addr
  iWrongNames : Addr
  iUnknownName : Addr
  iRefused : Addr
  iParted : Addr
  InputError : Addr
  StateError : Addr
  LimitError : Addr
def Cs.all (c : Cs) : List Addr := [c.InvalidName, c.InvalidNumber, c.InvalidValues, c.InvalidDeeds, c.InvalidText, c.InvalidCommand, c.NotAWord, c.NotAFormula, c.NotATest, c.NotAVariable, c.WrongNames, c.UnknownName, c.Refused, c.Parted, c.Busy, c.NothingToUndo, c.TooMany, c.TooManyNames, c.TooManyClasses]
def Cs.kinds (c : Cs) : List (Addr × Option Str) := [(c.InvalidName, some "name"), (c.InvalidNumber, some "number"), (c.InvalidValues, some "index"), (c.InvalidDeeds, some "index"), (c.InvalidText, some "text"), (c.InvalidCommand, some "command"), (c.NotAWord, some "value"), (c.NotAFormula, some "value"), (c.NotATest, some "value"), (c.NotAVariable, some "value"), (c.WrongNames, some "name"), (c.UnknownName, some "name"), (c.Refused, some "index"), (c.Parted, some "pairs"), (c.Busy, none), (c.NothingToUndo, none), (c.TooMany, none), (c.TooManyNames, none), (c.TooManyClasses, none)]
def fieldsOf : List (Nat × Str) := [(0, "name"), (1, "number"), (2, "index"), (3, "index"), (4, "text"), (5, "command"), (6, "value"), (7, "value"), (8, "value"), (9, "value"), (10, "name"), (11, "name"), (12, "index"), (13, "pairs")]
structure TxtC (K : PySem.W.Frag) (mg : Str → Option Value) (c : Cs) : Prop where
  gInvalidName : mg "InvalidName" = some (.ref c.InvalidName)
  gInvalidNumber : mg "InvalidNumber" = some (.ref c.InvalidNumber)
  gInvalidValues : mg "InvalidValues" = some (.ref c.InvalidValues)
  gInvalidDeeds : mg "InvalidDeeds" = some (.ref c.InvalidDeeds)
  gInvalidText : mg "InvalidText" = some (.ref c.InvalidText)
  gInvalidCommand : mg "InvalidCommand" = some (.ref c.InvalidCommand)
  gNotAWord : mg "NotAWord" = some (.ref c.NotAWord)
  gNotAFormula : mg "NotAFormula" = some (.ref c.NotAFormula)
  gNotATest : mg "NotATest" = some (.ref c.NotATest)
  gNotAVariable : mg "NotAVariable" = some (.ref c.NotAVariable)
  gWrongNames : mg "WrongNames" = some (.ref c.WrongNames)
  gUnknownName : mg "UnknownName" = some (.ref c.UnknownName)
  gRefused : mg "Refused" = some (.ref c.Refused)
  gParted : mg "Parted" = some (.ref c.Parted)
  gBusy : mg "Busy" = some (.ref c.Busy)
  gNothingToUndo : mg "NothingToUndo" = some (.ref c.NothingToUndo)
  gTooMany : mg "TooMany" = some (.ref c.TooMany)
  gTooManyNames : mg "TooManyNames" = some (.ref c.TooManyNames)
  gTooManyClasses : mg "TooManyClasses" = some (.ref c.TooManyClasses)
  gInputError : mg "InputError" = some (.ref c.InputError)
  gStateError : mg "StateError" = some (.ref c.StateError)
  gLimitError : mg "LimitError" = some (.ref c.LimitError)
  xInvalidName : XTxt K "name" c.InvalidName c.iInvalidName (inClass (top 4) 0) "ValueError.__new__" tlV
  xInvalidNumber : XTxt K "number" c.InvalidNumber c.iInvalidNumber (inClass (top 5) 0) "ValueError.__new__" tlV
  xInvalidValues : XTxt K "index" c.InvalidValues c.iInvalidValues (inClass (top 6) 0) "ValueError.__new__" tlV
  xInvalidDeeds : XTxt K "index" c.InvalidDeeds c.iInvalidDeeds (inClass (top 7) 0) "ValueError.__new__" tlV
  xInvalidText : XTxt K "text" c.InvalidText c.iInvalidText (inClass (top 8) 0) "ValueError.__new__" tlV
  xInvalidCommand : XTxt K "command" c.InvalidCommand c.iInvalidCommand (inClass (top 9) 0) "ValueError.__new__" tlV
  xNotAWord : XTxt K "value" c.NotAWord c.iNotAWord (inClass (top 10) 0) "ValueError.__new__" tlV
  xNotAFormula : XTxt K "value" c.NotAFormula c.iNotAFormula (inClass (top 11) 0) "ValueError.__new__" tlV
  xNotATest : XTxt K "value" c.NotATest c.iNotATest (inClass (top 12) 0) "ValueError.__new__" tlV
  xNotAVariable : XTxt K "value" c.NotAVariable c.iNotAVariable (inClass (top 13) 0) "ValueError.__new__" tlV
  xWrongNames : XTxt K "name" c.WrongNames c.iWrongNames (inClass (top 14) 0) "ValueError.__new__" tlV
  xUnknownName : XTxt K "name" c.UnknownName c.iUnknownName (inClass (top 15) 0) "LookupError.__new__" tlL
  xRefused : XTxt K "index" c.Refused c.iRefused (inClass (top 16) 0) "LookupError.__new__" tlL
  xParted : XTxt K "pairs" c.Parted c.iParted (inClass (top 17) 0) "LookupError.__new__" tlL
  xBusy : Bare K c.Busy tlL "LookupError.__new__"
  xNothingToUndo : Bare K c.NothingToUndo tlL "LookupError.__new__"
  xTooMany : Bare K c.TooMany tlA "ArithmeticError.__new__"
  xTooManyNames : Bare K c.TooManyNames tlA "ArithmeticError.__new__"
  xTooManyClasses : Bare K c.TooManyClasses tlA "ArithmeticError.__new__"
  get : ∀ (i : Nat) (e : Addr) (f : Str), c.kinds[i]? = some (e, some f) → XGet K e ∧ PySem.W.findIn K (.ref e) f = some none
  is : ∀ e ∈ c.all, XIs K e
  kit : ∀ (i j : Nat) (a b : Addr), c.all[i]? = some a → c.all[j]? = some b → PySem.W.kitOne K (.ref a) (.ref b) = some (i == j)
  kitB : ∀ (i : Nat) (a : Addr), c.all[i]? = some a → ∀ (j : Nat) (b : Value), ([.ref c.InputError, .ref c.StateError, .ref c.LimitError, .type "ValueError", .type "LookupError", .type "ArithmeticError"] : List Value)[j]? = some b → PySem.W.kitOne K (.ref a) b = some ((if i < 11 then 0 else if i < 16 then 1 else 2) == j % 3)
theorem txt_ok (f : Str) (n : Nat) (h : InitText f (inClass (top n) 0)) : InitText f (inClass (top n) 0) := h
/-- the exception e of the kind k holds x -/
def exK (H : Hp) (x : V) (e : Addr) (k : Addr × Option Str) : Prop := match k.2 with
  | some f => exAt H e k.1 f x
  | none => H e = some (exo e k.1 none)
theorem exK.same {H H' : Hp} {x : V} {e : Addr} {k : Addr × Option Str} (s : Same H H') (h : exK H x e k) : exK H' x e k := by
  obtain ⟨C, f⟩ := k
  cases f with
  | none => exact s _ _ h
  | some f =>
    obtain ⟨d, h1, h2⟩ := h
    exact ⟨d, s _ _ h1, s _ _ h2⟩
theorem exK.here {H : Hp} {x : V} {e : Addr} {k : Addr × Option Str} (h : exK H x e k) : exHere H e k.1 := by
  obtain ⟨C, f⟩ := k
  cases f with
  | none => exact .inl h
  | some f =>
    obtain ⟨d, h1, h2⟩ := h
    exact .inr ⟨d, _, h1, h2⟩
def tAll : List (Addr × Option Str) → TA
  | [] => tNil
  | (C, some f) :: r => tCons (tMk1 C f (tCons (tVar 0) tNil)) (tAll r)
  | (C, none) :: r => tCons (tMk0 C) (tAll r)
theorem same_upd {H : Hp} {e : Addr} {o : HO} (h : H e = none) : Same H (upd H e o) := fun b u q => by
  rw [upd_ne (ne_of_none q h)]
  exact q
theorem read_all {x : V} {σ : L2.St} (hx : σ[0]? = some (some x)) : ∀ (ks : List (Addr × Option Str)) (H : Hp) (Q : List V → Hp → Prop),
    (∀ es H', Same H H' → Paired (exK H' x) es ks → Q (es.map V.ref) H') → tAll ks σ H Q
  | [], H, Q, q => q [] H (Same.refl H) .nil
  | (C, some f) :: r, H, Q, q => by
    refine ⟨x, hx, x, rfl, fun e d he hd dne => ?_⟩
    have s1 : Same H (upd (upd H d (exd d [(f, x)])) e (exo e C (some d))) := (same_upd hd).trans (same_upd (by rw [upd_ne (fun z => dne z.symm)]; exact he))
    refine read_all hx r _ _ fun es H' s2 p => ?_
    refine q (e :: es) H' (s1.trans s2) (.cons ?_ p)
    exact exK.same (k := (C, some f)) s2 ⟨d, upd_same, by rw [upd_ne dne]; exact upd_same⟩
  | (C, none) :: r, H, Q, q => by
    refine fun e he => ?_
    refine read_all hx r _ _ fun es H' s2 p => ?_
    exact q (e :: es) H' ((same_upd he).trans s2) (.cons (exK.same (k := (C, none)) s2 upd_same) p)
def tFlds (K : PySem.W.Frag) : List (Nat × Str) → TA
  | [] => tNil
  | (i, f) :: r => tCons (tXg K f (tOp (rIxL K) (tVar 0) (tC (.int (i : Nat))))) (tFlds K r)
theorem read_flds {K : PySem.W.Frag} {x : V} {σ : L2.St} {l : Addr} {xs : List V} {H : Hp} (hx : σ[0]? = some (some (.ref l))) (hl : SqL K H l xs) : ∀ (fs : List (Nat × Str)) (Q : List V → Hp → Prop),
    (∀ i f, (i, f) ∈ fs → ∃ e C, xs[i]? = some (.ref e) ∧ exAt H e C f x ∧ XGet K C ∧ PySem.W.findIn K (.ref C) f = some none) → Q (List.replicate fs.length x) H → tFlds K fs σ H Q
  | [], Q, _, q => q
  | (i, f) :: r, Q, h, q => by
    obtain ⟨e, C, e1, e2, e3, e4⟩ := h i f List.mem_cons_self
    exact ⟨_, hx, l, xs, _, _, rfl, rfl, hl, atI_nat e1, e, C, x, rfl, e2, e3, e4, read_flds hx hl r _ (fun i f m => h i f (List.mem_cons_of_mem _ m)) q⟩
def tKits (K : PySem.W.Frag) : List V → TA
  | [] => tNil
  | c :: r => tCons (tCB (rIsX K) (tCons (tVar 0) (tCons (tC c) tNil))) (tKits K r)
theorem read_kits {K : PySem.W.Frag} {σ : L2.St} {e C : Addr} {H : Hp} (hx : σ[0]? = some (some (.ref e))) (he : exHere H e C) (T : XIs K C) : ∀ (cs : List V) (bs : List Bool) (Q : List V → Hp → Prop),
    Paired (fun c b => ∃ cv, (∀ u, RelV c u → u = cv) ∧ PySem.W.kitOne K (.ref C) cv = some b) cs bs → Q (bs.map V.bl) H → tKits K cs σ H Q
  | [], _, Q, .nil, q => q
  | c :: r, b :: bs, Q, .cons ⟨cv, h1, h2⟩ p, q => ⟨_, hx, e, C, c, cv, b, rfl, he, T, h1, h2, read_kits hx he T r bs _ p q⟩
end K01


set_option Elab.async false
set_option linter.all false
set_option maxRecDepth 100000
set_option maxHeartbeats 4000000
namespace K01
open PySem PySem.Spec PyProof.Rows L2 XV
abbrev P4 := Pos × Pos × Pos × Pos
def zz : P4 := (⟨0, 0, 0, 0⟩, ⟨0, 0, 0, 0⟩, ⟨0, 0, 0, 0⟩, ⟨0, 0, 0, 0⟩)
def mkP (nm : Str) (q : P4) : Expr := .Call (.Name nm q.1) [.Name "_law_x" q.2.1] [] q.2.2.1
def mk0 (nm : Str) (q : P4) : Expr := .Call (.Name nm q.1) [] [] q.2.2.1
def mkK (nm f : Str) (q : P4) : Expr := .Call (.Name nm q.1) [] [⟨some f, .Name "_law_x" q.2.1, q.2.2.2⟩] q.2.2.1
def mkF (i : Nat) (f : Str) (q : P4) : Expr := .Attribute (.Subscript (.Name "_law_made_here" q.1) (.Constant (.int (i : Nat)) 0 q.2.1) q.2.2.1) f q.2.2.2
def mkS (nm : Str) (q : P4) : Expr := .Call (.Name "isinstance" q.1) [.Name "_law_e" q.2.1, .Name nm q.2.2.1] [] q.2.2.2
def placeL (qs : List P4) : List Expr := [mkP "InvalidName" (qs.getD 0 zz), mkP "InvalidNumber" (qs.getD 1 zz), mkP "InvalidValues" (qs.getD 2 zz), mkP "InvalidDeeds" (qs.getD 3 zz), mkP "InvalidText" (qs.getD 4 zz), mkP "InvalidCommand" (qs.getD 5 zz), mkP "NotAWord" (qs.getD 6 zz), mkP "NotAFormula" (qs.getD 7 zz), mkP "NotATest" (qs.getD 8 zz), mkP "NotAVariable" (qs.getD 9 zz), mkP "WrongNames" (qs.getD 10 zz), mkP "UnknownName" (qs.getD 11 zz), mkP "Refused" (qs.getD 12 zz), mkP "Parted" (qs.getD 13 zz), mk0 "Busy" (qs.getD 14 zz), mk0 "NothingToUndo" (qs.getD 15 zz), mk0 "TooMany" (qs.getD 16 zz), mk0 "TooManyNames" (qs.getD 17 zz), mk0 "TooManyClasses" (qs.getD 18 zz)]
def nameL (qs : List P4) : List Expr := [mkK "InvalidName" "name" (qs.getD 0 zz), mkK "InvalidNumber" "number" (qs.getD 1 zz), mkK "InvalidValues" "index" (qs.getD 2 zz), mkK "InvalidDeeds" "index" (qs.getD 3 zz), mkK "InvalidText" "text" (qs.getD 4 zz), mkK "InvalidCommand" "command" (qs.getD 5 zz), mkK "NotAWord" "value" (qs.getD 6 zz), mkK "NotAFormula" "value" (qs.getD 7 zz), mkK "NotATest" "value" (qs.getD 8 zz), mkK "NotAVariable" "value" (qs.getD 9 zz), mkK "WrongNames" "name" (qs.getD 10 zz), mkK "UnknownName" "name" (qs.getD 11 zz), mkK "Refused" "index" (qs.getD 12 zz), mkK "Parted" "pairs" (qs.getD 13 zz), mk0 "Busy" (qs.getD 14 zz), mk0 "NothingToUndo" (qs.getD 15 zz), mk0 "TooMany" (qs.getD 16 zz), mk0 "TooManyNames" (qs.getD 17 zz), mk0 "TooManyClasses" (qs.getD 18 zz)]
def fieldL (qs : List P4) : List Expr := [mkF 0 "name" (qs.getD 0 zz), mkF 1 "number" (qs.getD 1 zz), mkF 2 "index" (qs.getD 2 zz), mkF 3 "index" (qs.getD 3 zz), mkF 4 "text" (qs.getD 4 zz), mkF 5 "command" (qs.getD 5 zz), mkF 6 "value" (qs.getD 6 zz), mkF 7 "value" (qs.getD 7 zz), mkF 8 "value" (qs.getD 8 zz), mkF 9 "value" (qs.getD 9 zz), mkF 10 "name" (qs.getD 10 zz), mkF 11 "name" (qs.getD 11 zz), mkF 12 "index" (qs.getD 12 zz), mkF 13 "pairs" (qs.getD 13 zz)]
def sortL (qs : List P4) : List Expr := [mkS "InvalidName" (qs.getD 0 zz), mkS "InvalidNumber" (qs.getD 1 zz), mkS "InvalidValues" (qs.getD 2 zz), mkS "InvalidDeeds" (qs.getD 3 zz), mkS "InvalidText" (qs.getD 4 zz), mkS "InvalidCommand" (qs.getD 5 zz), mkS "NotAWord" (qs.getD 6 zz), mkS "NotAFormula" (qs.getD 7 zz), mkS "NotATest" (qs.getD 8 zz), mkS "NotAVariable" (qs.getD 9 zz), mkS "WrongNames" (qs.getD 10 zz), mkS "UnknownName" (qs.getD 11 zz), mkS "Refused" (qs.getD 12 zz), mkS "Parted" (qs.getD 13 zz), mkS "Busy" (qs.getD 14 zz), mkS "NothingToUndo" (qs.getD 15 zz), mkS "TooMany" (qs.getD 16 zz), mkS "TooManyNames" (qs.getD 17 zz), mkS "TooManyClasses" (qs.getD 18 zz)]
def baseL (qs : List P4) : List Expr := [mkS "InputError" (qs.getD 0 zz), mkS "StateError" (qs.getD 1 zz), mkS "LimitError" (qs.getD 2 zz), mkS "ValueError" (qs.getD 3 zz), mkS "LookupError" (qs.getD 4 zz), mkS "ArithmeticError" (qs.getD 5 zz)]
theorem placeIs : ∃ (qs : List P4) (a b : Pos), defBody sPlace = [.Return (some (.List (placeL qs) a)) b] := ⟨[(_, _, _, ⟨0, 0, 0, 0⟩), (_, _, _, ⟨0, 0, 0, 0⟩), (_, _, _, ⟨0, 0, 0, 0⟩), (_, _, _, ⟨0, 0, 0, 0⟩), (_, _, _, ⟨0, 0, 0, 0⟩), (_, _, _, ⟨0, 0, 0, 0⟩), (_, _, _, ⟨0, 0, 0, 0⟩), (_, _, _, ⟨0, 0, 0, 0⟩), (_, _, _, ⟨0, 0, 0, 0⟩), (_, _, _, ⟨0, 0, 0, 0⟩), (_, _, _, ⟨0, 0, 0, 0⟩), (_, _, _, ⟨0, 0, 0, 0⟩), (_, _, _, ⟨0, 0, 0, 0⟩), (_, _, _, ⟨0, 0, 0, 0⟩), (_, ⟨0, 0, 0, 0⟩, _, ⟨0, 0, 0, 0⟩), (_, ⟨0, 0, 0, 0⟩, _, ⟨0, 0, 0, 0⟩), (_, ⟨0, 0, 0, 0⟩, _, ⟨0, 0, 0, 0⟩), (_, ⟨0, 0, 0, 0⟩, _, ⟨0, 0, 0, 0⟩), (_, ⟨0, 0, 0, 0⟩, _, ⟨0, 0, 0, 0⟩)], _, _, rfl⟩
theorem nameIs : ∃ (qs : List P4) (a b : Pos), defBody sName = [.Return (some (.List (nameL qs) a)) b] := ⟨[(_, _, _, _), (_, _, _, _), (_, _, _, _), (_, _, _, _), (_, _, _, _), (_, _, _, _), (_, _, _, _), (_, _, _, _), (_, _, _, _), (_, _, _, _), (_, _, _, _), (_, _, _, _), (_, _, _, _), (_, _, _, _), (_, ⟨0, 0, 0, 0⟩, _, ⟨0, 0, 0, 0⟩), (_, ⟨0, 0, 0, 0⟩, _, ⟨0, 0, 0, 0⟩), (_, ⟨0, 0, 0, 0⟩, _, ⟨0, 0, 0, 0⟩), (_, ⟨0, 0, 0, 0⟩, _, ⟨0, 0, 0, 0⟩), (_, ⟨0, 0, 0, 0⟩, _, ⟨0, 0, 0, 0⟩)], _, _, rfl⟩
theorem fieldIs : ∃ (qs : List P4) (a b : Pos), defBody sFields = [.Return (some (.List (fieldL qs) a)) b] := ⟨[(_, _, _, _), (_, _, _, _), (_, _, _, _), (_, _, _, _), (_, _, _, _), (_, _, _, _), (_, _, _, _), (_, _, _, _), (_, _, _, _), (_, _, _, _), (_, _, _, _), (_, _, _, _), (_, _, _, _), (_, _, _, _)], _, _, rfl⟩
theorem sortIs : ∃ (qs : List P4) (a b : Pos), defBody sSorts = [.Return (some (.List (sortL qs) a)) b] := ⟨[(_, _, _, _), (_, _, _, _), (_, _, _, _), (_, _, _, _), (_, _, _, _), (_, _, _, _), (_, _, _, _), (_, _, _, _), (_, _, _, _), (_, _, _, _), (_, _, _, _), (_, _, _, _), (_, _, _, _), (_, _, _, _), (_, _, _, _), (_, _, _, _), (_, _, _, _), (_, _, _, _), (_, _, _, _)], _, _, rfl⟩
theorem baseIs : ∃ (qs : List P4) (a b : Pos), defBody sBases = [.Return (some (.List (baseL qs) a)) b] := ⟨[(_, _, _, _), (_, _, _, _), (_, _, _, _), (_, _, _, _), (_, _, _, _), (_, _, _, _)], _, _, rfl⟩
def namesOf : List Str := ["InvalidName", "InvalidNumber", "InvalidValues", "InvalidDeeds", "InvalidText", "InvalidCommand", "NotAWord", "NotAFormula", "NotATest", "NotAVariable", "WrongNames", "UnknownName", "Refused", "Parted", "Busy", "NothingToUndo", "TooMany", "TooManyNames", "TooManyClasses"]
def basesOf : List Str := ["InputError", "StateError", "LimitError", "ValueError", "LookupError", "ArithmeticError"]
theorem gl_place : ∀ nm ∈ namesOf, (defScope sPlace).names.lookup nm = some .globalImplicit := by decide +kernel
theorem gl_name : ∀ nm ∈ namesOf, (defScope sName).names.lookup nm = some .globalImplicit := by decide +kernel
theorem gl_sort : ∀ nm ∈ ("isinstance" :: namesOf : List Str), (defScope sSorts).names.lookup nm = some .globalImplicit := by decide +kernel
theorem gl_base : ∀ nm ∈ ("isinstance" :: basesOf : List Str), (defScope sBases).names.lookup nm = some .globalImplicit := by decide +kernel
theorem namesMem : ∀ i, i < 19 → namesOf.getD i "" ∈ namesOf := by decide +kernel
/-- an expression that is not a starred one -/
abbrev Pl (X : Cx) (e : Expr) : Prop := ∀ es : List Expr, starEach (e :: es) X.env = (false, eval e X.env) :: starEach es X.env
/-- one item of a display of exceptions -/
def tItem (k : Addr × Option Str) : TE := match k.2 with
  | some f => tMk1 k.1 f (tCons (tVar 0) tNil)
  | none => tMk0 k.1
theorem pa_items {X : Cx} : ∀ {ks : List (Addr × Option Str)} {es : List Expr}, Paired (fun k e => Pl X e ∧ PE X e (tItem k)) ks es → PA X es (tAll ks)
  | [], _, .nil => pa_nil
  | (C, some f) :: r, e :: es, .cons ⟨h0, h⟩ t => pa_cons h (pa_items t) (hs := h0 _)
  | (C, none) :: r, e :: es, .cons ⟨h0, h⟩ t => pa_cons h (pa_items t) (hs := h0 _)
theorem pa_flds {X : Cx} : ∀ {fs : List (Nat × Str)} {es : List Expr}, Paired (fun (k : Nat × Str) e => Pl X e ∧ PE X e (tXg X.K k.2 (tOp (rIxL X.K) (tVar 0) (tC (.int (k.1 : Nat)))))) fs es → PA X es (tFlds X.K fs)
  | [], _, .nil => pa_nil
  | (i, f) :: r, e :: es, .cons ⟨h0, h⟩ t => pa_cons h (pa_flds t) (hs := h0 _)
theorem pa_kits {X : Cx} : ∀ {cs : List V} {es : List Expr}, Paired (fun (c : V) e => Pl X e ∧ PE X e (tCB (rIsX X.K) (tCons (tVar 0) (tCons (tC c) tNil)))) cs es → PA X es (tKits X.K cs)
  | [], _, .nil => pa_nil
  | c :: r, e :: es, .cons ⟨h0, h⟩ t => pa_cons h (pa_kits t) (hs := h0 _)
section
variable {X : Cx} {c : Cs}
theorem place_items (C : TxtC X.K X.mg c) (hr : Room 1 X.A) (hg : ∀ nm ∈ namesOf, Gl X nm) (hv : ∀ pos, PE X (.Name "_law_x" pos) (tVar 0)) (qs : List P4) : Paired (fun k e => Pl X e ∧ PE X e (tItem k)) c.kinds (placeL qs) := by
  have g : ∀ i, i < 19 → Gl X (namesOf.getD i "") := fun i hi => hg _ (namesMem i hi)
  refine .cons ⟨fun _ => rfl, pe_mk1 (nm := "InvalidName") C.xInvalidName PySem.F.excBase_ValueError hr (g 0 (by decide)) C.gInvalidName (pa_cons (hv _) pa_nil)⟩ ?_
  refine .cons ⟨fun _ => rfl, pe_mk1 (nm := "InvalidNumber") C.xInvalidNumber PySem.F.excBase_ValueError hr (g 1 (by decide)) C.gInvalidNumber (pa_cons (hv _) pa_nil)⟩ ?_
  refine .cons ⟨fun _ => rfl, pe_mk1 (nm := "InvalidValues") C.xInvalidValues PySem.F.excBase_ValueError hr (g 2 (by decide)) C.gInvalidValues (pa_cons (hv _) pa_nil)⟩ ?_
  refine .cons ⟨fun _ => rfl, pe_mk1 (nm := "InvalidDeeds") C.xInvalidDeeds PySem.F.excBase_ValueError hr (g 3 (by decide)) C.gInvalidDeeds (pa_cons (hv _) pa_nil)⟩ ?_
  refine .cons ⟨fun _ => rfl, pe_mk1 (nm := "InvalidText") C.xInvalidText PySem.F.excBase_ValueError hr (g 4 (by decide)) C.gInvalidText (pa_cons (hv _) pa_nil)⟩ ?_
  refine .cons ⟨fun _ => rfl, pe_mk1 (nm := "InvalidCommand") C.xInvalidCommand PySem.F.excBase_ValueError hr (g 5 (by decide)) C.gInvalidCommand (pa_cons (hv _) pa_nil)⟩ ?_
  refine .cons ⟨fun _ => rfl, pe_mk1 (nm := "NotAWord") C.xNotAWord PySem.F.excBase_ValueError hr (g 6 (by decide)) C.gNotAWord (pa_cons (hv _) pa_nil)⟩ ?_
  refine .cons ⟨fun _ => rfl, pe_mk1 (nm := "NotAFormula") C.xNotAFormula PySem.F.excBase_ValueError hr (g 7 (by decide)) C.gNotAFormula (pa_cons (hv _) pa_nil)⟩ ?_
  refine .cons ⟨fun _ => rfl, pe_mk1 (nm := "NotATest") C.xNotATest PySem.F.excBase_ValueError hr (g 8 (by decide)) C.gNotATest (pa_cons (hv _) pa_nil)⟩ ?_
  refine .cons ⟨fun _ => rfl, pe_mk1 (nm := "NotAVariable") C.xNotAVariable PySem.F.excBase_ValueError hr (g 9 (by decide)) C.gNotAVariable (pa_cons (hv _) pa_nil)⟩ ?_
  refine .cons ⟨fun _ => rfl, pe_mk1 (nm := "WrongNames") C.xWrongNames PySem.F.excBase_ValueError hr (g 10 (by decide)) C.gWrongNames (pa_cons (hv _) pa_nil)⟩ ?_
  refine .cons ⟨fun _ => rfl, pe_mk1 (nm := "UnknownName") C.xUnknownName PySem.F.excBase_LookupError hr (g 11 (by decide)) C.gUnknownName (pa_cons (hv _) pa_nil)⟩ ?_
  refine .cons ⟨fun _ => rfl, pe_mk1 (nm := "Refused") C.xRefused PySem.F.excBase_LookupError hr (g 12 (by decide)) C.gRefused (pa_cons (hv _) pa_nil)⟩ ?_
  refine .cons ⟨fun _ => rfl, pe_mk1 (nm := "Parted") C.xParted PySem.F.excBase_LookupError hr (g 13 (by decide)) C.gParted (pa_cons (hv _) pa_nil)⟩ ?_
  refine .cons ⟨fun _ => rfl, pe_mk0 (nm := "Busy") PySem.F.excBase_LookupError C.xBusy.ex C.xBusy.kC (g 14 (by decide)) C.gBusy⟩ ?_
  refine .cons ⟨fun _ => rfl, pe_mk0 (nm := "NothingToUndo") PySem.F.excBase_LookupError C.xNothingToUndo.ex C.xNothingToUndo.kC (g 15 (by decide)) C.gNothingToUndo⟩ ?_
  refine .cons ⟨fun _ => rfl, pe_mk0 (nm := "TooMany") PySem.F.excBase_ArithmeticError C.xTooMany.ex C.xTooMany.kC (g 16 (by decide)) C.gTooMany⟩ ?_
  refine .cons ⟨fun _ => rfl, pe_mk0 (nm := "TooManyNames") PySem.F.excBase_ArithmeticError C.xTooManyNames.ex C.xTooManyNames.kC (g 17 (by decide)) C.gTooManyNames⟩ ?_
  refine .cons ⟨fun _ => rfl, pe_mk0 (nm := "TooManyClasses") PySem.F.excBase_ArithmeticError C.xTooManyClasses.ex C.xTooManyClasses.kC (g 18 (by decide)) C.gTooManyClasses⟩ ?_
  exact .nil
theorem name_items (C : TxtC X.K X.mg c) (hr : Room 1 X.A) (hg : ∀ nm ∈ namesOf, Gl X nm) (hv : ∀ pos, PE X (.Name "_law_x" pos) (tVar 0)) (qs : List P4) : Paired (fun k e => Pl X e ∧ PE X e (tItem k)) c.kinds (nameL qs) := by
  have g : ∀ i, i < 19 → Gl X (namesOf.getD i "") := fun i hi => hg _ (namesMem i hi)
  refine .cons ⟨fun _ => rfl, pe_mk1K (nm := "InvalidName") C.xInvalidName PySem.F.excBase_ValueError hr (g 0 (by decide)) C.gInvalidName (hv _)⟩ ?_
  refine .cons ⟨fun _ => rfl, pe_mk1K (nm := "InvalidNumber") C.xInvalidNumber PySem.F.excBase_ValueError hr (g 1 (by decide)) C.gInvalidNumber (hv _)⟩ ?_
  refine .cons ⟨fun _ => rfl, pe_mk1K (nm := "InvalidValues") C.xInvalidValues PySem.F.excBase_ValueError hr (g 2 (by decide)) C.gInvalidValues (hv _)⟩ ?_
  refine .cons ⟨fun _ => rfl, pe_mk1K (nm := "InvalidDeeds") C.xInvalidDeeds PySem.F.excBase_ValueError hr (g 3 (by decide)) C.gInvalidDeeds (hv _)⟩ ?_
  refine .cons ⟨fun _ => rfl, pe_mk1K (nm := "InvalidText") C.xInvalidText PySem.F.excBase_ValueError hr (g 4 (by decide)) C.gInvalidText (hv _)⟩ ?_
  refine .cons ⟨fun _ => rfl, pe_mk1K (nm := "InvalidCommand") C.xInvalidCommand PySem.F.excBase_ValueError hr (g 5 (by decide)) C.gInvalidCommand (hv _)⟩ ?_
  refine .cons ⟨fun _ => rfl, pe_mk1K (nm := "NotAWord") C.xNotAWord PySem.F.excBase_ValueError hr (g 6 (by decide)) C.gNotAWord (hv _)⟩ ?_
  refine .cons ⟨fun _ => rfl, pe_mk1K (nm := "NotAFormula") C.xNotAFormula PySem.F.excBase_ValueError hr (g 7 (by decide)) C.gNotAFormula (hv _)⟩ ?_
  refine .cons ⟨fun _ => rfl, pe_mk1K (nm := "NotATest") C.xNotATest PySem.F.excBase_ValueError hr (g 8 (by decide)) C.gNotATest (hv _)⟩ ?_
  refine .cons ⟨fun _ => rfl, pe_mk1K (nm := "NotAVariable") C.xNotAVariable PySem.F.excBase_ValueError hr (g 9 (by decide)) C.gNotAVariable (hv _)⟩ ?_
  refine .cons ⟨fun _ => rfl, pe_mk1K (nm := "WrongNames") C.xWrongNames PySem.F.excBase_ValueError hr (g 10 (by decide)) C.gWrongNames (hv _)⟩ ?_
  refine .cons ⟨fun _ => rfl, pe_mk1K (nm := "UnknownName") C.xUnknownName PySem.F.excBase_LookupError hr (g 11 (by decide)) C.gUnknownName (hv _)⟩ ?_
  refine .cons ⟨fun _ => rfl, pe_mk1K (nm := "Refused") C.xRefused PySem.F.excBase_LookupError hr (g 12 (by decide)) C.gRefused (hv _)⟩ ?_
  refine .cons ⟨fun _ => rfl, pe_mk1K (nm := "Parted") C.xParted PySem.F.excBase_LookupError hr (g 13 (by decide)) C.gParted (hv _)⟩ ?_
  refine .cons ⟨fun _ => rfl, pe_mk0 (nm := "Busy") PySem.F.excBase_LookupError C.xBusy.ex C.xBusy.kC (g 14 (by decide)) C.gBusy⟩ ?_
  refine .cons ⟨fun _ => rfl, pe_mk0 (nm := "NothingToUndo") PySem.F.excBase_LookupError C.xNothingToUndo.ex C.xNothingToUndo.kC (g 15 (by decide)) C.gNothingToUndo⟩ ?_
  refine .cons ⟨fun _ => rfl, pe_mk0 (nm := "TooMany") PySem.F.excBase_ArithmeticError C.xTooMany.ex C.xTooMany.kC (g 16 (by decide)) C.gTooMany⟩ ?_
  refine .cons ⟨fun _ => rfl, pe_mk0 (nm := "TooManyNames") PySem.F.excBase_ArithmeticError C.xTooManyNames.ex C.xTooManyNames.kC (g 17 (by decide)) C.gTooManyNames⟩ ?_
  refine .cons ⟨fun _ => rfl, pe_mk0 (nm := "TooManyClasses") PySem.F.excBase_ArithmeticError C.xTooManyClasses.ex C.xTooManyClasses.kC (g 18 (by decide)) C.gTooManyClasses⟩ ?_
  exact .nil
theorem field_items (hv : ∀ pos, PE X (.Name "_law_made_here" pos) (tVar 0)) (qs : List P4) : Paired (fun (k : Nat × Str) e => Pl X e ∧ PE X e (tXg X.K k.2 (tOp (rIxL X.K) (tVar 0) (tC (.int (k.1 : Nat)))))) fieldsOf (fieldL qs) := by
  refine .cons ⟨fun _ => rfl, pe_xg (pe_ix ix_list (hv _) pe_int (fun _ _ => rfl))⟩ ?_
  refine .cons ⟨fun _ => rfl, pe_xg (pe_ix ix_list (hv _) pe_int (fun _ _ => rfl))⟩ ?_
  refine .cons ⟨fun _ => rfl, pe_xg (pe_ix ix_list (hv _) pe_int (fun _ _ => rfl))⟩ ?_
  refine .cons ⟨fun _ => rfl, pe_xg (pe_ix ix_list (hv _) pe_int (fun _ _ => rfl))⟩ ?_
  refine .cons ⟨fun _ => rfl, pe_xg (pe_ix ix_list (hv _) pe_int (fun _ _ => rfl))⟩ ?_
  refine .cons ⟨fun _ => rfl, pe_xg (pe_ix ix_list (hv _) pe_int (fun _ _ => rfl))⟩ ?_
  refine .cons ⟨fun _ => rfl, pe_xg (pe_ix ix_list (hv _) pe_int (fun _ _ => rfl))⟩ ?_
  refine .cons ⟨fun _ => rfl, pe_xg (pe_ix ix_list (hv _) pe_int (fun _ _ => rfl))⟩ ?_
  refine .cons ⟨fun _ => rfl, pe_xg (pe_ix ix_list (hv _) pe_int (fun _ _ => rfl))⟩ ?_
  refine .cons ⟨fun _ => rfl, pe_xg (pe_ix ix_list (hv _) pe_int (fun _ _ => rfl))⟩ ?_
  refine .cons ⟨fun _ => rfl, pe_xg (pe_ix ix_list (hv _) pe_int (fun _ _ => rfl))⟩ ?_
  refine .cons ⟨fun _ => rfl, pe_xg (pe_ix ix_list (hv _) pe_int (fun _ _ => rfl))⟩ ?_
  refine .cons ⟨fun _ => rfl, pe_xg (pe_ix ix_list (hv _) pe_int (fun _ _ => rfl))⟩ ?_
  refine .cons ⟨fun _ => rfl, pe_xg (pe_ix ix_list (hv _) pe_int (fun _ _ => rfl))⟩ ?_
  exact .nil
theorem sort_items (C : TxtC X.K X.mg c) (hi : X.mg "isinstance" = none) (hg : ∀ nm ∈ ("isinstance" :: namesOf : List Str), Gl X nm) (hv : ∀ pos, PE X (.Name "_law_e" pos) (tVar 0)) (qs : List P4) :
    Paired (fun (c : V) e => Pl X e ∧ PE X e (tCB (rIsX X.K) (tCons (tVar 0) (tCons (tC c) tNil)))) (c.all.map V.ref) (sortL qs) := by
  have g : ∀ i, i < 19 → Gl X (namesOf.getD i "") := fun i hi => hg _ (List.mem_cons_of_mem _ (namesMem i hi))
  have g0 : Gl X "isinstance" := hg _ List.mem_cons_self
  refine .cons ⟨fun _ => rfl, pe_callB call_isX g0 hi boot_isinstance (pa_cons (hv _) (pa_cons (pe_glob (x := "InvalidName") (v := .ref c.InvalidName) (g 0 (by decide)) C.gInvalidName rfl) pa_nil))⟩ ?_
  refine .cons ⟨fun _ => rfl, pe_callB call_isX g0 hi boot_isinstance (pa_cons (hv _) (pa_cons (pe_glob (x := "InvalidNumber") (v := .ref c.InvalidNumber) (g 1 (by decide)) C.gInvalidNumber rfl) pa_nil))⟩ ?_
  refine .cons ⟨fun _ => rfl, pe_callB call_isX g0 hi boot_isinstance (pa_cons (hv _) (pa_cons (pe_glob (x := "InvalidValues") (v := .ref c.InvalidValues) (g 2 (by decide)) C.gInvalidValues rfl) pa_nil))⟩ ?_
  refine .cons ⟨fun _ => rfl, pe_callB call_isX g0 hi boot_isinstance (pa_cons (hv _) (pa_cons (pe_glob (x := "InvalidDeeds") (v := .ref c.InvalidDeeds) (g 3 (by decide)) C.gInvalidDeeds rfl) pa_nil))⟩ ?_
  refine .cons ⟨fun _ => rfl, pe_callB call_isX g0 hi boot_isinstance (pa_cons (hv _) (pa_cons (pe_glob (x := "InvalidText") (v := .ref c.InvalidText) (g 4 (by decide)) C.gInvalidText rfl) pa_nil))⟩ ?_
  refine .cons ⟨fun _ => rfl, pe_callB call_isX g0 hi boot_isinstance (pa_cons (hv _) (pa_cons (pe_glob (x := "InvalidCommand") (v := .ref c.InvalidCommand) (g 5 (by decide)) C.gInvalidCommand rfl) pa_nil))⟩ ?_
  refine .cons ⟨fun _ => rfl, pe_callB call_isX g0 hi boot_isinstance (pa_cons (hv _) (pa_cons (pe_glob (x := "NotAWord") (v := .ref c.NotAWord) (g 6 (by decide)) C.gNotAWord rfl) pa_nil))⟩ ?_
  refine .cons ⟨fun _ => rfl, pe_callB call_isX g0 hi boot_isinstance (pa_cons (hv _) (pa_cons (pe_glob (x := "NotAFormula") (v := .ref c.NotAFormula) (g 7 (by decide)) C.gNotAFormula rfl) pa_nil))⟩ ?_
  refine .cons ⟨fun _ => rfl, pe_callB call_isX g0 hi boot_isinstance (pa_cons (hv _) (pa_cons (pe_glob (x := "NotATest") (v := .ref c.NotATest) (g 8 (by decide)) C.gNotATest rfl) pa_nil))⟩ ?_
  refine .cons ⟨fun _ => rfl, pe_callB call_isX g0 hi boot_isinstance (pa_cons (hv _) (pa_cons (pe_glob (x := "NotAVariable") (v := .ref c.NotAVariable) (g 9 (by decide)) C.gNotAVariable rfl) pa_nil))⟩ ?_
  refine .cons ⟨fun _ => rfl, pe_callB call_isX g0 hi boot_isinstance (pa_cons (hv _) (pa_cons (pe_glob (x := "WrongNames") (v := .ref c.WrongNames) (g 10 (by decide)) C.gWrongNames rfl) pa_nil))⟩ ?_
  refine .cons ⟨fun _ => rfl, pe_callB call_isX g0 hi boot_isinstance (pa_cons (hv _) (pa_cons (pe_glob (x := "UnknownName") (v := .ref c.UnknownName) (g 11 (by decide)) C.gUnknownName rfl) pa_nil))⟩ ?_
  refine .cons ⟨fun _ => rfl, pe_callB call_isX g0 hi boot_isinstance (pa_cons (hv _) (pa_cons (pe_glob (x := "Refused") (v := .ref c.Refused) (g 12 (by decide)) C.gRefused rfl) pa_nil))⟩ ?_
  refine .cons ⟨fun _ => rfl, pe_callB call_isX g0 hi boot_isinstance (pa_cons (hv _) (pa_cons (pe_glob (x := "Parted") (v := .ref c.Parted) (g 13 (by decide)) C.gParted rfl) pa_nil))⟩ ?_
  refine .cons ⟨fun _ => rfl, pe_callB call_isX g0 hi boot_isinstance (pa_cons (hv _) (pa_cons (pe_glob (x := "Busy") (v := .ref c.Busy) (g 14 (by decide)) C.gBusy rfl) pa_nil))⟩ ?_
  refine .cons ⟨fun _ => rfl, pe_callB call_isX g0 hi boot_isinstance (pa_cons (hv _) (pa_cons (pe_glob (x := "NothingToUndo") (v := .ref c.NothingToUndo) (g 15 (by decide)) C.gNothingToUndo rfl) pa_nil))⟩ ?_
  refine .cons ⟨fun _ => rfl, pe_callB call_isX g0 hi boot_isinstance (pa_cons (hv _) (pa_cons (pe_glob (x := "TooMany") (v := .ref c.TooMany) (g 16 (by decide)) C.gTooMany rfl) pa_nil))⟩ ?_
  refine .cons ⟨fun _ => rfl, pe_callB call_isX g0 hi boot_isinstance (pa_cons (hv _) (pa_cons (pe_glob (x := "TooManyNames") (v := .ref c.TooManyNames) (g 17 (by decide)) C.gTooManyNames rfl) pa_nil))⟩ ?_
  refine .cons ⟨fun _ => rfl, pe_callB call_isX g0 hi boot_isinstance (pa_cons (hv _) (pa_cons (pe_glob (x := "TooManyClasses") (v := .ref c.TooManyClasses) (g 18 (by decide)) C.gTooManyClasses rfl) pa_nil))⟩ ?_
  exact .nil
theorem base_items (C : TxtC X.K X.mg c) (T : TxtB X.mg) (hg : ∀ nm ∈ ("isinstance" :: basesOf : List Str), Gl X nm) (hv : ∀ pos, PE X (.Name "_law_e" pos) (tVar 0)) (qs : List P4) :
    Paired (fun (c : V) e => Pl X e ∧ PE X e (tCB (rIsX X.K) (tCons (tVar 0) (tCons (tC c) tNil)))) [.ref c.InputError, .ref c.StateError, .ref c.LimitError, .ty "ValueError", .ty "LookupError", .ty "ArithmeticError"] (baseL qs) := by
  have g0 : Gl X "isinstance" := hg _ List.mem_cons_self
  have g : ∀ nm ∈ basesOf, Gl X nm := fun nm h => hg _ (List.mem_cons_of_mem _ h)
  refine .cons ⟨fun _ => rfl, pe_callB call_isX g0 T.isi boot_isinstance (pa_cons (hv _) (pa_cons (pe_glob (x := "InputError") (v := .ref c.InputError) (g _ (by decide +kernel)) C.gInputError rfl) pa_nil))⟩ ?_
  refine .cons ⟨fun _ => rfl, pe_callB call_isX g0 T.isi boot_isinstance (pa_cons (hv _) (pa_cons (pe_glob (x := "StateError") (v := .ref c.StateError) (g _ (by decide +kernel)) C.gStateError rfl) pa_nil))⟩ ?_
  refine .cons ⟨fun _ => rfl, pe_callB call_isX g0 T.isi boot_isinstance (pa_cons (hv _) (pa_cons (pe_glob (x := "LimitError") (v := .ref c.LimitError) (g _ (by decide +kernel)) C.gLimitError rfl) pa_nil))⟩ ?_
  refine .cons ⟨fun _ => rfl, pe_callB call_isX g0 T.isi boot_isinstance (pa_cons (hv _) (pa_cons (pe_bltn (x := "ValueError") (v := .ty "ValueError") (g _ (by decide +kernel)) T.vE (by decide +kernel) rfl) pa_nil))⟩ ?_
  refine .cons ⟨fun _ => rfl, pe_callB call_isX g0 T.isi boot_isinstance (pa_cons (hv _) (pa_cons (pe_bltn (x := "LookupError") (v := .ty "LookupError") (g _ (by decide +kernel)) T.lE (by decide +kernel) rfl) pa_nil))⟩ ?_
  refine .cons ⟨fun _ => rfl, pe_callB call_isX g0 T.isi boot_isinstance (pa_cons (hv _) (pa_cons (pe_bltn (x := "ArithmeticError") (v := .ty "ArithmeticError") (g _ (by decide +kernel)) T.aE (by decide +kernel) rfl) pa_nil))⟩ ?_
  exact .nil
end
end K01


set_option Elab.async false
set_option linter.all false
set_option maxRecDepth 100000
set_option maxHeartbeats 600000
set_option profiler true
set_option profiler.threshold 400
namespace K01
open PySem PySem.Spec PyProof.Rows L2 XV
def spMade (c : Cs) : Sp := fun vs H Q _ => ∃ x : V, vs = [x] ∧ ∀ (es : List Addr) (l : Addr) (H' : Hp), H l = none → Same H H' → H' l = some (.lst (es.map V.ref)) → Paired (exK H' x) es c.kinds → Q (.ref l) H'
def spFields (c : Cs) (K : PySem.W.Frag) : Sp := fun vs H Q _ => ∃ (l : Addr) (es : List Addr) (x : V), vs = [.ref l] ∧ SqL K H l (es.map V.ref) ∧ Paired (exK H x) es c.kinds ∧
  ∀ p, H p = none → Q (.ref p) (upd H p (.lst (List.replicate 14 x)))
def sortsOf (i : Nat) : List Bool := (List.range 19).map fun j => i == j
def baseOf (i : Nat) : Nat := if i < 11 then 0 else if i < 16 then 1 else 2
def basesOfN (i : Nat) : List Bool := (List.range 6).map fun j => baseOf i == j % 3
def spSorts (c : Cs) : Sp := fun vs H Q _ => ∃ (e a : Addr) (i : Nat), vs = [.ref e] ∧ exHere H e a ∧ c.all[i]? = some a ∧ ∀ p, H p = none → Q (.ref p) (upd H p (.lst ((sortsOf i).map V.bl)))
def spBases (c : Cs) : Sp := fun vs H Q _ => ∃ (e a : Addr) (i : Nat), vs = [.ref e] ∧ exHere H e a ∧ c.all[i]? = some a ∧ ∀ p, H p = none → Q (.ref p) (upd H p (.lst ((basesOfN i).map V.bl)))
section
variable {P : Program} {w : World} {K : PySem.W.Frag} {mg : Str → Option Value} {base : Heap} {c : Cs}
theorem scPlace : FnScope ["_law_x"] ["_law_x"] (defScope sPlace) := ⟨rfl, rfl, rfl, by decide +kernel, rfl, by decide +kernel, by decide +kernel⟩
theorem scName : FnScope ["_law_x"] ["_law_x"] (defScope sName) := ⟨rfl, rfl, rfl, by decide +kernel, rfl, by decide +kernel, by decide +kernel⟩
theorem scFields : FnScope ["_law_made_here"] ["_law_made_here"] (defScope sFields) := ⟨rfl, rfl, rfl, by decide +kernel, rfl, by decide +kernel, by decide +kernel⟩
theorem scSorts : FnScope ["_law_e"] ["_law_e"] (defScope sSorts) := ⟨rfl, rfl, rfl, by decide +kernel, rfl, by decide +kernel, by decide +kernel⟩
theorem scBases : FnScope ["_law_e"] ["_law_e"] (defScope sBases) := ⟨rfl, rfl, rfl, by decide +kernel, rfl, by decide +kernel, by decide +kernel⟩
theorem paired_get {α β : Type} {F : α → β → Prop} : ∀ {xs : List α} {ys : List β} {i : Nat} {y : β}, Paired F xs ys → ys[i]? = some y → ∃ x, xs[i]? = some x ∧ F x y
  | _, _, _, _, .nil, e => by simp at e
  | _, _, 0, _, .cons r _, e => by
    simp at e
    subst e
    exact ⟨_, rfl, r⟩
  | _, _, i + 1, _, .cons _ t, e => by
    obtain ⟨x, h1, h2⟩ := paired_get (i := i) t (by simpa using e)
    exact ⟨x, by simpa using h1, h2⟩
theorem made_end {x : V} {H : Hp} {Q : VK} {σ : L2.St} {ks : List (Addr × Option Str)} (hk : ks.length ≤ 1000) (hx : σ[0]? = some (some x))
    (q : ∀ (es : List Addr) (l : Addr) (H' : Hp), H l = none → Same H H' → H' l = some (.lst (es.map V.ref)) → Paired (exK H' x) es ks → Q (.ref l) H') (D : Ends) (hD : D.rt = Q) :
    tRet (tLst (tAll ks)) D σ H := by
  subst hD
  refine read_all hx ks H _ fun es H' s1 p => ?_
  have hl : es.length = ks.length := Paired.length p
  refine ⟨by rw [List.length_map, hl]; exact Nat.le_of_lt (small1000 hk), fun l hl => ?_⟩
  have s2 := same_upd (o := .lst (es.map V.ref)) hl
  exact q es l _ (s1.free hl) (s1.trans s2) upd_same (Paired.mapP p fun e k h => exK.same s2 h)
theorem flds_end {x : V} {σ : L2.St} {l : Addr} {xs : List V} {H : Hp} {Q : VK} {fs : List (Nat × Str)} (hn : fs.length ≤ 1000) (hx : σ[0]? = some (some (.ref l))) (hl : SqL K H l xs)
    (h : ∀ i f, (i, f) ∈ fs → ∃ e C, xs[i]? = some (.ref e) ∧ exAt H e C f x ∧ XGet K C ∧ PySem.W.findIn K (.ref C) f = some none) (q : ∀ p, H p = none → Q (.ref p) (upd H p (.lst (List.replicate fs.length x)))) (D : Ends) (hD : D.rt = Q) :
    tRet (tLst (tFlds K fs)) D σ H := by
  subst hD
  refine read_flds (x := x) hx hl fs _ h ⟨?_, q⟩
  rw [List.length_replicate]
  exact Nat.le_of_lt (small1000 hn)
theorem kits_end {σ : L2.St} {e C : Addr} {H : Hp} {Q : VK} {cs : List V} {bs : List Bool} (hn : bs.length ≤ 1000) (hx : σ[0]? = some (some (.ref e))) (he : exHere H e C) (T : XIs K C)
    (hP : Paired (fun c b => ∃ cv, (∀ u, RelV c u → u = cv) ∧ PySem.W.kitOne K (.ref C) cv = some b) cs bs) (q : ∀ p, H p = none → Q (.ref p) (upd H p (.lst (bs.map V.bl)))) (D : Ends) (hD : D.rt = Q) :
    tRet (tLst (tKits K cs)) D σ H := by
  subst hD
  refine read_kits hx he T cs bs _ hP ⟨?_, q⟩
  rw [List.length_map]
  exact Nat.le_of_lt (small1000 hn)
theorem ok_place {f : Addr} {fd : FuncData} (F : At K mg "_law_by_place" sPlace f fd ["_law_x"]) (C : TxtC K mg c) : FnOk P w K mg base CX0 2 f fd ["_law_x"] (spMade c) := by
  refine F.fn.ok scPlace (fun vs H Q E h => ?_) (fun cdv A outer s H vs Q E hr h => ?_)
  · obtain ⟨x, rfl, _⟩ := h
    rfl
  · obtain ⟨x, rfl, q⟩ := h
    obtain ⟨qs, a, b, eb⟩ := placeIs
    rw [eb]
    exact ⟨_, pss_one (ps_ret (pe_lst (pa_items (place_items (c := c) C hr (by exact fun nm h => gl_place nm h) (fun pos => pv 0) qs)))), made_end (by show 19 ≤ 1000; decide) rfl q _ rfl⟩
theorem ok_name {f : Addr} {fd : FuncData} (F : At K mg "_law_by_name" sName f fd ["_law_x"]) (C : TxtC K mg c) : FnOk P w K mg base CX0 2 f fd ["_law_x"] (spMade c) := by
  refine F.fn.ok scName (fun vs H Q E h => ?_) (fun cdv A outer s H vs Q E hr h => ?_)
  · obtain ⟨x, rfl, _⟩ := h
    rfl
  · obtain ⟨x, rfl, q⟩ := h
    obtain ⟨qs, a, b, eb⟩ := nameIs
    rw [eb]
    exact ⟨_, pss_one (ps_ret (pe_lst (pa_items (name_items (c := c) C hr (by exact fun nm h => gl_name nm h) (fun pos => pv 0) qs)))), made_end (by show 19 ≤ 1000; decide) rfl q _ rfl⟩
theorem ok_fields {f : Addr} {fd : FuncData} (F : At K mg "_law_fields" sFields f fd ["_law_made_here"]) (C : TxtC K mg c) : FnOk P w K mg base CX0 1 f fd ["_law_made_here"] (spFields c K) := by
  refine F.fn.ok scFields (fun vs H Q E h => ?_) (fun cdv A outer s H vs Q E hr h => ?_)
  · obtain ⟨l, es, x, rfl, _⟩ := h
    rfl
  · obtain ⟨l, es, x, rfl, hl, hp, q⟩ := h
    obtain ⟨qs, a, b, eb⟩ := fieldIs
    rw [eb]
    refine ⟨_, pss_one (ps_ret (pe_lst (pa_flds (field_items (fun pos => pv 0) qs)))), flds_end (x := x) (by show 14 ≤ 1000; decide) rfl hl (fun i f m => ?_) (fun p hp => q p hp) _ rfl⟩
    have key : ∀ p ∈ fieldsOf, ∃ C, c.kinds[p.1]? = some (C, some p.2) := by
      intro p hp
      simp only [fieldsOf, List.mem_cons, List.mem_nil_iff, or_false] at hp
      rcases hp with rfl | rfl | rfl | rfl | rfl | rfl | rfl | rfl | rfl | rfl | rfl | rfl | rfl | rfl <;> exact ⟨_, rfl⟩
    obtain ⟨Ca, e1⟩ := key (i, f) m
    obtain ⟨e, e2, e3⟩ := paired_get hp e1
    obtain ⟨g1, g2⟩ := C.get i Ca f e1
    exact ⟨e, Ca, by rw [List.getElem?_map, e2]; rfl, e3, g1, g2⟩
theorem kit_pairs {K : PySem.W.Frag} {a : Addr} {b : Nat → Bool} : ∀ (cs : List V) (us : List Value) (n : Nat), Vals cs us → (∀ v ∈ cs, (∃ z, v = .ref z) ∨ ∃ z, v = .ty z) → (∀ j u, us[j]? = some u → PySem.W.kitOne K (.ref a) u = some (b (n + j))) →
    Paired (fun (c : V) b => ∃ cv, (∀ u, RelV c u → u = cv) ∧ PySem.W.kitOne K (.ref a) cv = some b) cs ((List.range' n cs.length).map b)
  | [], _, n, .nil, _, _ => .nil
  | v :: cs, u :: us, n, .cons r t, hv, h => by
    refine .cons ⟨u, fun u' r' => ?_, by simpa using h 0 u rfl⟩ (kit_pairs cs us (n + 1) t (fun v m => hv v (List.mem_cons_of_mem _ m)) fun j u e => ?_)
    · rcases hv v List.mem_cons_self with ⟨z, rfl⟩ | ⟨z, rfl⟩
      · have e1 : u' = Value.ref z := r'
        have e2 : u = Value.ref z := r
        rw [e1, e2]
      · have e1 : u' = Value.type z := r'
        have e2 : u = Value.type z := r
        rw [e1, e2]
    · have := h (j + 1) u (by simpa using e)
      rw [show n + 1 + j = n + (j + 1) by omega]
      exact this
theorem ok_sorts {f : Addr} {fd : FuncData} (F : At K mg "_law_sorts" sSorts f fd ["_law_e"]) (C : TxtC K mg c) (T : TxtB mg) : FnOk P w K mg base CX0 1 f fd ["_law_e"] (spSorts c) := by
  refine F.fn.ok scSorts (fun vs H Q E h => ?_) (fun cdv A outer s H vs Q E hr h => ?_)
  · obtain ⟨e, a, i, rfl, _⟩ := h
    rfl
  · obtain ⟨e, a, i, rfl, he, hi, q⟩ := h
    obtain ⟨qs, p1, p2, eb⟩ := sortIs
    rw [eb]
    have hP : Paired (fun (c : V) b => ∃ cv, (∀ u, RelV c u → u = cv) ∧ PySem.W.kitOne K (.ref a) cv = some b) (c.all.map V.ref) (sortsOf i) :=
      kit_pairs (b := fun j => i == j) (c.all.map V.ref) (c.all.map Value.ref) 0 (by
        show Vals (c.all.map V.ref) (c.all.map Value.ref)
        generalize c.all = l
        induction l with
        | nil => exact .nil
        | cons y r ih => exact .cons rfl ih) (fun v m => by
        obtain ⟨z, _, rfl⟩ := List.mem_map.mp m
        exact .inl ⟨z, rfl⟩) fun j u ej => by
        rw [List.getElem?_map] at ej
        obtain ⟨z, e1, rfl⟩ := Option.map_eq_some_iff.mp ej
        rw [Nat.zero_add]
        exact C.kit i j a z hi e1
    exact ⟨_, pss_one (ps_ret (pe_lst (pa_kits (sort_items (c := c) C T.isi (by exact fun nm h => gl_sort nm h) (fun pos => pv 0) qs)))), kits_end (by show 19 ≤ 1000; decide) rfl he (C.is a (List.mem_of_getElem? hi)) hP (fun p hp => q p hp) _ rfl⟩
theorem ok_bases {f : Addr} {fd : FuncData} (F : At K mg "_law_bases" sBases f fd ["_law_e"]) (C : TxtC K mg c) (T : TxtB mg) : FnOk P w K mg base CX0 1 f fd ["_law_e"] (spBases c) := by
  refine F.fn.ok scBases (fun vs H Q E h => ?_) (fun cdv A outer s H vs Q E hr h => ?_)
  · obtain ⟨e, a, i, rfl, _⟩ := h
    rfl
  · obtain ⟨e, a, i, rfl, he, hi, q⟩ := h
    obtain ⟨qs, p1, p2, eb⟩ := baseIs
    rw [eb]
    have hP : Paired (fun (c : V) b => ∃ cv, (∀ u, RelV c u → u = cv) ∧ PySem.W.kitOne K (.ref a) cv = some b) [.ref c.InputError, .ref c.StateError, .ref c.LimitError, .ty "ValueError", .ty "LookupError", .ty "ArithmeticError"] (basesOfN i) :=
      kit_pairs (b := fun j => baseOf i == j % 3) _ [.ref c.InputError, .ref c.StateError, .ref c.LimitError, .type "ValueError", .type "LookupError", .type "ArithmeticError"] 0
        (.cons rfl (.cons rfl (.cons rfl (.cons rfl (.cons rfl (.cons rfl .nil)))))) (fun v m => by
        simp only [List.mem_cons, List.mem_nil_iff, or_false] at m
        rcases m with rfl | rfl | rfl | rfl | rfl | rfl
        · exact .inl ⟨_, rfl⟩
        · exact .inl ⟨_, rfl⟩
        · exact .inl ⟨_, rfl⟩
        · exact .inr ⟨_, rfl⟩
        · exact .inr ⟨_, rfl⟩
        · exact .inr ⟨_, rfl⟩) fun j u ej => by
        rw [Nat.zero_add]
        exact C.kitB i a hi j u ej
    exact ⟨_, pss_one (ps_ret (pe_lst (pa_kits (base_items (c := c) C T (by exact fun nm h => gl_base nm h) (fun pos => pv 0) qs)))), kits_end (by show 6 ≤ 1000; decide) rfl he (C.is a (List.mem_of_getElem? hi)) hP (fun p hp => q p hp) _ rfl⟩
end
end K01


set_option Elab.async false
set_option linter.all false
set_option maxRecDepth 100000
set_option maxHeartbeats 1000000
namespace K01
open PySem PySem.Spec PyProof.Rows L2 XV
theorem shaped_bools (bs : List Bool) : SeqAt.shaped (.list (bs.map PyData.bool)) = true := by
  have h1 : ∀ bs : List Bool, PyData.canLayAll0 (bs.map PyData.bool) = true := fun bs => by
    induction bs with
    | nil => rfl
    | cons b r ih =>
      show (true && PyData.canLayAll0 (r.map PyData.bool)) = true
      rw [ih]
      rfl
  have h2 : ∀ bs : List Bool, PyData.depthAll (bs.map PyData.bool) = 0 := fun bs => by
    induction bs with
    | nil => rfl
    | cons b r ih =>
      show max 0 (PyData.depthAll (r.map PyData.bool)) = 0
      rw [ih]
      rfl
  show (PyData.canLayAll0 (bs.map PyData.bool) && decide (PyData.depthAll (bs.map PyData.bool) + 1 ≤ 64)) = true
  rw [h1, h2]
  rfl
theorem dp_bools {K : PySem.W.Frag} {H : Hp} : ∀ bs : List Bool, DpAll K H (bs.map V.bl) (bs.map PyData.bool)
  | [] => .nil
  | b :: r => .cons (.bl b) (dp_bools r)
theorem eqv_bools (bs : List Bool) : PyData.eqv (.list (bs.map PyData.bool)) (.list (bs.map PyData.bool)) = true := by
  show PyData.eqvAll _ _ = true
  induction bs with
  | nil => rfl
  | cons b r ih =>
    show ((b == b) && PyData.eqvAll (r.map PyData.bool) (r.map PyData.bool)) = true
    rw [ih]
    simp
/-- two lists of the same truths are not unlike -/
theorem ne_bools {K : PySem.W.Frag} {H : Hp} {Q : VK} {a b : Addr} {bs : List Bool} (ha : SqL K H a (bs.map V.bl)) (hb : SqL K H b (bs.map V.bl)) (q : Q (.bl false) H) : rNeD K (.ref a) (.ref b) H Q := by
  refine ⟨_, _, .lst ha (dp_bools bs), .lst hb (dp_bools bs), shaped_bools bs, shaped_bools bs, ?_⟩
  rw [eqv_bools]
  exact q
theorem set_set_none {σ : L2.St} {i : Nat} {v : Option V} : ((σ.set i none).set i v).set i none = σ.set i none := by
  rw [List.set_set, List.set_set]
/-- [p == at for at in range(n)] -/
theorem read_eqs {σ : L2.St} {H : Hp} {Q : VK} {i k n : Nat} {p : Int} (hn : n ≤ 1000) (hk : σ[k]? = some (some (.int p))) (hi : i < σ.length) (ne : k ≠ i)
    (q : ∀ D, H D = none → Q (.ref D) (upd H D (.lst ((List.range n).map fun j : Nat => V.bl (decide (p = (j : Int))))))) :
    tLc (iRng1 (tCons (tC (.int (n : Nat))) tNil)) (gName i) tYes (tOp rEq (tVar k) (tVar i)) [i] σ H Q := by
  refine ⟨_, rfl, by omega, by omega, ?_⟩
  rw [Int.toNat_natCast]
  intro D hD
  refine lc_range (lo := 0) (n := n) (fun j H' => H' = upd H D (.lst ((List.range j).map fun j : Nat => V.bl (decide (p = (j : Int)))))) rfl (fun j H' hj e => ?_) (fun H' e => ?_)
  · subst e
    refine ⟨set_set_none, ?_⟩
    unfold tYes
    refine iteT ?_
    have e1 : ((σ.set i none).set i (some (V.int (0 + (j : Nat)))))[k]? = some (some (.int p)) := by
      rw [List.getElem?_set_ne (fun z => ne z.symm), List.getElem?_set_ne (fun z => ne z.symm)]
      exact hk
    have e2 : ((σ.set i none).set i (some (V.int (0 + (j : Nat)))))[i]? = some (some (V.int (0 + (j : Nat)))) := by
      rw [List.getElem?_set_self]
      rw [List.length_set]
      exact hi
    refine ⟨_, e1, _, e2, rfl, _, upd_same, ?_, ?_⟩
    · rw [List.length_map, List.length_range]
      exact small1000 (by omega)
    · rw [upd_upd]
      rw [List.range_succ, List.map_append]
      rw [show (0 : Int) + (j : Nat) = ((j : Nat) : Int) by omega]
      have ed : decide (V.int p = V.int ((j : Nat) : Int)) = decide (p = ((j : Nat) : Int)) := by
        by_cases h : p = ((j : Nat) : Int)
        · rw [h]
          simp
        · rw [decide_eq_false h, decide_eq_false (fun z => h (by injection z))]
      rw [ed]
      rfl
  · subst e
    exact q D hD
end K01


set_option Elab.async false
set_option linter.all false
set_option maxRecDepth 100000
set_option maxHeartbeats 1000000
namespace K01
open PySem PySem.Spec PyProof.Rows L2 XV
abbrev sRight : Stmt := top 38
abbrev nRight : List Str := ["_law_source_here", "_law_x", "_law_made_here", "_law_place", "_law_e", "_law_base", "_law_field", "_law_at"]
theorem scRight : FnScope nRight ["_law_source_here"] (defScope sRight) := ⟨rfl, rfl, rfl, by decide +kernel, rfl, by decide +kernel, by decide +kernel⟩
/-- the defs that _law_right calls -/
structure TxtR (K : PySem.W.Frag) (mg : Str → Option Value) (fT fP fN fF fS fB : Addr) (dT dP dN dF dS dB : FuncData) : Prop where
  thing : At K mg "_law_thing" sThing fT dT ["_law_source_here"]
  place : At K mg "_law_by_place" sPlace fP dP ["_law_x"]
  name : At K mg "_law_by_name" sName fN dN ["_law_x"]
  fields : At K mg "_law_fields" sFields fF dF ["_law_made_here"]
  sorts : At K mg "_law_sorts" sSorts fS dS ["_law_e"]
  bases : At K mg "_law_bases" sBases fB dB ["_law_e"]
def rRepr (K : PySem.W.Frag) : List V → Hp → VK → Prop := fun xs H Q => ∃ x t, xs = [x] ∧ Shows K H x t ∧ Q (.str t) H
def spRight : Sp := fun vs H Q _ => ∃ p : Addr, vs = [.ref p] ∧ srcAt H p ∧ ∀ H', (∀ b o, b ≠ p → H b = some o → H' b = some o) → Q (.bl true) H'
/-- the words of the body -/
def t_cond (K : PySem.W.Frag) (c : Cs) : TT := tTest (tOp (rNeStrs K) (tLc (iList K (tCall (spFields c K) [] E0 (tCons (tVar 2) tNil))) (gName 6) tYes (tCB (rRepr K) (tCons (tVar 6) tNil)) [6])
  (tOp rRep (tLst (tCons (tCB (rRepr K) (tCons (tVar 1) tNil)) tNil)) (tC (.int 14))))
def t_eqs (k n : Nat) : TE := tLc (iRng1 (tCons (tC (.int (n : Nat))) tNil)) (gName 7) tYes (tOp rEq (tVar k) (tVar 7)) [7]
def t_base : TE := tIf (tTest (tOp (rI0 fun i j => .bl (decide (i < j))) (tVar 3) (tC (.int 11)))) (tC (.int 0)) (tIf (tTest (tOp (rI0 fun i j => .bl (decide (i < j))) (tVar 3) (tC (.int 16)))) (tC (.int 1)) (tC (.int 2)))
def t_inner (K : PySem.W.Frag) (c : Cs) : TS := tSeq (tAsg t_base (gName 5))
  (tSeq (tIfS (tTest (tOp (rNeD K) (tCall (spSorts c) [] E0 (tCons (tVar 4) tNil)) (t_eqs 3 19))) (tRet (tC (.bl false))) tNext)
    (tIfS (tTest (tOp (rNeD K) (tCall (spBases c) [] E0 (tCons (tVar 4) tNil)) (tOp rRep (t_eqs 5 3) (tC (.int 2))))) (tRet (tC (.bl false))) tNext))
def t_outer (K : PySem.W.Frag) (c : Cs) (n : Nat) : TS := tSeq (tIfS (t_cond K c) (tRet (tC (.bl false))) tNext) (tFor (iEnum K (tCons (tVar 2) tNil)) (gTup K n (gCons (gName 3) (gCons (gName 4) gNil))) (t_inner K c))
def t_right (K : PySem.W.Frag) (c : Cs) (n : Nat) : TS := tSeq (tAsg (tCall (spThing K) [] E0 (tCons (tVar 0) tNil)) (gName 1))
  (tSeq (tFor (iList K (tLst (tCons (tCall (spMade c) [] E0 (tCons (tVar 1) tNil)) (tCons (tCall (spMade c) [] E0 (tCons (tVar 1) tNil)) tNil)))) (gName 2) (t_outer K c n)) (tRet (tC (.bl true))))
section
variable {P : Program} {w : World} {K : PySem.W.Frag} {mg : Str → Option Value} {base : Heap} {c : Cs} {fT fP fN fF fS fB : Addr} {dT dP dN dF dS dB : FuncData}
theorem ok_right0 {f fD : Addr} {fd fdD : FuncData} (F : Fun K "_law_right" "_law_right" sRight f fd) (R : TxtR K mg fT fP fN fF fS fB dT dP dN dF dS dB) (D : At K mg "_law_draw" sDraw fD fdD ["_law_source_here", "_law_many"]) (C : TxtC K mg c) (T : TxtB mg)
    (pure : ∀ (p : Addr) (H : Hp) (Q : VK), srcAt H p → (∀ H', (∀ b o, b ≠ p → H b = some o → H' b = some o) → Q (.bl true) H') → t_right K c 2 { nx := fun _ H' => Q .non H', rt := Q } (start nRight [.ref p]) H) : FnG P w K mg base CX0 3 f fd ["_law_source_here"] spRight := by
  have GT : FnOk P w K mg base CX0 2 fT dT ["_law_source_here"] (spThing K) := ok_thing R.thing D T
  have GP : FnOk P w K mg base CX0 2 fP dP ["_law_x"] (spMade c) := ok_place R.place C
  have GN : FnOk P w K mg base CX0 2 fN dN ["_law_x"] (spMade c) := ok_name R.name C
  have GF : FnOk P w K mg base CX0 1 fF dF ["_law_made_here"] (spFields c K) := ok_fields R.fields C
  have GS : FnOk P w K mg base CX0 1 fS dS ["_law_e"] (spSorts c) := ok_sorts R.sorts C T
  have GB : FnOk P w K mg base CX0 1 fB dB ["_law_e"] (spBases c) := ok_bases R.bases C T
  refine okG F scRight (fun vs H Q E h => ?_) (fun cdv A outer s H vs Q E hg hr h => ⟨t_right K c 2, PSs.nox ?_, ?_⟩)
  · obtain ⟨p, rfl, _⟩ := h
    rfl
  · have nd := scRight.nd
    have hr1 : Room 1 _ := hr.mono (by decide)
    have hu := hr.un
    have hu64 : (A.deeper (envOfC (Str.ofString "_law_right") (defScope sRight) s.heap.objs.size f cdv)).units + 64 < cLine := by omega
    have hu100 : (A.deeper (envOfC (Str.ofString "_law_right") (defScope sRight) s.heap.objs.size f cdv)).units + 100 < cLine := by omega
    refine pss_cons (ps_set (i := 1) nd rfl (.inl rfl) (pe_call GT hr (by rfl) R.thing.gl R.thing.kp R.thing.bd .nil pass0 (pa_cons (pv 0) pa_nil))) ?_
    refine pss_cons (ps_for PassesOwn.never rfl (pi_list (pe_lst (pa_cons (pe_call GP hr (by rfl) R.place.gl R.place.kp R.place.bd .nil pass0 (pa_cons (pv 1) pa_nil))
      (pa_cons (pe_call GN hr (by rfl) R.name.gl R.name.kp R.name.bd .nil pass0 (pa_cons (pv 1) pa_nil)) pa_nil)))) (pg_name (i := 2) nd rfl (.inl rfl)) ?_) (pss_one (ps_ret pe_bl))
    refine pss_cons (ps_if (pt_cmpR (op_neStrs hu64) (pe_lc (own := [("_law_field", 6)]) (g := gName 6) (tt := tYes) rfl nd (pi_list (pe_call GF hr1 (by rfl) R.fields.gl R.fields.kp R.fields.bd .nil pass0 (pa_cons (pv 2) pa_nil)))
      (blkOk_by (N := nRight) (sc := defScope sRight) (by decide +kernel)) (fun _ _ _ _ _ => pg_name (i := 6) nd rfl (Or.inl rfl)) (fun _ _ _ _ _ => pts_nil)
      (fun _ _ _ _ _ => pe_callB (call_reprX hg hu100) (by rfl) T.repr boot_repr (pa_cons (pv 6) pa_nil)))
      (pe_op op_rep (pe_lst (pa_cons (pe_callB (call_reprX hg hu100) (by rfl) T.repr boot_repr (pa_cons (pv 1) pa_nil)) pa_nil)) pe_int) (nomark _)) (pss_one (ps_ret pe_bl)) pss_nil) ?_
    refine pss_one (ps_for PassesOwn.never rfl (pi_enum (by rfl) T.enum (pa_cons (pv 2) pa_nil)) (pg_tup rfl (pgs_cons (pg_name (i := 3) nd rfl (.inr rfl)) (pgs_cons (pg_name (i := 4) nd rfl (.inl rfl)) pgs_nil))) ?_)
    refine pss_cons (ps_set (i := 5) nd rfl (.inr rfl) (pe_ifExp (pt_cmpR op_lt (pv 3) pe_int (nomark _)) pe_int (pe_ifExp (pt_cmpR op_lt (pv 3) pe_int (nomark _)) pe_int pe_int))) ?_
    refine pss_cons (ps_if (pt_cmpR (op_neD hu64) (pe_call GS hr1 (by rfl) R.sorts.gl R.sorts.kp R.sorts.bd .nil pass0 (pa_cons (pv 4) pa_nil))
      (pe_lc (own := [("_law_at", 7)]) (g := gName 7) (tt := tYes) rfl nd (pi_range1 (by rfl) T.range (pa_cons pe_int pa_nil))
        (blkOk_by (N := nRight) (sc := defScope sRight) (by decide +kernel)) (fun _ _ _ _ _ => pg_name (i := 7) nd rfl (Or.inl rfl)) (fun _ _ _ _ _ => pts_nil) (fun _ _ _ _ _ => pe_cmpR op_eq (pv 3) (pv 7) (nomark _))) (nomark _)) (pss_one (ps_ret pe_bl)) pss_nil) ?_
    exact pss_one (ps_if (pt_cmpR (op_neD hu64) (pe_call GB hr1 (by rfl) R.bases.gl R.bases.kp R.bases.bd .nil pass0 (pa_cons (pv 4) pa_nil))
      (pe_op op_rep (pe_lc (own := [("_law_at", 7)]) (g := gName 7) (tt := tYes) rfl nd (pi_range1 (by rfl) T.range (pa_cons pe_int pa_nil))
        (blkOk_by (N := nRight) (sc := defScope sRight) (by decide +kernel)) (fun _ _ _ _ _ => pg_name (i := 7) nd rfl (Or.inl rfl)) (fun _ _ _ _ _ => pts_nil) (fun _ _ _ _ _ => pe_cmpR op_eq (pv 5) (pv 7) (nomark _))) pe_int) (nomark _)) (pss_one (ps_ret pe_bl)) pss_nil)
  · obtain ⟨p, rfl, hp, q⟩ := h
    exact pure p H Q hp q
end
end K01


set_option Elab.async false
set_option linter.all false
set_option maxRecDepth 100000
set_option maxHeartbeats 1000000
namespace K01
open PySem PySem.Spec PyProof.Rows L2 XV
section
variable {K : PySem.W.Frag} {c : Cs}
/-- what a list of made exceptions is -/
def madeAt (c : Cs) (H : Hp) (x : V) (l : Addr) : Prop := ∃ es : List Addr, H l = some (.lst (es.map V.ref)) ∧ Paired (exK H x) es c.kinds
theorem madeAt.same {H H' : Hp} {x : V} {l : Addr} (s : Same H H') (h : madeAt c H x l) : madeAt c H' x l := by
  obtain ⟨es, h1, h2⟩ := h
  exact ⟨es, s _ _ h1, Paired.mapP h2 fun e k z => exK.same s z⟩
/-- the texts of the fields are those of x -/
theorem read_cond {x : V} {t : Str} {H : Hp} {l : Addr} {σ : L2.St} {Q : Bool → Hp → Prop} (hm : madeAt c H x l) (hx : Shows K H x t) (s1 : σ[1]? = some (some x)) (s2 : σ[2]? = some (some (.ref l))) (hl : σ.length = 8)
    (q : ∀ H', Same H H' → Q false H') : t_cond K c σ H Q := by
  obtain ⟨es, h1, h2⟩ := hm
  refine ⟨_, s2, l, es, x, rfl, .inl (.inl h1), h2, fun p hp => ⟨p, rfl, ⟨_, .inl (.inl upd_same)⟩, fun D hD => ?_⟩⟩
  have sp : Same H (upd H p (.lst (List.replicate 14 x))) := same_upd hp
  refine lc_list (K := K) (a := p) (xs := List.replicate 14 x) (fun j H' => H' = upd (upd H p (.lst (List.replicate 14 x))) D (.lst ((List.replicate j t).map V.str))) rfl (fun j H' _ e => ?_) (fun j y H' hj e => ?_) (fun H' e => ?_)
  · subst e
    refine .inl (.inl ?_)
    rw [upd_ne (ne_of_none upd_same hD)]
    exact upd_same
  · subst e
    have ey : y = x := by
      have z := List.mem_of_getElem? hj
      exact List.eq_of_mem_replicate z
    subst ey
    have hj' : j < 14 := by
      have z := (List.getElem?_eq_some_iff.mp hj).1
      simpa using z
    refine ⟨set_set_none, ?_⟩
    unfold tYes
    refine iteT ?_
    have e6 : ((wipe σ [6]).set 6 (some y))[6]? = some (some y) := by
      rw [List.getElem?_set_self]
      show 6 < (σ.set 6 none).length
      rw [List.length_set, hl]
      decide
    refine ⟨y, e6, y, t, rfl, ?_, ?_⟩
    · exact (hx.same sp).same (same_upd hD)
    · refine ⟨_, upd_same, ?_, ?_⟩
      · rw [List.length_map, List.length_replicate]
        exact small1000 (by omega)
      · have er : (List.replicate j t).map V.str ++ [V.str t] = (List.replicate (j + 1) t).map V.str := by
          rw [List.replicate_succ', List.map_append]
          rfl
        rw [upd_upd, er]
  · subst e
    have sD : Same H (upd (upd H p (.lst (List.replicate 14 x))) D (.lst ((List.replicate 14 t).map V.str))) := sp.trans (same_upd hD)
    have eL : (List.replicate 14 x).length = 14 := List.length_replicate ..
    rw [eL]
    refine ⟨x, s1, x, t, rfl, hx.same sD, by show 1 ≤ sizeLine; decide, fun r hr => ⟨r, 14, _, rfl, rfl, upd_same, by decide, by decide, by show 1 * 14 ≤ sizeLine; decide, fun u hu => ?_⟩⟩
    have Dr : D ≠ r := ne_of_none upd_same hr
    have Du : D ≠ u := fun z => by
      rw [← z, upd_ne Dr, upd_same] at hu
      cases hu
    refine ⟨D, u, List.replicate 14 t, rfl, rfl, .inl (.inl ?_), .inl (.inl upd_same), false, rfl, ?_⟩
    · rw [upd_ne Du, upd_ne Dr]
      exact upd_same
    · exact q _ (sD.trans ((same_upd hr).trans (same_upd hu)))
theorem sorts_row (i : Nat) (hi : i < 19) : sortsOf i = (List.range 19).map fun j : Nat => decide ((i : Int) = (j : Int)) := by
  unfold sortsOf
  refine List.map_congr_left fun j _ => ?_
  by_cases h : i = j
  · rw [h]
    simp
  · rw [beq_eq_false_iff_ne.mpr h, decide_eq_false (by omega)]
theorem bases_row (i : Nat) : basesOfN i = (List.replicate 2 ((List.range 3).map fun j : Nat => decide (((baseOf i : Nat) : Int) = (j : Int)))).flatten := by
  have : baseOf i = 0 ∨ baseOf i = 1 ∨ baseOf i = 2 := by
    unfold baseOf
    split
    · exact .inl rfl
    · split
      · exact .inr (.inl rfl)
      · exact .inr (.inr rfl)
  unfold basesOfN
  rcases this with h | h | h <;> rw [h] <;> decide
/-- one turn of the walk over the exceptions -/
theorem read_inner {x : V} {H : Hp} {i : Nat} {e a : Addr} {σ : L2.St} {D : Ends} (hi : i < 19) (he : exHere H e a) (ha : c.all[i]? = some a) (s3 : σ[3]? = some (some (.int (i : Nat)))) (s4 : σ[4]? = some (some (.ref e))) (hl : σ.length = 8)
    (q : ∀ v H', Same H H' → D.nx (σ.set 5 v) H') : t_inner K c D σ H := by
  have fin : ∀ b : Nat, b = baseOf i → tSeq (tIfS (tTest (tOp (rNeD K) (tCall (spSorts c) [] E0 (tCons (tVar 4) tNil)) (t_eqs 3 19))) (tRet (tC (.bl false))) tNext)
    (tIfS (tTest (tOp (rNeD K) (tCall (spBases c) [] E0 (tCons (tVar 4) tNil)) (tOp rRep (t_eqs 5 3) (tC (.int 2))))) (tRet (tC (.bl false))) tNext) D (σ.set 5 (some (.int (b : Nat)))) H := by
    intro b hb
    have t3 : (σ.set 5 (some (V.int (b : Nat))))[3]? = some (some (.int (i : Nat))) := by
      rw [List.getElem?_set_ne (by decide)]
      exact s3
    have t4 : (σ.set 5 (some (V.int (b : Nat))))[4]? = some (some (.ref e)) := by
      rw [List.getElem?_set_ne (by decide)]
      exact s4
    have t5 : (σ.set 5 (some (V.int (b : Nat))))[5]? = some (some (.int (b : Nat))) := by
      rw [List.getElem?_set_self]
      rw [hl]
      decide
    have tl : (σ.set 5 (some (V.int (b : Nat)))).length = 8 := by
      rw [List.length_set]
      exact hl
    refine ⟨_, t4, e, a, i, rfl, he, ha, fun p hp => ?_⟩
    have sp : Same H (upd H p (.lst ((sortsOf i).map V.bl))) := same_upd hp
    refine read_eqs (by decide) t3 (by rw [tl]; decide) (by decide) fun r hr => ?_
    have pr : p ≠ r := ne_of_none upd_same hr
    have er : ((List.range 19).map fun j : Nat => V.bl (decide (((i : Nat) : Int) = (j : Int)))) = (sortsOf i).map V.bl := by
      rw [sorts_row i hi, List.map_map]
      rfl
    rw [er]
    have s2 : Same H (upd (upd H p (.lst ((sortsOf i).map V.bl))) r (.lst ((sortsOf i).map V.bl))) := sp.trans (same_upd hr)
    refine ne_bools (bs := sortsOf i) (.inl (.inl ?_)) (.inl (.inl upd_same)) ⟨false, rfl, ?_⟩
    · rw [upd_ne pr]
      exact upd_same
    refine iteF ?_
    have he2 : exHere (upd (upd H p (.lst ((sortsOf i).map V.bl))) r (.lst ((sortsOf i).map V.bl))) e a := by
      rcases he with z | ⟨d, fs, z1, z2⟩
      · exact .inl (s2 _ _ z)
      · exact .inr ⟨d, fs, s2 _ _ z1, s2 _ _ z2⟩
    refine ⟨_, t4, e, a, i, rfl, he2, ha, fun u hu => ?_⟩
    show t_eqs 5 3 (σ.set 5 (some (V.int (b : Nat)))) _ _
    refine read_eqs (n := 3) (i := 7) (k := 5) (by decide) t5 (by rw [tl]; decide) (by decide) fun m hm => ?_
    have um : u ≠ m := ne_of_none upd_same hm
    refine ⟨m, 2, _, rfl, rfl, upd_same, by decide, by decide, ?_, fun y hy => ?_⟩
    · rw [List.length_map, List.length_range]
      decide
    have uy : u ≠ y := fun z => by
      rw [← z, upd_ne um, upd_same] at hy
      cases hy
    have eb : (List.replicate (2 : Int).toNat ((List.range 3).map fun j : Nat => V.bl (decide (((b : Nat) : Int) = (j : Int))))).flatten = (basesOfN i).map V.bl := by
      rw [bases_row i, hb, List.map_flatten, List.map_replicate, List.map_map]
      rfl
    rw [eb]
    refine ne_bools (bs := basesOfN i) (.inl (.inl ?_)) (.inl (.inl upd_same)) ⟨false, rfl, ?_⟩
    · rw [upd_ne uy, upd_ne um]
      exact upd_same
    refine iteF ?_
    exact q _ _ (s2.trans ((same_upd hu).trans ((same_upd hm).trans (same_upd hy))))
  refine ⟨_, s3, _, _, rfl, rfl, _, rfl, ?_⟩
  refine ite2 (fun z => ?_) (fun z => ?_)
  · have z : ((i : Nat) : Int) < 11 := of_decide_eq_true z
    exact fin 0 (by unfold baseOf; rw [if_pos (by omega)])
  · have z : ¬ ((i : Nat) : Int) < 11 := fun y => z (decide_eq_true y)
    refine ⟨_, s3, _, _, rfl, rfl, _, rfl, ?_⟩
    refine ite2 (fun y => ?_) (fun y => ?_)
    · have y : ((i : Nat) : Int) < 16 := of_decide_eq_true y
      exact fin 1 (by unfold baseOf; rw [if_neg (by omega), if_pos (by omega)])
    · have y : ¬ ((i : Nat) : Int) < 16 := fun x => y (decide_eq_true x)
      exact fin 2 (by unfold baseOf; rw [if_neg (by omega), if_neg (by omega)])
theorem set_three {σ : L2.St} (h : σ.length = 8) (a b c d e f : Option V) : (((((σ.set 3 a).set 4 b).set 5 c).set 3 d).set 4 e).set 5 f = ((σ.set 3 d).set 4 e).set 5 f :=
  match σ, h with
  | [_, _, _, _, _, _, _, _], _ => rfl
theorem kinds_all (i : Nat) (k : Addr × Option Str) (h : c.kinds[i]? = some k) : c.all[i]? = some k.1 := by
  have e : c.all = c.kinds.map (·.1) := rfl
  rw [e, List.getElem?_map, h]
  rfl
theorem read_outer {x : V} {t : Str} {H : Hp} {l : Addr} {σ : L2.St} {D : Ends} (hm : madeAt c H x l) (hx : Shows K H x t) (s1 : σ[1]? = some (some x)) (s2 : σ[2]? = some (some (.ref l))) (hl : σ.length = 8)
    (q : ∀ v3 v4 v5 H', Same H H' → D.nx (((σ.set 3 v3).set 4 v4).set 5 v5) H') : t_outer K c 2 D σ H := by
  refine read_cond hm hx s1 s2 hl fun H1 sm => ?_
  refine iteF ?_
  obtain ⟨es, h1, h2⟩ := hm.same sm
  have len : (es.map V.ref).length = 19 := by
    rw [List.length_map]
    exact Paired.length h2
  refine ⟨_, s2, l, _, rfl, .inl (.inl h1), for_enum (K := K) (a := l) (xs := es.map V.ref) (fun i τ H' => Same H1 H' ∧ ∃ v3 v4 v5, τ = ((σ.set 3 v3).set 4 v4).set 5 v5) ⟨Same.refl _, ?_⟩ (fun i τ H' ⟨z, _⟩ => .inl (.inl (z _ _ h1))) ?_ ?_⟩
  · have : ∀ j : Nat, j < σ.length → ∃ v, σ[j]? = some v ∧ σ.set j v = σ := fun j hj => ⟨σ[j], List.getElem?_eq_getElem hj, List.set_getElem_self hj⟩
    obtain ⟨v3, _, e3⟩ := this 3 (by omega)
    obtain ⟨v4, _, e4⟩ := this 4 (by omega)
    obtain ⟨v5, _, e5⟩ := this 5 (by omega)
    exact ⟨v3, v4, v5, by rw [e3, e4, e5]⟩
  · rintro i y T τ H' hy ⟨sm2, v3, v4, v5, rfl⟩ hT
    have hi : i < 19 := by
      have := (List.getElem?_eq_some_iff.mp hy).1
      omega
    rw [List.getElem?_map] at hy
    obtain ⟨e, he, rfl⟩ := Option.map_eq_some_iff.mp hy
    obtain ⟨k, hk⟩ : ∃ k, c.kinds[i]? = some k := ⟨c.kinds[i]'(by show i < 19; exact hi), List.getElem?_eq_getElem _⟩
    obtain ⟨e', he', hek⟩ := paired_get h2 hk
    rw [he] at he'
    cases he'
    have st : Same H1 (upd H' T (.tup [.int (i : Nat), .ref e])) := sm2.trans (same_upd hT)
    refine ⟨T, _, rfl, .inl (.inl upd_same), rfl, _, _, rfl, _, _, rfl, rfl, ?_⟩
    refine read_inner (x := x) (i := i) (e := e) (a := k.1) hi (exK.here (exK.same st hek)) (kinds_all i k hk) ?_ ?_ ?_ fun v H2 s3 => ?_
    · rw [List.getElem?_set_ne (by decide), List.getElem?_set_self]
      simp [hl]
    · rw [List.getElem?_set_self]
      simp [hl]
    · simp [hl]
    · exact ⟨st.trans s3, some (.int (i : Nat)), some (.ref e), v, set_three hl _ _ _ _ _ _⟩
  · rintro τ H' ⟨z, v3, v4, v5, rfl⟩
    exact q v3 v4 v5 H' (sm.trans z)
theorem pure_right (p : Addr) (H : Hp) (Q : VK) (hp : srcAt H p) (q : ∀ H', (∀ b o, b ≠ p → H b = some o → H' b = some o) → Q (.bl true) H') :
    t_right K c 2 { nx := fun _ H' => Q .non H', rt := Q } (start nRight [.ref p]) H := by
  refine ⟨_, rfl, p, rfl, hp, fun x t H1 hx k1 => ?_⟩
  refine ⟨_, rfl, x, rfl, fun es1 l1 H2 n1 m1 e1 p1 => ⟨_, rfl, x, rfl, fun es2 l2 H3 n2 m2 e2 p2 => ⟨by show 2 ≤ sizeLine; decide, fun l0 h0 => ⟨l0, rfl, ⟨_, .inl (.inl upd_same)⟩, ?_⟩⟩⟩⟩
  have s0 : Same H3 (upd H3 l0 (.lst [.ref l1, .ref l2])) := same_upd h0
  have s13 : Same H1 (upd H3 l0 (.lst [.ref l1, .ref l2])) := (m1.trans m2).trans s0
  have M1 : madeAt c (upd H3 l0 (.lst [.ref l1, .ref l2])) x l1 := madeAt.same (m2.trans s0) ⟨es1, e1, p1⟩
  have M2 : madeAt c (upd H3 l0 (.lst [.ref l1, .ref l2])) x l2 := madeAt.same s0 ⟨es2, e2, p2⟩
  refine for_list (K := K) (a := l0) (xs := [.ref l1, .ref l2]) (fun i τ H' => Same (upd H3 l0 (.lst [.ref l1, .ref l2])) H' ∧ τ.length = 8 ∧ τ[1]? = some (some x)) ⟨Same.refl _, rfl, rfl⟩ (fun i τ H' _ ⟨z, _⟩ => .inl (.inl (z _ _ upd_same))) ?_ ?_
  · rintro i y τ H' hy ⟨sm, tl, t1⟩
    obtain ⟨l, rfl, M⟩ : ∃ l, y = .ref l ∧ madeAt c (upd H3 l0 (.lst [.ref l1, .ref l2])) x l := by
      have m := List.mem_of_getElem? hy
      simp only [List.mem_cons, List.mem_nil_iff, or_false] at m
      rcases m with rfl | rfl
      · exact ⟨l1, rfl, M1⟩
      · exact ⟨l2, rfl, M2⟩
    refine read_outer (x := x) (t := t) (M.same sm) (hx.same (s13.trans sm)) ?_ ?_ ?_ fun v3 v4 v5 H'' s3 => ?_
    · rw [List.getElem?_set_ne (by decide)]
      exact t1
    · rw [List.getElem?_set_self]
      rw [tl]
      decide
    · rw [List.length_set]
      exact tl
    · refine ⟨sm.trans s3, by simp [tl], ?_⟩
      rw [List.getElem?_set_ne (by decide), List.getElem?_set_ne (by decide), List.getElem?_set_ne (by decide), List.getElem?_set_ne (by decide)]
      exact t1
  · rintro τ H' ⟨sm, _, _⟩
    exact q H' fun b o hb e => (s13.trans sm) b o (k1 b o hb e)
end
end K01


set_option Elab.async false
set_option linter.all false
set_option maxRecDepth 100000
set_option maxHeartbeats 1000000
namespace K01
open PySem PySem.Spec PyProof.Rows L2 XV
abbrev sLaw : Stmt := top 39
abbrev nLaw : List Str := ["_law_script", "_law_k"]
theorem scLaw : FnScope nLaw ["_law_script"] (defScope sLaw) := ⟨rfl, rfl, rfl, by decide +kernel, rfl, by decide +kernel, by decide +kernel⟩
structure TxtL (mg : Str → Option Value) : Prop where
  rank : ∃ t, mg "RANK" = some (.int 16 t)
  tog : ∃ t, mg "TOGETHER" = some (.int 64 t)
  cls : ∃ t, mg "CLASSES" = some (.int 256 t)
  nam : ∃ t, mg "NAMES" = some (.int 3 t)
def spLaw (K : PySem.W.Frag) : Sp := fun vs H Q _ => ∃ (a : Addr) (ns : List Int), vs = [.ref a] ∧ SqL K H a (ns.map V.int) ∧ ns.length ≤ 63 ∧ ∀ H', Q (.bl true) H'
def t_law (K : PySem.W.Frag) : TS := tSeq (tIfS (tTest (tOp rNe (tCB (rRepr K) (tCons (tLst (tCons (tC (.int 16)) (tCons (tC (.int 64)) (tCons (tC (.int 256)) (tCons (tC (.int 3)) tNil))))) tNil)) (tC (.str "[16, 64, 256, 3]")))) (tRet (tC (.bl false))) tNext)
  (tRet (tCB (rAll K) (tCons (tLc (iRng1 (tCons (tCB (fun xs H Q => ∃ i j, xs = [.int i, .int j] ∧ Q (.int (if j > i then j else i)) H) (tCons (tC (.int 2)) (tCons (tCB (fun xs H Q => ∃ i j, xs = [.int i, .int j] ∧ Q (.int (if j < i then j else i)) H)
    (tCons (tC (.int 4)) (tCons (tCB (fun xs H Q => ∃ p ys, xs = [.ref p] ∧ (SqL K H p ys ∨ SqT K H p ys) ∧ Q (.int ys.length) H) (tCons (tVar 0) tNil)) tNil))) tNil))) tNil)) (gName 1) tYes
    (tCall spRight [] E0 (tCons (tCall spSource [] E0 (tCons (tCall (spNumber K) [] E0 (tCons (tVar 0) (tCons (tVar 1) tNil))) tNil)) tNil)) [1]) tNil)))
theorem shows_limits {K : PySem.W.Frag} {H : Hp} {a : Addr} (h : H a = some (.lst [.int 16, .int 64, .int 256, .int 3])) : Shows K H (.ref a) (Str.ofString "[16, 64, 256, 3]") := by
  refine ⟨.list [.int 16, .int 64, .int 256, .int 3], .deep (.lst (.inl (.inl h)) (.cons (.int _) (.cons (.int _) (.cons (.int _) (.cons (.int _) .nil))))) rfl, by decide +kernel, by decide, by decide +kernel, by decide +kernel⟩
theorem pure_law {K : PySem.W.Frag} {a : Addr} {ns : List Int} {H : Hp} {Q : VK} (hS : SqL K H a (ns.map V.int)) (hn : ns.length ≤ 63) (q : ∀ H', Q (.bl true) H') :
    t_law K { nx := fun _ H' => Q .non H', rt := Q } (start nLaw [.ref a]) H := by
  refine ⟨by show 4 ≤ sizeLine; decide, fun p hp => ⟨_, _, rfl, shows_limits upd_same, rfl, ?_⟩⟩
  refine ⟨_, rfl, ?_⟩
  rw [decide_eq_true rfl]
  refine iteF ?_
  have s1 : Same H (upd H p (.lst [.int 16, .int 64, .int 256, .int 3])) := same_upd hp
  have hS1 := s1.seq hS
  refine ⟨_, rfl, a, _, rfl, .inl hS1, _, _, rfl, _, _, rfl, ?_⟩
  obtain ⟨n, hn4, en⟩ : ∃ n : Nat, n ≤ 4 ∧ (if (if ((ns.map V.int).length : Int) < 4 then ((ns.map V.int).length : Int) else 4) > 2 then (if ((ns.map V.int).length : Int) < 4 then ((ns.map V.int).length : Int) else 4) else 2) = ((n : Nat) : Int) := by
    refine ⟨(if (if ((ns.map V.int).length : Int) < 4 then ((ns.map V.int).length : Int) else 4) > 2 then (if ((ns.map V.int).length : Int) < 4 then ((ns.map V.int).length : Int) else 4) else 2).toNat, ?_, ?_⟩ <;> (split <;> split <;> omega)
  rw [en]
  refine ⟨_, rfl, by omega, by omega, fun D hD => ?_⟩
  rw [Int.toNat_natCast]
  refine lc_range (lo := 0) (n := n) (fun j H' => Same (upd H p (.lst [.int 16, .int 64, .int 256, .int 3])) H' ∧ H' D = some (.lst ((List.replicate j true).map V.bl))) ⟨same_upd hD, upd_same⟩ (fun j H' hj ⟨sm, e⟩ => ?_) (fun H' ⟨sm, e⟩ => ?_)
  · refine ⟨set_set_none, ?_⟩
    unfold tYes
    refine iteT ?_
    refine ⟨_, rfl, _, rfl, a, ns, _, rfl, sm.seq hS1, hn, by omega, fun z H2 s2 => ?_⟩
    refine ⟨z, rfl, fun u H3 hu s3 src => ?_⟩
    refine ⟨u, rfl, src, fun H4 k4 => ?_⟩
    have uD : D ≠ u := ne_of_none (s2 _ _ e) hu
    have eD : H4 D = some (.lst ((List.replicate j true).map V.bl)) := k4 D _ uD (s3 _ _ (s2 _ _ e))
    have sm4 : Same (upd H p (.lst [.int 16, .int 64, .int 256, .int 3])) H4 := fun b o hb => k4 b o (ne_of_none (s2 _ _ (sm _ _ hb)) hu) (s3 _ _ (s2 _ _ (sm _ _ hb)))
    have er : (List.replicate j true).map V.bl ++ [V.bl true] = (List.replicate (j + 1) true).map V.bl := by
      rw [List.replicate_succ', List.map_append]
      rfl
    refine ⟨_, eD, ?_, ?_⟩
    · rw [List.length_map, List.length_replicate]
      exact small1000 (by omega)
    · rw [er]
      refine ⟨fun b o hb => ?_, upd_same⟩
      have nb : b ≠ D := fun z => by
        subst z
        rw [hD] at hb
        cases hb
      rw [upd_ne nb]
      exact sm4 b o hb
  · refine ⟨D, List.replicate n true, rfl, .inl (.inl e), ?_⟩
    have ea : (List.replicate n true).all id = true := by simp
    rw [ea]
    exact q H'
section
variable {P : Program} {w : World} {K : PySem.W.Frag} {mg : Str → Option Value} {base : Heap} {c : Cs} {fT fP fN fF fS fB : Addr} {dT dP dN dF dS dB : FuncData}
theorem ok_law {f fD fR fO fU : Addr} {fd fdD dR dO dU : FuncData} (F : Fun K "law" "law" sLaw f fd) (R : TxtR K mg fT fP fN fF fS fB dT dP dN dF dS dB) (D : At K mg "_law_draw" sDraw fD fdD ["_law_source_here", "_law_many"])
    (RR : At K mg "_law_right" sRight fR dR ["_law_source_here"]) (O : At K mg "_law_source" sSource fO dO ["_law_drawn"]) (U : At K mg "_law_number" sNumber fU dU ["_law_script", "_law_k"])
    (C : TxtC K mg c) (T : TxtB mg) (L : TxtL mg) : FnG P w K mg base CX0 4 f fd ["_law_script"] (spLaw K) := by
  have GR : FnG P w K mg base CX0 3 fR dR ["_law_source_here"] spRight := ok_right0 RR.fn R D C T (fun p H Q => pure_right p H Q)
  have GO : FnOk P w K mg base CX0 1 fO dO ["_law_drawn"] spSource := ok_source O.fn T
  have GU : FnOk P w K mg base CX0 1 fU dU ["_law_script", "_law_k"] (spNumber K) := ok_number U.fn T
  obtain ⟨t1, e1⟩ := L.rank
  obtain ⟨t2, e2⟩ := L.tog
  obtain ⟨t3, e3⟩ := L.cls
  obtain ⟨t4, e4⟩ := L.nam
  refine okG F scLaw (fun vs H Q E h => ?_) (fun cdv A outer s H vs Q E hg hr h => ⟨t_law K, PSs.nox ?_, ?_⟩)
  · obtain ⟨a, ns, rfl, _⟩ := h
    rfl
  · have nd := scLaw.nd
    have hr1 : Room 1 _ := hr.mono (by decide)
    have hu := hr.un
    have hu100 : (A.deeper (envOfC (Str.ofString "law") (defScope sLaw) s.heap.objs.size f cdv)).units + 100 < cLine := by omega
    refine pss_cons (ps_if (pt_cmpR op_ne (pe_callB (call_reprX hg hu100) (by rfl) T.repr boot_repr (pa_cons (pe_lst (pa_cons (pe_glob (by rfl) e1 ⟨_, rfl⟩) (pa_cons (pe_glob (by rfl) e2 ⟨_, rfl⟩) (pa_cons (pe_glob (by rfl) e3 ⟨_, rfl⟩) (pa_cons (pe_glob (by rfl) e4 ⟨_, rfl⟩) pa_nil))))) pa_nil)) pe_str (nomark _)) (pss_one (ps_ret pe_bl)) pss_nil) ?_
    exact pss_one (ps_ret (pe_callB (cr_all rfl) (by rfl) T.all boot_all (pa_cons (pe_lc (own := [("_law_k", 1)]) (g := gName 1) (tt := tYes) rfl nd
      (pi_range1 (by rfl) T.range (pa_cons (pe_callB (call_max2 rfl) (by rfl) T.max boot_max (pa_cons pe_int (pa_cons (pe_callB (call_min2 rfl) (by rfl) T.min boot_min (pa_cons pe_int (pa_cons (pe_callB call_len_seq (by rfl) T.len PySem.boot_len (pa_cons (pv 0) pa_nil)) pa_nil))) pa_nil))) pa_nil))
      (blkOk_by (N := nLaw) (sc := defScope sLaw) (by decide +kernel)) (fun _ _ _ _ _ => pg_name (i := 1) nd rfl (Or.inl rfl)) (fun _ _ _ _ _ => pts_nil)
      (fun _ _ _ _ _ => pe_callG GR hg hr (by rfl) RR.gl RR.kp RR.bd pass0 (pa_cons (pe_call GO hr1 (by rfl) O.gl O.kp O.bd .nil pass0 (pa_cons (pe_call GU hr1 (by rfl) U.gl U.kp U.bd .nil pass0 (pa_cons (pv 0) (pa_cons (pv 1) pa_nil))) pa_nil)) pa_nil))) pa_nil)))
  · obtain ⟨a, ns, rfl, hS, hn, q⟩ := h
    exact pure_law hS hn q
end
end K01


set_option Elab.async false
set_option linter.all false
set_option maxRecDepth 100000
set_option maxHeartbeats 1000000
namespace K01
open PySem PySem.Spec PyProof.Rows L2 XV
def kitTab (K : PySem.W.Frag) (as : List Addr) (bs : List Value) (f : Nat → Nat → Bool) : Bool := as.zipIdx.all fun p => bs.zipIdx.all fun q => decide (PySem.W.kitOne K (.ref p.1) q.1 = some (f p.2 q.2))
theorem kitTab_ok {K : PySem.W.Frag} {as : List Addr} {bs : List Value} {f : Nat → Nat → Bool} (h : kitTab K as bs f = true) (i j : Nat) (a : Addr) (b : Value) (ha : as[i]? = some a) (hb : bs[j]? = some b) : PySem.W.kitOne K (.ref a) b = some (f i j) := by
  have h1 := List.all_eq_true.mp h (a, i) (List.mem_zipIdx_iff_getElem?.mpr ha)
  have h2 := List.all_eq_true.mp h1 (b, j) (List.mem_zipIdx_iff_getElem?.mpr hb)
  exact of_decide_eq_true h2
def xisB (K : PySem.W.Frag) (C : Addr) : Bool := (PySem.W.clsIn K C).isSome && (decide (PySem.W.findIn K (.ref C) "__getattribute__" = some (some (.builtin "BaseException.__getattribute__"))) && (decide (PySem.W.findIn K (.ref C) "__getattr__" = some none) &&
  (decide (PySem.W.subIn K (.ref C) (.type "BaseException") = some true) && (decide (PySem.W.findIn K (.ref C) "__class__" = some (some (.builtin "object.__class__"))) && (decide (PySem.W.mroIn K C (.type "object") = some true) && PySem.W.hasDictIn K C)))))
structure Glob (K : PySem.W.Frag) : Prop where
  gt : PySem.W.specialIn K (.builtin "object.__class__") "__get__" = some (some (.builtin "getset_descriptor.__get__"))
  tk : PySem.W.takesIn K (.builtin "object.__class__") = some true
theorem xis_ok {K : PySem.W.Frag} {C : Addr} (g : Glob K) (h : xisB K C = true) : XIs K C ∧ XGet K C := by
  obtain ⟨h1, h⟩ := Bool.and_eq_true_iff.mp h
  obtain ⟨h2, h⟩ := Bool.and_eq_true_iff.mp h
  obtain ⟨h3, h⟩ := Bool.and_eq_true_iff.mp h
  obtain ⟨h4, h⟩ := Bool.and_eq_true_iff.mp h
  obtain ⟨h5, h⟩ := Bool.and_eq_true_iff.mp h
  obtain ⟨h6, h7⟩ := Bool.and_eq_true_iff.mp h
  exact ⟨⟨h1, of_decide_eq_true h2, of_decide_eq_true h3, of_decide_eq_true h4, of_decide_eq_true h5, g.gt, g.tk, of_decide_eq_true h6⟩, ⟨of_decide_eq_true h2, of_decide_eq_true h3, of_decide_eq_true h4, h7⟩⟩
/-- the class as the top has made it -/
def xclsB (K : PySem.W.Frag) (C : Addr) (newId : String) (tl : List Value) : Bool := match K.lookup C with
  | some ⟨.type "type", _, .cls cd, sl⟩ => (match cd.mro, sl.toList with
    | .ref C' :: bm, [_, _, _, _, some (.builtin n), _] => C' == C && (n == newId && (!cd.hasDel && (cd.hasDict && refsT tl bm)))
    | _, _ => false)
  | _ => false
theorem xcls_ok {K : PySem.W.Frag} {C : Addr} {newId : String} {tl : List Value} (q : xclsB K C newId tl = true) :
    ∃ nm q N bs bm sn sub ab col dd k0 k1 k2 k3 k5, K.lookup C = some (excClassObj nm q C N bs bm true sn sub ab col dd k0 k1 k2 k3 k5 newId) ∧ refsT tl bm = true := by
  unfold xclsB at q
  split at q
  · rename_i dd cd sl ho
    split at q
    · rename_i C' bm k0 k1 k2 k3 n k5 hm hs
      simp only [Bool.and_eq_true, beq_iff_eq, Bool.not_eq_true'] at q
      obtain ⟨rfl, rfl, hdel, hdct, hr⟩ := q
      obtain ⟨nm, bs, mro, ns, qn, hd, sn, sub, ab, col, del⟩ := cd
      dsimp only at hm hdel hdct
      subst hm hdel hdct
      have hsl : sl = #[k0, k1, k2, k3, some (.builtin n), k5] := by
        obtain ⟨l⟩ := sl
        simp only at hs
        rw [hs]
      subst hsl
      exact ⟨nm, qn, ns, bs, bm, sn, sub, ab, col, dd, k0, k1, k2, k3, k5, ho, hr⟩
    · cases q
  · cases q
def initB (K : PySem.W.Frag) (f : Str) (C fI : Addr) (newId : String) (tl : List Value) : Bool := xclsB K C newId tl && (PySem.W.keepIn K (.ref C) && (decide (PySem.W.findIn K (.ref C) "__setattr__" = some (some (.builtin "object.__setattr__"))) &&
  (decide (PySem.W.findIn K (.ref C) f = some none) && (decide (PySem.W.findIn K (.ref C) "__init__" = some (some (.ref fI))) && decide (PySem.W.typeIn K (.ref fI) = some (.type "function"))))))
theorem xtxt_mk {K : PySem.W.Frag} {f qual : Str} {C fI : Addr} {st : Stmt} {newId : String} {tl : List Value} {oc kV doc pm cdv ct : Value} {od an : Option Addr} {osl : Array (Option Value)} (T : TailOk tl) (h : initB K f C fI newId tl = true) (t : InitText f st)
    (l : K.lookup fI = some ⟨oc, od, .func (PySem.W.fnOf "__init__" qual (defArgs st) (defBody st) (defScope st) .none kV doc pm an cdv ct), osl⟩) (cd : PySem.W.codeIn K cdv qual = true) : XTxt K f C fI st newId tl := by
  obtain ⟨h1, h⟩ := Bool.and_eq_true_iff.mp h
  obtain ⟨h2, h⟩ := Bool.and_eq_true_iff.mp h
  obtain ⟨h3, h⟩ := Bool.and_eq_true_iff.mp h
  obtain ⟨h4, h⟩ := Bool.and_eq_true_iff.mp h
  obtain ⟨h5, h6⟩ := Bool.and_eq_true_iff.mp h
  exact { cls := xcls_ok h1, kC := h2, tail := T, sa := of_decide_eq_true h3, noN := of_decide_eq_true h4, iC := of_decide_eq_true h5, tC := of_decide_eq_true h6, fn := ⟨qual, oc, od, kV, doc, pm, an, cdv, ct, osl, l, cd⟩, txt := t }
theorem at_mk {K : PySem.W.Frag} {mg : Str → Option Value} {h : Heap} {x : Str} {st : Stmt} {f : Addr} {ps : List Str} {oc kV doc pm cdv ct : Value} {od an : Option Addr} {osl : Array (Option Value)} (X : K.In h) (G : h.Ns mainGlobals mg)
    (a : PySem.W.nsIn K mainGlobals x = some (some (.ref f))) (l : K.lookup f = some ⟨oc, od, .func (PySem.W.fnOf x x (defArgs st) (defBody st) (defScope st) .none kV doc pm an cdv ct), osl⟩) (cd : PySem.W.codeIn K cdv x = true) (k : PySem.W.keepIn K (.ref f) = true)
    (b : ∀ (kV doc pm : Value) (an : Option Addr) (cdv ct : Value) (us : List Value), us.length = ps.length → bindArgs (PySem.W.fnOf x x (defArgs st) (defBody st) (defScope st) .none kV doc pm an cdv ct) ⟨us, []⟩ = pure (ps.zip us)) :
    At K mg x st f (PySem.W.fnOf x x (defArgs st) (defBody st) (defScope st) .none kV doc pm an cdv ct) ps := by
  have F := fun_mk (st := st) l cd k
  exact ⟨F, PySem.W.mg_of X G a, k, F.binds b⟩
theorem txtInvalidName : InitText "name" (inClass (top 4) 0) := ⟨⟨_, _, _, _, rfl⟩, rfl, rfl, rfl, by decide +kernel, by decide +kernel, by decide, by decide, fun _ _ _ _ _ _ _ _ _ => by first | rfl | kernel_rfl, fun _ _ _ _ _ _ _ _ _ => by first | rfl | kernel_rfl⟩
theorem txtInvalidNumber : InitText "number" (inClass (top 5) 0) := ⟨⟨_, _, _, _, rfl⟩, rfl, rfl, rfl, by decide +kernel, by decide +kernel, by decide, by decide, fun _ _ _ _ _ _ _ _ _ => by first | rfl | kernel_rfl, fun _ _ _ _ _ _ _ _ _ => by first | rfl | kernel_rfl⟩
theorem txtInvalidValues : InitText "index" (inClass (top 6) 0) := ⟨⟨_, _, _, _, rfl⟩, rfl, rfl, rfl, by decide +kernel, by decide +kernel, by decide, by decide, fun _ _ _ _ _ _ _ _ _ => by first | rfl | kernel_rfl, fun _ _ _ _ _ _ _ _ _ => by first | rfl | kernel_rfl⟩
theorem txtInvalidDeeds : InitText "index" (inClass (top 7) 0) := ⟨⟨_, _, _, _, rfl⟩, rfl, rfl, rfl, by decide +kernel, by decide +kernel, by decide, by decide, fun _ _ _ _ _ _ _ _ _ => by first | rfl | kernel_rfl, fun _ _ _ _ _ _ _ _ _ => by first | rfl | kernel_rfl⟩
theorem txtInvalidText : InitText "text" (inClass (top 8) 0) := ⟨⟨_, _, _, _, rfl⟩, rfl, rfl, rfl, by decide +kernel, by decide +kernel, by decide, by decide, fun _ _ _ _ _ _ _ _ _ => by first | rfl | kernel_rfl, fun _ _ _ _ _ _ _ _ _ => by first | rfl | kernel_rfl⟩
theorem txtInvalidCommand : InitText "command" (inClass (top 9) 0) := ⟨⟨_, _, _, _, rfl⟩, rfl, rfl, rfl, by decide +kernel, by decide +kernel, by decide, by decide, fun _ _ _ _ _ _ _ _ _ => by first | rfl | kernel_rfl, fun _ _ _ _ _ _ _ _ _ => by first | rfl | kernel_rfl⟩
theorem txtNotAWord : InitText "value" (inClass (top 10) 0) := ⟨⟨_, _, _, _, rfl⟩, rfl, rfl, rfl, by decide +kernel, by decide +kernel, by decide, by decide, fun _ _ _ _ _ _ _ _ _ => by first | rfl | kernel_rfl, fun _ _ _ _ _ _ _ _ _ => by first | rfl | kernel_rfl⟩
theorem txtNotAFormula : InitText "value" (inClass (top 11) 0) := ⟨⟨_, _, _, _, rfl⟩, rfl, rfl, rfl, by decide +kernel, by decide +kernel, by decide, by decide, fun _ _ _ _ _ _ _ _ _ => by first | rfl | kernel_rfl, fun _ _ _ _ _ _ _ _ _ => by first | rfl | kernel_rfl⟩
theorem txtNotATest : InitText "value" (inClass (top 12) 0) := ⟨⟨_, _, _, _, rfl⟩, rfl, rfl, rfl, by decide +kernel, by decide +kernel, by decide, by decide, fun _ _ _ _ _ _ _ _ _ => by first | rfl | kernel_rfl, fun _ _ _ _ _ _ _ _ _ => by first | rfl | kernel_rfl⟩
theorem txtNotAVariable : InitText "value" (inClass (top 13) 0) := ⟨⟨_, _, _, _, rfl⟩, rfl, rfl, rfl, by decide +kernel, by decide +kernel, by decide, by decide, fun _ _ _ _ _ _ _ _ _ => by first | rfl | kernel_rfl, fun _ _ _ _ _ _ _ _ _ => by first | rfl | kernel_rfl⟩
theorem txtWrongNames : InitText "name" (inClass (top 14) 0) := ⟨⟨_, _, _, _, rfl⟩, rfl, rfl, rfl, by decide +kernel, by decide +kernel, by decide, by decide, fun _ _ _ _ _ _ _ _ _ => by first | rfl | kernel_rfl, fun _ _ _ _ _ _ _ _ _ => by first | rfl | kernel_rfl⟩
theorem txtUnknownName : InitText "name" (inClass (top 15) 0) := ⟨⟨_, _, _, _, rfl⟩, rfl, rfl, rfl, by decide +kernel, by decide +kernel, by decide, by decide, fun _ _ _ _ _ _ _ _ _ => by first | rfl | kernel_rfl, fun _ _ _ _ _ _ _ _ _ => by first | rfl | kernel_rfl⟩
theorem txtRefused : InitText "index" (inClass (top 16) 0) := ⟨⟨_, _, _, _, rfl⟩, rfl, rfl, rfl, by decide +kernel, by decide +kernel, by decide, by decide, fun _ _ _ _ _ _ _ _ _ => by first | rfl | kernel_rfl, fun _ _ _ _ _ _ _ _ _ => by first | rfl | kernel_rfl⟩
theorem txtParted : InitText "pairs" (inClass (top 17) 0) := ⟨⟨_, _, _, _, rfl⟩, rfl, rfl, rfl, by decide +kernel, by decide +kernel, by decide, by decide, fun _ _ _ _ _ _ _ _ _ => by first | rfl | kernel_rfl, fun _ _ _ _ _ _ _ _ _ => by first | rfl | kernel_rfl⟩
theorem all_mk {l : PySem.W.OpenLaw} {w : World} {K : PySem.W.Frag} {h : Heap} {mg : Str → Option Value} {fa cInvalidName cInvalidNumber cInvalidValues cInvalidDeeds cInvalidText cInvalidCommand cNotAWord cNotAFormula cNotATest cNotAVariable cWrongNames cUnknownName cRefused cParted cBusy cNothingToUndo cTooMany cTooManyNames cTooManyClasses cInputError cStateError cLimitError jInvalidName jInvalidNumber jInvalidValues jInvalidDeeds jInvalidText jInvalidCommand jNotAWord jNotAFormula jNotATest jNotAVariable jWrongNames jUnknownName jRefused jParted f_law_number f_law_source f_law_draw f_law_thing f_law_by_place f_law_by_name f_law_fields f_law_sorts f_law_bases f_law_right flaw : Addr} {trank ttog tcls tnam : Tok} {odInvalidName anInvalidName odInvalidNumber anInvalidNumber odInvalidValues anInvalidValues odInvalidDeeds anInvalidDeeds odInvalidText anInvalidText odInvalidCommand anInvalidCommand odNotAWord anNotAWord odNotAFormula anNotAFormula odNotATest anNotATest odNotAVariable anNotAVariable odWrongNames anWrongNames odUnknownName anUnknownName odRefused anRefused odParted anParted od_law_number an_law_number od_law_source an_law_source od_law_draw an_law_draw od_law_thing an_law_thing od_law_by_place an_law_by_place od_law_by_name an_law_by_name od_law_fields an_law_fields od_law_sorts an_law_sorts od_law_bases an_law_bases od_law_right an_law_right odlaw anlaw : Option Addr} {slInvalidName slInvalidNumber slInvalidValues slInvalidDeeds slInvalidText slInvalidCommand slNotAWord slNotAFormula slNotATest slNotAVariable slWrongNames slUnknownName slRefused slParted sl_law_number sl_law_source sl_law_draw sl_law_thing sl_law_by_place sl_law_by_name sl_law_fields sl_law_sorts sl_law_bases sl_law_right sllaw : Array (Option Value)}
    {ocInvalidName kVInvalidName dcInvalidName pmInvalidName cdInvalidName ctInvalidName ocInvalidNumber kVInvalidNumber dcInvalidNumber pmInvalidNumber cdInvalidNumber ctInvalidNumber ocInvalidValues kVInvalidValues dcInvalidValues pmInvalidValues cdInvalidValues ctInvalidValues ocInvalidDeeds kVInvalidDeeds dcInvalidDeeds pmInvalidDeeds cdInvalidDeeds ctInvalidDeeds ocInvalidText kVInvalidText dcInvalidText pmInvalidText cdInvalidText ctInvalidText ocInvalidCommand kVInvalidCommand dcInvalidCommand pmInvalidCommand cdInvalidCommand ctInvalidCommand ocNotAWord kVNotAWord dcNotAWord pmNotAWord cdNotAWord ctNotAWord ocNotAFormula kVNotAFormula dcNotAFormula pmNotAFormula cdNotAFormula ctNotAFormula ocNotATest kVNotATest dcNotATest pmNotATest cdNotATest ctNotATest ocNotAVariable kVNotAVariable dcNotAVariable pmNotAVariable cdNotAVariable ctNotAVariable ocWrongNames kVWrongNames dcWrongNames pmWrongNames cdWrongNames ctWrongNames ocUnknownName kVUnknownName dcUnknownName pmUnknownName cdUnknownName ctUnknownName ocRefused kVRefused dcRefused pmRefused cdRefused ctRefused ocParted kVParted dcParted pmParted cdParted ctParted oc_law_number kV_law_number dc_law_number pm_law_number cd_law_number ct_law_number oc_law_source kV_law_source dc_law_source pm_law_source cd_law_source ct_law_source oc_law_draw kV_law_draw dc_law_draw pm_law_draw cd_law_draw ct_law_draw oc_law_thing kV_law_thing dc_law_thing pm_law_thing cd_law_thing ct_law_thing oc_law_by_place kV_law_by_place dc_law_by_place pm_law_by_place cd_law_by_place ct_law_by_place oc_law_by_name kV_law_by_name dc_law_by_name pm_law_by_name cd_law_by_name ct_law_by_name oc_law_fields kV_law_fields dc_law_fields pm_law_fields cd_law_fields ct_law_fields oc_law_sorts kV_law_sorts dc_law_sorts pm_law_sorts cd_law_sorts ct_law_sorts oc_law_bases kV_law_bases dc_law_bases pm_law_bases cd_law_bases ct_law_bases oc_law_right kV_law_right dc_law_right pm_law_right cd_law_right ct_law_right oclaw kVlaw dclaw pmlaw cdlaw ctlaw : Value} (X : K.In h) (G : h.Ns mainGlobals mg) (hfa : mg "law" = some (.ref fa))
    (aInvalidName : PySem.W.nsIn K mainGlobals "InvalidName" = some (some (.ref cInvalidName)))
    (aInvalidNumber : PySem.W.nsIn K mainGlobals "InvalidNumber" = some (some (.ref cInvalidNumber)))
    (aInvalidValues : PySem.W.nsIn K mainGlobals "InvalidValues" = some (some (.ref cInvalidValues)))
    (aInvalidDeeds : PySem.W.nsIn K mainGlobals "InvalidDeeds" = some (some (.ref cInvalidDeeds)))
    (aInvalidText : PySem.W.nsIn K mainGlobals "InvalidText" = some (some (.ref cInvalidText)))
    (aInvalidCommand : PySem.W.nsIn K mainGlobals "InvalidCommand" = some (some (.ref cInvalidCommand)))
    (aNotAWord : PySem.W.nsIn K mainGlobals "NotAWord" = some (some (.ref cNotAWord)))
    (aNotAFormula : PySem.W.nsIn K mainGlobals "NotAFormula" = some (some (.ref cNotAFormula)))
    (aNotATest : PySem.W.nsIn K mainGlobals "NotATest" = some (some (.ref cNotATest)))
    (aNotAVariable : PySem.W.nsIn K mainGlobals "NotAVariable" = some (some (.ref cNotAVariable)))
    (aWrongNames : PySem.W.nsIn K mainGlobals "WrongNames" = some (some (.ref cWrongNames)))
    (aUnknownName : PySem.W.nsIn K mainGlobals "UnknownName" = some (some (.ref cUnknownName)))
    (aRefused : PySem.W.nsIn K mainGlobals "Refused" = some (some (.ref cRefused)))
    (aParted : PySem.W.nsIn K mainGlobals "Parted" = some (some (.ref cParted)))
    (aBusy : PySem.W.nsIn K mainGlobals "Busy" = some (some (.ref cBusy)))
    (aNothingToUndo : PySem.W.nsIn K mainGlobals "NothingToUndo" = some (some (.ref cNothingToUndo)))
    (aTooMany : PySem.W.nsIn K mainGlobals "TooMany" = some (some (.ref cTooMany)))
    (aTooManyNames : PySem.W.nsIn K mainGlobals "TooManyNames" = some (some (.ref cTooManyNames)))
    (aTooManyClasses : PySem.W.nsIn K mainGlobals "TooManyClasses" = some (some (.ref cTooManyClasses)))
    (aInputError : PySem.W.nsIn K mainGlobals "InputError" = some (some (.ref cInputError)))
    (aStateError : PySem.W.nsIn K mainGlobals "StateError" = some (some (.ref cStateError)))
    (aLimitError : PySem.W.nsIn K mainGlobals "LimitError" = some (some (.ref cLimitError)))
    (iInvalidName : PySem.W.findIn K (.ref cInvalidName) "__init__" = some (some (.ref jInvalidName)))
    (iInvalidNumber : PySem.W.findIn K (.ref cInvalidNumber) "__init__" = some (some (.ref jInvalidNumber)))
    (iInvalidValues : PySem.W.findIn K (.ref cInvalidValues) "__init__" = some (some (.ref jInvalidValues)))
    (iInvalidDeeds : PySem.W.findIn K (.ref cInvalidDeeds) "__init__" = some (some (.ref jInvalidDeeds)))
    (iInvalidText : PySem.W.findIn K (.ref cInvalidText) "__init__" = some (some (.ref jInvalidText)))
    (iInvalidCommand : PySem.W.findIn K (.ref cInvalidCommand) "__init__" = some (some (.ref jInvalidCommand)))
    (iNotAWord : PySem.W.findIn K (.ref cNotAWord) "__init__" = some (some (.ref jNotAWord)))
    (iNotAFormula : PySem.W.findIn K (.ref cNotAFormula) "__init__" = some (some (.ref jNotAFormula)))
    (iNotATest : PySem.W.findIn K (.ref cNotATest) "__init__" = some (some (.ref jNotATest)))
    (iNotAVariable : PySem.W.findIn K (.ref cNotAVariable) "__init__" = some (some (.ref jNotAVariable)))
    (iWrongNames : PySem.W.findIn K (.ref cWrongNames) "__init__" = some (some (.ref jWrongNames)))
    (iUnknownName : PySem.W.findIn K (.ref cUnknownName) "__init__" = some (some (.ref jUnknownName)))
    (iRefused : PySem.W.findIn K (.ref cRefused) "__init__" = some (some (.ref jRefused)))
    (iParted : PySem.W.findIn K (.ref cParted) "__init__" = some (some (.ref jParted)))
    (lInvalidName : K.lookup jInvalidName = some ⟨ocInvalidName, odInvalidName, .func (PySem.W.fnOf "__init__" "InvalidName.__init__" (defArgs (inClass (top 4) 0)) (defBody (inClass (top 4) 0)) (defScope (inClass (top 4) 0)) .none kVInvalidName dcInvalidName pmInvalidName anInvalidName cdInvalidName ctInvalidName), slInvalidName⟩)
    (dInvalidName : PySem.W.codeIn K cdInvalidName "InvalidName.__init__" = true)
    (bInvalidName : initB K "name" cInvalidName jInvalidName "ValueError.__new__" tlV = true)
    (lInvalidNumber : K.lookup jInvalidNumber = some ⟨ocInvalidNumber, odInvalidNumber, .func (PySem.W.fnOf "__init__" "InvalidNumber.__init__" (defArgs (inClass (top 5) 0)) (defBody (inClass (top 5) 0)) (defScope (inClass (top 5) 0)) .none kVInvalidNumber dcInvalidNumber pmInvalidNumber anInvalidNumber cdInvalidNumber ctInvalidNumber), slInvalidNumber⟩)
    (dInvalidNumber : PySem.W.codeIn K cdInvalidNumber "InvalidNumber.__init__" = true)
    (bInvalidNumber : initB K "number" cInvalidNumber jInvalidNumber "ValueError.__new__" tlV = true)
    (lInvalidValues : K.lookup jInvalidValues = some ⟨ocInvalidValues, odInvalidValues, .func (PySem.W.fnOf "__init__" "InvalidValues.__init__" (defArgs (inClass (top 6) 0)) (defBody (inClass (top 6) 0)) (defScope (inClass (top 6) 0)) .none kVInvalidValues dcInvalidValues pmInvalidValues anInvalidValues cdInvalidValues ctInvalidValues), slInvalidValues⟩)
    (dInvalidValues : PySem.W.codeIn K cdInvalidValues "InvalidValues.__init__" = true)
    (bInvalidValues : initB K "index" cInvalidValues jInvalidValues "ValueError.__new__" tlV = true)
    (lInvalidDeeds : K.lookup jInvalidDeeds = some ⟨ocInvalidDeeds, odInvalidDeeds, .func (PySem.W.fnOf "__init__" "InvalidDeeds.__init__" (defArgs (inClass (top 7) 0)) (defBody (inClass (top 7) 0)) (defScope (inClass (top 7) 0)) .none kVInvalidDeeds dcInvalidDeeds pmInvalidDeeds anInvalidDeeds cdInvalidDeeds ctInvalidDeeds), slInvalidDeeds⟩)
    (dInvalidDeeds : PySem.W.codeIn K cdInvalidDeeds "InvalidDeeds.__init__" = true)
    (bInvalidDeeds : initB K "index" cInvalidDeeds jInvalidDeeds "ValueError.__new__" tlV = true)
    (lInvalidText : K.lookup jInvalidText = some ⟨ocInvalidText, odInvalidText, .func (PySem.W.fnOf "__init__" "InvalidText.__init__" (defArgs (inClass (top 8) 0)) (defBody (inClass (top 8) 0)) (defScope (inClass (top 8) 0)) .none kVInvalidText dcInvalidText pmInvalidText anInvalidText cdInvalidText ctInvalidText), slInvalidText⟩)
    (dInvalidText : PySem.W.codeIn K cdInvalidText "InvalidText.__init__" = true)
    (bInvalidText : initB K "text" cInvalidText jInvalidText "ValueError.__new__" tlV = true)
    (lInvalidCommand : K.lookup jInvalidCommand = some ⟨ocInvalidCommand, odInvalidCommand, .func (PySem.W.fnOf "__init__" "InvalidCommand.__init__" (defArgs (inClass (top 9) 0)) (defBody (inClass (top 9) 0)) (defScope (inClass (top 9) 0)) .none kVInvalidCommand dcInvalidCommand pmInvalidCommand anInvalidCommand cdInvalidCommand ctInvalidCommand), slInvalidCommand⟩)
    (dInvalidCommand : PySem.W.codeIn K cdInvalidCommand "InvalidCommand.__init__" = true)
    (bInvalidCommand : initB K "command" cInvalidCommand jInvalidCommand "ValueError.__new__" tlV = true)
    (lNotAWord : K.lookup jNotAWord = some ⟨ocNotAWord, odNotAWord, .func (PySem.W.fnOf "__init__" "NotAWord.__init__" (defArgs (inClass (top 10) 0)) (defBody (inClass (top 10) 0)) (defScope (inClass (top 10) 0)) .none kVNotAWord dcNotAWord pmNotAWord anNotAWord cdNotAWord ctNotAWord), slNotAWord⟩)
    (dNotAWord : PySem.W.codeIn K cdNotAWord "NotAWord.__init__" = true)
    (bNotAWord : initB K "value" cNotAWord jNotAWord "ValueError.__new__" tlV = true)
    (lNotAFormula : K.lookup jNotAFormula = some ⟨ocNotAFormula, odNotAFormula, .func (PySem.W.fnOf "__init__" "NotAFormula.__init__" (defArgs (inClass (top 11) 0)) (defBody (inClass (top 11) 0)) (defScope (inClass (top 11) 0)) .none kVNotAFormula dcNotAFormula pmNotAFormula anNotAFormula cdNotAFormula ctNotAFormula), slNotAFormula⟩)
    (dNotAFormula : PySem.W.codeIn K cdNotAFormula "NotAFormula.__init__" = true)
    (bNotAFormula : initB K "value" cNotAFormula jNotAFormula "ValueError.__new__" tlV = true)
    (lNotATest : K.lookup jNotATest = some ⟨ocNotATest, odNotATest, .func (PySem.W.fnOf "__init__" "NotATest.__init__" (defArgs (inClass (top 12) 0)) (defBody (inClass (top 12) 0)) (defScope (inClass (top 12) 0)) .none kVNotATest dcNotATest pmNotATest anNotATest cdNotATest ctNotATest), slNotATest⟩)
    (dNotATest : PySem.W.codeIn K cdNotATest "NotATest.__init__" = true)
    (bNotATest : initB K "value" cNotATest jNotATest "ValueError.__new__" tlV = true)
    (lNotAVariable : K.lookup jNotAVariable = some ⟨ocNotAVariable, odNotAVariable, .func (PySem.W.fnOf "__init__" "NotAVariable.__init__" (defArgs (inClass (top 13) 0)) (defBody (inClass (top 13) 0)) (defScope (inClass (top 13) 0)) .none kVNotAVariable dcNotAVariable pmNotAVariable anNotAVariable cdNotAVariable ctNotAVariable), slNotAVariable⟩)
    (dNotAVariable : PySem.W.codeIn K cdNotAVariable "NotAVariable.__init__" = true)
    (bNotAVariable : initB K "value" cNotAVariable jNotAVariable "ValueError.__new__" tlV = true)
    (lWrongNames : K.lookup jWrongNames = some ⟨ocWrongNames, odWrongNames, .func (PySem.W.fnOf "__init__" "WrongNames.__init__" (defArgs (inClass (top 14) 0)) (defBody (inClass (top 14) 0)) (defScope (inClass (top 14) 0)) .none kVWrongNames dcWrongNames pmWrongNames anWrongNames cdWrongNames ctWrongNames), slWrongNames⟩)
    (dWrongNames : PySem.W.codeIn K cdWrongNames "WrongNames.__init__" = true)
    (bWrongNames : initB K "name" cWrongNames jWrongNames "ValueError.__new__" tlV = true)
    (lUnknownName : K.lookup jUnknownName = some ⟨ocUnknownName, odUnknownName, .func (PySem.W.fnOf "__init__" "UnknownName.__init__" (defArgs (inClass (top 15) 0)) (defBody (inClass (top 15) 0)) (defScope (inClass (top 15) 0)) .none kVUnknownName dcUnknownName pmUnknownName anUnknownName cdUnknownName ctUnknownName), slUnknownName⟩)
    (dUnknownName : PySem.W.codeIn K cdUnknownName "UnknownName.__init__" = true)
    (bUnknownName : initB K "name" cUnknownName jUnknownName "LookupError.__new__" tlL = true)
    (lRefused : K.lookup jRefused = some ⟨ocRefused, odRefused, .func (PySem.W.fnOf "__init__" "Refused.__init__" (defArgs (inClass (top 16) 0)) (defBody (inClass (top 16) 0)) (defScope (inClass (top 16) 0)) .none kVRefused dcRefused pmRefused anRefused cdRefused ctRefused), slRefused⟩)
    (dRefused : PySem.W.codeIn K cdRefused "Refused.__init__" = true)
    (bRefused : initB K "index" cRefused jRefused "LookupError.__new__" tlL = true)
    (lParted : K.lookup jParted = some ⟨ocParted, odParted, .func (PySem.W.fnOf "__init__" "Parted.__init__" (defArgs (inClass (top 17) 0)) (defBody (inClass (top 17) 0)) (defScope (inClass (top 17) 0)) .none kVParted dcParted pmParted anParted cdParted ctParted), slParted⟩)
    (dParted : PySem.W.codeIn K cdParted "Parted.__init__" = true)
    (bParted : initB K "pairs" cParted jParted "LookupError.__new__" tlL = true)
    (eBusy : PySem.W.excIn K cBusy tlL "LookupError.__new__" = true)
    (kBusy : PySem.W.keepIn K (.ref cBusy) = true)
    (eNothingToUndo : PySem.W.excIn K cNothingToUndo tlL "LookupError.__new__" = true)
    (kNothingToUndo : PySem.W.keepIn K (.ref cNothingToUndo) = true)
    (eTooMany : PySem.W.excIn K cTooMany tlA "ArithmeticError.__new__" = true)
    (kTooMany : PySem.W.keepIn K (.ref cTooMany) = true)
    (eTooManyNames : PySem.W.excIn K cTooManyNames tlA "ArithmeticError.__new__" = true)
    (kTooManyNames : PySem.W.keepIn K (.ref cTooManyNames) = true)
    (eTooManyClasses : PySem.W.excIn K cTooManyClasses tlA "ArithmeticError.__new__" = true)
    (kTooManyClasses : PySem.W.keepIn K (.ref cTooManyClasses) = true)
    (gt : PySem.W.specialIn K (.builtin "object.__class__") "__get__" = some (some (.builtin "getset_descriptor.__get__")))
    (tk : PySem.W.takesIn K (.builtin "object.__class__") = some true)
    (xis : ([cInvalidName, cInvalidNumber, cInvalidValues, cInvalidDeeds, cInvalidText, cInvalidCommand, cNotAWord, cNotAFormula, cNotATest, cNotAVariable, cWrongNames, cUnknownName, cRefused, cParted, cBusy, cNothingToUndo, cTooMany, cTooManyNames, cTooManyClasses]).all (xisB K) = true)
    (kt : kitTab K [cInvalidName, cInvalidNumber, cInvalidValues, cInvalidDeeds, cInvalidText, cInvalidCommand, cNotAWord, cNotAFormula, cNotATest, cNotAVariable, cWrongNames, cUnknownName, cRefused, cParted, cBusy, cNothingToUndo, cTooMany, cTooManyNames, cTooManyClasses] ([cInvalidName, cInvalidNumber, cInvalidValues, cInvalidDeeds, cInvalidText, cInvalidCommand, cNotAWord, cNotAFormula, cNotATest, cNotAVariable, cWrongNames, cUnknownName, cRefused, cParted, cBusy, cNothingToUndo, cTooMany, cTooManyNames, cTooManyClasses].map Value.ref) (fun i j => i == j) = true)
    (kb : kitTab K [cInvalidName, cInvalidNumber, cInvalidValues, cInvalidDeeds, cInvalidText, cInvalidCommand, cNotAWord, cNotAFormula, cNotATest, cNotAVariable, cWrongNames, cUnknownName, cRefused, cParted, cBusy, cNothingToUndo, cTooMany, cTooManyNames, cTooManyClasses] [.ref cInputError, .ref cStateError, .ref cLimitError, .type "ValueError", .type "LookupError", .type "ArithmeticError"] (fun i j => baseOf i == j % 3) = true)
    (a_law_number : PySem.W.nsIn K mainGlobals "_law_number" = some (some (.ref f_law_number)))
    (l_law_number : K.lookup f_law_number = some ⟨oc_law_number, od_law_number, .func (PySem.W.fnOf "_law_number" "_law_number" (defArgs sNumber) (defBody sNumber) (defScope sNumber) .none kV_law_number dc_law_number pm_law_number an_law_number cd_law_number ct_law_number), sl_law_number⟩)
    (d_law_number : PySem.W.codeIn K cd_law_number "_law_number" = true)
    (k_law_number : PySem.W.keepIn K (.ref f_law_number) = true)
    (a_law_source : PySem.W.nsIn K mainGlobals "_law_source" = some (some (.ref f_law_source)))
    (l_law_source : K.lookup f_law_source = some ⟨oc_law_source, od_law_source, .func (PySem.W.fnOf "_law_source" "_law_source" (defArgs sSource) (defBody sSource) (defScope sSource) .none kV_law_source dc_law_source pm_law_source an_law_source cd_law_source ct_law_source), sl_law_source⟩)
    (d_law_source : PySem.W.codeIn K cd_law_source "_law_source" = true)
    (k_law_source : PySem.W.keepIn K (.ref f_law_source) = true)
    (a_law_draw : PySem.W.nsIn K mainGlobals "_law_draw" = some (some (.ref f_law_draw)))
    (l_law_draw : K.lookup f_law_draw = some ⟨oc_law_draw, od_law_draw, .func (PySem.W.fnOf "_law_draw" "_law_draw" (defArgs sDraw) (defBody sDraw) (defScope sDraw) .none kV_law_draw dc_law_draw pm_law_draw an_law_draw cd_law_draw ct_law_draw), sl_law_draw⟩)
    (d_law_draw : PySem.W.codeIn K cd_law_draw "_law_draw" = true)
    (k_law_draw : PySem.W.keepIn K (.ref f_law_draw) = true)
    (a_law_thing : PySem.W.nsIn K mainGlobals "_law_thing" = some (some (.ref f_law_thing)))
    (l_law_thing : K.lookup f_law_thing = some ⟨oc_law_thing, od_law_thing, .func (PySem.W.fnOf "_law_thing" "_law_thing" (defArgs sThing) (defBody sThing) (defScope sThing) .none kV_law_thing dc_law_thing pm_law_thing an_law_thing cd_law_thing ct_law_thing), sl_law_thing⟩)
    (d_law_thing : PySem.W.codeIn K cd_law_thing "_law_thing" = true)
    (k_law_thing : PySem.W.keepIn K (.ref f_law_thing) = true)
    (a_law_by_place : PySem.W.nsIn K mainGlobals "_law_by_place" = some (some (.ref f_law_by_place)))
    (l_law_by_place : K.lookup f_law_by_place = some ⟨oc_law_by_place, od_law_by_place, .func (PySem.W.fnOf "_law_by_place" "_law_by_place" (defArgs sPlace) (defBody sPlace) (defScope sPlace) .none kV_law_by_place dc_law_by_place pm_law_by_place an_law_by_place cd_law_by_place ct_law_by_place), sl_law_by_place⟩)
    (d_law_by_place : PySem.W.codeIn K cd_law_by_place "_law_by_place" = true)
    (k_law_by_place : PySem.W.keepIn K (.ref f_law_by_place) = true)
    (a_law_by_name : PySem.W.nsIn K mainGlobals "_law_by_name" = some (some (.ref f_law_by_name)))
    (l_law_by_name : K.lookup f_law_by_name = some ⟨oc_law_by_name, od_law_by_name, .func (PySem.W.fnOf "_law_by_name" "_law_by_name" (defArgs sName) (defBody sName) (defScope sName) .none kV_law_by_name dc_law_by_name pm_law_by_name an_law_by_name cd_law_by_name ct_law_by_name), sl_law_by_name⟩)
    (d_law_by_name : PySem.W.codeIn K cd_law_by_name "_law_by_name" = true)
    (k_law_by_name : PySem.W.keepIn K (.ref f_law_by_name) = true)
    (a_law_fields : PySem.W.nsIn K mainGlobals "_law_fields" = some (some (.ref f_law_fields)))
    (l_law_fields : K.lookup f_law_fields = some ⟨oc_law_fields, od_law_fields, .func (PySem.W.fnOf "_law_fields" "_law_fields" (defArgs sFields) (defBody sFields) (defScope sFields) .none kV_law_fields dc_law_fields pm_law_fields an_law_fields cd_law_fields ct_law_fields), sl_law_fields⟩)
    (d_law_fields : PySem.W.codeIn K cd_law_fields "_law_fields" = true)
    (k_law_fields : PySem.W.keepIn K (.ref f_law_fields) = true)
    (a_law_sorts : PySem.W.nsIn K mainGlobals "_law_sorts" = some (some (.ref f_law_sorts)))
    (l_law_sorts : K.lookup f_law_sorts = some ⟨oc_law_sorts, od_law_sorts, .func (PySem.W.fnOf "_law_sorts" "_law_sorts" (defArgs sSorts) (defBody sSorts) (defScope sSorts) .none kV_law_sorts dc_law_sorts pm_law_sorts an_law_sorts cd_law_sorts ct_law_sorts), sl_law_sorts⟩)
    (d_law_sorts : PySem.W.codeIn K cd_law_sorts "_law_sorts" = true)
    (k_law_sorts : PySem.W.keepIn K (.ref f_law_sorts) = true)
    (a_law_bases : PySem.W.nsIn K mainGlobals "_law_bases" = some (some (.ref f_law_bases)))
    (l_law_bases : K.lookup f_law_bases = some ⟨oc_law_bases, od_law_bases, .func (PySem.W.fnOf "_law_bases" "_law_bases" (defArgs sBases) (defBody sBases) (defScope sBases) .none kV_law_bases dc_law_bases pm_law_bases an_law_bases cd_law_bases ct_law_bases), sl_law_bases⟩)
    (d_law_bases : PySem.W.codeIn K cd_law_bases "_law_bases" = true)
    (k_law_bases : PySem.W.keepIn K (.ref f_law_bases) = true)
    (a_law_right : PySem.W.nsIn K mainGlobals "_law_right" = some (some (.ref f_law_right)))
    (l_law_right : K.lookup f_law_right = some ⟨oc_law_right, od_law_right, .func (PySem.W.fnOf "_law_right" "_law_right" (defArgs sRight) (defBody sRight) (defScope sRight) .none kV_law_right dc_law_right pm_law_right an_law_right cd_law_right ct_law_right), sl_law_right⟩)
    (d_law_right : PySem.W.codeIn K cd_law_right "_law_right" = true)
    (k_law_right : PySem.W.keepIn K (.ref f_law_right) = true)
    (alaw : PySem.W.nsIn K mainGlobals "law" = some (some (.ref flaw)))
    (llaw : K.lookup flaw = some ⟨oclaw, odlaw, .func (PySem.W.fnOf "law" "law" (defArgs sLaw) (defBody sLaw) (defScope sLaw) .none kVlaw dclaw pmlaw anlaw cdlaw ctlaw), sllaw⟩)
    (dlaw : PySem.W.codeIn K cdlaw "law" = true)
    (klaw : PySem.W.keepIn K (.ref flaw) = true)
    (zlen : PySem.W.nsIn K mainGlobals "len" = some none)
    (zint : PySem.W.nsIn K mainGlobals "int" = some none)
    (zabs : PySem.W.nsIn K mainGlobals "abs" = some none)
    (zdvm : PySem.W.nsIn K mainGlobals "divmod" = some none)
    (zstr : PySem.W.nsIn K mainGlobals "str" = some none)
    (zrepr : PySem.W.nsIn K mainGlobals "repr" = some none)
    (zrange : PySem.W.nsIn K mainGlobals "range" = some none)
    (zenum : PySem.W.nsIn K mainGlobals "enumerate" = some none)
    (zall : PySem.W.nsIn K mainGlobals "all" = some none)
    (zmax : PySem.W.nsIn K mainGlobals "max" = some none)
    (zmin : PySem.W.nsIn K mainGlobals "min" = some none)
    (zisi : PySem.W.nsIn K mainGlobals "isinstance" = some none)
    (zvE : PySem.W.nsIn K mainGlobals "ValueError" = some none)
    (zlE : PySem.W.nsIn K mainGlobals "LookupError" = some none)
    (zaE : PySem.W.nsIn K mainGlobals "ArithmeticError" = some none)
    (vrank : PySem.W.nsIn K mainGlobals "RANK" = some (some (.int 16 trank)))
    (vtog : PySem.W.nsIn K mainGlobals "TOGETHER" = some (some (.int 64 ttog)))
    (vcls : PySem.W.nsIn K mainGlobals "CLASSES" = some (some (.int 256 tcls)))
    (vnam : PySem.W.nsIn K mainGlobals "NAMES" = some (some (.int 3 tnam)))
    : ∃ fd : FuncData, (∀ (s : Shared) (v : Value), BindsTo s fd ⟨[v], []⟩ [("_law_script", v)]) ∧ ∀ base : Heap, K.In base → base.Ns mainGlobals mg → FnG l.prog w K mg base CX0 4 fa fd ["_law_script"] (spLaw K) := by
  have e := hfa.symm.trans (PySem.W.mg_of X G alaw)
  cases e
  let c : Cs := { InvalidName := cInvalidName, InvalidNumber := cInvalidNumber, InvalidValues := cInvalidValues, InvalidDeeds := cInvalidDeeds, InvalidText := cInvalidText, InvalidCommand := cInvalidCommand, NotAWord := cNotAWord, NotAFormula := cNotAFormula, NotATest := cNotATest, NotAVariable := cNotAVariable, WrongNames := cWrongNames, UnknownName := cUnknownName, Refused := cRefused, Parted := cParted, Busy := cBusy, NothingToUndo := cNothingToUndo, TooMany := cTooMany, TooManyNames := cTooManyNames, TooManyClasses := cTooManyClasses, iInvalidName := jInvalidName, iInvalidNumber := jInvalidNumber, iInvalidValues := jInvalidValues, iInvalidDeeds := jInvalidDeeds, iInvalidText := jInvalidText, iInvalidCommand := jInvalidCommand, iNotAWord := jNotAWord, iNotAFormula := jNotAFormula, iNotATest := jNotATest, iNotAVariable := jNotAVariable, iWrongNames := jWrongNames, iUnknownName := jUnknownName, iRefused := jRefused, iParted := jParted, InputError := cInputError, StateError := cStateError, LimitError := cLimitError }
  have B : TxtB mg := ⟨PySem.W.mg_none_of X G zlen, PySem.W.mg_none_of X G zint, PySem.W.mg_none_of X G zabs, PySem.W.mg_none_of X G zdvm, PySem.W.mg_none_of X G zstr, PySem.W.mg_none_of X G zrepr, PySem.W.mg_none_of X G zrange, PySem.W.mg_none_of X G zenum, PySem.W.mg_none_of X G zall, PySem.W.mg_none_of X G zmax, PySem.W.mg_none_of X G zmin, PySem.W.mg_none_of X G zisi, PySem.W.mg_none_of X G zvE, PySem.W.mg_none_of X G zlE, PySem.W.mg_none_of X G zaE⟩
  have L : TxtL mg := ⟨⟨_, PySem.W.mg_of X G vrank⟩, ⟨_, PySem.W.mg_of X G vtog⟩, ⟨_, PySem.W.mg_of X G vcls⟩, ⟨_, PySem.W.mg_of X G vnam⟩⟩
  have hx : ∀ e ∈ c.all, XIs K e ∧ XGet K e := fun e he => xis_ok ⟨gt, tk⟩ (List.all_eq_true.mp xis e he)
  have xInvalidName : XTxt K "name" cInvalidName jInvalidName (inClass (top 4) 0) "ValueError.__new__" tlV := xtxt_mk tail_VE bInvalidName txtInvalidName lInvalidName dInvalidName
  have xInvalidNumber : XTxt K "number" cInvalidNumber jInvalidNumber (inClass (top 5) 0) "ValueError.__new__" tlV := xtxt_mk tail_VE bInvalidNumber txtInvalidNumber lInvalidNumber dInvalidNumber
  have xInvalidValues : XTxt K "index" cInvalidValues jInvalidValues (inClass (top 6) 0) "ValueError.__new__" tlV := xtxt_mk tail_VE bInvalidValues txtInvalidValues lInvalidValues dInvalidValues
  have xInvalidDeeds : XTxt K "index" cInvalidDeeds jInvalidDeeds (inClass (top 7) 0) "ValueError.__new__" tlV := xtxt_mk tail_VE bInvalidDeeds txtInvalidDeeds lInvalidDeeds dInvalidDeeds
  have xInvalidText : XTxt K "text" cInvalidText jInvalidText (inClass (top 8) 0) "ValueError.__new__" tlV := xtxt_mk tail_VE bInvalidText txtInvalidText lInvalidText dInvalidText
  have xInvalidCommand : XTxt K "command" cInvalidCommand jInvalidCommand (inClass (top 9) 0) "ValueError.__new__" tlV := xtxt_mk tail_VE bInvalidCommand txtInvalidCommand lInvalidCommand dInvalidCommand
  have xNotAWord : XTxt K "value" cNotAWord jNotAWord (inClass (top 10) 0) "ValueError.__new__" tlV := xtxt_mk tail_VE bNotAWord txtNotAWord lNotAWord dNotAWord
  have xNotAFormula : XTxt K "value" cNotAFormula jNotAFormula (inClass (top 11) 0) "ValueError.__new__" tlV := xtxt_mk tail_VE bNotAFormula txtNotAFormula lNotAFormula dNotAFormula
  have xNotATest : XTxt K "value" cNotATest jNotATest (inClass (top 12) 0) "ValueError.__new__" tlV := xtxt_mk tail_VE bNotATest txtNotATest lNotATest dNotATest
  have xNotAVariable : XTxt K "value" cNotAVariable jNotAVariable (inClass (top 13) 0) "ValueError.__new__" tlV := xtxt_mk tail_VE bNotAVariable txtNotAVariable lNotAVariable dNotAVariable
  have xWrongNames : XTxt K "name" cWrongNames jWrongNames (inClass (top 14) 0) "ValueError.__new__" tlV := xtxt_mk tail_VE bWrongNames txtWrongNames lWrongNames dWrongNames
  have xUnknownName : XTxt K "name" cUnknownName jUnknownName (inClass (top 15) 0) "LookupError.__new__" tlL := xtxt_mk tail_LE bUnknownName txtUnknownName lUnknownName dUnknownName
  have xRefused : XTxt K "index" cRefused jRefused (inClass (top 16) 0) "LookupError.__new__" tlL := xtxt_mk tail_LE bRefused txtRefused lRefused dRefused
  have xParted : XTxt K "pairs" cParted jParted (inClass (top 17) 0) "LookupError.__new__" tlL := xtxt_mk tail_LE bParted txtParted lParted dParted
  have hget : ∀ (i : Nat) (e : Addr) (f : Str), c.kinds[i]? = some (e, some f) → XGet K e ∧ PySem.W.findIn K (.ref e) f = some none := fun i e f he => by
    refine ⟨(hx e (List.mem_of_getElem? (kinds_all i _ he))).2, ?_⟩
    have m := List.mem_of_getElem? he
    simp only [Cs.kinds, List.mem_cons, List.mem_nil_iff, or_false, Prod.mk.injEq, Option.some.injEq] at m
    rcases m with ⟨rfl, rfl⟩ | ⟨rfl, rfl⟩ | ⟨rfl, rfl⟩ | ⟨rfl, rfl⟩ | ⟨rfl, rfl⟩ | ⟨rfl, rfl⟩ | ⟨rfl, rfl⟩ | ⟨rfl, rfl⟩ | ⟨rfl, rfl⟩ | ⟨rfl, rfl⟩ | ⟨rfl, rfl⟩ | ⟨rfl, rfl⟩ | ⟨rfl, rfl⟩ | ⟨rfl, rfl⟩ | ⟨_, m⟩ | ⟨_, m⟩ | ⟨_, m⟩ | ⟨_, m⟩ | ⟨_, m⟩
    · exact xInvalidName.noN
    · exact xInvalidNumber.noN
    · exact xInvalidValues.noN
    · exact xInvalidDeeds.noN
    · exact xInvalidText.noN
    · exact xInvalidCommand.noN
    · exact xNotAWord.noN
    · exact xNotAFormula.noN
    · exact xNotATest.noN
    · exact xNotAVariable.noN
    · exact xWrongNames.noN
    · exact xUnknownName.noN
    · exact xRefused.noN
    · exact xParted.noN
    · cases m
    · cases m
    · cases m
    · cases m
    · cases m
  have C : TxtC K mg c := {
    gInvalidName := PySem.W.mg_of X G aInvalidName,
    gInvalidNumber := PySem.W.mg_of X G aInvalidNumber,
    gInvalidValues := PySem.W.mg_of X G aInvalidValues,
    gInvalidDeeds := PySem.W.mg_of X G aInvalidDeeds,
    gInvalidText := PySem.W.mg_of X G aInvalidText,
    gInvalidCommand := PySem.W.mg_of X G aInvalidCommand,
    gNotAWord := PySem.W.mg_of X G aNotAWord,
    gNotAFormula := PySem.W.mg_of X G aNotAFormula,
    gNotATest := PySem.W.mg_of X G aNotATest,
    gNotAVariable := PySem.W.mg_of X G aNotAVariable,
    gWrongNames := PySem.W.mg_of X G aWrongNames,
    gUnknownName := PySem.W.mg_of X G aUnknownName,
    gRefused := PySem.W.mg_of X G aRefused,
    gParted := PySem.W.mg_of X G aParted,
    gBusy := PySem.W.mg_of X G aBusy,
    gNothingToUndo := PySem.W.mg_of X G aNothingToUndo,
    gTooMany := PySem.W.mg_of X G aTooMany,
    gTooManyNames := PySem.W.mg_of X G aTooManyNames,
    gTooManyClasses := PySem.W.mg_of X G aTooManyClasses,
    gInputError := PySem.W.mg_of X G aInputError,
    gStateError := PySem.W.mg_of X G aStateError,
    gLimitError := PySem.W.mg_of X G aLimitError,
    xInvalidName := xInvalidName,
    xInvalidNumber := xInvalidNumber,
    xInvalidValues := xInvalidValues,
    xInvalidDeeds := xInvalidDeeds,
    xInvalidText := xInvalidText,
    xInvalidCommand := xInvalidCommand,
    xNotAWord := xNotAWord,
    xNotAFormula := xNotAFormula,
    xNotATest := xNotATest,
    xNotAVariable := xNotAVariable,
    xWrongNames := xWrongNames,
    xUnknownName := xUnknownName,
    xRefused := xRefused,
    xParted := xParted,
    xBusy := ⟨eBusy, kBusy⟩,
    xNothingToUndo := ⟨eNothingToUndo, kNothingToUndo⟩,
    xTooMany := ⟨eTooMany, kTooMany⟩,
    xTooManyNames := ⟨eTooManyNames, kTooManyNames⟩,
    xTooManyClasses := ⟨eTooManyClasses, kTooManyClasses⟩,
    get := hget,
    is := fun e he => (hx e he).1,
    kit := fun i j a b ha hb => kitTab_ok kt i j a (.ref b) ha (by rw [List.getElem?_map]; exact congrArg (Option.map Value.ref) hb),
    kitB := fun i a ha j b hb => kitTab_ok kb i j a b ha hb }
  have A_law_number := at_mk (st := sNumber) (ps := ["_law_script", "_law_k"]) X G a_law_number l_law_number d_law_number k_law_number fun _ _ _ _ _ _ us hl => match us, hl with | [_, _], _ => rfl
  have A_law_source := at_mk (st := sSource) (ps := ["_law_drawn"]) X G a_law_source l_law_source d_law_source k_law_source fun _ _ _ _ _ _ us hl => match us, hl with | [_], _ => rfl
  have A_law_draw := at_mk (st := sDraw) (ps := ["_law_source_here", "_law_many"]) X G a_law_draw l_law_draw d_law_draw k_law_draw fun _ _ _ _ _ _ us hl => match us, hl with | [_, _], _ => rfl
  have A_law_thing := at_mk (st := sThing) (ps := ["_law_source_here"]) X G a_law_thing l_law_thing d_law_thing k_law_thing fun _ _ _ _ _ _ us hl => match us, hl with | [_], _ => rfl
  have A_law_by_place := at_mk (st := sPlace) (ps := ["_law_x"]) X G a_law_by_place l_law_by_place d_law_by_place k_law_by_place fun _ _ _ _ _ _ us hl => match us, hl with | [_], _ => rfl
  have A_law_by_name := at_mk (st := sName) (ps := ["_law_x"]) X G a_law_by_name l_law_by_name d_law_by_name k_law_by_name fun _ _ _ _ _ _ us hl => match us, hl with | [_], _ => rfl
  have A_law_fields := at_mk (st := sFields) (ps := ["_law_made_here"]) X G a_law_fields l_law_fields d_law_fields k_law_fields fun _ _ _ _ _ _ us hl => match us, hl with | [_], _ => rfl
  have A_law_sorts := at_mk (st := sSorts) (ps := ["_law_e"]) X G a_law_sorts l_law_sorts d_law_sorts k_law_sorts fun _ _ _ _ _ _ us hl => match us, hl with | [_], _ => rfl
  have A_law_bases := at_mk (st := sBases) (ps := ["_law_e"]) X G a_law_bases l_law_bases d_law_bases k_law_bases fun _ _ _ _ _ _ us hl => match us, hl with | [_], _ => rfl
  have A_law_right := at_mk (st := sRight) (ps := ["_law_source_here"]) X G a_law_right l_law_right d_law_right k_law_right fun _ _ _ _ _ _ us hl => match us, hl with | [_], _ => rfl
  have Alaw := at_mk (st := sLaw) (ps := ["_law_script"]) X G alaw llaw dlaw klaw fun _ _ _ _ _ _ us hl => match us, hl with | [_], _ => rfl
  exact ⟨_, fun s v => .of_eq rfl, fun base _ _ => ok_law Alaw.fn ⟨A_law_thing, A_law_by_place, A_law_by_name, A_law_fields, A_law_sorts, A_law_bases⟩ A_law_draw A_law_right A_law_source A_law_number C B L⟩
end K01


set_option Elab.async false
open PySem PySem.W PyProof.Rows
set_option maxRecDepth 100000 in
set_option maxHeartbeats 0 in
theorem PySem.Challenge.cw_bitcounts_k01_constants_and_errors_holds : PySem.Challenge.rw_bitcounts_k01_constants_and_errors.Holds := by
  w_on; o_law; k_head; (case hw => w_witness2)
  k_fill
  refine XV.walkG (l := PySem.Challenge.rw_bitcounts_k01_constants_and_errors) (n := 63) (k := 4) (CX := L2.CX0) (sp := K01.spLaw) (x := "_law_script") rfl (by decide) rfl ⟨rfl, by decide, by decide⟩ (fun w h Y => PySem.W.kIn_of Y) ?F ?S (fun _ _ _ _ z => z)
  case S =>
    intro K H a ns hl _ hS
    exact ⟨a, ns, rfl, hS, hl, fun _ => rfl⟩
  case F =>
    intro w mg fa h KX G hmg
    refine' K01.all_mk KX G hmg ?h_aInvalidName ?h_aInvalidNumber ?h_aInvalidValues ?h_aInvalidDeeds ?h_aInvalidText ?h_aInvalidCommand ?h_aNotAWord ?h_aNotAFormula ?h_aNotATest ?h_aNotAVariable ?h_aWrongNames ?h_aUnknownName ?h_aRefused ?h_aParted ?h_aBusy ?h_aNothingToUndo ?h_aTooMany ?h_aTooManyNames ?h_aTooManyClasses ?h_aInputError ?h_aStateError ?h_aLimitError ?h_iInvalidName ?h_iInvalidNumber ?h_iInvalidValues ?h_iInvalidDeeds ?h_iInvalidText ?h_iInvalidCommand ?h_iNotAWord ?h_iNotAFormula ?h_iNotATest ?h_iNotAVariable ?h_iWrongNames ?h_iUnknownName ?h_iRefused ?h_iParted ?h_lInvalidName ?h_dInvalidName ?h_bInvalidName ?h_lInvalidNumber ?h_dInvalidNumber ?h_bInvalidNumber ?h_lInvalidValues ?h_dInvalidValues ?h_bInvalidValues ?h_lInvalidDeeds ?h_dInvalidDeeds ?h_bInvalidDeeds ?h_lInvalidText ?h_dInvalidText ?h_bInvalidText ?h_lInvalidCommand ?h_dInvalidCommand ?h_bInvalidCommand ?h_lNotAWord ?h_dNotAWord ?h_bNotAWord ?h_lNotAFormula ?h_dNotAFormula ?h_bNotAFormula ?h_lNotATest ?h_dNotATest ?h_bNotATest ?h_lNotAVariable ?h_dNotAVariable ?h_bNotAVariable ?h_lWrongNames ?h_dWrongNames ?h_bWrongNames ?h_lUnknownName ?h_dUnknownName ?h_bUnknownName ?h_lRefused ?h_dRefused ?h_bRefused ?h_lParted ?h_dParted ?h_bParted ?h_eBusy ?h_kBusy ?h_eNothingToUndo ?h_kNothingToUndo ?h_eTooMany ?h_kTooMany ?h_eTooManyNames ?h_kTooManyNames ?h_eTooManyClasses ?h_kTooManyClasses ?h_gt ?h_tk ?h_xis ?h_kt ?h_kb ?h_a_law_number ?h_l_law_number ?h_d_law_number ?h_k_law_number ?h_a_law_source ?h_l_law_source ?h_d_law_source ?h_k_law_source ?h_a_law_draw ?h_l_law_draw ?h_d_law_draw ?h_k_law_draw ?h_a_law_thing ?h_l_law_thing ?h_d_law_thing ?h_k_law_thing ?h_a_law_by_place ?h_l_law_by_place ?h_d_law_by_place ?h_k_law_by_place ?h_a_law_by_name ?h_l_law_by_name ?h_d_law_by_name ?h_k_law_by_name ?h_a_law_fields ?h_l_law_fields ?h_d_law_fields ?h_k_law_fields ?h_a_law_sorts ?h_l_law_sorts ?h_d_law_sorts ?h_k_law_sorts ?h_a_law_bases ?h_l_law_bases ?h_d_law_bases ?h_k_law_bases ?h_a_law_right ?h_l_law_right ?h_d_law_right ?h_k_law_right ?h_alaw ?h_llaw ?h_dlaw ?h_klaw ?h_zlen ?h_zint ?h_zabs ?h_zdvm ?h_zstr ?h_zrepr ?h_zrange ?h_zenum ?h_zall ?h_zmax ?h_zmin ?h_zisi ?h_zvE ?h_zlE ?h_zaE ?h_vrank ?h_vtog ?h_vcls ?h_vnam
    (case h_aInvalidName => k_is)
    (case h_aInvalidNumber => k_is)
    (case h_aInvalidValues => k_is)
    (case h_aInvalidDeeds => k_is)
    (case h_aInvalidText => k_is)
    (case h_aInvalidCommand => k_is)
    (case h_aNotAWord => k_is)
    (case h_aNotAFormula => k_is)
    (case h_aNotATest => k_is)
    (case h_aNotAVariable => k_is)
    (case h_aWrongNames => k_is)
    (case h_aUnknownName => k_is)
    (case h_aRefused => k_is)
    (case h_aParted => k_is)
    (case h_aBusy => k_is)
    (case h_aNothingToUndo => k_is)
    (case h_aTooMany => k_is)
    (case h_aTooManyNames => k_is)
    (case h_aTooManyClasses => k_is)
    (case h_aInputError => k_is)
    (case h_aStateError => k_is)
    (case h_aLimitError => k_is)
    (case h_iInvalidName => k_is)
    (case h_iInvalidNumber => k_is)
    (case h_iInvalidValues => k_is)
    (case h_iInvalidDeeds => k_is)
    (case h_iInvalidText => k_is)
    (case h_iInvalidCommand => k_is)
    (case h_iNotAWord => k_is)
    (case h_iNotAFormula => k_is)
    (case h_iNotATest => k_is)
    (case h_iNotAVariable => k_is)
    (case h_iWrongNames => k_is)
    (case h_iUnknownName => k_is)
    (case h_iRefused => k_is)
    (case h_iParted => k_is)
    (case h_lInvalidName => k_is)
    (case h_dInvalidName => k_is)
    (case h_bInvalidName => kernel_rfl)
    (case h_lInvalidNumber => k_is)
    (case h_dInvalidNumber => k_is)
    (case h_bInvalidNumber => kernel_rfl)
    (case h_lInvalidValues => k_is)
    (case h_dInvalidValues => k_is)
    (case h_bInvalidValues => kernel_rfl)
    (case h_lInvalidDeeds => k_is)
    (case h_dInvalidDeeds => k_is)
    (case h_bInvalidDeeds => kernel_rfl)
    (case h_lInvalidText => k_is)
    (case h_dInvalidText => k_is)
    (case h_bInvalidText => kernel_rfl)
    (case h_lInvalidCommand => k_is)
    (case h_dInvalidCommand => k_is)
    (case h_bInvalidCommand => kernel_rfl)
    (case h_lNotAWord => k_is)
    (case h_dNotAWord => k_is)
    (case h_bNotAWord => kernel_rfl)
    (case h_lNotAFormula => k_is)
    (case h_dNotAFormula => k_is)
    (case h_bNotAFormula => kernel_rfl)
    (case h_lNotATest => k_is)
    (case h_dNotATest => k_is)
    (case h_bNotATest => kernel_rfl)
    (case h_lNotAVariable => k_is)
    (case h_dNotAVariable => k_is)
    (case h_bNotAVariable => kernel_rfl)
    (case h_lWrongNames => k_is)
    (case h_dWrongNames => k_is)
    (case h_bWrongNames => kernel_rfl)
    (case h_lUnknownName => k_is)
    (case h_dUnknownName => k_is)
    (case h_bUnknownName => kernel_rfl)
    (case h_lRefused => k_is)
    (case h_dRefused => k_is)
    (case h_bRefused => kernel_rfl)
    (case h_lParted => k_is)
    (case h_dParted => k_is)
    (case h_bParted => kernel_rfl)
    (case h_eBusy => kernel_rfl)
    (case h_kBusy => k_is)
    (case h_eNothingToUndo => kernel_rfl)
    (case h_kNothingToUndo => k_is)
    (case h_eTooMany => kernel_rfl)
    (case h_kTooMany => k_is)
    (case h_eTooManyNames => kernel_rfl)
    (case h_kTooManyNames => k_is)
    (case h_eTooManyClasses => kernel_rfl)
    (case h_kTooManyClasses => k_is)
    (case h_gt => k_is)
    (case h_tk => k_is)
    (case h_xis => kernel_rfl)
    (case h_kt => kernel_rfl)
    (case h_kb => kernel_rfl)
    (case h_a_law_number => k_is)
    (case h_l_law_number => k_is)
    (case h_d_law_number => k_is)
    (case h_k_law_number => k_is)
    (case h_a_law_source => k_is)
    (case h_l_law_source => k_is)
    (case h_d_law_source => k_is)
    (case h_k_law_source => k_is)
    (case h_a_law_draw => k_is)
    (case h_l_law_draw => k_is)
    (case h_d_law_draw => k_is)
    (case h_k_law_draw => k_is)
    (case h_a_law_thing => k_is)
    (case h_l_law_thing => k_is)
    (case h_d_law_thing => k_is)
    (case h_k_law_thing => k_is)
    (case h_a_law_by_place => k_is)
    (case h_l_law_by_place => k_is)
    (case h_d_law_by_place => k_is)
    (case h_k_law_by_place => k_is)
    (case h_a_law_by_name => k_is)
    (case h_l_law_by_name => k_is)
    (case h_d_law_by_name => k_is)
    (case h_k_law_by_name => k_is)
    (case h_a_law_fields => k_is)
    (case h_l_law_fields => k_is)
    (case h_d_law_fields => k_is)
    (case h_k_law_fields => k_is)
    (case h_a_law_sorts => k_is)
    (case h_l_law_sorts => k_is)
    (case h_d_law_sorts => k_is)
    (case h_k_law_sorts => k_is)
    (case h_a_law_bases => k_is)
    (case h_l_law_bases => k_is)
    (case h_d_law_bases => k_is)
    (case h_k_law_bases => k_is)
    (case h_a_law_right => k_is)
    (case h_l_law_right => k_is)
    (case h_d_law_right => k_is)
    (case h_k_law_right => k_is)
    (case h_alaw => k_is)
    (case h_llaw => k_is)
    (case h_dlaw => k_is)
    (case h_klaw => k_is)
    (case h_zlen => k_is)
    (case h_zint => k_is)
    (case h_zabs => k_is)
    (case h_zdvm => k_is)
    (case h_zstr => k_is)
    (case h_zrepr => k_is)
    (case h_zrange => k_is)
    (case h_zenum => k_is)
    (case h_zall => k_is)
    (case h_zmax => k_is)
    (case h_zmin => k_is)
    (case h_zisi => k_is)
    (case h_zvE => k_is)
    (case h_zlE => k_is)
    (case h_zaE => k_is)
    (case h_vrank => k_is)
    (case h_vtog => k_is)
    (case h_vcls => k_is)
    (case h_vnam => k_is)

