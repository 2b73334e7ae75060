import PyProof.Rows.All
import Wide.All
import OpenK.AllK
import Wide.FinOn
import HandS.ForMost
import HandS.ForExc
import HandS.Gcd
import HandS.Wide
import HandS.IsInst
import HandS.ExcIs
import HandS.CallLocal
import HandS.CallSlots
import HandS.More
import HandS.DictComp
import KE.GoesEnumKw
import HandS.TupAny
import HandS.Small
import HandS.Text
import HandS.Star
import HandS.Sort
import HandS.SortInts
import HandS.ExcValue
import HandS.RaiseMore
import HandS.FStr
import HandS.Style
import HandS.SetKeys
import HandS.Strs
import HandS.Conv
import HandS.Lambda
import KE.KMinKey
import HandS.EndTab
import KE.GoesMore
import HandS.MapObj
import PySem.Challenge.RW_rimohms_k08_resistances
set_option Elab.async false
set_option linter.all false
set_option maxRecDepth 100000
set_option maxHeartbeats 8000000
namespace Rz
open PySem PySem.Spec PyProof.Rows L2

/-! ### numbers -/
def CMulB (i j : Int) : Prop := ∃ a b : Nat, i.natAbs < 2 ^ a ∧ j.natAbs < 2 ^ b ∧ a + b ≤ 100000000
theorem CMulB.ok {i j : Int} (h : CMulB i j) : IntMulOk i j := by
  obtain ⟨a, b, h1, h2, h3⟩ := h
  have key : ∀ (x : Int) (n : Nat), x.natAbs < 2 ^ n → Builtin.Int.intBits x ≤ n := fun x n hx => by
    unfold Builtin.Int.intBits
    split
    · omega
    · rename_i h0
      have hne : x.natAbs ≠ 0 := fun z => h0 (by
        have : x = 0 := Int.natAbs_eq_zero.mp z
        rw [this]
        rfl)
      have := (Nat.log2_lt hne).mpr hx
      omega
  have k1 := key i a h1
  have k2 := key j b h2
  have e : bitsLine = 134217728 := by decide
  unfold IntMulOk
  intro z
  rw [Bool.and_eq_true] at z
  have z2 := z.2
  unfold Builtin.Int.intTooBig at z2
  have z3 := of_decide_eq_true z2
  rw [e] at z3
  omega
section
variable {X : Cx}
theorem op_mulB : OpR X (binaryOp .Mult) (rI CMulB fun i j => .int (i * j)) := opI fun _ _ _ _ _ _ _ hc q => mul_int q hc.ok
/-- // by a divisor of less than 9000 bits, of either sign -/
def CDivZ (_ j : Int) : Prop := j ≠ 0 ∧ j.natAbs < 2 ^ 9000
theorem op_fdivZ : OpR X (binaryOp .FloorDiv) (rI CDivZ fun i j => .int (i.fdiv j)) := opI fun i j _ _ _ _ _ hc q =>
  floordiv_int hc.1 q (.inl (PyProof.noPylong_of_log2 ((Nat.log2_lt (fun z => hc.1 (Int.natAbs_eq_zero.mp z))).mpr hc.2)))
end

/-! ### a statement, then the rest, with a word between them -/
def tCutZ (t u : TS) : TS := fun D σ H => ∃ Mid : L2.St → Hp → Prop, t { D with nx := Mid } σ H ∧ ∀ σ' H', Mid σ' H' → u D σ' H'
section
variable {X : Cx}
theorem pss_cutZ {st : Stmt} {rest : List Stmt} {t u : TS} (h1 : PS X st t) (h2 : PSs X rest u) : PSs X (st :: rest) (tCutZ t u) := by
  refine ⟨fun pins s σ H D I h => ?_⟩
  obtain ⟨Mid, hm, hu⟩ := h
  refine wpAny_execs_cons (thn (h1.run pins s σ H { D with nx := Mid } I hm) fun f s1 q => ?_)
  cases f with
  | next =>
    obtain ⟨σ', H', I', q⟩ := q
    exact h2.run pins s1 σ' H' D I' (hu σ' H' q)
  | ret v => exact q
  | brk => exact q
  | cont => exact q
end
theorem g_cut {t u : TS} {D : Ends} {σ : L2.St} {H : Hp} (Mid : L2.St → Hp → Prop) (h1 : t { D with nx := Mid } σ H) (h2 : ∀ σ' H', Mid σ' H' → u D σ' H') : tCutZ t u D σ H := ⟨Mid, h1, h2⟩
/-! ### built-in calls by named relations -/
def rInt1 : List V → Hp → VK → Prop := fun xs H Q => (∃ i, xs = [.int i] ∧ Q (.int i) H) ∨ ∃ k, xs = [.bl k] ∧ Q (.int (if k then 1 else 0)) H
def rAbs : List V → Hp → VK → Prop := fun xs H Q => ∃ i, xs = [.int i] ∧ Q (.int (if i < 0 then -i else i)) H
def rLenQ (K : PySem.W.Frag) : List V → Hp → VK → Prop := fun xs H Q => ∃ p ys, xs = [.ref p] ∧ (SqL K H p ys ∨ SqT K H p ys) ∧ Q (.int ys.length) H
def rListOf (K : PySem.W.Frag) : List V → Hp → VK → Prop := fun xs H Q => ∃ p ys, xs = [.ref p] ∧ (SqL K H p ys ∨ SqT K H p ys) ∧ ∀ l, H l = none → Q (.ref l) (upd H l (.lst ys))
def rTupleOf (K : PySem.W.Frag) : List V → Hp → VK → Prop := fun xs H Q => ∃ p ys, xs = [.ref p] ∧ ((SqL K H p ys ∧ ∀ l, H l = none → Q (.ref l) (upd H l (.tup ys))) ∨ (SqT K H p ys ∧ Q (.ref p) H))
def rIsNz : R2 := fun x y H Q => y = .non ∧ Q (.bl (decide (x = .non))) H
def rNotNz : R2 := fun x y H Q => y = .non ∧ Q (.bl (!decide (x = .non))) H
section
variable {X : Cx}
theorem zo_isN : OpR X (compareOp .Is) rIsNz := op_isN
theorem zo_notN : OpR X (compareOp .IsNot) rNotNz := op_notN
end
def rNewT (Q : VK) : List V → Hp → Prop := fun xs H1 => xs.length ≤ sizeLine ∧ ∀ p, H1 p = none → Q (.ref p) (upd H1 p (.tup xs))
def rNewL (Q : VK) : List V → Hp → Prop := fun xs H1 => xs.length ≤ sizeLine ∧ ∀ p, H1 p = none → Q (.ref p) (upd H1 p (.lst xs))
/-- a call of a local name that holds a def, where what is raised is wished for -/
def tCallLS (i : Nat) (f : Addr) (sp : Sp) (E : L2.St → XK) (t : TA) : TE := fun σ H Q => σ[i]? = some (some (.ref f)) ∧ t σ H fun vs H1 => sp vs H1 Q (E σ)
section
variable {X : Cx} {CX : CXT} {k i : Nat} {f : Addr} {fd : FuncData} {ps : List Str} {sp : Sp} {E : L2.St → XK} {x : Str} {p pos : Pos} {e : Expr} {es : List Expr} {t : TA}
theorem pe_callLS (F : FnOk X.prog X.w X.K X.mg X.base CX k f fd ps sp) (hr : Room k X.A) (hN : X.N[i]? = some x) (hv : Vis X.env.scope x) (hk : PySem.W.keepIn X.K (.ref f) = true) (hb : L2.Binds X.K fd ps []) (hx : ∀ σ, PassesAt CX X σ (E σ)) (ha : PA X (e :: es) t)
    (hdb : (x == ("__debug__" : Str)) = false := by decide) (hcd : (x == ("__classdict__" : Str)) = false := by decide)
    (he : starEach (e :: es) X.env = (false, eval e X.env) :: starEach es X.env := by rfl) (hpl : (backTo pos (starEach es X.env)).any (·.1) = false := by rfl) : PE X (.Call (.Name x p) (e :: es) [] pos) (tCallLS i f sp E t) := by
  refine ⟨fun pins s σ H Q I h => ?_⟩
  obtain ⟨hs, ht⟩ := h
  refine wpAny_Call_Name_kw (thn ((pe_var (pos := p) hN hv hdb hcd).run pins s σ H (fun v H1 => v = .ref f ∧ H1 = H) I ⟨.ref f, hs, rfl, rfl⟩) fun u s1 ⟨v, H1, I1, r1, q1⟩ => ?_)
  obtain ⟨rfl, rfl⟩ := q1
  cases r1
  refine PySem.W.callWith_K (h₀ := X.base) I.ok.mod.kin hk (thn (ha.run pos pins s1 σ _ _ I1 ht) fun us s2 ⟨vs, H2, I2, r, q⟩ => ⟨I2.kIn, ?_⟩) he hpl
  exact run_fnS F hr hb (hx σ) I2 r q
end
/-- isinstance(e, c), e the exception that a suite holds -/
def rIsEG (K : PySem.W.Frag) (cls : Value) (d : Option Addr) (a : Addr) : List V → Hp → VK → Prop := fun xs H Q => ∃ D, cls = .ref D ∧ d = none ∧ ExcC K D ∧ rIsE K D a xs H Q
theorem call_isEG {X : Cx} {a : Addr} {oe : Obj} {cls : Value} {d : Option Addr} {pn : List (Addr × Obj)} (hz : Zc cls d oe) (hf : ∃ vs, oe.data = .fields vs) : CallR (X.suite a ((a, oe) :: pn)) (.builtin "isinstance") (rIsEG X.K cls d a) := by
  intro pins s σ H xs us Q I r h
  obtain ⟨D, rfl, rfl, C, h⟩ := h
  exact call_isE C hz hf pins s σ H xs us Q I r h
def rTwo (P : V → V → Hp → Prop) : List V → Hp → Prop := fun vs H1 => ∃ v w, vs = [v, w] ∧ P v w H1
section
variable {X : Cx}
theorem zc_int : CallR X (.type "int") rInt1 := call_int1
theorem zc_abs : CallR X (.builtin "abs") rAbs := call_abs
theorem zc_len : CallR X (.builtin "len") (rLenQ X.K) := call_len_seq
theorem zc_list : CallR X (.type "list") (rListOf X.K) := call_list_of
theorem zc_tuple : CallR X (.type "tuple") (rTupleOf X.K) := call_tuple_of
end
/-! ### rules with the written part by name -/
section
variable {X : Cx} {K : PySem.W.Frag}
theorem ix_tupK (h : X.K = K) : IxR X (rIxT K) := h ▸ ix_tup
theorem ix_listK (h : X.K = K) : IxR X (rIxL K) := h ▸ ix_list
theorem zc_lenK (h : X.K = K) : CallR X (.builtin "len") (rLenQ K) := h ▸ zc_len
theorem zc_listK (h : X.K = K) : CallR X (.type "list") (rListOf K) := h ▸ zc_list
theorem zc_tupleK (h : X.K = K) : CallR X (.type "tuple") (rTupleOf K) := h ▸ zc_tuple
theorem call_isiK' (h : X.K = K) : CallR X (.builtin "isinstance") (rIsi K) := h ▸ call_isi
theorem cr_allK (h : X.K = K) (hc : X.calm = true) : CallR X (.builtin "all") (rAll K) := h ▸ cr_all hc
theorem cr_anyK (h : X.K = K) (hc : X.calm = true) : CallR X (.builtin "any") (rAny K) := h ▸ cr_any hc
theorem sl_tupK (h : X.K = K) : SlR X (rSlT K) := h ▸ sl_tup
theorem sl_listK (h : X.K = K) : SlR X (rSlL K) := h ▸ sl_list
theorem op_catTK (h : X.K = K) : OpR X (binaryOp .Add) (rCatT K) := h ▸ op_catT
theorem op_inK (h : X.K = K) : OpR X (compareOp .In) (rIn K false) := h ▸ op_in_seq
theorem op_ninK (h : X.K = K) : OpR X (compareOp .NotIn) (rIn K true) := h ▸ op_notIn_seq
theorem op_eqDK (h : X.K = K) (hu : X.A.units + 64 < cLine) : OpR X (compareOp .Eq) (rEqD K) := h ▸ op_eqD hu
theorem op_neDK (h : X.K = K) (hu : X.A.units + 64 < cLine) : OpR X (compareOp .NotEq) (rNeD K) := h ▸ op_neD hu
theorem mt_indexK (h : X.K = K) : MtR X "list.index" (rIndex K) := h ▸ mt_index
theorem pi_listK {tg l : Expr} {tl : TE} (h : X.K = K) (hl : PE X l tl) : PI X tg l (iList K tl) := h ▸ pi_list hl
theorem pi_tupK {tg l : Expr} {tl : TE} (h : X.K = K) (hl : PE X l tl) : PI X tg l (iTup K tl) := h ▸ pi_tup hl
theorem pg_lstK {pos : Pos} {es : List Expr} {k : Nat} {t : TGs} {n : Nat} (hK : X.K = K) (hc : X.calm = true) (h : PGs X es t) (hn : (assignEach es X.env).length = n := by rfl) (hst : (assignEach es X.env).findIdx? (·.1) = none := by rfl) : PG X (.Tuple es k pos) (gLst K n t) := hK ▸ pg_lst hc h hn hst
theorem pg_tupK {pos : Pos} {es : List Expr} {k : Nat} {t : TGs} {n : Nat} (hK : X.K = K) (hc : X.calm = true) (h : PGs X es t) (hn : (assignEach es X.env).length = n := by rfl) (hst : (assignEach es X.env).findIdx? (·.1) = none := by rfl) : PG X (.Tuple es k pos) (gTup K n t) := hK ▸ pg_tup hc h hn hst
end
/-! ### steps: the head of a reading -/
section
variable {t u : TS} {D : Ends} {σ : L2.St} {H : Hp} {te ta tb : TE} {g : TG} {i : Nat} {v x y : V} {Q : VK} {r : R2} {tt c : TT} {tas : TA}
theorem g_seq (h : t { D with nx := u D } σ H) : tSeq t u D σ H := h
theorem g_asg (h : te σ H fun x H1 => g x σ H1 D.nx) : tAsg te g D σ H := h
theorem g_name {Q : L2.St → Hp → Prop} (h : Q (σ.set i (some v)) H) : gName i v σ H Q := h
theorem g_var (e : σ[i]? = some (some v)) (h : Q v H) : tVar i σ H Q := ⟨v, e, h⟩
theorem g_c (h : Q v H) : tC v σ H Q := h
theorem g_op (h : ta σ H fun x H1 => tb σ H1 fun y H2 => r x y H2 Q) : tOp r ta tb σ H Q := h
theorem g_un {r : V → Hp → VK → Prop} (h : ta σ H fun x H1 => r x H1 Q) : tUn r ta σ H Q := h
theorem g_I {C : Int → Int → Prop} {f : Int → Int → V} {a b : Int} (hc : C a b) (h : Q (f a b) H) : rI C f (.int a) (.int b) H Q := ⟨a, b, rfl, rfl, hc, h⟩
theorem g_I0 {f : Int → Int → V} {a b : Int} (h : Q (f a b) H) : rI0 f (.int a) (.int b) H Q := ⟨a, b, rfl, rfl, h⟩
theorem g_U {f : Int → V} {a : Int} (h : Q (f a) H) : rU f (.int a) H Q := ⟨a, rfl, h⟩
theorem g_ret (h : te σ H D.rt) : tRet te D σ H := h
theorem g_drop (h : te σ H fun _ H1 => D.nx σ H1) : tDrop te D σ H := h
theorem g_next (h : D.nx σ H) : tNext D σ H := h
theorem g_ifs (h : c σ H fun b H1 => if b = true then t D σ H1 else u D σ H1) : tIfS c t u D σ H := h
theorem g_test {Q : Bool → Hp → Prop} (h : te σ H fun x H' => ∃ k, x = .bl k ∧ Q k H') : tTest te σ H Q := h
theorem g_B {Q : Bool → Hp → Prop} (h : te σ H fun x H' => ∃ k, x = .bl k ∧ Q k H') : tB te σ H Q := h
theorem g_bl {P : Bool → Prop} {b : Bool} (h : P b) : ∃ k, V.bl b = .bl k ∧ P k := ⟨b, rfl, h⟩
theorem g_and {a b : TT} {Q : Bool → Hp → Prop} (h : a σ H fun c H1 => if c = true then b σ H1 Q else Q false H1) : tAnd a b σ H Q := h
theorem g_or {a b : TT} {Q : Bool → Hp → Prop} (h : a σ H fun c H1 => if c = true then Q true H1 else b σ H1 Q) : tOr a b σ H Q := h
theorem g_not {a : TT} {Q : Bool → Hp → Prop} (h : a σ H fun c H1 => Q (!c) H1) : tNot a σ H Q := h
theorem g_andV (h : ta σ H fun x H1 => ∃ c, x = .bl c ∧ if c = true then tb σ H1 Q else Q (.bl false) H1) : tAndV ta tb σ H Q := h
theorem g_orV (h : ta σ H fun x H1 => ∃ c, x = .bl c ∧ if c = true then Q (.bl true) H1 else tb σ H1 Q) : tOrV ta tb σ H Q := h
theorem g_notV (h : ta σ H fun x H1 => ∃ c, x = .bl c ∧ Q (.bl (!c)) H1) : tNotV ta σ H Q := h
theorem g_ifE (h : tt σ H fun c H1 => if c = true then ta σ H1 Q else tb σ H1 Q) : tIf tt ta tb σ H Q := h
theorem g_call {sp : Sp} {dvs : List V} {E : XK} (h : tas σ H fun vs H1 => sp (vs ++ dvs) H1 Q E) : tCall sp dvs E tas σ H Q := h
theorem g_cb {r : List V → Hp → VK → Prop} (h : tas σ H fun vs H1 => r vs H1 Q) : tCB r tas σ H Q := h
theorem g_nil {Q : List V → Hp → Prop} (h : Q [] H) : tNil σ H Q := h
theorem g_cons {tr : TA} {Q : List V → Hp → Prop} (h : ta σ H fun x H1 => tr σ H1 fun xs H2 => Q (x :: xs) H2) : tCons ta tr σ H Q := h
theorem g_tup (h : tas σ H (rNewT Q)) : tTup tas σ H Q := h
theorem g_lst (h : tas σ H (rNewL Q)) : tLst tas σ H Q := h
theorem g_par {i j : Nat} (h : tas σ H (rTwo fun v w H1 => D.nx ((σ.set i (some v)).set j (some w)) H1)) : tPar i j tas D σ H := h
theorem g_two {P : V → V → Hp → Prop} {a b : V} (h : P a b H) : rTwo P [a, b] H := ⟨a, b, rfl, h⟩
theorem g_isN (h : Q (.bl (decide (x = .non))) H) : rIsNz x .non H Q := ⟨rfl, h⟩
theorem g_notN (h : Q (.bl (!decide (x = .non))) H) : rNotNz x .non H Q := ⟨rfl, h⟩
theorem g_isi {K : PySem.W.Frag} {a b' : String} {b : Bool} (ty : TyX K H x (.type a)) (e : kitB a b' = some b) (h : Q (.bl b) H) : rIsi K [x, .ty b'] H Q := ⟨x, .ty b', .type a, .type b', b, rfl, .ty b', ty, kit_ty e, h⟩
theorem g_isE {K : PySem.W.Frag} {D a : Addr} {c : V} {cv : Value} {b : Bool} (C : ExcC K D) (hc : ∀ u, RelV c u → u = cv) (e : PySem.W.kitOne K (.ref D) cv = some b) (h : Q (.bl b) H) : rIsEG K (.ref D) none a [.ref a, c] H Q := ⟨D, rfl, rfl, C, c, cv, b, rfl, hc, e, h⟩
theorem g_callLS {i : Nat} {f : Addr} {sp : Sp} {E : L2.St → XK} (e : σ[i]? = some (some (.ref f))) (h : tas σ H fun vs H1 => sp vs H1 Q (E σ)) : tCallLS i f sp E tas σ H Q := ⟨e, h⟩
theorem g_eq (s : scal x y = true) (h : Q (.bl (decide (x = y))) H) : rEq x y H Q := ⟨s, h⟩
theorem g_ne (s : scal x y = true) (h : Q (.bl (!decide (x = y))) H) : rNe x y H Q := ⟨s, h⟩
theorem g_ixT {K : PySem.W.Frag} {p : Addr} {xs : List V} {i : Int} (h : SqT K H p xs) (e : atI xs i = some v) (q : Q v H) : rIxT K (.ref p) (.int i) H Q := ⟨p, xs, i, v, rfl, rfl, h, e, q⟩
theorem g_ixL {K : PySem.W.Frag} {p : Addr} {xs : List V} {i : Int} (h : SqL K H p xs) (e : atI xs i = some v) (q : Q v H) : rIxL K (.ref p) (.int i) H Q := ⟨p, xs, i, v, rfl, rfl, h, e, q⟩
theorem g_sub {to ti : TE} {t : TSet} {Q : L2.St → Hp → Prop} (h : to σ H fun o H1 => ti σ H1 fun i H2 => t o i v H2 fun H3 => Q σ H3) : gSub to ti t v σ H Q := h
theorem g_setL {p : Addr} {xs : List V} {k : Int} {j : Nat} {Q : Hp → Prop} (h : H p = some (.lst xs)) (e : ixN xs.length k = some j) (q : Q (upd H p (.lst (xs.set j v)))) : rSetL (.ref p) (.int k) v H Q := ⟨p, xs, k, j, rfl, rfl, h, e, q⟩
theorem g_int1 {a : Int} (h : Q (.int a) H) : rInt1 [.int a] H Q := .inl ⟨a, rfl, h⟩
theorem g_int1b {a : Bool} (h : Q (.int (if a then 1 else 0)) H) : rInt1 [.bl a] H Q := .inr ⟨a, rfl, h⟩
theorem g_abs {a : Int} (h : Q (.int (if a < 0 then -a else a)) H) : rAbs [.int a] H Q := ⟨a, rfl, h⟩
theorem g_lenL {K : PySem.W.Frag} {p : Addr} {xs : List V} (h : SqL K H p xs) (q : Q (.int xs.length) H) : rLenQ K [.ref p] H Q := ⟨p, xs, rfl, .inl h, q⟩
theorem g_lenT {K : PySem.W.Frag} {p : Addr} {xs : List V} (h : SqT K H p xs) (q : Q (.int xs.length) H) : rLenQ K [.ref p] H Q := ⟨p, xs, rfl, .inr h, q⟩
theorem g_listL {K : PySem.W.Frag} {p : Addr} {xs : List V} (h : SqL K H p xs) (q : ∀ l, H l = none → Q (.ref l) (upd H l (.lst xs))) : rListOf K [.ref p] H Q := ⟨p, xs, rfl, .inl h, q⟩
theorem g_listT {K : PySem.W.Frag} {p : Addr} {xs : List V} (h : SqT K H p xs) (q : ∀ l, H l = none → Q (.ref l) (upd H l (.lst xs))) : rListOf K [.ref p] H Q := ⟨p, xs, rfl, .inr h, q⟩
theorem g_tupleL {K : PySem.W.Frag} {p : Addr} {xs : List V} (h : SqL K H p xs) (q : ∀ l, H l = none → Q (.ref l) (upd H l (.tup xs))) : rTupleOf K [.ref p] H Q := ⟨p, xs, rfl, .inl ⟨h, q⟩⟩
theorem g_tupleT {K : PySem.W.Frag} {p : Addr} {xs : List V} (h : SqT K H p xs) (q : Q (.ref p) H) : rTupleOf K [.ref p] H Q := ⟨p, xs, rfl, .inr ⟨h, q⟩⟩
theorem if_t {A B : Prop} {b : Bool} (e : b = true) (h : A) : if b = true then A else B := by rw [if_pos e]; exact h
theorem if_f {A B : Prop} {b : Bool} (e : b = false) (h : B) : if b = true then A else B := by rw [if_neg (by rw [e]; exact Bool.false_ne_true)]; exact h
theorem if_2 {A B : Prop} {b : Bool} (h1 : b = true → A) (h2 : b = false → B) : if b = true then A else B := by
  cases b with
  | true => exact if_t rfl (h1 rfl)
  | false => exact if_f rfl (h2 rfl)
end

/-! ### loops and comprehensions, by named parts -/
def forW (g : TG) (tb : TS) (D : Ends) (σ : L2.St) : It → Hp → Prop := fun J H1 => ∃ W : Nat → Nat → L2.St → Hp → Prop, (∃ m, W 0 m σ H1) ∧ ∀ i m σ H, W i m σ H →
  (J.stop i H ∧ D.nx σ H) ∨ (J.go i H ∧ ∃ N : L2.St → Hp → Prop, (∀ σ' H', N σ' H' → ∃ m', m' < m ∧ W (i + 1) m' σ' H') ∧ ∀ x H', J.yld i H x H' → g x σ H' fun σ2 H2 => tb { D with nx := N, ct := N, bk := D.nx } σ2 H2)
def lcW (g : TG) (tt : TT) (te : TE) (vs : List Nat) (σ : L2.St) (Q : VK) : It → Hp → Prop := fun J H1 => ∀ D, H1 D = none → ∃ W : Nat → Nat → Hp → Prop, (∃ m, W 0 m (upd H1 D (.lst []))) ∧ ∀ i m H, W i m H →
      (J.stop i H ∧ Q (.ref D) H) ∨ (J.go i H ∧ ∃ Nx : Hp → Prop, (∀ H', Nx H' → ∃ m', m' < m ∧ W (i + 1) m' H') ∧ ∀ x H', J.yld i H x H' → g x (wipe σ vs) H' fun σ2 H2 => wipe σ2 vs = wipe σ vs ∧ tt σ2 H2 fun b H3 =>
        if b = true then te σ2 H3 fun y H4 => ∃ acc, H4 D = some (.lst acc) ∧ acc.length < sizeLine ∧ Nx (upd H4 D (.lst (acc ++ [y]))) else Nx H3)
def rRng1 (R : It → Hp → Prop) : List V → Hp → Prop := fun vs H1 => ∃ j : Int, vs = [.int j] ∧ -(2 ^ 62) ≤ j ∧ j < 2 ^ 62 ∧ R (Itr 0 j.toNat) H1
def rItL (K : PySem.W.Frag) (R : It → Hp → Prop) : V → Hp → Prop := fun x H1 => ∃ a, x = .ref a ∧ (∃ xs, SqL K H1 a xs) ∧ R (Itl K a) H1
def rItT (K : PySem.W.Frag) (R : It → Hp → Prop) : V → Hp → Prop := fun x H1 => ∃ a, x = .ref a ∧ (∃ xs, SqT K H1 a xs) ∧ R (Itt K a) H1
section
variable {K : PySem.W.Frag} {D : Ends} {σ : L2.St} {H : Hp} {g : TG} {tb : TS} {ta : TA} {te tl : TE} {tt : TT} {vs : List Nat} {Q : VK} {c : TT}
theorem g_forR1 (h : ta σ H (rRng1 (forW g tb D σ))) : tFor (iRng1 ta) g tb D σ H := h
theorem g_forL (h : tl σ H (rItL K (forW g tb D σ))) : tFor (iList K tl) g tb D σ H := h
theorem g_forT (h : tl σ H (rItT K (forW g tb D σ))) : tFor (iTup K tl) g tb D σ H := h
theorem g_lcR1 (h : ta σ H (rRng1 (lcW g tt te vs σ Q))) : tLc (iRng1 ta) g tt te vs σ H Q := h
theorem g_lcL (h : tl σ H (rItL K (lcW g tt te vs σ Q))) : tLc (iList K tl) g tt te vs σ H Q := h
theorem g_lcT (h : tl σ H (rItT K (lcW g tt te vs σ Q))) : tLc (iTup K tl) g tt te vs σ H Q := h
theorem g_rng {j : Int} (n : Nat) (e : j = (n : Int)) (hb : n < 1000000) (Pv : Nat → L2.St → Hp → Prop) (h0 : Pv 0 σ H)
    (hs : ∀ (i : Nat) σ H, i < n → Pv i σ H → g (.int (i : Int)) σ H fun σ2 H2 => tb { D with nx := Pv (i + 1), ct := Pv (i + 1), bk := D.nx } σ2 H2) (hd : ∀ σ H, Pv n σ H → D.nx σ H) :
    rRng1 (forW g tb D σ) [.int j] H := by
  subst e
  refine ⟨(n : Int), rfl, by omega, by omega, ?_⟩
  rw [Int.toNat_natCast]
  refine for_range (lo := 0) (n := n) Pv h0 (fun i σ H hi p => ?_) hd
  have := hs i σ H hi p
  rw [show (0 : Int) + (i : Int) = (i : Int) by omega]
  exact this
theorem g_itL {a : Addr} {xs : List V} (h : SqL K H a xs) (Pv : Nat → L2.St → Hp → Prop) (h0 : Pv 0 σ H) (hl : ∀ i σ H, i ≤ xs.length → Pv i σ H → SqL K H a xs)
    (hs : ∀ i x σ H, xs[i]? = some x → Pv i σ H → g x σ H fun σ2 H2 => tb { D with nx := Pv (i + 1), ct := Pv (i + 1), bk := D.nx } σ2 H2) (hd : ∀ σ H, Pv xs.length σ H → D.nx σ H) : rItL K (forW g tb D σ) (.ref a) H :=
  ⟨a, rfl, ⟨xs, h⟩, for_list Pv h0 hl hs hd⟩
theorem g_itT {a : Addr} {xs : List V} (h : SqT K H a xs) (Pv : Nat → L2.St → Hp → Prop) (h0 : Pv 0 σ H) (hl : ∀ i σ H, i ≤ xs.length → Pv i σ H → SqT K H a xs)
    (hs : ∀ i x σ H, xs[i]? = some x → Pv i σ H → g x σ H fun σ2 H2 => tb { D with nx := Pv (i + 1), ct := Pv (i + 1), bk := D.nx } σ2 H2) (hd : ∀ σ H, Pv xs.length σ H → D.nx σ H) : rItT K (forW g tb D σ) (.ref a) H :=
  ⟨a, rfl, ⟨xs, h⟩, for_tup Pv h0 hl hs hd⟩
/-- behind a turn of a comprehension: y is laid behind what the new list at p holds -/
def lcN (Pv : Nat → List V → Hp → Prop) (p : Addr) (i : Nat) : VK := fun y H4 => ∃ acc, H4 p = some (.lst acc) ∧ acc.length < sizeLine ∧ ∃ acc2, Pv (i + 1) acc2 (upd H4 p (.lst (acc ++ [y])))
theorem lcN_of {Pv : Nat → List V → Hp → Prop} {p : Addr} {i : Nat} {y : V} {H4 : Hp} {acc : List V} (h : H4 p = some (.lst acc)) (hl : acc.length ≤ 1000000) (q : Pv (i + 1) (acc ++ [y]) (upd H4 p (.lst (acc ++ [y])))) : lcN Pv p i y H4 :=
  ⟨acc, h, by have := sizeLine_eq; omega, _, q⟩
/-- a comprehension over a range, no test -/
theorem g_lcRng {j : Int} {i₀ : Nat} (n : Nat) (e : j = (n : Int)) (hb : n < 1000000) (Pv : Addr → Nat → List V → Hp → Prop) (hw : ∀ x, wipe ((wipe σ vs).set i₀ (some x)) vs = wipe σ vs)
    (h0 : ∀ p, H p = none → Pv p 0 [] (upd H p (.lst [])))
    (hs : ∀ p (i : Nat) acc H', H p = none → i < n → Pv p i acc H' → te ((wipe σ vs).set i₀ (some (.int (i : Int)))) H' (lcN (Pv p) p i))
    (hd : ∀ p acc H', H p = none → Pv p n acc H' → Q (.ref p) H') : rRng1 (lcW (gName i₀) tYes te vs σ Q) [.int j] H := by
  subst e
  refine ⟨(n : Int), rfl, by omega, by omega, fun p hp => ?_⟩
  rw [Int.toNat_natCast]
  refine lc_range (lo := 0) (n := n) (fun i H' => ∃ acc, Pv p i acc H') ⟨[], h0 p hp⟩ (fun i H' hi ⟨acc, q⟩ => ?_) (fun H' ⟨acc, q⟩ => hd p acc H' hp q)
  rw [show (0 : Int) + (i : Int) = (i : Int) by omega]
  exact ⟨hw _, hs p i acc H' hp hi q⟩
theorem g_lcLst {a : Addr} {xs : List V} {i₀ : Nat} (h : SqL K H a xs) (Pv : Addr → Nat → List V → Hp → Prop) (hw : ∀ x, wipe ((wipe σ vs).set i₀ (some x)) vs = wipe σ vs)
    (h0 : ∀ p, H p = none → Pv p 0 [] (upd H p (.lst []))) (hl : ∀ p i acc H', H p = none → Pv p i acc H' → SqL K H' a xs)
    (hs : ∀ p (i : Nat) x acc H', H p = none → xs[i]? = some x → Pv p i acc H' → te ((wipe σ vs).set i₀ (some x)) H' (lcN (Pv p) p i))
    (hd : ∀ p acc H', H p = none → Pv p xs.length acc H' → Q (.ref p) H') : rItL K (lcW (gName i₀) tYes te vs σ Q) (.ref a) H := by
  refine ⟨a, rfl, ⟨xs, h⟩, fun p hp => ?_⟩
  refine lc_list (K := K) (xs := xs) (fun i H' => ∃ acc, Pv p i acc H') ⟨[], h0 p hp⟩ (fun i H' _ ⟨acc, q⟩ => hl p i acc H' hp q) (fun i x H' hi ⟨acc, q⟩ => ?_) (fun H' ⟨acc, q⟩ => hd p acc H' hp q)
  exact ⟨hw _, hs p i x acc H' hp hi q⟩
theorem g_lcTup {a : Addr} {xs : List V} {i₀ : Nat} (h : SqT K H a xs) (Pv : Addr → Nat → List V → Hp → Prop) (hw : ∀ x, wipe ((wipe σ vs).set i₀ (some x)) vs = wipe σ vs)
    (h0 : ∀ p, H p = none → Pv p 0 [] (upd H p (.lst []))) (hl : ∀ p i acc H', H p = none → Pv p i acc H' → SqT K H' a xs)
    (hs : ∀ p (i : Nat) x acc H', H p = none → xs[i]? = some x → Pv p i acc H' → te ((wipe σ vs).set i₀ (some x)) H' (lcN (Pv p) p i))
    (hd : ∀ p acc H', H p = none → Pv p xs.length acc H' → Q (.ref p) H') : rItT K (lcW (gName i₀) tYes te vs σ Q) (.ref a) H := by
  refine ⟨a, rfl, ⟨xs, h⟩, fun p hp => ?_⟩
  refine lc_tup (K := K) (xs := xs) (fun i H' => ∃ acc, Pv p i acc H') ⟨[], h0 p hp⟩ (fun i H' _ ⟨acc, q⟩ => hl p i acc H' hp q) (fun i x H' hi ⟨acc, q⟩ => ?_) (fun H' ⟨acc, q⟩ => hd p acc H' hp q)
  exact ⟨hw _, hs p i x acc H' hp hi q⟩
theorem g_while (W : Nat → L2.St → Hp → Prop) (m : Nat) (h0 : W m σ H) (hs : ∀ m σ H, W m σ H → c σ H fun b H1 => if b = true then ∃ N : L2.St → Hp → Prop, (∀ σ' H', N σ' H' → ∃ m', m' < m ∧ W m' σ' H') ∧ tb { D with nx := N, ct := N, bk := D.nx } σ H1 else D.nx σ H1) :
    tWhile c tb D σ H := ⟨W, ⟨m, h0⟩, hs⟩
end

/-! ### heaps -/
theorem up_same {H : Hp} {p : Addr} {o : HO} (h : H p = none) : Same H (upd H p o) := fun b x e => by
  rw [upd_ne (ne_of_none e h)]
  exact e
/-- all but what stands at S is kept -/
def Kp (S : Addr) (H H' : Hp) : Prop := ∀ b o, b ≠ S → H b = some o → H' b = some o
theorem Kp.refl (S : Addr) (H : Hp) : Kp S H H := fun _ _ _ e => e
theorem Kp.trans {S : Addr} {H H1 H2 : Hp} (a : Kp S H H1) (b : Kp S H1 H2) : Kp S H H2 := fun c o n e => b c o n (a c o n e)
theorem Kp.of {S : Addr} {H H' : Hp} (a : Same H H') : Kp S H H' := fun c o _ e => a c o e
theorem Kp.upd {S : Addr} {H : Hp} {o : HO} : Kp S H (upd H S o) := fun b x n e => by
  rw [upd_ne n]
  exact e
/-- the newest object laid past what is asked for -/
theorem ua {H : Hp} {p q : Addr} {o u : HO} (h : H p = some o) (n : H q = none) : upd H q u p = some o := by
  rw [upd_ne (ne_of_none h n)]
  exact h
theorem Same.sqt {K : PySem.W.Frag} {H H' : Hp} {a : Addr} {xs : List V} (e : Same H H') (h : SqT K H a xs) : SqT K H' a xs := by
  rcases h with (h | ⟨o, h⟩) | h
  · exact .inl (.inl (e _ _ h))
  · exact .inl (.inr ⟨o, e _ _ h⟩)
  · exact .inr h
theorem Kp.sqt {K : PySem.W.Frag} {S : Addr} {H H' : Hp} {a : Addr} {xs ys : List V} (e : Kp S H H') (hS : H S = some (.lst ys)) (h : SqT K H a xs) : SqT K H' a xs := by
  rcases h with (h | ⟨o, h⟩) | h
  · exact .inl (.inl (e _ _ (ne_of h hS (fun z => nomatch z)) h))
  · exact .inl (.inr ⟨o, e _ _ (ne_of h hS (fun z => nomatch z)) h⟩)
  · exact .inr h
theorem Kp.free {S p : Addr} {H H' : Hp} {o : HO} (e : Kp S H H') (hS : H S = some o) (hp : H' p = none) (hp2 : p ≠ S) : H p = none := by
  cases h1 : H p with
  | none => rfl
  | some o =>
    rw [e p o hp2 h1] at hp
    cases hp

/-! ### a displayed tuple, a displayed list -/
theorem g_newT {xs : List V} {Q : VK} {H : Hp} (hl : xs.length ≤ 1000000) (h : ∀ p, H p = none → Q (.ref p) (upd H p (.tup xs))) : rNewT Q xs H := ⟨by have := sizeLine_eq; omega, h⟩
theorem g_newL {xs : List V} {Q : VK} {H : Hp} (hl : xs.length ≤ 1000000) (h : ∀ p, H p = none → Q (.ref p) (upd H p (.lst xs))) : rNewL Q xs H := ⟨by have := sizeLine_eq; omega, h⟩
/-! ### a ratio -/
def RatV (K : PySem.W.Frag) (H : Hp) (v : V) (q : Rat) : Prop := ∃ p, v = .ref p ∧ SqT K H p [.int q.num, .int (q.den : Int)]
theorem RatV.same {K : PySem.W.Frag} {H H' : Hp} {v : V} {q : Rat} (h : RatV K H v q) (e : Same H H') : RatV K H' v q := by
  obtain ⟨p, rfl, h⟩ := h
  exact ⟨p, rfl, Same.sqt e h⟩
theorem RatV.kp {K : PySem.W.Frag} {S : Addr} {ys : List V} {H H' : Hp} {v : V} {q : Rat} (h : RatV K H v q) (e : Kp S H H') (hS : H S = some (.lst ys)) : RatV K H' v q := by
  obtain ⟨p, rfl, h⟩ := h
  exact ⟨p, rfl, Kp.sqt e hS h⟩
theorem RatV.new {K : PySem.W.Frag} {H : Hp} {p : Addr} {q : Rat} : RatV K (upd H p (.tup [.int q.num, .int (q.den : Int)])) (.ref p) q := ⟨p, rfl, SqT.of upd_same⟩
/-- both parts below 2 ^ n -/
def Bd (n : Nat) (q : Rat) : Prop := q.num.natAbs < 2 ^ n ∧ q.den < 2 ^ n
end Rz

namespace Rz
open PySem PySem.Spec PyProof.Rows L2

/-! ### ratios: integers' words and Rat's -/
def gcdI (a b : Int) : Int := (Nat.gcd a.natAbs b.natAbs : Nat)
def comI (a b : Int) : Int := if b < 0 then -gcdI a b else gcdI a b
theorem gcdI_pos {a b : Int} (hb : b ≠ 0) : 0 < gcdI a b := by
  unfold gcdI
  have : 0 < Nat.gcd a.natAbs b.natAbs := Nat.gcd_pos_of_pos_right _ (by omega)
  omega
theorem gcdI_dvd_l (a b : Int) : gcdI a b ∣ a := Int.ofNat_dvd_left.mpr (Nat.gcd_dvd_left _ _)
theorem gcdI_dvd_r (a b : Int) : gcdI a b ∣ b := Int.ofNat_dvd_left.mpr (Nat.gcd_dvd_right _ _)
theorem gcdI_le {a b : Int} (hb : b ≠ 0) : (gcdI a b).natAbs ≤ b.natAbs := by
  unfold gcdI
  have := Nat.gcd_le_right a.natAbs (n := b.natAbs) (by omega)
  omega
theorem comI_ne {a b : Int} (hb : b ≠ 0) : comI a b ≠ 0 := by
  have := gcdI_pos (a := a) hb
  unfold comI
  split <;> omega
theorem comI_abs (a b : Int) : (comI a b).natAbs = (gcdI a b).natAbs := by
  unfold comI
  split <;> omega
theorem gcd_int (a b : Int) : ((Int.gcd b a : Nat) : Int) = gcdI a b := by
  unfold gcdI
  rw [Int.gcd_eq_natAbs_gcd_natAbs, Nat.gcd_comm]
theorem fdiv_num {a b : Int} (hb : b ≠ 0) : a.fdiv (comI a b) = (Rat.divInt a b).num := by
  have hg := gcdI_pos (a := a) hb
  have hd := gcdI_dvd_l a b
  rw [Rat.num_divInt, gcd_int]
  unfold comI
  split
  · rename_i h
    rw [Int.fdiv_neg (by omega), if_pos hd, Int.sign_eq_neg_one_of_neg h, Int.fdiv_eq_ediv_of_nonneg _ (by omega)]
    rw [Int.neg_mul, Int.one_mul, Int.neg_ediv_of_dvd hd]
  · rename_i h
    rw [Int.sign_eq_one_of_pos (by omega), Int.one_mul, Int.fdiv_eq_ediv_of_nonneg _ (by omega)]
theorem fdiv_den {a b : Int} (hb : b ≠ 0) : b.fdiv (comI a b) = ((Rat.divInt a b).den : Int) := by
  have hg := gcdI_pos (a := a) hb
  have hd := gcdI_dvd_r a b
  rw [Rat.den_divInt, if_neg hb, Int.natCast_ediv, gcd_int]
  unfold comI
  split
  · rename_i h
    rw [Int.fdiv_neg (by omega), if_pos hd, Int.fdiv_eq_ediv_of_nonneg _ (by omega)]
    have : (b.natAbs : Int) = -b := by omega
    rw [this, Int.neg_ediv_of_dvd hd]
  · rename_i h
    rw [Int.fdiv_eq_ediv_of_nonneg _ (by omega)]
    have : (b.natAbs : Int) = b := by omega
    rw [this]
theorem num_le {a b : Int} : (Rat.divInt a b).num.natAbs ≤ a.natAbs := by
  by_cases hb : b = 0
  · rw [hb, Rat.divInt_zero]
    exact Nat.zero_le _
  · rw [← fdiv_num hb]
    have hd := gcdI_dvd_l a b
    obtain ⟨k, e⟩ := hd
    have hg := gcdI_pos (a := a) hb
    have e2 : comI a b ∣ a := by
      unfold comI
      split
      · exact Int.neg_dvd.mpr (gcdI_dvd_l a b)
      · exact gcdI_dvd_l a b
    rw [Int.fdiv_eq_ediv_of_dvd e2]
    exact Int.natAbs_ediv_le_natAbs _ _
theorem den_le {a b : Int} (hb : b ≠ 0) : (Rat.divInt a b).den ≤ b.natAbs := by
  rw [Rat.den_divInt, if_neg hb]
  exact Nat.div_le_self _ _
theorem rat_plus (p q : Rat) : Rat.divInt (p.num * (q.den : Int) + q.num * (p.den : Int)) ((p.den : Int) * (q.den : Int)) = p + q := by
  rw [Rat.add_def', ← Rat.divInt_ofNat, Int.natCast_mul]
theorem rat_minus (p q : Rat) : Rat.divInt (p.num * (q.den : Int) - q.num * (p.den : Int)) ((p.den : Int) * (q.den : Int)) = p - q := by
  rw [Rat.sub_def', ← Rat.divInt_ofNat, Int.natCast_mul]
theorem rat_times (p q : Rat) : Rat.divInt (p.num * q.num) ((p.den : Int) * (q.den : Int)) = p * q := by
  rw [Rat.mul_def', ← Rat.divInt_ofNat, Int.natCast_mul]
theorem rat_over (p q : Rat) : Rat.divInt (p.num * (q.den : Int)) ((p.den : Int) * q.num) = p / q := by
  rw [Rat.div_def, Rat.inv_def]
  conv => rhs; rw [← Rat.num_divInt_den p]
  rw [Rat.divInt_mul_divInt]
theorem den_pos (q : Rat) : (0 : Int) < (q.den : Int) := by
  have := q.den_pos
  omega
theorem den_mul_ne (p q : Rat) : (p.den : Int) * (q.den : Int) ≠ 0 := by
  have := Int.mul_pos (den_pos p) (den_pos q)
  omega
theorem pow_mul_lt {x y : Nat} {a b : Nat} (h1 : x < 2 ^ a) (h2 : y < 2 ^ b) : x * y < 2 ^ (a + b) := by
  rw [Nat.pow_add]
  exact Nat.mul_lt_mul'' h1 h2
theorem pow_mono {x a b : Nat} (h : x < 2 ^ a) (l : a ≤ b) : x < 2 ^ b := Nat.lt_of_lt_of_le h (Nat.pow_le_pow_right (by decide) l)
theorem Bd.mono {a b : Nat} {q : Rat} (h : Bd a q) (l : a ≤ b) : Bd b q := ⟨pow_mono h.1 l, pow_mono h.2 l⟩
theorem abs_mul_lt {x y : Int} {a b : Nat} (h1 : x.natAbs < 2 ^ a) (h2 : y.natAbs < 2 ^ b) : (x * y).natAbs < 2 ^ (a + b) := by
  rw [Int.natAbs_mul]
  exact pow_mul_lt h1 h2
theorem abs_add_lt {x y : Int} {a : Nat} (h1 : x.natAbs < 2 ^ a) (h2 : y.natAbs < 2 ^ a) : (x + y).natAbs < 2 ^ (a + 1) := by
  rw [Nat.pow_succ]
  omega
theorem abs_sub_lt {x y : Int} {a : Nat} (h1 : x.natAbs < 2 ^ a) (h2 : y.natAbs < 2 ^ a) : (x - y).natAbs < 2 ^ (a + 1) := by
  rw [Nat.pow_succ]
  omega
theorem Bd.add {a b : Nat} {p q : Rat} (h : Bd a p) (k : Bd b q) : Bd (a + b + 1) (p + q) := by
  rw [← rat_plus]
  have e1 := abs_mul_lt (x := p.num) (y := (q.den : Int)) h.1 k.2
  have e2 := abs_mul_lt (x := q.num) (y := (p.den : Int)) k.1 h.2
  rw [Nat.add_comm b a] at e2
  refine ⟨Nat.lt_of_le_of_lt num_le (abs_add_lt e1 e2), Nat.lt_of_le_of_lt (den_le (den_mul_ne p q)) ?_⟩
  exact pow_mono (abs_mul_lt (x := (p.den : Int)) (y := (q.den : Int)) h.2 k.2) (by omega)
theorem Bd.sub {a b : Nat} {p q : Rat} (h : Bd a p) (k : Bd b q) : Bd (a + b + 1) (p - q) := by
  rw [← rat_minus]
  have e1 := abs_mul_lt (x := p.num) (y := (q.den : Int)) h.1 k.2
  have e2 := abs_mul_lt (x := q.num) (y := (p.den : Int)) k.1 h.2
  rw [Nat.add_comm b a] at e2
  refine ⟨Nat.lt_of_le_of_lt num_le (abs_sub_lt e1 e2), Nat.lt_of_le_of_lt (den_le (den_mul_ne p q)) ?_⟩
  exact pow_mono (abs_mul_lt (x := (p.den : Int)) (y := (q.den : Int)) h.2 k.2) (by omega)
theorem Bd.mul {a b : Nat} {p q : Rat} (h : Bd a p) (k : Bd b q) : Bd (a + b) (p * q) := by
  rw [← rat_times]
  exact ⟨Nat.lt_of_le_of_lt num_le (abs_mul_lt h.1 k.1), Nat.lt_of_le_of_lt (den_le (den_mul_ne p q)) (abs_mul_lt (x := (p.den : Int)) (y := (q.den : Int)) h.2 k.2)⟩
theorem Bd.div {a b : Nat} {p q : Rat} (h : Bd a p) (k : Bd b q) (hq : q ≠ 0) : Bd (a + b) (p / q) := by
  have hn : q.num ≠ 0 := fun z => hq (Rat.num_eq_zero.mp z)
  have hm : (p.den : Int) * q.num ≠ 0 := Int.mul_ne_zero (by have := den_pos p; omega) hn
  rw [← rat_over]
  exact ⟨Nat.lt_of_le_of_lt num_le (abs_mul_lt (x := p.num) (y := (q.den : Int)) h.1 k.2), Nat.lt_of_le_of_lt (den_le hm) (abs_mul_lt (x := (p.den : Int)) (y := q.num) h.2 k.1)⟩
theorem Bd.neg {a : Nat} {p : Rat} (h : Bd a p) : Bd a (-p) := by
  refine ⟨?_, ?_⟩
  · rw [Rat.neg_num, Int.natAbs_neg]
    exact h.1
  · rw [Rat.neg_den]
    exact h.2
theorem Bd.of {n : Nat} {a b : Int} (h : a.natAbs < 2 ^ n) (k : b.natAbs < 2 ^ n) (hb : b ≠ 0) : Bd n (Rat.divInt a b) := ⟨Nat.lt_of_le_of_lt num_le h, Nat.lt_of_le_of_lt (den_le hb) k⟩
theorem Bd.zero : Bd 1 0 := ⟨by decide, by decide⟩
theorem Bd.one : Bd 1 1 := ⟨by decide, by decide⟩
theorem mulB_of {x y : Int} {a b : Nat} (h1 : x.natAbs < 2 ^ a) (h2 : y.natAbs < 2 ^ b) (h : a + b ≤ 8000) : CMulB x y := ⟨a, b, h1, h2, by omega⟩
theorem lt9000 {x : Nat} {n : Nat} (h : x < 2 ^ n) (l : n ≤ 9000) : x < 2 ^ 9000 := pow_mono h l

/-! ### the same data -/
def isSc : V → Bool
  | .int _ => true
  | .bl _ => true
  | .str _ => true
  | .non => true
  | _ => false
inductive Eqv (K : PySem.W.Frag) (H : Hp) : Nat → V → V → Prop
  | sc {n : Nat} {x : V} (h : isSc x = true) : Eqv K H (n + 1) x x
  | tup {n : Nat} {p q : Addr} {xs ys : List V} (hx : SqT K H p xs) (hy : SqT K H q ys) (hl : xs.length = ys.length) (hb : ys.length < 1000000) (h : ∀ (i : Nat) (x y : V), xs[i]? = some x → ys[i]? = some y → Eqv K H n x y) : Eqv K H (n + 1) (.ref p) (.ref q)
  | lst {n : Nat} {p q : Addr} {xs ys : List V} (hx : SqL K H p xs) (hy : SqL K H q ys) (hl : xs.length = ys.length) (hb : ys.length < 1000000) (h : ∀ (i : Nat) (x y : V), xs[i]? = some x → ys[i]? = some y → Eqv K H n x y) : Eqv K H (n + 2) (.ref p) (.ref q)
theorem Eqv.same {K : PySem.W.Frag} {H H' : Hp} {n : Nat} {x y : V} (e : Same H H') (h : Eqv K H n x y) : Eqv K H' n x y := by
  induction h with
  | sc h => exact .sc h
  | tup hx hy hl hb h ih => exact .tup (Same.sqt e hx) (Same.sqt e hy) hl hb ih
  | lst hx hy hl hb h ih => exact .lst (e.seq hx) (e.seq hy) hl hb ih
theorem Eqv.rat {K : PySem.W.Frag} {H : Hp} {n : Nat} {x y : V} {q : Rat} (h : RatV K H x q) (k : RatV K H y q) : Eqv K H (n + 2) x y := by
  obtain ⟨p, rfl, h⟩ := h
  obtain ⟨p', rfl, k⟩ := k
  refine .tup h k rfl (by show 2 < 1000000; decide) fun i x y e1 e2 => ?_
  rw [e1] at e2
  cases e2
  match i, e1 with
  | 0, e1 => cases e1; exact .sc rfl
  | 1, e1 => cases e1; exact .sc rfl
  | i + 2, e1 => simp at e1
theorem tyT {K : PySem.W.Frag} {H : Hp} {p : Addr} {xs : List V} (h : SqT K H p xs) : TyX K H (.ref p) (.type "tuple") := by
  rcases h with (h | ⟨o, h⟩) | ⟨o, its, n, h, hc, _⟩
  · exact .base (.tup h)
  · exact .fTuple h
  · exact .kTuple h hc
theorem tyL {K : PySem.W.Frag} {H : Hp} {p : Addr} {xs : List V} (h : SqL K H p xs) : TyX K H (.ref p) (.type "list") := by
  rcases h with (h | ⟨o, h⟩) | ⟨o, its, n, h, hc, _⟩
  · exact .base (.lst h)
  · exact .base (.frz h)
  · exact .kList h hc
def tyS : V → String
  | .int _ => "int"
  | .bl _ => "bool"
  | .str _ => "str"
  | _ => "NoneType"
theorem tySc {K : PySem.W.Frag} {H : Hp} {x : V} (h : isSc x = true) : TyX K H x (.type (tyS x)) := by
  cases x with
  | int i => exact .base (.int i)
  | bl i => exact .base (.bl i)
  | str i => exact .base (.str i)
  | non => exact .base .non
  | byt _ => cases h
  | flt _ => cases h
  | ref _ => cases h
  | ty _ => cases h
end Rz

namespace Rz
open PySem PySem.Spec PyProof.Rows L2
/-! ### promises -/
def StAt (H : Hp) (S c : Addr) : Prop := c ≠ S ∧ ∃ (i h n : Int) (cs : List Int), H S = some (.lst [.ref c, .int i, .int h, .int n]) ∧ H c = some (.lst (cs.map V.int)) ∧ 0 ≤ i ∧ 0 ≤ h
theorem StAt.upd {H : Hp} {S c p : Addr} {o : HO} (h : StAt H S c) (h1 : p ≠ S) (h2 : p ≠ c) : StAt (upd H p o) S c := by
  obtain ⟨n, i, x, m, cs, e1, e2, e3⟩ := h
  exact ⟨n, i, x, m, cs, by rw [upd_ne h1.symm]; exact e1, by rw [upd_ne h2.symm]; exact e2, e3⟩
theorem StAt.same {H H' : Hp} {S c : Addr} (h : StAt H S c) (e : Same H H') : StAt H' S c := by
  obtain ⟨n, i, x, m, cs, e1, e2, e3⟩ := h
  exact ⟨n, i, x, m, cs, e _ _ e1, e _ _ e2, e3⟩
theorem StAt.neS {H : Hp} {S c p : Addr} (h : StAt H S c) (hp : H p = none) : p ≠ S := by
  obtain ⟨n, i, x, m, cs, e1, e2, e3⟩ := h
  exact (ne_of_none e1 hp).symm
theorem StAt.nec {H : Hp} {S c p : Addr} (h : StAt H S c) (hp : H p = none) : p ≠ c := by
  obtain ⟨n, i, x, m, cs, e1, e2, e3⟩ := h
  exact (ne_of_none e2 hp).symm
theorem StAt.lst {H : Hp} {S c : Addr} (h : StAt H S c) : ∃ ys, H S = some (.lst ys) := by
  obtain ⟨n, i, x, m, cs, e1, e2, e3⟩ := h
  exact ⟨_, e1⟩
theorem RatV.st {K : PySem.W.Frag} {H H' : Hp} {S c : Addr} {v : V} {q : Rat} (h : RatV K H v q) (e : Kp S H H') (hS : StAt H S c) : RatV K H' v q := by
  obtain ⟨ys, hy⟩ := hS.lst
  exact h.kp e hy
def spPick : Sp := fun vs H Q _ => ∃ (S c : Addr) (lim : Int), vs = [.ref S, .int lim] ∧ StAt H S c ∧ 0 < lim ∧ lim.natAbs < 2 ^ 9000 ∧ ∀ v H', 0 ≤ v → v < lim → StAt H' S c → Kp S H H' → Q (.int v) H'
def spGcd : Sp := fun vs H Q _ => ∃ a b : Int, vs = [.int a, .int b] ∧ 0 ≤ a ∧ 0 ≤ b ∧ Q (.int (gcdI a b)) H
def spLRatio (K : PySem.W.Frag) : Sp := fun vs H Q _ => ∃ a b : Int, vs = [.int a, .int b] ∧ b ≠ 0 ∧ b.natAbs < 2 ^ 9000 ∧ ∀ v H', Same H H' → RatV K H' v (Rat.divInt a b) → Q v H'
def spBin (K : PySem.W.Frag) (f : Rat → Rat → Rat) : Sp := fun vs H Q _ => ∃ (x y : V) (p q : Rat) (n m : Nat), vs = [x, y] ∧ RatV K H x p ∧ RatV K H y q ∧ Bd n p ∧ Bd m q ∧ n + m ≤ 8000 ∧ ∀ v H', Same H H' → RatV K H' v (f p q) → Q v H'
theorem gcdI_step {a b : Int} (ha : 0 ≤ a) (hb : 0 ≤ b) (h : b ≠ 0) : gcdI b (a.fmod b) = gcdI a b := by
  have e1 : a.fmod b = ((a.toNat % b.toNat : Nat) : Int) := by
    rw [Int.fmod_eq_emod_of_nonneg _ hb, Int.natCast_emod, Int.toNat_of_nonneg ha, Int.toNat_of_nonneg hb]
  unfold gcdI
  rw [e1, Int.natAbs_natCast]
  have e2 : a.natAbs = a.toNat := by omega
  have e3 : b.natAbs = b.toNat := by omega
  rw [e2, e3]
  congr 1
  conv => rhs; rw [Nat.gcd_comm, Nat.gcd_rec]
  rw [Nat.gcd_comm]
theorem gcdI_zero {a : Int} (ha : 0 ≤ a) : gcdI a 0 = a := by
  unfold gcdI
  rw [Int.natAbs_zero, Nat.gcd_zero_right]
  omega
theorem abs_gcd (a b : Int) : gcdI (if a < 0 then -a else a) (if b < 0 then -b else b) = gcdI a b := by
  unfold gcdI
  have e1 : (if a < 0 then -a else a).natAbs = a.natAbs := by split <;> omega
  have e2 : (if b < 0 then -b else b).natAbs = b.natAbs := by split <;> omega
  rw [e1, e2]
def spDiv (K : PySem.W.Frag) : Sp := fun vs H Q _ => ∃ (x y : V) (p q : Rat) (n m : Nat), vs = [x, y] ∧ RatV K H x p ∧ RatV K H y q ∧ Bd n p ∧ Bd m q ∧ n + m ≤ 8000 ∧ q ≠ 0 ∧ ∀ v H', Same H H' → RatV K H' v (p / q) → Q v H'
theorem den_num_ne {p q : Rat} (h : q ≠ 0) : (p.den : Int) * q.num ≠ 0 := Int.mul_ne_zero (by have := den_pos p; omega) fun z => h (Rat.num_eq_zero.mp z)
def spRatio (K : PySem.W.Frag) (C : Addr) : Sp := fun vs H Q E => ∃ a b : Int, vs = [.int a, .int b] ∧ b.natAbs < 2 ^ 9000 ∧ (b = 0 → E (.ref C) none H) ∧ (b ≠ 0 → ∀ v H', Same H H' → RatV K H' v (Rat.divInt a b) → Q v H')
def spSame (K : PySem.W.Frag) (n : Nat) : Sp := fun vs H Q _ => ∃ x y, vs = [x, y] ∧ Eqv K H n x y ∧ ∀ H', Same H H' → Q (.bl true) H'
theorem fn_false {P : Program} {w : World} {K : PySem.W.Frag} {mg : Str → Option Value} {base : Heap} {f : Addr} {fd : FuncData} {ps : List Str} {k : Nat} {sp : Sp} (h : ∀ vs H Q E, ¬ sp vs H Q E) : FnOk P w K mg base CX0 k f fd ps sp := ⟨fun vs H Q E q => absurd q (h vs H Q E), fun A outer s H args us vs Q E _ _ _ _ q => absurd q (h vs H Q E)⟩
def spWhole : Sp := fun vs H Q _ => ∃ S c : Addr, vs = [.ref S] ∧ StAt H S c ∧ ∀ (v : Int) H', v.natAbs < 2 ^ 50 → StAt H' S c → Kp S H H' → Q (.int v) H'
def spOver (K : PySem.W.Frag) (C : Addr) : Sp := fun vs H Q E => ∃ (x y : V) (p q : Rat) (n m : Nat), vs = [x, y] ∧ RatV K H x p ∧ RatV K H y q ∧ Bd n p ∧ Bd m q ∧ n + m ≤ 8000 ∧ (q = 0 → E (.ref C) none H) ∧ (q ≠ 0 → ∀ v H', Same H H' → RatV K H' v (p / q) → Q v H')
def spNeg (K : PySem.W.Frag) : Sp := fun vs H Q _ => ∃ (x : V) (p : Rat), vs = [x] ∧ RatV K H x p ∧ ∀ v H', Same H H' → RatV K H' v (-p) → Q v H'
def spLess (K : PySem.W.Frag) : Sp := fun vs H Q _ => ∃ (x y : V) (p q : Rat) (n m : Nat), vs = [x, y] ∧ RatV K H x p ∧ RatV K H y q ∧ Bd n p ∧ Bd m q ∧ n + m ≤ 8000 ∧ Q (.bl (decide (p.num * (q.den : Int) < q.num * (p.den : Int)))) H
def spIsRatio (K : PySem.W.Frag) : Sp := fun vs H Q _ => ∃ (p : Addr) (a b : Int), vs = [.ref p] ∧ SqT K H p [.int a, .int b] ∧ Q (.bl (decide (0 < b) && decide (gcdI a b = 1))) H
/-- the sum of ratios, from the left -/
def sumR (qs : List Rat) : Rat := qs.foldl (fun a b => a + b) 0
theorem sumR_snoc (qs : List Rat) (q : Rat) : sumR (qs ++ [q]) = sumR qs + q := by
  unfold sumR
  rw [List.foldl_append]
  rfl
theorem fold_bd {n : Nat} : ∀ (qs : List Rat) (b : Rat) (m : Nat), Bd m b → (∀ q ∈ qs, Bd n q) → Bd (m + qs.length * (n + 1)) (qs.foldl (fun a b => a + b) b)
  | [], b, m, h, _ => by
    rw [List.length_nil, Nat.zero_mul]
    exact h
  | q :: qs, b, m, h, k => by
    have h1 := Bd.add h (k q List.mem_cons_self)
    refine (fold_bd qs (b + q) (m + n + 1) h1 fun x hx => k x (List.mem_cons_of_mem _ hx)).mono ?_
    rw [List.length_cons, Nat.succ_mul]
    omega
theorem sumR_bd {n : Nat} (qs : List Rat) (h : ∀ q ∈ qs, Bd n q) : Bd (1 + qs.length * (n + 1)) (sumR qs) := fold_bd qs 0 1 Bd.zero h
theorem sumR_take {qs : List Rat} {i : Nat} {q : Rat} (h : qs[i]? = some q) : sumR (qs.take (i + 1)) = sumR (qs.take i) + q := by
  rw [List.take_add_one, h]
  exact sumR_snoc _ _
def spTotal (K : PySem.W.Frag) : Sp := fun vs H Q _ => ∃ (a : Addr) (xs : List V) (qs : List Rat) (n : Nat), vs = [.ref a] ∧ SqL K H a xs ∧ xs.length = qs.length ∧ (∀ (i : Nat) x q, xs[i]? = some x → qs[i]? = some q → RatV K H x q) ∧ (∀ q ∈ qs, Bd n q) ∧ 1 + qs.length * (n + 1) + n ≤ 8000 ∧
  ∀ v H', Same H H' → RatV K H' v (sumR qs) → Q v H'
/-- told: the def at f, and what it tells -/
def spTold (K : PySem.W.Frag) (C f : Addr) (spF : Sp) : Sp := fun vs H Q _ => ∃ x y, vs = [.ref f, x, y] ∧ spF [x, y] H (fun v H' => ∀ p, H' p = none → Q (.ref p) (upd H' p (.tup [.str "told", v])))
  (fun cls d H' => cls = .ref C ∧ d = none ∧ ∀ p, H' p = none → Q (.ref p) (upd H' p (.tup [.str "refused"])))
theorem dec_int (a b : Int) : decide (V.int a = V.int b) = decide (a = b) := by
  by_cases h : a = b
  · rw [h, decide_eq_true rfl, decide_eq_true rfl]
  · rw [decide_eq_false h, decide_eq_false fun z => h (V.int.inj z)]
theorem RatV.updL {K : PySem.W.Frag} {H : Hp} {p : Addr} {v : V} {q : Rat} {ys : List V} {o : HO} (h : RatV K H v q) (e : H p = some (.lst ys)) : RatV K (upd H p o) v q := h.kp Kp.upd e
/-- the i-th of xs stands for the i-th of qs -/
structure Rats (K : PySem.W.Frag) (H : Hp) (xs : List V) (qs : List Rat) : Prop where
  len : xs.length = qs.length
  at_ : ∀ (i : Nat) x q, xs[i]? = some x → qs[i]? = some q → RatV K H x q
theorem Rats.nil {K : PySem.W.Frag} {H : Hp} : Rats K H [] [] := ⟨rfl, fun i x q h => by simp at h⟩
theorem Rats.same {K : PySem.W.Frag} {H H' : Hp} {xs : List V} {qs : List Rat} (h : Rats K H xs qs) (e : Same H H') : Rats K H' xs qs := ⟨h.len, fun i x q a b => (h.at_ i x q a b).same e⟩
theorem Rats.kp {K : PySem.W.Frag} {S : Addr} {ys : List V} {H H' : Hp} {xs : List V} {qs : List Rat} (h : Rats K H xs qs) (e : Kp S H H') (hS : H S = some (.lst ys)) : Rats K H' xs qs := ⟨h.len, fun i x q a b => (h.at_ i x q a b).kp e hS⟩
theorem Rats.snoc {K : PySem.W.Frag} {H : Hp} {xs : List V} {qs : List Rat} {x : V} {q : Rat} (h : Rats K H xs qs) (k : RatV K H x q) : Rats K H (xs ++ [x]) (qs ++ [q]) := by
  refine ⟨by rw [List.length_append, List.length_append, h.len]; rfl, fun i x' q' a b => ?_⟩
  by_cases hi : i < xs.length
  · rw [List.getElem?_append_left hi] at a
    rw [List.getElem?_append_left (h.len ▸ hi)] at b
    exact h.at_ i x' q' a b
  · rw [List.getElem?_append_right (by omega)] at a
    rw [List.getElem?_append_right (by rw [← h.len]; omega), ← h.len] at b
    by_cases h0 : i - xs.length = 0
    · rw [h0] at a b
      cases a
      cases b
      exact k
    · obtain ⟨j, hj⟩ : ∃ j, i - xs.length = j + 1 := ⟨i - xs.length - 1, by omega⟩
      rw [hj] at a
      simp at a
end Rz

namespace Rz

/-! ### sums -/
def sumN : Nat → (Nat → Rat) → Rat
  | 0, _ => 0
  | n + 1, f => sumN n f + f n
theorem sumN_congr {n : Nat} {f g : Nat → Rat} (h : ∀ i, i < n → f i = g i) : sumN n f = sumN n g := by
  induction n with
  | zero => rfl
  | succ n ih => rw [sumN, sumN, ih fun i hi => h i (by omega), h n (by omega)]
theorem sumN_add {n : Nat} {f g : Nat → Rat} {c : Rat} : sumN n (fun i => f i + c * g i) = sumN n f + c * sumN n g := by
  induction n with
  | zero => simp only [sumN]; grind
  | succ n ih => simp only [sumN, ih]; grind
theorem sumN_mul {n : Nat} {f : Nat → Rat} {c : Rat} : sumN n (fun i => c * f i) = c * sumN n f := by
  induction n with
  | zero => simp only [sumN]; grind
  | succ n ih => simp only [sumN, ih]; grind
theorem sumN_zero {n : Nat} {f : Nat → Rat} (h : ∀ i, i < n → f i = 0) : sumN n f = 0 := by
  induction n with
  | zero => rfl
  | succ n ih => rw [sumN, ih fun i hi => h i (by omega), h n (by omega)]; grind
/-- two terms alone -/
theorem sumN_two {n i : Nat} {f : Nat → Rat} (hi : i + 1 < n) (h : ∀ k, k < n → k ≠ i → k ≠ i + 1 → f k = 0) : sumN n f = f i + f (i + 1) := by
  induction n with
  | zero => omega
  | succ n ih =>
    rw [sumN]
    by_cases e : n = i + 1
    · subst e
      rw [sumN, sumN_zero fun k hk => h k (by omega) (by omega) (by omega)]
      grind
    · rw [ih (by omega) fun k hk => h k (by omega), h n (by omega) (by omega) (by omega)]
      grind
theorem sumN_one {n i : Nat} {f : Nat → Rat} (hi : i < n) (h : ∀ k, k < n → k ≠ i → f k = 0) : sumN n f = f i := by
  induction n with
  | zero => omega
  | succ n ih =>
    rw [sumN]
    by_cases e : n = i
    · subst e
      rw [sumN_zero fun k hk => h k (by omega) (by omega)]
      grind
    · rw [ih (by omega) fun k hk => h k (by omega), h n (by omega) (by omega)]
      grind

/-! ### determinants, by the last column -/
abbrev Row := List Rat
abbrev Mat := List Row
def ent (r : Row) (j : Nat) : Rat := r.getD j 0
def rw' (m : Mat) (i : Nat) : Row := m.getD i []
def sgn (k : Nat) : Rat := if k % 2 = 0 then 1 else -1
def det : Nat → Mat → Rat
  | 0, _ => 1
  | n + 1, m => sumN (n + 1) fun i => sgn (n - i) * ent (rw' m i) n * det n (m.eraseIdx i)
theorem rw_set_eq {m : Mat} {i : Nat} {u : Row} (h : i < m.length) : rw' (m.set i u) i = u := by
  unfold rw'
  rw [List.getD_eq_getElem?_getD, List.getElem?_set_self h, Option.getD_some]
theorem rw_set_ne {m : Mat} {i k : Nat} {u : Row} (h : i ≠ k) : rw' (m.set i u) k = rw' m k := by
  unfold rw'
  rw [List.getD_eq_getElem?_getD, List.getElem?_set_ne h, ← List.getD_eq_getElem?_getD]
theorem set_self {m : Mat} {i : Nat} (h : i < m.length) : m.set i (rw' m i) = m := by
  unfold rw'
  rw [List.getD_eq_getElem?_getD, List.getElem?_eq_getElem h, Option.getD_some]
  exact List.set_getElem_self h
theorem rw_erase_lt {m : Mat} {i k : Nat} (h : k < i) : rw' (m.eraseIdx i) k = rw' m k := by
  unfold rw'
  rw [List.getD_eq_getElem?_getD, List.getElem?_eraseIdx_of_lt h, ← List.getD_eq_getElem?_getD]
theorem rw_erase_ge {m : Mat} {i k : Nat} (h : i ≤ k) : rw' (m.eraseIdx i) k = rw' m (k + 1) := by
  unfold rw'
  rw [List.getD_eq_getElem?_getD, List.getElem?_eraseIdx_of_ge h, ← List.getD_eq_getElem?_getD]
theorem mat_ext {a b : Mat} (hl : a.length = b.length) (h : ∀ i, i < a.length → rw' a i = rw' b i) : a = b := by
  refine List.ext_getElem hl fun i h1 h2 => ?_
  have := h i h1
  unfold rw' at this
  rw [List.getD_eq_getElem?_getD, List.getD_eq_getElem?_getD, List.getElem?_eq_getElem h1, List.getElem?_eq_getElem h2] at this
  exact this
theorem erase_set_eq {m : Mat} {i : Nat} {u : Row} : (m.set i u).eraseIdx i = m.eraseIdx i := by
  by_cases h : i < m.length
  · refine mat_ext (by rw [List.length_eraseIdx, List.length_eraseIdx, List.length_set]) fun k hk => ?_
    rcases Nat.lt_or_ge k i with z | z
    · rw [rw_erase_lt z, rw_erase_lt z, rw_set_ne (by omega)]
    · rw [rw_erase_ge z, rw_erase_ge z, rw_set_ne (by omega)]
  · rw [List.set_eq_of_length_le (by omega)]
theorem erase_set_lt {m : Mat} {i k : Nat} {u : Row} (h : k < i) : (m.set i u).eraseIdx k = (m.eraseIdx k).set (i - 1) u := by
  by_cases hi : i < m.length
  · have hl : ((m.set i u).eraseIdx k).length = m.length - 1 := by rw [List.length_eraseIdx, List.length_set, if_pos (by omega)]
    refine mat_ext (by rw [hl, List.length_set, List.length_eraseIdx, if_pos (by omega)]) fun j hj => ?_
    rw [hl] at hj
    by_cases e : j = i - 1
    · subst e
      rw [rw_set_eq (by rw [List.length_eraseIdx, if_pos (by omega)]; omega), rw_erase_ge (by omega), show i - 1 + 1 = i by omega, rw_set_eq hi]
    · rw [rw_set_ne (by omega)]
      rcases Nat.lt_or_ge j k with z | z
      · rw [rw_erase_lt z, rw_erase_lt z, rw_set_ne (by omega)]
      · rw [rw_erase_ge z, rw_erase_ge z, rw_set_ne (by omega)]
  · rw [List.set_eq_of_length_le (by omega), List.set_eq_of_length_le (by rw [List.length_eraseIdx]; split <;> omega)]
theorem erase_set_gt {m : Mat} {i k : Nat} {u : Row} (h : i < k) : (m.set i u).eraseIdx k = (m.eraseIdx k).set i u := by
  have hl : ((m.set i u).eraseIdx k).length = ((m.eraseIdx k).set i u).length := by rw [List.length_set, List.length_eraseIdx, List.length_eraseIdx, List.length_set]
  refine mat_ext hl fun j hj => ?_
  have hj2 : j < m.length := by
    rw [List.length_eraseIdx, List.length_set] at hj
    split at hj <;> omega
  by_cases e : j = i
  · subst e
    rw [rw_erase_lt h, rw_set_eq hj2, rw_set_eq]
    rw [List.length_eraseIdx]
    split <;> omega
  · rw [rw_set_ne (by omega)]
    rcases Nat.lt_or_ge j k with z | z
    · rw [rw_erase_lt z, rw_erase_lt z, rw_set_ne (by omega)]
    · rw [rw_erase_ge z, rw_erase_ge z, rw_set_ne (by omega)]
/-- linear in each row -/
theorem det_lin : ∀ {n : Nat} {m : Mat} {i : Nat} {u v w : Row} {c : Rat}, i < n → m.length = n → (∀ j, j < n → ent u j = ent v j + c * ent w j) → det n (m.set i u) = det n (m.set i v) + c * det n (m.set i w)
  | 0, m, i, u, v, w, c, hi, hl, h => by omega
  | n + 1, m, i, u, v, w, c, hi, hl, h => by
    simp only [det]
    rw [← sumN_add]
    refine sumN_congr fun k hk => ?_
    by_cases e : k = i
    · subst e
      rw [erase_set_eq, erase_set_eq, erase_set_eq, rw_set_eq (by omega), rw_set_eq (by omega), rw_set_eq (by omega), h n (by omega)]
      grind
    · have hl2 : (m.eraseIdx k).length = n := by rw [List.length_eraseIdx, if_pos (by omega)]; omega
      rw [rw_set_ne (by omega), rw_set_ne (by omega), rw_set_ne (by omega)]
      rcases Nat.lt_or_ge k i with z | z
      · rw [erase_set_lt z, erase_set_lt z, erase_set_lt z, det_lin (u := u) (v := v) (w := w) (c := c) (by omega) hl2 fun j hj => h j (by omega)]
        grind
      · rw [erase_set_gt (by omega), erase_set_gt (by omega), erase_set_gt (by omega), det_lin (u := u) (v := v) (w := w) (c := c) (by omega) hl2 fun j hj => h j (by omega)]
        grind
theorem sgn_succ {k : Nat} : sgn (k + 1) = - sgn k := by
  unfold sgn
  rcases Nat.mod_two_eq_zero_or_one k with z | z
  · rw [if_neg (by omega), if_pos z]
  · rw [if_pos (by omega), if_neg (by omega)]
    grind
/-- two rows side by side are the same -/
theorem det_adj : ∀ {n : Nat} {m : Mat} {i : Nat}, i + 1 < n → m.length = n → rw' m i = rw' m (i + 1) → det n m = 0
  | 0, m, i, hi, hl, h => by omega
  | n + 1, m, i, hi, hl, h => by
    simp only [det]
    have hl2 : ∀ k, k < n + 1 → (m.eraseIdx k).length = n := fun k hk => by rw [List.length_eraseIdx, if_pos (by omega)]; omega
    rw [sumN_two (i := i) hi fun k hk h1 h2 => ?_]
    · have e : m.eraseIdx i = m.eraseIdx (i + 1) := by
        refine mat_ext (by rw [hl2 i (by omega), hl2 (i + 1) (by omega)]) fun k hk => ?_
        rcases Nat.lt_trichotomy k i with z | z | z
        · rw [rw_erase_lt z, rw_erase_lt (by omega)]
        · subst z
          rw [rw_erase_ge (Nat.le_refl _), rw_erase_lt (by omega), h]
        · rw [rw_erase_ge (by omega), rw_erase_ge (by omega)]
      rw [e, h, show n - i = n - (i + 1) + 1 by omega, sgn_succ]
      grind
    · have : det n (m.eraseIdx k) = 0 := by
        rcases Nat.lt_or_ge k i with z | z
        · refine det_adj (i := i - 1) (by omega) (hl2 k hk) ?_
          rw [rw_erase_ge (by omega), rw_erase_ge (by omega), show i - 1 + 1 = i by omega]
          exact h
        · refine det_adj (i := i) (by omega) (hl2 k hk) ?_
          rw [rw_erase_lt (by omega), rw_erase_lt (by omega)]
          exact h
      rw [this]
      grind
def addR (n : Nat) (u v : Row) (c : Rat) : Row := (List.range n).map fun j => ent u j + c * ent v j
theorem ent_addR {n j : Nat} {u v : Row} {c : Rat} (h : j < n) : ent (addR n u v c) j = ent u j + c * ent v j := by
  unfold addR ent
  rw [List.getD_eq_getElem?_getD, List.getElem?_map, List.getElem?_range h]
  rfl
def swp (m : Mat) (i k : Nat) : Mat := (m.set i (rw' m k)).set k (rw' m i)
theorem swp_len {m : Mat} {i k : Nat} : (swp m i k).length = m.length := by unfold swp; rw [List.length_set, List.length_set]
theorem rw_swp {m : Mat} {i k j : Nat} (hi : i < m.length) (hk : k < m.length) : rw' (swp m i k) j = if j = k then rw' m i else if j = i then rw' m k else rw' m j := by
  unfold swp
  by_cases e : j = k
  · subst e
    rw [if_pos rfl, rw_set_eq (by rw [List.length_set]; exact hk)]
  · rw [if_neg e, rw_set_ne (by omega)]
    by_cases e2 : j = i
    · subst e2
      rw [if_pos rfl, rw_set_eq hi]
    · rw [if_neg e2, rw_set_ne (by omega)]
theorem set_comm {m : Mat} {i k : Nat} {u v : Row} (h : i ≠ k) : (m.set i u).set k v = (m.set k v).set i u := List.set_comm _ _ h
theorem det_swp_adj {n : Nat} {m : Mat} {i : Nat} (hi : i + 1 < n) (hl : m.length = n) : det n (swp m i (i + 1)) = - det n m := by
  have ne : i ≠ i + 1 := by omega
  -- rows u, v at i and i + 1
  have key : ∀ u v : Row, det n ((m.set i u).set (i + 1) v) = - det n ((m.set i v).set (i + 1) u) := fun u v => by
    have same : ∀ x : Row, det n ((m.set i x).set (i + 1) x) = 0 := fun x => by
      refine det_adj hi (by rw [List.length_set, List.length_set]; exact hl) ?_
      rw [rw_set_ne (by omega), rw_set_eq (by omega), rw_set_eq (by rw [List.length_set]; omega)]
    have h0 := same (addR n u v 1)
    rw [det_lin (u := addR n u v 1) (v := u) (w := v) (c := 1) hi (by rw [List.length_set]; exact hl) fun j hj => ent_addR hj] at h0
    have ex : ∀ x : Row, det n ((m.set i (addR n u v 1)).set (i + 1) x) = det n ((m.set i u).set (i + 1) x) + 1 * det n ((m.set i v).set (i + 1) x) := fun x => by
      rw [set_comm ne, det_lin (u := addR n u v 1) (v := u) (w := v) (c := 1) (by omega) (by rw [List.length_set]; exact hl) fun j hj => ent_addR hj, set_comm (Ne.symm ne), set_comm (Ne.symm ne)]
    rw [ex u, ex v, same u, same v] at h0
    grind
  have := key (rw' m (i + 1)) (rw' m i)
  rw [set_self (m := m) (by omega)] at this
  unfold swp
  rw [this]
  congr 2
  exact set_self (by omega)
theorem mul_swp {m : Mat} {i j k : Nat} (hi : i < m.length) (hj : j < m.length) (hk : k < m.length) (h1 : i ≠ j) (h2 : j ≠ k) (h3 : i ≠ k) : swp (swp (swp m j k) i j) j k = swp m i k := by
  have l1 : (swp m j k).length = m.length := swp_len
  have l2 : (swp (swp m j k) i j).length = m.length := by rw [swp_len, l1]
  refine mat_ext (by rw [swp_len, l2, swp_len]) fun x hx => ?_
  have A := fun y => rw_swp (m := m) (i := j) (k := k) (j := y) hj hk
  have B := fun y => rw_swp (m := swp m j k) (i := i) (k := j) (j := y) (by omega) (by omega)
  have C := fun y => rw_swp (m := swp (swp m j k) i j) (i := j) (k := k) (j := y) (by omega) (by omega)
  have D := fun y => rw_swp (m := m) (i := i) (k := k) (j := y) hi hk
  simp only [C, B, A, D]
  by_cases e1 : x = k
  · subst e1
    simp [h1, h2, h3, Ne.symm h1, Ne.symm h2, Ne.symm h3]
  · by_cases e2 : x = j
    · subst e2
      simp [h1, h2, h3, Ne.symm h1, Ne.symm h2, Ne.symm h3]
    · by_cases e3 : x = i
      · subst e3
        simp [h1, h2, h3, Ne.symm h1, Ne.symm h2, Ne.symm h3]
      · simp [e1, e2, e3]
theorem det_swp : ∀ {d n : Nat} {m : Mat} {i : Nat}, i + d + 1 < n → m.length = n → det n (swp m i (i + d + 1)) = - det n m
  | 0, n, m, i, hi, hl => det_swp_adj hi hl
  | d + 1, n, m, i, hi, hl => by
    have a := det_swp_adj (m := m) (i := i + d + 1) hi hl
    have b := det_swp (n := n) (d := d) (m := swp m (i + d + 1) (i + d + 2)) (i := i) (by omega) (by rw [swp_len]; exact hl)
    have c := det_swp_adj (m := swp (swp m (i + d + 1) (i + d + 2)) i (i + d + 1)) (i := i + d + 1) hi (by rw [swp_len, swp_len]; exact hl)
    have e := mul_swp (m := m) (i := i) (j := i + d + 1) (k := i + d + 2) (by omega) (by omega) (by omega) (by omega) (by omega) (by omega)
    rw [show i + (d + 1) + 1 = i + d + 2 by omega, ← e]
    rw [show i + d + 1 + 1 = i + d + 2 by omega] at a c
    rw [c, b, a]
    grind
theorem det_swap {n i k : Nat} {m : Mat} (h : i < k) (hk : k < n) (hl : m.length = n) : det n (swp m i k) = - det n m := by
  obtain ⟨d, rfl⟩ : ∃ d, k = i + d + 1 := ⟨k - i - 1, by omega⟩
  exact det_swp hk hl
/-- two rows are the same -/
theorem det_same {n i k : Nat} {m : Mat} (h : i < k) (hk : k < n) (hl : m.length = n) (e : rw' m i = rw' m k) : det n m = 0 := by
  have s := det_swap h hk hl
  have : swp m i k = m := by
    refine mat_ext swp_len fun x hx => ?_
    rw [rw_swp (by omega) (by omega)]
    by_cases e1 : x = k
    · subst e1
      rw [if_pos rfl, e]
    · rw [if_neg e1]
      by_cases e2 : x = i
      · subst e2
        rw [if_pos rfl, e]
      · rw [if_neg e2]
  rw [this] at s
  grind
/-- as much of one row added to another one -/
theorem det_add {n i k : Nat} {m : Mat} {u : Row} {c : Rat} (hi : i < n) (hk : k < n) (hne : i ≠ k) (hl : m.length = n) (h : ∀ j, j < n → ent u j = ent (rw' m i) j + c * ent (rw' m k) j) : det n (m.set i u) = det n m := by
  rw [det_lin (u := u) (v := rw' m i) (w := rw' m k) (c := c) hi hl h, set_self (by omega)]
  have z : det n (m.set i (rw' m k)) = 0 := by
    have e1 : rw' (m.set i (rw' m k)) i = rw' m k := rw_set_eq (by omega)
    have e2 : rw' (m.set i (rw' m k)) k = rw' m k := rw_set_ne hne
    rcases Nat.lt_or_gt_of_ne hne with z | z
    · exact det_same z hk (by rw [List.length_set]; exact hl) (e1.trans e2.symm)
    · exact det_same z hi (by rw [List.length_set]; exact hl) (e2.trans e1.symm)
  rw [z]
  grind
/-- only the entries count -/
theorem det_ent {n : Nat} {a b : Mat} (h : ∀ i j, i < n → j < n → ent (rw' a i) j = ent (rw' b i) j) : det n a = det n b := by
  induction n generalizing a b with
  | zero => rfl
  | succ n ih =>
    simp only [det]
    refine sumN_congr fun k hk => ?_
    rw [h k n hk (by omega), ih (a := a.eraseIdx k) (b := b.eraseIdx k) fun i j hi hj => ?_]
    rcases Nat.lt_or_ge i k with z | z
    · rw [rw_erase_lt z, rw_erase_lt z]
      exact h i j (by omega) (by omega)
    · rw [rw_erase_ge z, rw_erase_ge z]
      exact h (i + 1) j (by omega) (by omega)
theorem det_zrow {n i : Nat} {m : Mat} (hi : i < n) (hl : m.length = n) (h : ∀ j, j < n → ent (rw' m i) j = 0) : det n m = 0 := by
  have := det_lin (m := m) (u := rw' m i) (v := rw' m i) (w := rw' m i) (c := 1) hi hl fun j hj => by
    rw [h j hj]
    grind
  rw [set_self (by omega)] at this
  grind
/-- rows from number a on are 0 in the columns up to a -/
theorem det_flat : ∀ {n a : Nat} {m : Mat}, a < n → m.length = n → (∀ k j, a ≤ k → k < n → j ≤ a → ent (rw' m k) j = 0) → det n m = 0
  | 0, a, m, ha, hl, h => by omega
  | n + 1, a, m, ha, hl, h => by
    by_cases e : a = n
    · exact det_zrow (i := a) ha hl fun j hj => h a j (Nat.le_refl _) ha (by omega)
    · simp only [det]
      refine sumN_zero fun k hk => ?_
      have hl2 : (m.eraseIdx k).length = n := by rw [List.length_eraseIdx, if_pos (by omega)]; omega
      rw [det_flat (a := a) (by omega) hl2 fun i j h1 h2 h3 => ?_]
      · grind
      · rcases Nat.lt_or_ge i k with z | z
        · rw [rw_erase_lt z]
          exact h i j h1 (by omega) h3
        · rw [rw_erase_ge z]
          exact h (i + 1) j (by omega) (by omega) h3
def prodN : Nat → (Nat → Rat) → Rat
  | 0, _ => 1
  | n + 1, f => prodN n f * f n
theorem prodN_congr {n : Nat} {f g : Nat → Rat} (h : ∀ i, i < n → f i = g i) : prodN n f = prodN n g := by
  induction n with
  | zero => rfl
  | succ n ih => rw [prodN, prodN, ih fun i hi => h i (by omega), h n (by omega)]
theorem prodN_ne {n : Nat} {f : Nat → Rat} (h : ∀ i, i < n → f i ≠ 0) : prodN n f ≠ 0 := by
  induction n with
  | zero => simp only [prodN]; grind
  | succ n ih =>
    have := ih fun i hi => h i (by omega)
    have := h n (by omega)
    simp only [prodN]
    grind
theorem det_tri : ∀ {n : Nat} {m : Mat}, m.length = n → (∀ k j, k < n → j < k → ent (rw' m k) j = 0) → det n m = prodN n fun i => ent (rw' m i) i
  | 0, m, hl, h => rfl
  | n + 1, m, hl, h => by
    have hl2 : ∀ k, k < n + 1 → (m.eraseIdx k).length = n := fun k hk => by rw [List.length_eraseIdx, if_pos (by omega)]; omega
    simp only [det]
    rw [sumN_one (i := n) (by omega) fun k hk hne => ?_]
    · rw [det_tri (hl2 n (by omega)) fun k j hk hj => ?_]
      · rw [show sgn (n - n) = 1 by rw [Nat.sub_self]; rfl]
        simp only [prodN]
        rw [prodN_congr (g := fun i => ent (rw' m i) i) fun i hi => by rw [rw_erase_lt (by omega)]]
        grind
      · rw [rw_erase_lt (by omega)]
        exact h k j (by omega) hj
    · have : det n (m.eraseIdx k) = 0 := by
        refine det_zrow (i := n - 1) (by omega) (hl2 k hk) fun j hj => ?_
        rw [rw_erase_ge (by omega), show n - 1 + 1 = n by omega]
        exact h n j (by omega) hj
      rw [this]
      grind
end Rz

namespace Rz

/-! ### matrices by their rows, chosen columns -/
def mkM (n : Nat) (f : Nat → Row) : Mat := (List.range n).map f
theorem mkM_len {n : Nat} {f : Nat → Row} : (mkM n f).length = n := by unfold mkM; rw [List.length_map, List.length_range]
theorem rw_mkM {n i : Nat} {f : Nat → Row} (h : i < n) : rw' (mkM n f) i = f i := by
  unfold rw' mkM
  rw [List.getD_eq_getElem?_getD, List.getElem?_map, List.getElem?_range h]
  rfl
def sel (N : Nat) (cs : Nat → Nat) (r : Row) : Row := (List.range N).map fun t => ent r (cs t)
theorem ent_sel {N t : Nat} {cs : Nat → Nat} {r : Row} (h : t < N) : ent (sel N cs r) t = ent r (cs t) := by
  unfold ent sel
  rw [List.getD_eq_getElem?_getD, List.getElem?_map, List.getElem?_range h]
  rfl

/-! ### r is s with as much of some rows of O -/
inductive Comb (n : Nat) (O : Mat) (P : Nat → Prop) : Row → Row → Prop
  | base {r s : Row} (h : ∀ j, j < n → ent r j = ent s j) : Comb n O P r s
  | step {r r' s : Row} (i : Nat) (c : Rat) (hi : P i) (h : Comb n O P r s) (e : ∀ j, j < n → ent r' j = ent r j + c * ent (rw' O i) j) : Comb n O P r' s
theorem Comb.refl {n : Nat} {O : Mat} {P : Nat → Prop} {r : Row} : Comb n O P r r := .base fun _ _ => rfl
theorem Comb.move {n : Nat} {O O' : Mat} {P P' : Nat → Prop} {r s : Row} (h : Comb n O P r s) (hp : ∀ i, P i → P' i ∧ rw' O' i = rw' O i) : Comb n O' P' r s := by
  induction h with
  | base h => exact .base h
  | step i c hi _ e ih =>
    obtain ⟨a, b⟩ := hp i hi
    exact .step i c a ih fun j hj => by rw [b]; exact e j hj
theorem Comb.cut {n n' : Nat} {O : Mat} {P : Nat → Prop} {r s : Row} (h : Comb n O P r s) (hn : n' ≤ n) : Comb n' O P r s := by
  induction h with
  | base h => exact .base fun j hj => h j (by omega)
  | step i c hi _ e ih => exact .step i c hi ih fun j hj => e j (by omega)
theorem Comb.add {n : Nat} {O : Mat} {P Q : Nat → Prop} {x y s : Row} {a : Nat} (hx : Comb n O Q x y) (hQ : ∀ i, Q i → P i) (ha : P a) (hy : y = rw' O a) : ∀ {r r' : Row} {c : Rat}, Comb n O P r s → (∀ j, j < n → ent r' j = ent r j + c * ent x j) → Comb n O P r' s := by
  induction hx with
  | base h =>
    intro r r' c hr e
    exact .step a c ha hr fun j hj => by rw [e j hj, h j hj, hy]
  | step i d hi _ e2 ih =>
    rename_i x0 x1 y0 hx0
    intro r r' c hr e
    have h1 := ih hy hr (r' := addR n r x0 c) (c := c) fun j hj => ent_addR hj
    refine .step i (c * d) (hQ i hi) h1 fun j hj => ?_
    rw [e j hj, e2 j hj, ent_addR hj]
    grind
theorem Comb.sel {n N : Nat} {O A : Mat} {P Q : Nat → Prop} {r s : Row} {cs : Nat → Nat} (h : Comb n O P r s) (hc : ∀ t, t < N → cs t < n) (hp : ∀ i, P i → Q i ∧ rw' A i = Rz.sel N cs (rw' O i)) : Comb N A Q (Rz.sel N cs r) (Rz.sel N cs s) := by
  induction h with
  | base h => exact .base fun j hj => by rw [ent_sel hj, ent_sel hj, h _ (hc j hj)]
  | step i c hi _ e ih =>
    obtain ⟨a, b⟩ := hp i hi
    exact .step i c a ih fun j hj => by rw [b, ent_sel hj, ent_sel hj, ent_sel hj, e _ (hc j hj)]
/-- a row is another one with as much of other rows that stand there -/
theorem comb_set {n k : Nat} {A H : Mat} {P : Nat → Prop} {r s : Row} (hk : k < n) (hl : H.length = n) (hP : ∀ i, P i → i < n ∧ i ≠ k ∧ rw' H i = rw' A i) (h : Comb n A P r s) : det n (H.set k r) = det n (H.set k s) := by
  induction h with
  | base h =>
    refine det_ent fun i j hi hj => ?_
    by_cases e : i = k
    · subst e
      rw [rw_set_eq (by omega), rw_set_eq (by omega), h j hj]
    · rw [rw_set_ne (by omega), rw_set_ne (by omega)]
  | step i c hi _ e ih =>
    rename_i r0 r1 s0 h0
    obtain ⟨a1, a2, a3⟩ := hP i hi
    rw [← ih]
    have := det_add (m := H.set k r0) (u := r1) (c := c) (i := k) (k := i) hk a1 (Ne.symm a2) (by rw [List.length_set]; exact hl) fun j hj => by
      rw [rw_set_eq (by omega), rw_set_ne (Ne.symm a2), a3]
      exact e j hj
    rw [List.set_set] at this
    exact this
/-- each row is one of A with as much of rows ahead -/
theorem det_down {n : Nat} {A B : Mat} (hA : A.length = n) (hB : B.length = n) (h : ∀ k, k < n → Comb n A (fun i => i < k) (rw' B k) (rw' A k)) : det n B = det n A := by
  have key : ∀ d, d ≤ n → det n (mkM n fun i => if i < d then rw' A i else rw' B i) = det n A := by
    intro d hd
    induction hk : n - d generalizing d with
    | zero =>
      have : d = n := by omega
      subst this
      exact det_ent fun i j hi hj => by rw [rw_mkM hi, if_pos hi]
    | succ m ih =>
      have h1 := ih (d + 1) (by omega) (by omega)
      rw [← h1]
      have hdn : d < n := by omega
      have c := comb_set (n := n) (k := d) (A := A) (H := mkM n fun i => if i < d + 1 then rw' A i else rw' B i) (P := fun i => i < d) hdn mkM_len (fun i hi => ⟨by omega, by omega, by rw [rw_mkM (by omega), if_pos (by omega)]⟩) (h d hdn)
      have e1 : (mkM n fun i => if i < d + 1 then rw' A i else rw' B i).set d (rw' B d) = mkM n fun i => if i < d then rw' A i else rw' B i := by
        refine mat_ext (by rw [List.length_set, mkM_len, mkM_len]) fun i hi => ?_
        rw [List.length_set, mkM_len] at hi
        by_cases e : i = d
        · subst e
          rw [rw_set_eq (by rw [mkM_len]; exact hi), rw_mkM hi, if_neg (by omega)]
        · rw [rw_set_ne (by omega), rw_mkM hi, rw_mkM hi]
          by_cases z : i < d
          · rw [if_pos z, if_pos (by omega)]
          · rw [if_neg z, if_neg (by omega)]
      have e2 : (mkM n fun i => if i < d + 1 then rw' A i else rw' B i).set d (rw' A d) = mkM n fun i => if i < d + 1 then rw' A i else rw' B i := by
        refine mat_ext (by rw [List.length_set]) fun i hi => ?_
        rw [List.length_set, mkM_len] at hi
        by_cases e : i = d
        · subst e
          rw [rw_set_eq (by rw [mkM_len]; exact hi), rw_mkM hi, if_pos (by omega)]
        · rw [rw_set_ne (by omega)]
      rw [e1, e2] at c
      exact c
  have h0 := key 0 (Nat.zero_le _)
  rw [← h0]
  exact det_ent fun i j hi hj => by rw [rw_mkM hi, if_neg (by omega)]
/-- .. of rows behind -/
theorem det_up {n : Nat} {A B : Mat} (hA : A.length = n) (hB : B.length = n) (h : ∀ k, k < n → Comb n A (fun i => k < i ∧ i < n) (rw' B k) (rw' A k)) : det n B = det n A := by
  have key : ∀ d, d ≤ n → det n (mkM n fun i => if i < d then rw' B i else rw' A i) = det n A := by
    intro d
    induction d with
    | zero =>
      intro _
      exact det_ent fun i j hi hj => by rw [rw_mkM hi, if_neg (by omega)]
    | succ d ih =>
      intro hd
      rw [← ih (by omega)]
      have hdn : d < n := by omega
      have c := comb_set (n := n) (k := d) (A := A) (H := mkM n fun i => if i < d then rw' B i else rw' A i) (P := fun i => d < i ∧ i < n) hdn mkM_len (fun i hi => ⟨hi.2, by omega, by rw [rw_mkM hi.2, if_neg (by omega)]⟩) (h d hdn)
      have e1 : (mkM n fun i => if i < d then rw' B i else rw' A i).set d (rw' B d) = mkM n fun i => if i < d + 1 then rw' B i else rw' A i := by
        refine mat_ext (by rw [List.length_set, mkM_len, mkM_len]) fun i hi => ?_
        rw [List.length_set, mkM_len] at hi
        by_cases e : i = d
        · subst e
          rw [rw_set_eq (by rw [mkM_len]; exact hi), rw_mkM hi, if_pos (by omega)]
        · rw [rw_set_ne (by omega), rw_mkM hi, rw_mkM hi]
          by_cases z : i < d
          · rw [if_pos z, if_pos (by omega)]
          · rw [if_neg z, if_neg (by omega)]
      have e2 : (mkM n fun i => if i < d then rw' B i else rw' A i).set d (rw' A d) = mkM n fun i => if i < d then rw' B i else rw' A i := by
        refine mat_ext (by rw [List.length_set]) fun i hi => ?_
        rw [List.length_set, mkM_len] at hi
        by_cases e : i = d
        · subst e
          rw [rw_set_eq (by rw [mkM_len]; exact hi), rw_mkM hi, if_neg (by omega)]
        · rw [rw_set_ne (by omega)]
      rw [e1, e2] at c
      exact c
  have h0 := key n (Nat.le_refl _)
  rw [← h0]
  exact det_ent fun i j hi hj => by rw [rw_mkM hi, if_pos hi]

/-! ### elimination, downwards -/
structure Gs (n nc : Nat) (O W : Mat) (a : Nat) : Prop where
  lo : O.length = n
  lw : W.length = n
  comb : ∀ k, k < n → Comb nc O (fun i => i < k ∧ i < a) (rw' W k) (rw' O k)
  tri : ∀ k j, k < n → j < a → j < k → ent (rw' W k) j = 0
  piv : ∀ i, i < a → ent (rw' W i) i ≠ 0
theorem Gs.start {n nc : Nat} {O : Mat} (h : O.length = n) : Gs n nc O O 0 := ⟨h, h, fun _ _ => .refl, fun _ _ _ z => absurd z (Nat.not_lt_zero _), fun _ z => absurd z (Nat.not_lt_zero _)⟩
theorem Gs.swap {n nc : Nat} {O W : Mat} {a f : Nat} (h : Gs n nc O W a) (hf : a ≤ f) (hfn : f < n) : Gs n nc (swp O a f) (swp W a f) a := by
  have hO := fun j => rw_swp (m := O) (i := a) (k := f) (j := j) (by rw [h.lo]; omega) (by rw [h.lo]; omega)
  have hW := fun j => rw_swp (m := W) (i := a) (k := f) (j := j) (by rw [h.lw]; omega) (by rw [h.lw]; omega)
  have same : ∀ i, i < a → rw' (swp O a f) i = rw' O i := fun i hi => by rw [hO, if_neg (by omega), if_neg (by omega)]
  refine ⟨by rw [swp_len]; exact h.lo, by rw [swp_len]; exact h.lw, fun k hk => ?_, fun k j hk hj hjk => ?_, fun i hi => ?_⟩
  · rw [hO k, hW k]
    by_cases e1 : k = f
    · subst e1
      rw [if_pos rfl, if_pos rfl]
      exact (h.comb a (by omega)).move fun i hi => ⟨⟨by omega, hi.2⟩, same i hi.2⟩
    · rw [if_neg e1, if_neg e1]
      by_cases e2 : k = a
      · subst e2
        rw [if_pos rfl, if_pos rfl]
        exact (h.comb f hfn).move fun i hi => ⟨⟨hi.2, hi.2⟩, same i hi.2⟩
      · rw [if_neg e2, if_neg e2]
        exact (h.comb k hk).move fun i hi => ⟨hi, same i hi.2⟩
  · rw [hW]
    by_cases e1 : k = f
    · rw [if_pos e1]
      exact h.tri a j (by omega) hj hj
    · rw [if_neg e1]
      by_cases e2 : k = a
      · rw [if_pos e2]
        exact h.tri f j hfn hj (by omega)
      · rw [if_neg e2]
        exact h.tri k j hk hj hjk
  · rw [hW, if_neg (by omega), if_neg (by omega)]
    exact h.piv i hi
/-- a row less as much of another one as makes it 0 in column a -/
def clr (row p : Row) (a : Nat) : Row := if ent row a = 0 then row else List.zipWith (fun v q => v - ent row a / ent p a * q) row p
theorem clr_len {row p : Row} {a : Nat} (h : p.length = row.length) : (clr row p a).length = row.length := by
  unfold clr
  split
  · rfl
  · rw [List.length_zipWith, h, Nat.min_self]
theorem ent_clr {row p : Row} {a j : Nat} (h : p.length = row.length) : ent (clr row p a) j = ent row j + (- (ent row a / ent p a)) * ent p j := by
  unfold clr
  split
  · rename_i e
    rw [e, Rat.div_def, Rat.zero_mul]
    grind
  · by_cases hj : j < row.length
    · simp only [ent, List.getD_eq_getElem?_getD]
      rw [List.getElem?_zipWith, List.getElem?_eq_getElem hj, List.getElem?_eq_getElem (by omega)]
      simp only [Option.getD_some]
      grind
    · simp only [ent, List.getD_eq_getElem?_getD]
      have z : ∀ f : Rat → Rat → Rat, (List.zipWith f row p)[j]? = none := fun f => List.getElem?_eq_none (by rw [List.length_zipWith]; omega)
      rw [z, List.getElem?_eq_none (show row.length ≤ j by omega), List.getElem?_eq_none (show p.length ≤ j by omega)]
      simp only [Option.getD_none]
      grind
def clrG (W : Mat) (a : Nat) : Mat := mkM W.length fun k => if a < k then clr (rw' W k) (rw' W a) a else rw' W k
def Wide (nc : Nat) (W : Mat) : Prop := ∀ k, k < W.length → (rw' W k).length = nc
theorem Wide.swp {nc : Nat} {W : Mat} {a f : Nat} (h : Wide nc W) (ha : a < W.length) (hf : f < W.length) : Wide nc (swp W a f) := fun k hk => by
  rw [swp_len] at hk
  rw [rw_swp ha hf]
  split
  · exact h a ha
  · split
    · exact h f hf
    · exact h k hk
theorem Wide.clrG {nc : Nat} {W : Mat} {a : Nat} (h : Wide nc W) (ha : a < W.length) : Wide nc (clrG W a) := fun k hk => by
  unfold Rz.clrG at hk ⊢
  rw [mkM_len] at hk
  rw [rw_mkM hk]
  split
  · rw [clr_len (by rw [h a ha, h k hk]), h k hk]
  · exact h k hk
theorem Gs.clear {n nc : Nat} {O W : Mat} {a : Nat} (h : Gs n nc O W a) (hw : Wide nc W) (ha : a < n) (hac : a < nc) (hp : ent (rw' W a) a ≠ 0) : Gs n nc O (clrG W a) (a + 1) := by
  have hr : ∀ k, k < n → rw' (clrG W a) k = if a < k then clr (rw' W k) (rw' W a) a else rw' W k := fun k hk => by
    unfold clrG
    rw [rw_mkM (by rw [h.lw]; exact hk)]
  have hl : ∀ k, k < n → (rw' W a).length = (rw' W k).length := fun k hk => by rw [hw a (by rw [h.lw]; exact ha), hw k (by rw [h.lw]; exact hk)]
  refine ⟨h.lo, by unfold clrG; rw [mkM_len]; exact h.lw, fun k hk => ?_, fun k j hk hj hjk => ?_, fun i hi => ?_⟩
  · rw [hr k hk]
    split
    · rename_i hak
      refine Comb.add (a := a) (h.comb a ha) (fun i hi => ⟨by omega, by omega⟩) ⟨hak, by omega⟩ rfl (c := - (ent (rw' W k) a / ent (rw' W a) a)) ((h.comb k hk).move fun i hi => ⟨⟨hi.1, by omega⟩, rfl⟩) fun j hj => ent_clr (hl k hk)
    · rename_i hak
      exact (h.comb k hk).move fun i hi => ⟨⟨hi.1, by omega⟩, rfl⟩
  · rw [hr k hk]
    split
    · rename_i hak
      rw [ent_clr (hl k hk)]
      by_cases e : j = a
      · subst e
        have : ent (rw' W k) j / ent (rw' W j) j * ent (rw' W j) j = ent (rw' W k) j := Rat.div_mul_cancel hp
        grind
      · rw [h.tri k j hk (by omega) hjk, h.tri a j ha (by omega) (by omega)]
        grind
    · exact h.tri k j hk (by omega) hjk
  · rw [hr i (by omega), if_neg (by omega)]
    by_cases e : i = a
    · subst e
      exact hp
    · exact h.piv i (by omega)
/-- what stands at an entry: a quotient of minors -/
theorem Gs.lead {n nc : Nat} {O W : Mat} {a m : Nat} (h : Gs n nc O W a) (hm : m ≤ a) (hmn : m ≤ n) (hac : a ≤ nc) : det m (mkM m fun t => Rz.sel m id (rw' O t)) = prodN m fun t => ent (rw' W t) t := by
  have e1 := det_down (n := m) (A := mkM m fun t => Rz.sel m id (rw' O t)) (B := mkM m fun t => Rz.sel m id (rw' W t)) mkM_len mkM_len fun k hk => by
    rw [rw_mkM hk, rw_mkM hk]
    exact (h.comb k (by omega)).sel (fun t ht => by show t < nc; omega) fun i hi => ⟨hi.1, by rw [rw_mkM (by omega)]⟩
  rw [← e1, det_tri mkM_len fun k j hk hj => ?_]
  · exact prodN_congr fun i hi => by rw [rw_mkM hi, ent_sel hi]; rfl
  · rw [rw_mkM hk, ent_sel (by omega)]
    exact h.tri k j (by omega) (by omega) hj
theorem Gs.entry {n nc : Nat} {O W : Mat} {a m k j : Nat} (h : Gs n nc O W a) (hk : k < n) (hm : m = min k a) (hj : j < nc) (hac : a ≤ nc) :
    det (m + 1) (mkM (m + 1) fun t => Rz.sel (m + 1) (fun s => if s < m then s else j) (rw' O (if t < m then t else k))) = (prodN m fun t => ent (rw' W t) t) * ent (rw' W k) j := by
  have e1 := det_down (n := m + 1) (A := mkM (m + 1) fun t => Rz.sel (m + 1) (fun s => if s < m then s else j) (rw' O (if t < m then t else k))) (B := mkM (m + 1) fun t => Rz.sel (m + 1) (fun s => if s < m then s else j) (rw' W (if t < m then t else k))) mkM_len mkM_len fun t ht => by
    rw [rw_mkM ht, rw_mkM ht]
    refine (h.comb _ (by split <;> omega)).sel (fun s hs => by split <;> omega) fun i hi => ?_
    have hit : i < t ∧ i < m := by
      split at hi <;> omega
    exact ⟨hit.1, by rw [rw_mkM (by omega), if_pos hit.2]⟩
  rw [← e1, det_tri mkM_len fun t s ht hs => ?_]
  · simp only [prodN]
    rw [rw_mkM (Nat.lt_succ_self _), ent_sel (Nat.lt_succ_self _), if_neg (Nat.lt_irrefl _), if_neg (Nat.lt_irrefl _)]
    rw [prodN_congr (g := fun t => ent (rw' W t) t) fun i hi => by rw [rw_mkM (by omega), ent_sel (by omega), if_pos hi, if_pos hi]]
  · rw [rw_mkM ht, ent_sel (by omega), if_pos (show s < m by omega)]
    split
    · exact h.tri t s (by omega) (by omega) hs
    · exact h.tri k s hk (by omega) (by omega)
end Rz

namespace Rz

/-! ### sizes: as much as L of it is an integer of at most B -/
def Sc (L B : Nat) (q : Rat) : Prop := ∃ z : Int, q * ((L : Int) : Rat) = (z : Rat) ∧ z.natAbs ≤ B
theorem Sc.mul {L B L' B' : Nat} {p q : Rat} (h : Sc L B p) (k : Sc L' B' q) : Sc (L * L') (B * B') (p * q) := by
  obtain ⟨z, e, b⟩ := h
  obtain ⟨z', e', b'⟩ := k
  refine ⟨z * z', ?_, by rw [Int.natAbs_mul]; exact Nat.mul_le_mul b b'⟩
  rw [Int.natCast_mul, Rat.intCast_mul, Rat.intCast_mul, ← e, ← e']
  grind
theorem Sc.add {L B B' : Nat} {p q : Rat} (h : Sc L B p) (k : Sc L B' q) : Sc L (B + B') (p + q) := by
  obtain ⟨z, e, b⟩ := h
  obtain ⟨z', e', b'⟩ := k
  refine ⟨z + z', ?_, by omega⟩
  rw [Rat.intCast_add, ← e, ← e']
  grind
theorem Sc.neg {L B : Nat} {p : Rat} (h : Sc L B p) : Sc L B (-p) := by
  obtain ⟨z, e, b⟩ := h
  refine ⟨-z, ?_, by omega⟩
  rw [Rat.intCast_neg, ← e]
  grind
theorem Sc.sgn {L B k : Nat} {p : Rat} (h : Sc L B p) : Sc L B (Rz.sgn k * p) := by
  unfold Rz.sgn
  split
  · rw [Rat.one_mul]
    exact h
  · have := h.neg
    rw [show (-1 : Rat) * p = -p by grind]
    exact this
theorem Sc.zero {L B : Nat} : Sc L B 0 := ⟨0, by rw [Rat.zero_mul]; rfl, Nat.zero_le _⟩
theorem Sc.one {B : Nat} (h : 1 ≤ B) : Sc 1 B 1 := ⟨1, by rw [Rat.one_mul]; rfl, h⟩
theorem Sc.mono {L B B' : Nat} {p : Rat} (h : Sc L B p) (l : B ≤ B') : Sc L B' p := let ⟨z, e, b⟩ := h; ⟨z, e, Nat.le_trans b l⟩
theorem sumN_sc {L B : Nat} : ∀ {n : Nat} {f : Nat → Rat}, (∀ i, i < n → Sc L B (f i)) → Sc L (n * B) (sumN n f)
  | 0, f, _ => Sc.zero
  | n + 1, f, h => by
    rw [Nat.succ_mul]
    exact (sumN_sc fun i hi => h i (by omega)).add (h n (by omega))
def fct : Nat → Nat
  | 0 => 1
  | n + 1 => (n + 1) * fct n
theorem det_sc {L B : Nat} : ∀ {n : Nat} {m : Mat}, m.length = n → (∀ i j, i < n → j < n → Sc L B (ent (rw' m i) j)) → Sc (L ^ n) (fct n * B ^ n) (det n m)
  | 0, m, _, _ => Sc.one (by simp [fct])
  | n + 1, m, hl, h => by
    have key : ∀ i, i < n + 1 → Sc (L ^ (n + 1)) (B * (fct n * B ^ n)) (sgn (n - i) * ent (rw' m i) n * det n (m.eraseIdx i)) := fun i hi => by
      have hl2 : (m.eraseIdx i).length = n := by rw [List.length_eraseIdx, if_pos (by omega)]; omega
      have h1 := h i n hi (by omega)
      have h2 := det_sc (L := L) (B := B) hl2 fun k j hk hj => by
        rcases Nat.lt_or_ge k i with z | z
        · rw [rw_erase_lt z]
          exact h k j (by omega) (by omega)
        · rw [rw_erase_ge z]
          exact h (k + 1) j (by omega) (by omega)
      have h3 := (h1.mul h2).sgn (k := n - i)
      rw [Rat.mul_assoc, Nat.pow_succ, Nat.mul_comm (L ^ n) L]
      exact h3
    simp only [det]
    have := sumN_sc key
    rw [show fct (n + 1) * B ^ (n + 1) = (n + 1) * (B * (fct n * B ^ n)) by
      show (n + 1) * fct n * B ^ (n + 1) = _
      rw [Nat.pow_succ]
      simp only [Nat.mul_assoc, Nat.mul_comm, Nat.mul_left_comm]]
    exact this
theorem Sc.bd {L B k : Nat} {q : Rat} (h : Sc L B q) (hL : 0 < L) (h1 : L < 2 ^ k) (h2 : B < 2 ^ k) : Bd k q := by
  obtain ⟨z, e, b⟩ := h
  have hL0 : ((L : Int) : Rat) ≠ 0 := fun z => by
    have := Rat.intCast_eq_zero_iff.mp z
    omega
  have e2 : q = Rat.divInt z (L : Int) := by
    rw [Rat.divInt_eq_div, ← e, Rat.div_def, Rat.mul_assoc, Rat.mul_inv_cancel _ hL0, Rat.mul_one]
  rw [e2]
  exact Bd.of (by omega) (by omega) (by omega)
theorem fct_mono : ∀ {m n : Nat}, m ≤ n → fct m ≤ fct n
  | m, 0, h => by
    have : m = 0 := by omega
    subst this
    exact Nat.le_refl _
  | m, n + 1, h => by
    rcases Nat.lt_or_eq_of_le h with z | z
    · exact Nat.le_trans (show fct m ≤ fct n from fct_mono (by omega)) (show fct n ≤ (n + 1) * fct n from Nat.le_mul_of_pos_left _ (by omega))
    · rw [z]
      exact Nat.le_refl _
/-- the sizes of all minors -/
structure Small (n nc L B k : Nat) (O : Mat) : Prop where
  sc : ∀ i j, i < n → j < nc → Sc L B (ent (rw' O i) j)
  L0 : 0 < L
  B0 : 0 < B
  hL : L ^ n < 2 ^ k
  hB : fct n * B ^ n < 2 ^ k
theorem Small.minor {n nc L B k m : Nat} {O : Mat} (h : Small n nc L B k O) (hm : m ≤ n) {f : Nat → Row} (hf : ∀ i j, i < m → j < m → ∃ i' j', i' < n ∧ j' < nc ∧ ent (f i) j = ent (rw' O i') j') : Bd k (det m (mkM m f)) := by
  have := det_sc (L := L) (B := B) (m := mkM m f) mkM_len fun i j hi hj => by
    rw [rw_mkM hi]
    obtain ⟨i', j', a, b, e⟩ := hf i j hi hj
    rw [e]
    exact h.sc i' j' a b
  refine this.bd (Nat.pow_pos h.L0) (Nat.lt_of_le_of_lt (Nat.pow_le_pow_right h.L0 hm) h.hL) (Nat.lt_of_le_of_lt ?_ h.hB)
  exact Nat.mul_le_mul (fct_mono hm) (Nat.pow_le_pow_right h.B0 hm)
theorem Gs.leadBd {n nc L B k : Nat} {O W : Mat} {a m : Nat} (h : Gs n nc O W a) (s : Small n nc L B k O) (hm : m ≤ a) (hmn : m ≤ n) (hac : a ≤ nc) : Bd k (prodN m fun t => ent (rw' W t) t) := by
  rw [← h.lead hm hmn hac]
  exact s.minor hmn fun i j hi hj => ⟨i, j, by omega, by omega, by rw [ent_sel hj]; rfl⟩
theorem Gs.leadNe {n nc : Nat} {O W : Mat} {a m : Nat} (h : Gs n nc O W a) (hm : m ≤ a) : (prodN m fun t => ent (rw' W t) t) ≠ 0 := prodN_ne fun i hi => h.piv i (by omega)
theorem Gs.bd {n nc L B k : Nat} {O W : Mat} {a i j : Nat} (h : Gs n nc O W a) (s : Small n nc L B k O) (hi : i < n) (hj : j < nc) (hac : a ≤ nc) : Bd (k + k) (ent (rw' W i) j) := by
  have e := h.entry (m := min i a) hi rfl hj hac
  have b1 : Bd k (det (min i a + 1) (mkM (min i a + 1) fun t => Rz.sel (min i a + 1) (fun s => if s < min i a then s else j) (rw' O (if t < min i a then t else i)))) := by
    refine s.minor (by omega) fun i' j' hi' hj' => ⟨if i' < min i a then i' else i, if j' < min i a then j' else j, by split <;> omega, by split <;> omega, by rw [ent_sel hj']⟩
  have b2 := h.leadBd s (m := min i a) (by omega) (by omega) hac
  have n2 := h.leadNe (m := min i a) (by omega)
  have : ent (rw' W i) j = det (min i a + 1) (mkM (min i a + 1) fun t => Rz.sel (min i a + 1) (fun s => if s < min i a then s else j) (rw' O (if t < min i a then t else i))) / prodN (min i a) fun t => ent (rw' W t) t := by
    rw [e]
    grind
  rw [this]
  exact b1.div b2 n2

/-! ### elimination, in both directions -/
structure Js (n nc : Nat) (O U W : Mat) (a : Nat) : Prop where
  g : Gs n nc O U a
  lw : W.length = n
  low : ∀ k, a ≤ k → k < n → rw' W k = rw' U k
  up : ∀ k, k < a → k < n → Comb nc U (fun i => k < i ∧ i < a) (rw' W k) (rw' U k)
  dg : ∀ k j, k < n → j < a → k ≠ j → ent (rw' W k) j = 0
def clrJ (W : Mat) (a : Nat) : Mat := mkM W.length fun k => if k = a then rw' W k else clr (rw' W k) (rw' W a) a
theorem Js.start {n nc : Nat} {O : Mat} (h : O.length = n) : Js n nc O O O 0 := ⟨.start h, h, fun _ _ _ => rfl, fun _ z => absurd z (Nat.not_lt_zero _), fun _ _ _ z => absurd z (Nat.not_lt_zero _)⟩
theorem Js.swap {n nc : Nat} {O U W : Mat} {a f : Nat} (h : Js n nc O U W a) (hf : a ≤ f) (hfn : f < n) : Js n nc (swp O a f) (swp U a f) (swp W a f) a := by
  have hU := fun j => rw_swp (m := U) (i := a) (k := f) (j := j) (by rw [h.g.lw]; omega) (by rw [h.g.lw]; omega)
  have hW := fun j => rw_swp (m := W) (i := a) (k := f) (j := j) (by rw [h.lw]; omega) (by rw [h.lw]; omega)
  refine ⟨h.g.swap hf hfn, by rw [swp_len]; exact h.lw, fun k hk hkn => ?_, fun k hk hkn => ?_, fun k j hk hj hne => ?_⟩
  · rw [hU, hW, h.low a (Nat.le_refl _) (by omega), h.low f hf hfn, h.low k hk hkn]
  · rw [hU k, hW k, if_neg (by omega), if_neg (by omega), if_neg (by omega), if_neg (by omega)]
    exact (h.up k hk hkn).move fun i hi => ⟨hi, by rw [hU, if_neg (by omega), if_neg (by omega)]⟩
  · rw [hW]
    by_cases e1 : k = f
    · rw [if_pos e1]
      exact h.dg a j (by omega) hj (by omega)
    · rw [if_neg e1]
      by_cases e2 : k = a
      · rw [if_pos e2]
        exact h.dg f j hfn hj (by omega)
      · rw [if_neg e2]
        exact h.dg k j hk hj hne
theorem Wide.clrJ {nc : Nat} {W : Mat} {a : Nat} (h : Wide nc W) (ha : a < W.length) : Wide nc (clrJ W a) := fun k hk => by
  unfold Rz.clrJ at hk ⊢
  rw [mkM_len] at hk
  rw [rw_mkM hk]
  split
  · exact h k hk
  · rw [clr_len (by rw [h a ha, h k hk]), h k hk]
theorem Js.clear {n nc : Nat} {O U W : Mat} {a : Nat} (h : Js n nc O U W a) (hw : Wide nc W) (hu : Wide nc U) (ha : a < n) (hac : a < nc) (hp : ent (rw' W a) a ≠ 0) : Js n nc O (clrG U a) (clrJ W a) (a + 1) := by
  have ea := h.low a (Nat.le_refl _) ha
  have hrU : ∀ k, k < n → rw' (clrG U a) k = if a < k then clr (rw' U k) (rw' U a) a else rw' U k := fun k hk => by
    unfold clrG
    rw [rw_mkM (by rw [h.g.lw]; exact hk)]
  have hrW : ∀ k, k < n → rw' (clrJ W a) k = if k = a then rw' W k else clr (rw' W k) (rw' W a) a := fun k hk => by
    unfold clrJ
    rw [rw_mkM (by rw [h.lw]; exact hk)]
  have hl : ∀ k, k < n → (rw' W a).length = (rw' W k).length := fun k hk => by rw [hw a (by rw [h.lw]; exact ha), hw k (by rw [h.lw]; exact hk)]
  refine ⟨h.g.clear hu ha hac (by rw [← ea]; exact hp), by unfold clrJ; rw [mkM_len]; exact h.lw, fun k hk hkn => ?_, fun k hk hkn => ?_, fun k j hk hj hne => ?_⟩
  · rw [hrU k hkn, hrW k hkn, if_neg (by omega), if_pos (by omega), h.low k (by omega) hkn, ea]
  · rw [hrU k hkn, if_neg (show ¬ a < k by omega), hrW k hkn]
    by_cases e : k = a
    · rw [if_pos e, e, ea]
      exact .refl
    · rw [if_neg e]
      have c := (h.up k (by omega) hkn).move (O' := clrG U a) (P' := fun i => k < i ∧ i < a + 1) fun i hi => ⟨⟨hi.1, by omega⟩, by rw [hrU i (by omega), if_neg (by omega)]⟩
      refine .step a (- (ent (rw' W k) a / ent (rw' W a) a)) ⟨by omega, by omega⟩ c fun j hj => ?_
      rw [ent_clr (hl k hkn), hrU a ha, if_neg (by omega), ← ea]
  · rw [hrW k hk]
    by_cases e : k = a
    · rw [if_pos e]
      exact h.dg k j hk (by omega) hne
    · rw [if_neg e, ent_clr (hl k hk)]
      by_cases e2 : j = a
      · subst e2
        have : ent (rw' W k) j / ent (rw' W j) j * ent (rw' W j) j = ent (rw' W k) j := Rat.div_mul_cancel hp
        grind
      · rw [h.dg k j hk (by omega) hne, h.dg a j ha (by omega) (by omega)]
        grind
/-- the diagonal is that of the one direction -/
theorem Js.diag {n nc : Nat} {O U W : Mat} {a k : Nat} (h : Js n nc O U W a) (hk : k < a) (hkn : k < n) (han : a ≤ n) (hac : a ≤ nc) : ent (rw' W k) k = ent (rw' U k) k := by
  have key : ∀ {r s : Row}, Comb nc U (fun i => k < i ∧ i < a) r s → ent r k = ent s k := fun c => by
    induction c with
    | base h => exact h k (by omega)
    | step i c hi _ e ih =>
      rw [e k (by omega), ih, h.g.tri i k (by omega) hk hi.1]
      grind
  exact key (h.up k hk hkn)
theorem prodN_at {n k : Nat} {f : Nat → Rat} {x : Rat} (hk : k < n) : (prodN n fun t => if t = k then x else f t) * f k = prodN n f * x := by
  induction n with
  | zero => omega
  | succ n ih =>
    simp only [prodN]
    by_cases e : n = k
    · subst e
      rw [if_pos rfl, prodN_congr (g := f) fun i hi => if_neg (by omega)]
      grind
    · rw [if_neg e]
      have := ih (by omega)
      grind
theorem Js.bd {n nc L B k : Nat} {O U W : Mat} {a i j : Nat} (h : Js n nc O U W a) (s : Small n nc L B k O) (hi : i < n) (hj : j < nc) (han : a ≤ n) (hac : a ≤ nc) : Bd (4 * k) (ent (rw' W i) j) := by
  by_cases hia : a ≤ i
  · rw [h.low i hia hi]
    exact (h.g.bd s hi hj hac).mono (by omega)
  · have hia : i < a := by omega
    obtain ⟨b, rfl⟩ : ∃ b, a = b + 1 := ⟨a - 1, by omega⟩
    -- the minor with column j in the place of column i
    have DO : Bd k (det (b + 1) (mkM (b + 1) fun t => Rz.sel (b + 1) (fun s => if s = b then j else if s = i then b else s) (rw' O t))) := by
      refine s.minor han fun i' j' hi' hj' => ⟨i', if j' = b then j else if j' = i then b else j', by omega, ?_, by rw [ent_sel hj']⟩
      split
      · exact hj
      · split <;> omega
    have hcs : ∀ t, t < b + 1 → (if t = b then j else if t = i then b else t) < nc := fun t ht => by
      split
      · exact hj
      · split <;> omega
    have e1 := det_down (n := b + 1) (A := mkM (b + 1) fun t => Rz.sel (b + 1) (fun s => if s = b then j else if s = i then b else s) (rw' O t)) (B := mkM (b + 1) fun t => Rz.sel (b + 1) (fun s => if s = b then j else if s = i then b else s) (rw' U t)) mkM_len mkM_len fun t ht => by
      rw [rw_mkM ht, rw_mkM ht]
      exact (h.g.comb t (by omega)).sel hcs fun i' hi' => ⟨hi'.1, by rw [rw_mkM (by omega)]⟩
    have e2 := det_up (n := b + 1) (A := mkM (b + 1) fun t => Rz.sel (b + 1) (fun s => if s = b then j else if s = i then b else s) (rw' U t)) (B := mkM (b + 1) fun t => Rz.sel (b + 1) (fun s => if s = b then j else if s = i then b else s) (rw' W t)) mkM_len mkM_len fun t ht => by
      rw [rw_mkM ht, rw_mkM ht]
      exact (h.up t ht (by omega)).sel hcs fun i' hi' => ⟨hi', by rw [rw_mkM (by omega)]⟩
    have lead := h.g.lead (m := b + 1) (Nat.le_refl _) han hac
    have leadW : (prodN (b + 1) fun t => ent (rw' U t) t) = prodN (b + 1) fun t => ent (rw' W t) t := prodN_congr fun t ht => (h.diag ht (by omega) han hac).symm
    have l2 := h.g.leadBd s (m := b + 1) (Nat.le_refl _) han hac
    have l3 := h.g.leadNe (m := b + 1) (Nat.le_refl _)
    have wii : Bd (k + k) (ent (rw' W i) i) := by
      rw [h.diag hia hi han hac]
      exact h.g.bd s hi (by omega) hac
    have sq : ∀ t, t < b + 1 → ∀ q, q < b + 1 → ent (Rz.sel (b + 1) (fun s => if s = b then j else if s = i then b else s) (rw' W t)) q = ent (rw' W t) (if q = b then j else if q = i then b else q) := fun t ht q hq => ent_sel hq
    by_cases eb : i = b
    · subst eb
      have tr := det_tri (n := i + 1) (m := mkM (i + 1) fun t => Rz.sel (i + 1) (fun s => if s = i then j else if s = i then i else s) (rw' W t)) mkM_len fun t q ht hq => by
        rw [rw_mkM ht, sq t ht q (by omega), if_neg (by omega), if_neg (by omega)]
        exact h.dg t q (by omega) (by omega) (by omega)
      simp only [prodN] at tr
      rw [prodN_congr (g := fun t => ent (rw' W t) t) fun t ht => by rw [rw_mkM (by omega), sq t (by omega) t (by omega), if_neg (by omega), if_neg (by omega)], rw_mkM (Nat.lt_succ_self _), sq i (by omega) i (by omega), if_pos rfl] at tr
      have fin : ent (rw' W i) j = det (i + 1) (mkM (i + 1) fun t => Rz.sel (i + 1) (fun s => if s = i then j else if s = i then i else s) (rw' O t)) * ent (rw' W i) i / prodN (i + 1) fun t => ent (rw' U t) t := by
        rw [← e1, ← e2, tr, leadW]
        rw [leadW] at l3
        simp only [prodN] at l3 ⊢
        grind
      rw [fin]
      exact ((DO.mul wii).div l2 l3).mono (by omega)
    · have lM : (mkM (b + 1) fun t => Rz.sel (b + 1) (fun s => if s = b then j else if s = i then b else s) (rw' W t)).length = b + 1 := mkM_len
      have sw := det_swap (n := b + 1) (i := i) (k := b) (m := mkM (b + 1) fun t => Rz.sel (b + 1) (fun s => if s = b then j else if s = i then b else s) (rw' W t)) (by omega) (by omega) lM
      have hS := fun t => rw_swp (m := mkM (b + 1) fun t => Rz.sel (b + 1) (fun s => if s = b then j else if s = i then b else s) (rw' W t)) (i := i) (k := b) (j := t) (by rw [lM]; omega) (by rw [lM]; omega)
      have tr := det_tri (n := b + 1) (m := swp (mkM (b + 1) fun t => Rz.sel (b + 1) (fun s => if s = b then j else if s = i then b else s) (rw' W t)) i b) (by rw [swp_len]; exact lM) fun t q ht hq => by
        rw [hS]
        by_cases z1 : t = b
        · rw [if_pos z1, rw_mkM (by omega), sq i (by omega) q (by omega), if_neg (by omega)]
          split
          · exact h.dg i b (by omega) (by omega) eb
          · exact h.dg i q (by omega) (by omega) (by omega)
        · rw [if_neg z1]
          by_cases z2 : t = i
          · rw [if_pos z2, rw_mkM (by omega), sq b (by omega) q (by omega), if_neg (by omega), if_neg (by omega)]
            exact h.dg b q (by omega) (by omega) (by omega)
          · rw [if_neg z2, rw_mkM (by omega), sq t ht q (by omega), if_neg (by omega)]
            split
            · exact h.dg t b (by omega) (by omega) z1
            · exact h.dg t q (by omega) (by omega) (by omega)
      simp only [prodN] at tr
      rw [prodN_congr (g := fun t => if t = i then ent (rw' W b) b else ent (rw' W t) t) fun t ht => by
        rw [hS, if_neg (by omega)]
        by_cases z2 : t = i
        · rw [if_pos z2, if_pos z2, rw_mkM (by omega), sq b (by omega) t (by omega), if_neg (by omega), if_pos z2]
        · rw [if_neg z2, if_neg z2, rw_mkM (by omega), sq t (by omega) t (by omega), if_neg (by omega), if_neg z2], hS, if_pos rfl, rw_mkM (by omega), sq i (by omega) b (by omega), if_pos rfl] at tr
      have pa := prodN_at (n := b) (k := i) (f := fun t => ent (rw' W t) t) (x := ent (rw' W b) b) (by omega)
      have fin : ent (rw' W i) j = (- det (b + 1) (mkM (b + 1) fun t => Rz.sel (b + 1) (fun s => if s = b then j else if s = i then b else s) (rw' O t))) * ent (rw' W i) i / prodN (b + 1) fun t => ent (rw' U t) t := by
        rw [← e1, ← e2, ← sw, tr, leadW]
        rw [leadW] at l3
        simp only [prodN] at l3 ⊢
        rw [← pa] at l3 ⊢
        grind
      rw [fin]
      exact ((DO.neg.mul wii).div l2 l3).mono (by omega)
/-- what solves the rows that came out solves the rows there were -/
def Sol (n : Nat) (x : Nat → Rat) (r : Row) : Prop := sumN n (fun j => ent r j * x j) = ent r n
theorem Sol.comb {n : Nat} {x : Nat → Rat} {O : Mat} {P : Nat → Prop} {r s : Row} (c : Comb (n + 1) O P r s) (hO : ∀ i, P i → Sol n x (rw' O i)) (hr : Sol n x r) : Sol n x s := by
  induction c with
  | base h =>
    unfold Sol at hr ⊢
    rw [← h n (by omega), ← hr]
    exact sumN_congr fun j hj => by rw [h j (by omega)]
  | step i c hi _ e ih =>
    refine ih ?_
    have hi2 := hO i hi
    unfold Sol at hr hi2 ⊢
    rename_i r0 r1 s0 h0
    have e3 : sumN n (fun j => ent r1 j * x j) = sumN n (fun j => ent r0 j * x j) + c * sumN n fun j => ent (rw' O i) j * x j := by
      rw [← sumN_add]
      exact sumN_congr fun j hj => by
        rw [e j (by omega)]
        grind
    rw [e3, hi2, e n (by omega)] at hr
    grind
theorem Js.sol {n : Nat} {x : Nat → Rat} {O U W : Mat} (h : Js n (n + 1) O U W n) (hW : ∀ k, k < n → Sol n x (rw' W k)) : ∀ k, k < n → Sol n x (rw' O k) := by
  have hU : ∀ d k, n - k = d → k < n → Sol n x (rw' U k) := by
    intro d
    induction d using Nat.strongRecOn with
    | ind d ih =>
      intro k hd hk
      exact Sol.comb (h.up k hk hk) (fun i hi => ih (n - i) (by omega) i rfl hi.2) (hW k hk)
  intro k
  induction k using Nat.strongRecOn with
  | ind k ih =>
    intro hk
    exact Sol.comb (h.g.comb k hk) (fun i hi => ih i hi.1 hi.2) (hU _ k rfl hk)
theorem Js.ends {n : Nat} {O U W : Mat} (h : Js n (n + 1) O U W n) {k : Nat} (hk : k < n) : Sol n (fun j => ent (rw' W j) n / ent (rw' W j) j) (rw' W k) := by
  unfold Sol
  rw [sumN_one (i := k) hk fun j hj hne => ?_]
  · have : ent (rw' W k) k ≠ 0 := by
      rw [h.diag hk hk (Nat.le_refl _) (by omega)]
      exact h.g.piv k hk
    grind
  · rw [h.dg k j hk hj (Ne.symm hne)]
    grind
/-- where there is no pivot, the determinant is 0 -/
theorem Gs.none {n nc : Nat} {O W : Mat} {a : Nat} (h : Gs n nc O W a) (ha : a < n) (hn : n ≤ nc) (hz : ∀ k, a ≤ k → k < n → ent (rw' W k) a = 0) : det n O = 0 := by
  rw [← det_down h.lo h.lw fun k hk => ((h.comb k hk).move (P' := fun i => i < k) fun i hi => ⟨hi.1, rfl⟩).cut hn]
  refine det_flat ha h.lw fun k j h1 h2 h3 => ?_
  rcases Nat.lt_or_eq_of_le h3 with z | z
  · exact h.tri k j h2 z (by omega)
  · rw [z]
    exact hz k h1 h2
end Rz

namespace Rz
open PySem PySem.Spec PyProof.Rows L2

/-! ### methods of lists, by named parts -/
def rInsert : V → List V → Hp → VK → Prop := fun x vs H Q => ∃ (l : Addr) (xs : List V) (i : Int) (y : V), x = .ref l ∧ vs = [.int i, y] ∧ H l = some (.lst xs) ∧ xs.length < sizeLine ∧ 0 ≤ i ∧ i < 2 ^ 63 ∧ Q .non (upd H l (.lst (xs.take i.toNat ++ [y] ++ xs.drop i.toNat)))
theorem zm_insert {X : Cx} : MtR X "list.insert" rInsert := mt_insert
def rBM (K : PySem.W.Frag) (T : String) (r : V → List V → Hp → VK → Prop) (t : TA) (σ : L2.St) (Q : VK) : V → Hp → Prop := fun x H1 => tyV K T x H1 ∧ t σ H1 fun xs H2 => r x xs H2 Q
section
variable {K : PySem.W.Frag} {H : Hp} {σ : L2.St} {t : TA} {Q : VK} {p : Addr} {xs : List V} {r : V → List V → Hp → VK → Prop} {to : TE} {T : String} {v x y : V}
theorem g_bm (h : to σ H (rBM K T r t σ Q)) : tBM K T r to t σ H Q := h
theorem g_bmL (h : SqL K H p xs) (q : t σ H fun vs H2 => r (.ref p) vs H2 Q) : rBM K "list" r t σ Q (.ref p) H := ⟨.inl ⟨rfl, xs, h⟩, q⟩
theorem g_append (h : H p = some (.lst xs)) (hl : xs.length ≤ 1000000) (q : Q .non (upd H p (.lst (xs ++ [y])))) : rAppend (.ref p) [y] H Q := ⟨p, xs, y, rfl, rfl, h, by have := sizeLine_eq; omega, q⟩
theorem g_insert {i : Nat} (h : H p = some (.lst xs)) (hl : xs.length ≤ 1000000) (hi : i ≤ 1000000) (q : Q .non (upd H p (.lst (xs.take i ++ y :: xs.drop i)))) : rInsert (.ref p) [.int (i : Int), y] H Q := by
  refine ⟨p, xs, (i : Int), y, rfl, rfl, h, by have := sizeLine_eq; omega, by omega, by omega, ?_⟩
  rw [Int.toNat_natCast, List.append_assoc]
  exact q
theorem flat_ints (ns : List Int) : (ns.map V.int).all flatV = true := by
  rw [List.all_eq_true]
  intro x hx
  obtain ⟨n, _, rfl⟩ := List.mem_map.mp hx
  rfl
theorem inV_ints (d : Int) (ns : List Int) : inV (.int d) (ns.map V.int) = decide (d ∈ ns) := by
  unfold inV
  induction ns with
  | nil => rfl
  | cons n ns ih =>
    rw [List.map_cons, List.any_cons, ih]
    show ((n == d) || decide (d ∈ ns)) = decide (d ∈ n :: ns)
    by_cases h : n = d
    · subst h
      simp
    · have h' : ¬ d = n := fun z => h z.symm
      simp [h, h']
theorem g_inL {d : Int} {ns : List Int} (h : SqL K H p (ns.map V.int)) (q : Q (.bl (decide (d ∈ ns))) H) : rIn K false (.int d) (.ref p) H Q :=
  ⟨p, _, rfl, .inl h, rfl, flat_ints ns, by rw [inV_ints]; exact q⟩
theorem g_index {d : Int} {ns : List Int} (h : SqL K H p (ns.map V.int)) (hd : d ∈ ns) (q : Q (.int (ns.idxOf d : Nat)) H) : rIndex K (.ref p) [.int d] H Q := by
  have hlt : ns.idxOf d < ns.length := List.idxOf_lt_length_of_mem hd
  refine ⟨p, ns.map V.int, .int d, ns.idxOf d, .int d, rfl, rfl, h, rfl, flat_ints ns, ?_, ?_, fun m z hm hz => ?_, q⟩
  · rw [List.getElem?_map, List.getElem?_eq_getElem hlt, List.getElem_idxOf]
    rfl
  · show (d == d) = true
    exact beq_self_eq_true d
  · rw [List.getElem?_map] at hz
    have hml : m < ns.length := by omega
    rw [List.getElem?_eq_getElem hml] at hz
    cases hz
    show (ns[m] == d) = false
    exact List.not_of_lt_findIdx (p := fun x => x == d) (xs := ns) (i := m) hm
end

/-! ### the rows of darts -/
abbrev Rows := List (List Int)
def twin (d : Int) : Int := d + 1 - 2 * (d % 2)
def atM (rows : Rows) (d : Int) : Nat × Nat :=
  let k := rows.findIdx fun r => decide (d ∈ r)
  if k < rows.length then (k, (rows.getD k []).idxOf d) else (0, 0)
def ins (i : Nat) (x : Int) (l : List Int) : List Int := l.take i ++ x :: l.drop i
def modRow (rows : Rows) (n : Nat) (f : List Int → List Int) : Rows := rows.set n (f (rows.getD n []))
/-- the next dart of the face to the left, none at the rim -/
def nxt (rows : Rows) (rim : Nat) (d : Int) : Option Int :=
  let q := atM rows (twin d)
  let row := rows.getD q.1 []
  if q.1 < rim ∧ q.2 + 1 = row.length then none else row[(q.2 + 1) % row.length]?
def walkF (rows : Rows) (rim : Nat) : Nat → List Int → Int → List Int
  | 0, found, _ => found
  | n + 1, found, d => match nxt rows rim d with
    | none => found
    | some d' => if some d' = found.head? then found else walkF rows rim n (found ++ [d']) d'
def faceM (rows : Rows) (rim : Nat) (d : Int) : List Int := walkF rows rim 200 [d] d
structure WF (rows : Rows) (E : Nat) : Prop where
  nd : rows.flatten.Nodup
  mem : ∀ d : Int, d ∈ rows.flatten ↔ 0 ≤ d ∧ d < 2 * (E : Int)
theorem mem_flat {rows : Rows} {d : Int} : d ∈ rows.flatten ↔ ∃ (k : Nat) (row : List Int), rows[k]? = some row ∧ d ∈ row := by
  rw [List.mem_flatten]
  constructor
  · rintro ⟨l, hl, hd⟩
    obtain ⟨k, hk⟩ := List.mem_iff_getElem?.mp hl
    exact ⟨k, l, hk, hd⟩
  · rintro ⟨k, row, hk, hd⟩
    exact ⟨row, List.mem_of_getElem? hk, hd⟩
/-- where a dart stands -/
theorem at_spec {rows : Rows} {d : Int} (h : d ∈ rows.flatten) : ∃ row, rows[(atM rows d).1]? = some row ∧ row[(atM rows d).2]? = some d := by
  obtain ⟨k, row, hk, hd⟩ := mem_flat.mp h
  have hlt : rows.findIdx (fun r => decide (d ∈ r)) < rows.length := List.findIdx_lt_length.mpr ⟨row, List.mem_of_getElem? hk, decide_eq_true hd⟩
  have hp := List.findIdx_getElem (xs := rows) (p := fun r => decide (d ∈ r)) (w := hlt)
  have hmem : d ∈ rows[rows.findIdx (fun r => decide (d ∈ r))] := of_decide_eq_true hp
  unfold atM
  simp only [hlt, if_true]
  refine ⟨_, List.getElem?_eq_getElem hlt, ?_⟩
  rw [List.getD_eq_getElem?_getD, List.getElem?_eq_getElem hlt, Option.getD_some]
  have h2 := List.idxOf_lt_length_of_mem hmem
  rw [List.getElem?_eq_getElem h2, List.getElem_idxOf]

/-! ### rows in the heap -/
structure RowsAt (H : Hp) (T : Addr) (rs : List Addr) (rows : Rows) : Prop where
  top : H T = some (.lst (rs.map V.ref))
  len : rs.length = rows.length
  at_ : ∀ (i : Nat) r row, rs[i]? = some r → rows[i]? = some row → H r = some (.lst (row.map V.int))
  nd : rs.Nodup
theorem RowsAt.get {H : Hp} {T : Addr} {rs : List Addr} {rows : Rows} (h : RowsAt H T rs rows) {i : Nat} {row : List Int} (e : rows[i]? = some row) : ∃ r, rs[i]? = some r ∧ H r = some (.lst (row.map V.int)) := by
  have hi : i < rs.length := by
    rw [h.len]
    exact (List.getElem?_eq_some_iff.mp e).1
  exact ⟨rs[i], List.getElem?_eq_getElem hi, h.at_ i _ row (List.getElem?_eq_getElem hi) e⟩
theorem RowsAt.neT {H : Hp} {T : Addr} {rs : List Addr} {rows : Rows} (h : RowsAt H T rs rows) {r : Addr} (hr : r ∈ rs) : r ≠ T := by
  intro e
  subst e
  obtain ⟨i, hi⟩ := List.mem_iff_getElem?.mp hr
  have hl : i < rows.length := by
    rw [← h.len]
    exact (List.getElem?_eq_some_iff.mp hi).1
  have h1 := h.at_ i r _ hi (List.getElem?_eq_getElem hl)
  have h2 := h.top
  rw [h1] at h2
  have h3 : (rows[i].map V.int) = rs.map V.ref := by
    injection h2 with h2
    injection h2
  cases hrs : rs with
  | nil =>
    rw [hrs] at hr
    cases hr
  | cons r' rs' =>
    rw [hrs] at h3
    cases hrow : rows[i] with
    | nil =>
      rw [hrow] at h3
      cases h3
    | cons z zs =>
      rw [hrow] at h3
      injection h3 with h3 _
      cases h3
theorem RowsAt.keep {H H' : Hp} {T : Addr} {rs : List Addr} {rows : Rows} (h : RowsAt H T rs rows) (k : ∀ b, b = T ∨ b ∈ rs → ∀ o, H b = some o → H' b = some o) : RowsAt H' T rs rows :=
  ⟨k T (.inl rfl) _ h.top, h.len, fun i r row a b => k r (.inr (List.mem_of_getElem? a)) _ (h.at_ i r row a b), h.nd⟩
theorem RowsAt.same {H H' : Hp} {T : Addr} {rs : List Addr} {rows : Rows} (h : RowsAt H T rs rows) (e : Same H H') : RowsAt H' T rs rows := h.keep fun b _ o z => e b o z
/-- a row is written -/
theorem RowsAt.row {H : Hp} {T : Addr} {rs : List Addr} {rows : Rows} (h : RowsAt H T rs rows) {n : Nat} {r : Addr} (hr : rs[n]? = some r) (row' : List Int) : RowsAt (upd H r (.lst (row'.map V.int))) T rs (rows.set n row') := by
  have hm := List.mem_of_getElem? hr
  refine ⟨by rw [upd_ne (h.neT hm).symm]; exact h.top, by rw [List.length_set]; exact h.len, fun i r' row a b => ?_, h.nd⟩
  by_cases hi : n = i
  · subst hi
    rw [hr] at a
    cases a
    have hl : n < rows.length := by
      rw [← h.len]
      exact (List.getElem?_eq_some_iff.mp hr).1
    rw [List.getElem?_set_self hl] at b
    cases b
    exact upd_same
  · rw [List.getElem?_set_ne hi] at b
    have hne : r' ≠ r := by
      intro e
      subst e
      exact hi (nd_ix h.nd hr a)
    rw [upd_ne hne]
    exact h.at_ i r' row a b
/-- a row more -/
theorem RowsAt.push {H : Hp} {T : Addr} {rs : List Addr} {rows : Rows} (h : RowsAt H T rs rows) {r : Addr} {row : List Int} (hr : H r = some (.lst (row.map V.int))) (hn : r ∉ rs) (hT : r ≠ T) :
    RowsAt (upd H T (.lst (rs.map V.ref ++ [.ref r]))) T (rs ++ [r]) (rows ++ [row]) := by
  refine ⟨by rw [upd_same, List.map_append]; rfl, by rw [List.length_append, List.length_append, h.len]; rfl, fun i r' row' a b => ?_, ?_⟩
  · by_cases hi : i < rs.length
    · rw [List.getElem?_append_left hi] at a
      rw [List.getElem?_append_left (h.len ▸ hi)] at b
      rw [upd_ne (h.neT (List.mem_of_getElem? a))]
      exact h.at_ i r' row' a b
    · rw [List.getElem?_append_right (by omega)] at a
      rw [List.getElem?_append_right (by rw [← h.len]; omega), ← h.len] at b
      by_cases h0 : i - rs.length = 0
      · rw [h0] at a b
        cases a
        cases b
        rw [upd_ne hT]
        exact hr
      · obtain ⟨j, hj⟩ : ∃ j, i - rs.length = j + 1 := ⟨i - rs.length - 1, by omega⟩
        rw [hj] at a
        simp at a
  · rw [List.nodup_append]
    refine ⟨h.nd, by simp, ?_⟩
    intro a ha b hb e
    rw [List.mem_singleton.mp hb] at e
    exact hn (e ▸ ha)
/-- a row is another object from now on -/
theorem RowsAt.swap {H : Hp} {T : Addr} {rs : List Addr} {rows : Rows} (h : RowsAt H T rs rows) {n : Nat} {r : Addr} {row : List Int} (hr : H r = some (.lst (row.map V.int))) (hn : r ∉ rs) (hT : r ≠ T) (hl : n < rs.length) :
    RowsAt (upd H T (.lst ((rs.map V.ref).set n (.ref r)))) T (rs.set n r) (rows.set n row) := by
  refine ⟨by rw [upd_same, List.map_set], by rw [List.length_set, List.length_set, h.len], fun i r' row' a b => ?_, ?_⟩
  · by_cases hi : n = i
    · subst hi
      rw [List.getElem?_set_self hl] at a
      rw [List.getElem?_set_self (h.len ▸ hl)] at b
      cases a
      cases b
      rw [upd_ne hT]
      exact hr
    · rw [List.getElem?_set_ne hi] at a
      rw [List.getElem?_set_ne hi] at b
      rw [upd_ne (h.neT (List.mem_of_getElem? a))]
      exact h.at_ i r' row' a b
  · refine List.pairwise_iff_getElem.mpr fun i j hi hj hij => ?_
    have hi' : i < rs.length := by rw [List.length_set] at hi; exact hi
    have hj' : j < rs.length := by rw [List.length_set] at hj; exact hj
    have key := List.pairwise_iff_getElem.mp h.nd i j hi' hj' hij
    rw [List.getElem_set, List.getElem_set]
    split
    · rename_i e1
      split
      · omega
      · intro e
        exact hn (e ▸ List.getElem_mem hj')
    · split
      · intro e
        exact hn (e ▸ List.getElem_mem hi')
      · exact key
theorem twin_range {d : Int} {E : Nat} (h : 0 ≤ d ∧ d < 2 * (E : Int)) : 0 ≤ twin d ∧ twin d < 2 * (E : Int) := by
  unfold twin
  omega
theorem twin_py (d : Int) : d + 1 - 2 * d.fmod 2 = twin d := by
  unfold twin
  rw [Int.fmod_eq_emod_of_nonneg _ (by decide)]
theorem fmod_nat (a b : Nat) : ((a : Int)).fmod (b : Int) = ((a % b : Nat) : Int) := by
  rw [Int.fmod_eq_emod_of_nonneg _ (by omega), Int.natCast_emod]
/-- the next dart is a dart -/
theorem nxt_mem {rows : Rows} {rim : Nat} {d d' : Int} (h : nxt rows rim d = some d') : d' ∈ rows.flatten := by
  unfold nxt at h
  simp only at h
  split at h
  · cases h
  · have hm := List.mem_of_getElem? h
    rw [List.getD_eq_getElem?_getD] at hm
    cases e : rows[(atM rows (twin d)).1]? with
    | none =>
      rw [e] at hm
      cases hm
    | some row =>
      rw [e, Option.getD_some] at hm
      exact mem_flat.mpr ⟨_, row, e, hm⟩
def Few (rows : Rows) : Prop := rows.length ≤ 10000 ∧ ∀ row ∈ rows, row.length ≤ 10000
def spAt : Sp := fun vs H Q _ => ∃ (T : Addr) (d : Int) (rs : List Addr) (rows : Rows), vs = [.ref T, .int d] ∧ RowsAt H T rs rows ∧ d ∈ rows.flatten ∧ Few rows ∧
  ∀ p, H p = none → Q (.ref p) (upd H p (.lst [.int ((atM rows d).1 : Nat), .int ((atM rows d).2 : Nat)]))
def spFace : Sp := fun vs H Q _ => ∃ (T : Addr) (rim E : Nat) (d : Int) (rs : List Addr) (rows : Rows), vs = [.ref T, .int (rim : Int), .int d] ∧ RowsAt H T rs rows ∧ WF rows E ∧ 0 ≤ d ∧ d < 2 * (E : Int) ∧ Few rows ∧
  ∀ p H', Same H H' → H p = none → H' p = some (.lst ((faceM rows rim d).map V.int)) → Q (.ref p) H'
end Rz

namespace Rz
open PySem PySem.Spec PyProof.Rows L2

/-! ### a list of ints is the empty list -/
theorem canLay_ints : ∀ ns : List Int, PyData.canLayAll0 (ns.map PyData.int) = true
  | [] => rfl
  | n :: ns => by
    show (PyData.canLay0 (.int n) && PyData.canLayAll0 (ns.map PyData.int)) = true
    rw [canLay_ints ns]
    rfl
theorem depth_ints : ∀ ns : List Int, PyData.depthAll (ns.map PyData.int) = 0
  | [] => rfl
  | n :: ns => by
    show max (PyData.depth (.int n)) (PyData.depthAll (ns.map PyData.int)) = 0
    rw [depth_ints ns]
    rfl
theorem shaped_ints (ns : List Int) : SeqAt.shaped (.list (ns.map PyData.int)) = true := by
  unfold SeqAt.shaped
  rw [Bool.and_eq_true]
  refine ⟨canLay_ints ns, decide_eq_true ?_⟩
  show PyData.depthAll (ns.map PyData.int) + 1 ≤ 64
  rw [depth_ints ns]
  decide
theorem dp_ints {K : PySem.W.Frag} {H : Hp} : ∀ ns : List Int, DpAll K H (ns.map V.int) (ns.map PyData.int)
  | [] => .nil
  | n :: ns => .cons (.int n) (dp_ints ns)
theorem g_eqNil {K : PySem.W.Frag} {H : Hp} {p q : Addr} {ns : List Int} {Q : VK} (h : SqL K H p (ns.map V.int)) (h2 : SqL K H q []) (k : Q (.bl (decide (ns = []))) H) : rEqD K (.ref p) (.ref q) H Q := by
  refine ⟨.list (ns.map PyData.int), .list [], .lst h (dp_ints ns), .lst h2 .nil, shaped_ints ns, by decide, ?_⟩
  have e : PyData.eqv (.list (ns.map PyData.int)) (.list []) = decide (ns = []) := by
    cases ns with
    | nil => rfl
    | cons n ns => rfl
  rw [e]
  exact k

/-! ### how the rows of a drawing grow -/
inductive Grow (rim E : Nat) (rows : Rows) : Rows → Prop
  | rimEdge (n o j : Nat) (hn : n < rim) (ho : o = (n + 1 + j) % rim) (hs : ∀ i, i < j → (n + 1 + i) % rim ≠ n ∧ rows.getD ((n + 1 + i) % rim) [] = []) :
      Grow rim E rows (modRow (modRow rows n (ins 0 (2 * (E : Int)))) o (fun row => row ++ [2 * (E : Int) + 1]))
  | before (n : Nat) (hn : n < rim) : Grow rim E rows ((rows ++ [rows.getD n [] ++ [2 * (E : Int) + 1]]).set n [2 * (E : Int)])
  | within (e : Nat) (he : e < E) : Grow rim E rows ((rows ++ [[2 * (e : Int) + 1, 2 * (E : Int)]]).set (atM rows (2 * (e : Int) + 1)).1 ((rows.getD (atM rows (2 * (e : Int) + 1)).1 []).set (atM rows (2 * (e : Int) + 1)).2 (2 * (E : Int) + 1)))
  | beside (e : Nat) (he : e < E) (r1 : Rows) (h1 : r1 = modRow rows (atM rows (2 * (e : Int))).1 (ins ((atM rows (2 * (e : Int))).2 + 1) (2 * (E : Int)))) :
      Grow rim E rows (modRow r1 (atM r1 (2 * (e : Int) + 1)).1 (ins (atM r1 (2 * (e : Int) + 1)).2 (2 * (E : Int) + 1)))
  | twig (n p : Nat) (hn : n < rows.length) (hp : p ≤ (rows.getD n []).length) : Grow rim E rows (modRow rows n (ins p (2 * (E : Int))) ++ [[2 * (E : Int) + 1]])
  | loop (n p : Nat) (hn : n < rows.length) (hp : p ≤ (rows.getD n []).length) : Grow rim E rows (modRow (modRow rows n (ins p (2 * (E : Int)))) n (ins (p + 1) (2 * (E : Int) + 1)))
  | across (d x y : Int) (hd : 0 ≤ d ∧ d < 2 * (E : Int)) (hx : x ∈ faceM rows rim d) (hy : y ∈ faceM rows rim d) (r1 : Rows) (h1 : r1 = modRow rows (atM rows x).1 (ins (atM rows x).2 (2 * (E : Int)))) :
      Grow rim E rows (modRow r1 (atM r1 y).1 (ins (atM r1 y).2 (2 * (E : Int) + 1)))

/-! ### the darts stay each once -/
theorem ins_perm (i : Nat) (x : Int) (l : List Int) : (ins i x l).Perm (x :: l) := by
  unfold ins
  have h := List.perm_middle (a := x) (l₁ := l.take i) (l₂ := l.drop i)
  rw [List.take_append_drop] at h
  exact h
theorem flatten_set : ∀ (rows : Rows) (n : Nat) (row row' : List Int) (zs : List Int), rows[n]? = some row → row'.Perm (zs ++ row) → (rows.set n row').flatten.Perm (zs ++ rows.flatten)
  | [], n, row, row', zs, h, _ => by simp at h
  | r :: rows, 0, row, row', zs, h, p => by
    have e : r = row := Option.some.inj h
    subst e
    show (row' ++ rows.flatten).Perm (zs ++ (r ++ rows.flatten))
    rw [← List.append_assoc]
    exact List.Perm.append_right _ p
  | r :: rows, n + 1, row, row', zs, h, p => by
    show (r ++ (rows.set n row').flatten).Perm (zs ++ (r ++ rows.flatten))
    refine (List.Perm.append_left r (flatten_set rows n row row' zs h p)).trans ?_
    rw [← List.append_assoc, ← List.append_assoc]
    exact List.Perm.append_right _ List.perm_append_comm
theorem modRow_perm {rows : Rows} {n : Nat} {f : List Int → List Int} {zs : List Int} (hn : n < rows.length) (hf : ∀ row, (f row).Perm (zs ++ row)) : (modRow rows n f).flatten.Perm (zs ++ rows.flatten) := by
  unfold modRow
  refine flatten_set rows n _ _ zs (List.getElem?_eq_getElem hn) ?_
  rw [List.getD_eq_getElem?_getD, List.getElem?_eq_getElem hn, Option.getD_some]
  exact hf _
theorem modRow_len {rows : Rows} {n : Nat} {f : List Int → List Int} : (modRow rows n f).length = rows.length := List.length_set ..
theorem WF.of_perm {rows rows' : Rows} {E : Nat} (h : WF rows E) (p : rows'.flatten.Perm ((2 * (E : Int)) :: (2 * (E : Int) + 1) :: rows.flatten)) : WF rows' (E + 1) := by
  have hm : ∀ d : Int, d ∈ rows.flatten → 0 ≤ d ∧ d < 2 * (E : Int) := fun d => (h.mem d).mp
  refine ⟨p.nodup_iff.mpr (List.nodup_cons.mpr ⟨fun q => ?_, List.nodup_cons.mpr ⟨fun q => ?_, h.nd⟩⟩), fun d => ?_⟩
  · rcases List.mem_cons.mp q with q | q
    · omega
    · have := hm _ q
      omega
  · have := hm _ q
    omega
  · rw [p.mem_iff, List.mem_cons, List.mem_cons, h.mem d]
    omega
theorem face_sub {rows : Rows} {rim : Nat} : ∀ (n : Nat) (found : List Int) (d : Int), (∀ x ∈ found, x ∈ rows.flatten) → ∀ x ∈ walkF rows rim n found d, x ∈ rows.flatten
  | 0, found, d, h => h
  | n + 1, found, d, h => by
    unfold walkF
    cases e : nxt rows rim d with
    | none => exact h
    | some d' =>
      simp only
      split
      · exact h
      · refine face_sub n _ _ fun x hx => ?_
        rcases List.mem_append.mp hx with hx | hx
        · exact h x hx
        · rw [List.mem_singleton.mp hx]
          exact nxt_mem e
theorem faceM_sub {rows : Rows} {rim : Nat} {d : Int} (h : d ∈ rows.flatten) : ∀ x ∈ faceM rows rim d, x ∈ rows.flatten := face_sub _ _ _ fun x hx => by
  rw [List.mem_singleton.mp hx]
  exact h
theorem at_lt {rows : Rows} {d : Int} (h : d ∈ rows.flatten) : (atM rows d).1 < rows.length := by
  obtain ⟨row, h1, _⟩ := at_spec h
  exact (List.getElem?_eq_some_iff.mp h1).1
theorem set_perm {l : List Int} {i : Nat} {x y : Int} (h : l[i]? = some x) : (x :: l.set i y).Perm (y :: l) := by
  have hi := (List.getElem?_eq_some_iff.mp h).1
  have e1 : l = l.take i ++ x :: l.drop (i + 1) := by
    have := List.take_append_drop i l
    rw [List.drop_eq_getElem_cons hi, (List.getElem?_eq_some_iff.mp h).2] at this
    exact this.symm
  have e2 : l.set i y = l.take i ++ y :: l.drop (i + 1) := by rw [List.set_eq_take_append_cons_drop, if_pos hi]
  rw [e2]
  refine ((List.Perm.cons x List.perm_middle).trans (List.Perm.swap y x _)).trans ?_
  refine List.Perm.cons y ?_
  conv => rhs; rw [e1]
  exact List.perm_middle.symm
theorem Grow.wf {rim E : Nat} {rows rows' : Rows} (g : Grow rim E rows rows') (hW : WF rows E) (hrim : rim ≤ rows.length) (h0 : 0 < rim) : WF rows' (E + 1) := by
  have hin : ∀ (i : Nat) (x : Int) (row : List Int), (ins i x row).Perm ([x] ++ row) := fun i x row => ins_perm i x row
  have two : ∀ {r1 r2 : Rows} {n : Nat} {f : List Int → List Int}, r1.flatten.Perm ([2 * (E : Int)] ++ rows.flatten) → n < r1.length → (∀ row, (f row).Perm ([2 * (E : Int) + 1] ++ row)) → WF (modRow r1 n f) (E + 1) := fun {r1 r2 n f} p1 hn hf => by
    refine hW.of_perm ((modRow_perm hn hf).trans ?_)
    exact (List.Perm.cons _ p1).trans (List.Perm.swap _ _ _)
  cases g with
  | rimEdge n o j hn ho hs =>
    refine two (r2 := []) (modRow_perm (by omega) (hin _ _)) (by rw [modRow_len, ho]; have := Nat.mod_lt (n + 1 + j) h0; omega) fun row => ?_
    exact List.perm_append_comm
  | before n hn =>
    refine hW.of_perm ?_
    have hl : n < (rows ++ [rows.getD n [] ++ [2 * (E : Int) + 1]]).length := by
      rw [List.length_append]
      omega
    have hrow : rows[n]? = some (rows.getD n []) := by
      rw [List.getD_eq_getElem?_getD, List.getElem?_eq_getElem (by omega), Option.getD_some]
    rw [List.set_append_left _ _ (by omega)]
    rw [List.flatten_append]
    show ((rows.set n [2 * (E : Int)]).flatten ++ ((rows.getD n [] ++ [2 * (E : Int) + 1]) ++ [])).Perm _
    rw [List.append_nil]
    -- the row goes from its place to the end
    have key : ∀ (rs : Rows) (m : Nat) (row : List Int), rs[m]? = some row → ((rs.set m [2 * (E : Int)]).flatten ++ row).Perm ((2 * (E : Int)) :: rs.flatten) := by
      intro rs
      induction rs with
      | nil => intro m row h; simp at h
      | cons r rs ih =>
        intro m row h
        cases m with
        | zero =>
          have e : r = row := Option.some.inj h
          subst e
          show ([2 * (E : Int)] ++ rs.flatten ++ r).Perm ((2 * (E : Int)) :: (r ++ rs.flatten))
          exact List.Perm.cons _ List.perm_append_comm
        | succ m =>
          show (r ++ (rs.set m [2 * (E : Int)]).flatten ++ row).Perm ((2 * (E : Int)) :: (r ++ rs.flatten))
          rw [List.append_assoc]
          exact (List.Perm.append_left r (ih m row h)).trans List.perm_middle
    rw [← List.append_assoc]
    refine (List.Perm.append_right _ (key rows n _ hrow)).trans ?_
    show ((2 * (E : Int)) :: (rows.flatten ++ [2 * (E : Int) + 1])).Perm _
    exact List.Perm.cons _ List.perm_append_comm
  | within e he =>
    refine hW.of_perm ?_
    have hd : (2 * (e : Int) + 1) ∈ rows.flatten := (hW.mem _).mpr (by omega)
    obtain ⟨row, h1, h2⟩ := at_spec hd
    have hl := (List.getElem?_eq_some_iff.mp h1).1
    rw [List.set_append_left _ _ hl, List.flatten_append]
    have hg : rows.getD (atM rows (2 * (e : Int) + 1)).1 [] = row := by rw [List.getD_eq_getElem?_getD, h1, Option.getD_some]
    rw [hg]
    have hp := set_perm (y := 2 * (E : Int) + 1) h2
    -- the set of rows, with the old dart beside it
    have key : ∀ (rs : Rows) (m : Nat) (row row' : List Int) (x y : Int), rs[m]? = some row → (x :: row').Perm (y :: row) → (x :: (rs.set m row').flatten).Perm (y :: rs.flatten) := by
      intro rs
      induction rs with
      | nil => intro m row row' x y h; simp at h
      | cons r rs ih =>
        intro m row row' x y h p
        cases m with
        | zero =>
          have e : r = row := Option.some.inj h
          subst e
          exact List.Perm.append_right rs.flatten p
        | succ m =>
          show (x :: (r ++ (rs.set m row').flatten)).Perm (y :: (r ++ rs.flatten))
          refine (List.perm_middle.symm.trans (List.Perm.append_left r (ih m row row' x y h p))).trans List.perm_middle
    have k1 := key rows _ row _ _ _ h1 hp
    refine List.perm_append_comm.trans ?_
    show ((2 * (e : Int) + 1) :: (2 * (E : Int)) :: _).Perm _
    refine (List.Perm.swap _ _ _).trans (List.Perm.cons _ k1)
  | beside e he r1 h1 =>
    subst h1
    have hd : (2 * (e : Int)) ∈ rows.flatten := (hW.mem _).mpr (by omega)
    have p1 := modRow_perm (f := ins ((atM rows (2 * (e : Int))).2 + 1) (2 * (E : Int))) (at_lt hd) (hin _ _)
    refine two (r2 := []) p1 (at_lt ?_) (hin _ _)
    rw [p1.mem_iff]
    exact List.mem_cons_of_mem _ ((hW.mem _).mpr (by omega))
  | twig n p hn hp =>
    refine hW.of_perm ?_
    rw [List.flatten_append]
    show ((modRow rows n (ins p (2 * (E : Int)))).flatten ++ [2 * (E : Int) + 1]).Perm _
    refine List.perm_append_comm.trans ?_
    exact (List.Perm.cons _ (modRow_perm hn (hin _ _))).trans (List.Perm.swap _ _ _)
  | loop n p hn hp =>
    exact two (r2 := []) (modRow_perm hn (hin _ _)) (by rw [modRow_len]; exact hn) (hin _ _)
  | across d x y hd hx hy r1 h1 =>
    subst h1
    have hdm := (hW.mem d).mpr hd
    have hxm := faceM_sub hdm x hx
    have hym := faceM_sub hdm y hy
    have p1 := modRow_perm (f := ins (atM rows x).2 (2 * (E : Int))) (at_lt hxm) (hin _ _)
    refine two (r2 := []) p1 (at_lt ?_) (hin _ _)
    rw [p1.mem_iff]
    exact List.mem_cons_of_mem _ hym
theorem Grow.len {rim E : Nat} {rows rows' : Rows} (g : Grow rim E rows rows') : rows.length ≤ rows'.length ∧ rows'.length ≤ rows.length + 1 := by
  cases g <;> simp only [modRow_len, List.length_set, List.length_append, List.length_singleton] <;> first | omega | (subst_vars; simp only [modRow_len]; omega)

/-! ### the law's state and the rows, over the heap at the start -/
structure NS (H0 H : Hp) (S c T : Addr) (rs : List Addr) (rows : Rows) : Prop where
  st : StAt H S c
  ro : RowsAt H T rs rows
  kp : Kp S H0 H
  T0 : H0 T = none
  r0 : ∀ r, r ∈ rs → H0 r = none
  s0 : StAt H0 S c
section
variable {H0 H H' : Hp} {S c T : Addr} {rs : List Addr} {rows : Rows}
theorem NS.nTS (h : NS H0 H S c T rs rows) : T ≠ S := h.s0.neS h.T0
theorem NS.nTc (h : NS H0 H S c T rs rows) : T ≠ c := h.s0.nec h.T0
theorem NS.nrS (h : NS H0 H S c T rs rows) {r : Addr} (hr : r ∈ rs) : r ≠ S := h.s0.neS (h.r0 r hr)
theorem NS.nrc (h : NS H0 H S c T rs rows) {r : Addr} (hr : r ∈ rs) : r ≠ c := h.s0.nec (h.r0 r hr)
theorem NS.same (h : NS H0 H S c T rs rows) (e : Same H H') : NS H0 H' S c T rs rows := ⟨h.st.same e, h.ro.same e, h.kp.trans (Kp.of e), h.T0, h.r0, h.s0⟩
theorem NS.pick (h : NS H0 H S c T rs rows) (hS : StAt H' S c) (k : Kp S H H') : NS H0 H' S c T rs rows :=
  ⟨hS, h.ro.keep fun b hb o e => k b o (by
    rcases hb with rfl | hb
    · exact h.nTS
    · exact h.nrS hb) e, h.kp.trans k, h.T0, h.r0, h.s0⟩
theorem NS.fresh (h : NS H0 H S c T rs rows) {r : Addr} (hr : H r = none) : H0 r = none := by
  obtain ⟨n, i, x, m, cs, e1, _⟩ := h.st
  exact h.kp.free h.s0.lst.choose_spec hr (ne_of_none e1 hr).symm
theorem kp_updN {p : Addr} {o : HO} (h : Kp S H0 H) (hp : H0 p = none) : Kp S H0 (upd H p o) := fun b x n e => by
  rw [upd_ne (ne_of_none e hp)]
  exact h b x n e
theorem NS.row (h : NS H0 H S c T rs rows) {n : Nat} {r : Addr} (hr : rs[n]? = some r) (row' : List Int) : NS H0 (upd H r (.lst (row'.map V.int))) S c T rs (rows.set n row') := by
  have hm := List.mem_of_getElem? hr
  exact ⟨h.st.upd (h.nrS hm) (h.nrc hm), h.ro.row hr row', kp_updN h.kp (h.r0 r hm), h.T0, h.r0, h.s0⟩
theorem NS.push (h : NS H0 H S c T rs rows) {r : Addr} {row : List Int} (hr : H r = some (.lst (row.map V.int))) (hr0 : H0 r = none) (hn : r ∉ rs) (hT : r ≠ T) : NS H0 (upd H T (.lst (rs.map V.ref ++ [.ref r]))) S c T (rs ++ [r]) (rows ++ [row]) :=
  ⟨h.st.upd h.nTS h.nTc, h.ro.push hr hn hT, kp_updN h.kp h.T0, h.T0, fun x hx => by
    rcases List.mem_append.mp hx with hx | hx
    · exact h.r0 x hx
    · rw [List.mem_singleton.mp hx]
      exact hr0, h.s0⟩
theorem NS.swap (h : NS H0 H S c T rs rows) {n : Nat} {r : Addr} {row : List Int} (hr : H r = some (.lst (row.map V.int))) (hr0 : H0 r = none) (hn : r ∉ rs) (hT : r ≠ T) (hl : n < rs.length) :
    NS H0 (upd H T (.lst ((rs.map V.ref).set n (.ref r)))) S c T (rs.set n r) (rows.set n row) :=
  ⟨h.st.upd h.nTS h.nTc, h.ro.swap hr hn hT hl, kp_updN h.kp h.T0, h.T0, fun x hx => by
    rcases List.mem_or_eq_of_mem_set hx with hx | hx
    · exact h.r0 x hx
    · rw [hx]
      exact hr0, h.s0⟩
/-- a fresh address is none of ours -/
theorem NS.nr (h : NS H0 H S c T rs rows) {p : Addr} (hp : H p = none) : p ∉ rs := fun hm => by
  obtain ⟨i, hi⟩ := List.mem_iff_getElem?.mp hm
  have hl : i < rows.length := by
    rw [← h.ro.len]
    exact (List.getElem?_eq_some_iff.mp hi).1
  rw [h.ro.at_ i p _ hi (List.getElem?_eq_getElem hl)] at hp
  cases hp
theorem NS.nT (h : NS H0 H S c T rs rows) {p : Addr} (hp : H p = none) : p ≠ T := (ne_of_none h.ro.top hp).symm
/-- the row at n: its address -/
theorem NS.get (h : NS H0 H S c T rs rows) {n : Nat} (hn : n < rows.length) : ∃ r, (rs.map V.ref)[n]? = some (.ref r) ∧ rs[n]? = some r ∧ H r = some (.lst ((rows.getD n []).map V.int)) := by
  obtain ⟨r, h1, h2⟩ := h.ro.get (List.getElem?_eq_getElem hn)
  refine ⟨r, by rw [List.getElem?_map, h1]; rfl, h1, ?_⟩
  rw [List.getD_eq_getElem?_getD, List.getElem?_eq_getElem hn, Option.getD_some]
  exact h2
theorem NS.sqT {K : PySem.W.Frag} (h : NS H0 H S c T rs rows) : SqL K H T (rs.map V.ref) := SqL.of h.ro.top
end
theorem map_ins (i : Nat) (x : Int) (l : List Int) : (l.map V.int).take i ++ V.int x :: (l.map V.int).drop i = (ins i x l).map V.int := by
  unfold ins
  rw [List.map_append, List.map_cons, List.map_take, List.map_drop]
/-- the rows are few and short -/
theorem WF.len {rows : Rows} {E : Nat} (h : WF rows E) : rows.flatten.length = 2 * E := by
  have p : rows.flatten.Perm ((List.range (2 * E)).map Int.ofNat) := by
    refine (List.perm_ext_iff_of_nodup h.nd ?_).mpr fun d => ?_
    · refine List.Pairwise.map _ (fun a b hab e => hab (Int.ofNat.inj e)) List.nodup_range
    · rw [h.mem d, List.mem_map]
      constructor
      · intro hd
        exact ⟨d.toNat, List.mem_range.mpr (by omega), by show ((d.toNat : Nat) : Int) = d; omega⟩
      · rintro ⟨n, hn, rfl⟩
        have := List.mem_range.mp hn
        show 0 ≤ (n : Int) ∧ (n : Int) < _
        omega
  rw [p.length_eq, List.length_map, List.length_range]
theorem row_le {rows : Rows} {row : List Int} (h : row ∈ rows) : row.length ≤ rows.flatten.length := by
  obtain ⟨a, b, rfl⟩ := List.append_of_mem h
  rw [List.flatten_append, List.flatten_cons, List.length_append, List.length_append]
  omega
theorem WF.row {rows : Rows} {E : Nat} (h : WF rows E) {n : Nat} : (rows.getD n []).length ≤ 2 * E := by
  by_cases hn : n < rows.length
  · rw [List.getD_eq_getElem?_getD, List.getElem?_eq_getElem hn, Option.getD_some, ← h.len]
    exact row_le (List.getElem_mem hn)
  · rw [List.getD_eq_getElem?_getD, List.getElem?_eq_none (by omega)]
    exact Nat.zero_le _
theorem walkF_len {rows : Rows} {rim : Nat} : ∀ (n : Nat) (found : List Int) (d : Int), found.length ≤ (walkF rows rim n found d).length ∧ (walkF rows rim n found d).length ≤ found.length + n
  | 0, found, d => ⟨Nat.le_refl _, Nat.le_refl _⟩
  | n + 1, found, d => by
    unfold walkF
    cases e : nxt rows rim d with
    | none => exact ⟨Nat.le_refl _, Nat.le_add_right _ _⟩
    | some d' =>
      simp only
      split
      · exact ⟨Nat.le_refl _, Nat.le_add_right _ _⟩
      · have := walkF_len (rows := rows) (rim := rim) n (found ++ [d']) d'
        rw [List.length_append, List.length_singleton] at this
        omega
theorem faceM_len (rows : Rows) (rim : Nat) (d : Int) : 1 ≤ (faceM rows rim d).length ∧ (faceM rows rim d).length ≤ 201 := by
  have := walkF_len (rows := rows) (rim := rim) 200 [d] d
  rw [List.length_singleton] at this
  unfold faceM
  omega
/-- a test that gives b and leaves the heap -/
theorem g_ifb {c : TT} {t u : TS} {D : Ends} {σ : L2.St} {H : Hp} (b : Bool) (h : ∀ Q : Bool → Hp → Prop, Q b H → c σ H Q) (h2 : if b = true then t D σ H else u D σ H) : tIfS c t u D σ H := h _ h2
theorem lim_ok {n : Nat} (h : n ≤ 100000) : ((n : Int)).natAbs < 2 ^ 9000 := pow_mono (a := 20) (by omega) (by decide)
theorem modRow_get {rows : Rows} {n m : Nat} {f : List Int → List Int} (hn : n < rows.length) (hm : m = n) : (modRow rows n f).getD m [] = f (rows.getD n []) := by
  subst hm
  unfold modRow
  rw [List.getD_eq_getElem?_getD, List.getElem?_set_self hn, Option.getD_some]
def spGrow : Sp := fun vs H Q _ => ∃ (H0 : Hp) (S c T : Addr) (rim E : Nat) (ch : Int) (rs : List Addr) (rows : Rows), vs = [.ref S, .int (rim : Int), .ref T, .int (E : Int), .int ch] ∧ NS H0 H S c T rs rows ∧ WF rows E ∧ 0 < rim ∧ rim ≤ rows.length ∧ rows.length ≤ 1000 ∧ E ≤ 1000 ∧
  ∀ rs' rows' H', Grow rim E rows rows' → NS H0 H' S c T rs' rows' → Q (.int ((E + 1 : Nat) : Int)) H'
theorem g_cat {H : Hp} {l b : Addr} {xs zs : List V} {Q : VK} (h1 : H l = some (.lst xs)) (h2 : H b = some (.lst zs)) (hz : xs.length + zs.length ≤ 1000000) (q : ∀ p, H p = none → Q (.ref p) (upd H p (.lst (xs ++ zs)))) : rCat (.ref l) (.ref b) H Q :=
  ⟨l, b, xs, zs, rfl, rfl, h1, h2, by have := sizeLine_eq; omega, q⟩
theorem ixN_of {n j : Nat} (hj : j < n) : ixN n (j : Int) = some j := by
  unfold ixN
  rw [if_pos (by omega), if_pos (by omega), Int.toNat_natCast]
theorem few_of {rows : Rows} (h1 : rows.length ≤ 10000) (h2 : rows.flatten.length ≤ 10000) : Few rows := ⟨h1, fun row hr => Nat.le_trans (row_le hr) h2⟩
theorem lim_ok2 {n : Nat} (h : n ≤ 10000) : (2 * (n : Int)).natAbs < 2 ^ 9000 := pow_mono (a := 20) (by omega) (by decide)
theorem getD_at {rows : Rows} {n : Nat} {row : List Int} (h : rows[n]? = some row) : rows.getD n [] = row := by rw [List.getD_eq_getElem?_getD, h, Option.getD_some]
inductive Built (rim : Nat) : Nat → Rows → Prop
  | start : Built rim 0 (List.replicate rim [])
  | grow {E : Nat} {rows rows' : Rows} : Built rim E rows → Grow rim E rows rows' → Built rim (E + 1) rows'
theorem Built.all {rim E : Nat} {rows : Rows} (h : Built rim E rows) (h0 : 0 < rim) : WF rows E ∧ rim ≤ rows.length ∧ rows.length ≤ rim + E := by
  induction h with
  | start =>
    have e : (List.replicate rim ([] : List Int)).flatten = [] := by simp
    refine ⟨⟨by rw [e]; exact List.nodup_nil, fun d => ?_⟩, by simp, by simp⟩
    rw [e]
    constructor
    · intro h
      cases h
    · intro h
      omega
  | grow hb g ih =>
    obtain ⟨w, l1, l2⟩ := ih
    have := g.len
    exact ⟨g.wf w l1 h0, by omega, by omega⟩
theorem NS.other {H0 H : Hp} {S c T : Addr} {rs : List Addr} {rows : Rows} (h : NS H0 H S c T rs rows) {p : Addr} {o : HO} (hp0 : H0 p = none) (hT : p ≠ T) (hr : p ∉ rs) : NS H0 (upd H p o) S c T rs rows :=
  ⟨h.st.upd (h.s0.neS hp0) (h.s0.nec hp0), h.ro.keep fun b hb o' e => by
    have : b ≠ p := by
      rintro rfl
      rcases hb with hb | hb
      · exact hT hb
      · exact hr hb
    rw [upd_ne this]
    exact e, kp_updN h.kp hp0, h.T0, h.r0, h.s0⟩
/-- a net's value -/
structure NetAt (K : PySem.W.Frag) (H : Hp) (p t m : Addr) (ts : List Addr) (as : List V) (rim : Nat) (rows : Rows) (qs : List Rat) : Prop where
  top : SqT K H p [.int (rim : Int), .ref t, .ref m]
  turns : SqT K H t (ts.map V.ref)
  len : ts.length = rows.length
  row : ∀ (i : Nat) r row, ts[i]? = some r → rows[i]? = some row → SqT K H r (row.map V.int)
  ams : SqT K H m as
  rats : Rats K H as qs
def NetV (K : PySem.W.Frag) (H : Hp) (v : V) (rim : Nat) (rows : Rows) (qs : List Rat) : Prop := ∃ p t m ts as, v = .ref p ∧ NetAt K H p t m ts as rim rows qs
theorem NetAt.same {K : PySem.W.Frag} {H H' : Hp} {p t m : Addr} {ts : List Addr} {as : List V} {rim : Nat} {rows : Rows} {qs : List Rat} (h : NetAt K H p t m ts as rim rows qs) (e : Same H H') : NetAt K H' p t m ts as rim rows qs :=
  ⟨Same.sqt e h.top, Same.sqt e h.turns, h.len, fun i r row a b => Same.sqt e (h.row i r row a b), Same.sqt e h.ams, h.rats.same e⟩
theorem NetAt.kp {K : PySem.W.Frag} {S : Addr} {ys : List V} {H H' : Hp} {p t m : Addr} {ts : List Addr} {as : List V} {rim : Nat} {rows : Rows} {qs : List Rat} (h : NetAt K H p t m ts as rim rows qs) (e : Kp S H H') (hS : H S = some (.lst ys)) : NetAt K H' p t m ts as rim rows qs :=
  ⟨Kp.sqt e hS h.top, Kp.sqt e hS h.turns, h.len, fun i r row a b => Kp.sqt e hS (h.row i r row a b), Kp.sqt e hS h.ams, h.rats.kp e hS⟩
def spAmount (K : PySem.W.Frag) : Sp := fun vs H Q _ => ∃ S c : Addr, vs = [.ref S] ∧ StAt H S c ∧ ∀ v H' q, StAt H' S c → Kp S H H' → RatV K H' v q → 0 < q → Bd 5 q → Q v H'
def spNet (K : PySem.W.Frag) : Sp := fun vs H Q _ => ∃ (S c : Addr) (R M : Nat), vs = [.ref S, .int (R : Int), .int (M : Int)] ∧ StAt H S c ∧ 1 ≤ R ∧ R ≤ 100 ∧ M ≤ 500 ∧
  ∀ v H' rim rows E qs, 1 ≤ rim → rim ≤ R → E ≤ M → Built rim E rows → qs.length = E → (∀ q ∈ qs, 0 < q ∧ Bd 5 q) → StAt H' S c → Kp S H H' → NetV K H' v rim rows qs → Q v H'
theorem divInt_pos {a b : Int} (ha : 0 < a) (hb : 0 < b) : 0 < Rat.divInt a b := by
  have hb' : (Rat.divInt a b).den = b.natAbs / Int.gcd b a := by rw [Rat.den_divInt, if_neg (by omega)]
  have : 0 < (Rat.divInt a b).num := by
    rw [Rat.num_divInt, Int.sign_eq_one_of_pos hb, Int.one_mul]
    have hg : 0 < Int.gcd b a := Int.gcd_pos_of_ne_zero_left _ (by omega)
    exact Int.ediv_pos_of_pos_of_dvd ha (by omega) (Int.gcd_dvd_right ..)
  rw [Rat.lt_iff]
  show (0 : Int) * _ < _ * ((1 : Nat) : Int)
  omega
end Rz

namespace Rz
open PySem PySem.Spec PyProof.Rows L2

/-! ### {k: v for t0 in i0 for t1 in i1}: its two loops by one lemma -/
/-- what one turn does behind its store, then k -/
def deedIn (kx vx : Expr) (D : Addr) (env : Env) (k : Sem Fin) : Sem Fin := do
  (do
    let a ← eval kx env
    let b ← holding [a] (eval vx env)
    standAt { kx.pos with endLine := vx.pos.endLine, endCol := vx.pos.endCol }
    holding [a, b] (dictSet D a b))
  k
def deedOut (whole i1 : Expr) (acc : Value) (env : Env) (k : Sem Fin) : Sem Fin := do
  let src ← eval i1 env
  standAt i1.pos
  let src ← foldedSetIterable i1 env src
  let _ ← runOwn (.compStart whole 1 (← holding [src] (pyIter src)) acc env) env
  k
def turnWith (whole : Expr) (dep : Nat) (t : Expr) (p : Pos) (it acc : Value) (env : Env) (deed : Sem Fin → Sem Fin) : Sem Fin := do
  standAt p
  match ← pyNext it with
  | none => pure (.done .next)
  | some v =>
    letOwnedTupleGo t it v
    assign t env v
    deed (again (.compLoop whole dep it acc env))
abbrev dc2 (kx vx t0 i0 t1 i1 : Expr) (sc : Scope) (pos : Pos) : Expr := .DictComp kx vx [⟨t0, i0, [], 0⟩, ⟨t1, i1, [], 0⟩] sc pos
theorem turn_in (kx vx t0 i0 t1 i1 : Expr) (sc : Scope) (pos : Pos) (it : Value) (D : Addr) (env : Env) :
    compTurn (dc2 kx vx t0 i0 t1 i1 sc pos) 1 it (.ref D) env = turnWith (dc2 kx vx t0 i0 t1 i1 sc pos) 1 t1 i1.pos it (.ref D) env (deedIn kx vx D env) := by rfl
theorem turn_out (kx vx t0 i0 t1 i1 : Expr) (sc : Scope) (pos : Pos) (it : Value) (D : Addr) (env : Env) :
    compTurn (dc2 kx vx t0 i0 t1 i1 sc pos) 0 it (.ref D) env = turnWith (dc2 kx vx t0 i0 t1 i1 sc pos) 0 t0 i0.pos it (.ref D) env (deedOut (dc2 kx vx t0 i0 t1 i1 sc pos) i1 (.ref D) env) := by rfl
/-- a deed keeps the slots' knowledge and brings Nx -/
def Deed (X : Cx) (fs : List Nat) (deed : Sem Fin → Sem Fin) (ta : L2.St → Hp → (Hp → Prop) → Prop) : Prop :=
  ∀ (pins : List (Addr × Obj)) (s : Shared) (σ : L2.St) (H : Hp) (Nx : Hp → Prop) (k : Sem Fin) (R : Fin → Shared → Prop), Inv X pins σ H s → ta σ H Nx →
    (∀ s' H', Inv X pins (wipe σ fs) H' s' → Nx H' → wpAny (model X.prog X.w) X.A k R (fun _ _ => False) s') → wpAny (model X.prog X.w) X.A (deed k) R (fun _ _ => False) s
theorem noRaise {M : Model} {A : Around} {α : Type} {t : Sem α} {Q : α → Shared → Prop} {E : Value → Shared → Prop} {s : Shared} (h : wpAny M A t Q (fun _ _ => False) s) : wpAny M A t Q E s := wpAny_mono h (fun _ _ z => z) fun _ _ z => z.elim
/-- one loop of a comprehension's block -/
theorem loopWith {X : Cx} (hx : X.xe = fun _ _ => False) (hc : X.calm = true) {kx vx t0 i0 t1 i1 t : Expr} {sc : Scope} {pos : Pos} {dep : Nat} {p : Pos} {acc : Value} {it : Addr} {deed : Sem Fin → Sem Fin} {fs : List Nat} {g : TG} {ta : L2.St → Hp → (Hp → Prop) → Prop}
    (heq : compTurn (dc2 kx vx t0 i0 t1 i1 sc pos) dep (.ref it) acc X.env = turnWith (dc2 kx vx t0 i0 t1 i1 sc pos) dep t p (.ref it) acc X.env deed) (pg : PG X t g) (da : Deed X fs deed ta)
    {pins : List (Addr × Obj)} {σ : L2.St} {J : It} {fp : List Addr} {tn : Nat → Heap → Prop} (T : Turn X.prog X.w X.K t J fp it tn)
    {H : Hp} {s : Shared} (I : Inv X pins (wipe σ fs) H s) (st : tn 0 s.heap) (nf : ∀ b ∈ fp, H b = none) (fpo : ∀ (H' : Hp), (∀ b ∈ fp, H' b = none) → ∀ b ∈ fp, FpOk X pins H' b)
    (W : Nat → Nat → Hp → Prop) (m₀ : Nat) (w0 : W 0 m₀ H) (Z : Hp → Prop)
    (turn : ∀ i m H, W i m H → (J.stop i H ∧ Z H) ∨ (J.go i H ∧ ∃ Nx : Hp → Prop, (∀ H', Nx H' → ∃ m', m' < m ∧ W (i + 1) m' H') ∧ ∀ x H', J.yld i H x H' → g x (wipe σ fs) H' fun σ2 H2 => wipe σ2 fs = wipe σ fs ∧ ta σ2 H2 Nx)) :
    codeAny (model X.prog X.w) X.A (.compLoop (dc2 kx vx t0 i0 t1 i1 sc pos) dep (.ref it) acc X.env) (fun r s' => match r with
      | .ok f => f = .next ∧ ∃ H', Inv X pins (wipe σ fs) H' s' ∧ Z H'
      | .error _ => False) s := by
  refine codeAny_loop rfl (fun n q => ∃ i G, Inv X pins (wipe σ fs) G q ∧ tn i q.heap ∧ (∀ b ∈ fp, G b = none) ∧ W i n G) (fun n q ⟨i, G, Iq, sq, nq, wq⟩ => ?_) m₀ ⟨0, H, I, st, nf, w0⟩
  show wpAny _ X.A ((compTurn (dc2 kx vx t0 i0 t1 i1 sc pos) dep (.ref it) acc X.env).onRaise fun x => do noteFrame x X.env; theTreesLotGoes x) _ _ q
  refine wpAny_noted ?_
  rw [heq]
  refine wpAny_bind (wpAny_standAt (wpAny_bind ?_))
  rcases turn i n G wq with ⟨hstop, hz⟩ | ⟨hgo, Nx, hNx, hstep⟩
  · refine wpAny_mono (T.done X rfl rfl rfl hc i pins q (wipe σ fs) G (fun _ _ => False) Iq (fpo G nq) sq hstop) (fun r q1 ⟨er, I1⟩ => ?_) fun _ _ z => z.elim
    subst er
    exact wpAny_pure ⟨rfl, G, I1, hz⟩
  · refine wpAny_mono (T.item X rfl rfl rfl hc i pins q (wipe σ fs) G (fun _ _ => False) Iq (fpo G nq) sq hgo) (fun r q1 ⟨u, er, h1⟩ => ?_) fun _ _ z => z.elim
    subst er
    refine wpAny_bind (wpAny_mono h1 (fun _ q2 ⟨x, G2, I2, r2, y2, s2, n2⟩ => ?_) fun _ _ z => z.elim)
    have I2' := I2.pinned (fpo G2 n2) (T.obj _ _ s2)
    have hg := pg.run _ q2 _ G2 x u _ I2' r2 (hstep x G2 y2)
    rw [hx] at hg
    refine wpAny_bind (wpAny_mono hg (fun _ q3 ⟨σ3, G3, I3, hw3, h3⟩ => ?_) fun _ _ z => z.elim)
    refine noRaise (da _ q3 σ3 G3 Nx _ _ I3 h3 fun q4 G4 I4 hn4 => ?_)
    obtain ⟨m', hm, w'⟩ := hNx G4 hn4
    have back : ∀ b, b ∈ fp → ∀ o, q2.heap.get? b = some o → q4.heap.get? b = some o ∧ G4 b = none := fun b hb o e => by
      have z := I4.pin (b, o) (List.mem_append_right _ (List.mem_append_right _ (mem_pinsAt hb e)))
      exact ⟨z.1, z.2.1⟩
    rw [hw3] at I4
    refine wpAny_pure ⟨rfl, m', hm, i + 1, G4, I4.unpinned, T.keep _ _ _ s2 fun b hb o e => (back b hb o e).1, fun b hb => ?_, w'⟩
    obtain ⟨o, e, _⟩ := T.obj _ _ s2 b hb
    exact (back b hb o e).2

/-! ### the two deeds -/
def tPut (tk tv : TE) (D : Addr) : L2.St → Hp → (Hp → Prop) → Prop := fun σ H Nx => tk σ H fun y H1 => tv σ H1 fun z H2 => ∃ kvs k, y = kV k ∧ H2 D = some (.dK kvs) ∧ kvs.length < sizeLine ∧ Nx (upd H2 D (.dK (putK kvs k z)))
def inW (fs1 : List Nat) (g1 : TG) (ta1 : L2.St → Hp → (Hp → Prop) → Prop) (σ : L2.St) (Nx : Hp → Prop) : It → Hp → Prop := fun J H1 => ∃ W : Nat → Nat → Hp → Prop, (∃ m, W 0 m H1) ∧ ∀ i m H, W i m H →
  (J.stop i H ∧ Nx H) ∨ (J.go i H ∧ ∃ Nx1 : Hp → Prop, (∀ H', Nx1 H' → ∃ m', m' < m ∧ W (i + 1) m' H') ∧ ∀ x H', J.yld i H x H' → g1 x (wipe σ fs1) H' fun σ2 H2 => wipe σ2 fs1 = wipe σ fs1 ∧ ta1 σ2 H2 Nx1)
def tInner (fs1 : List Nat) (wi1 : TI) (g1 : TG) (ta1 : L2.St → Hp → (Hp → Prop) → Prop) : L2.St → Hp → (Hp → Prop) → Prop := fun σ H Nx => wi1 σ H (inW fs1 g1 ta1 σ Nx)
theorem deed_in {X : Cx} (hx : X.xe = fun _ _ => False) {fs : List Nat} {kx vx : Expr} {tk tv : TE} {D : Addr} (pk : PE X kx tk) (pv : PE X vx tv) : Deed X fs (deedIn kx vx D X.env) (tPut tk tv D) := by
  intro pins s σ H Nx k R I h hk
  unfold deedIn
  have h1 := pk.run pins s σ H _ I h
  rw [hx] at h1
  refine wpAny_bind (wpAny_bind (wpAny_mono h1 (fun u s1 ⟨y, H1, I1, r1, q1⟩ => ?_) fun _ _ z => z))
  have h2 := pv.run pins s1 σ H1 _ I1 q1
  rw [hx] at h2
  refine wpAny_bind (wpAny_holding (wpAny_mono h2 (fun u2 s2 ⟨z, H2, I2, r2, kvs, kk, ey, hD, hz, nx⟩ => ?_) fun _ _ z => z))
  subst ey
  refine wpAny_bind (wpAny_standAt (wpAny_holding (d_dictSet I2 hD hz r1 r2 fun s3 I3 => ?_)))
  exact hk s3 _ (I3.weak (wipe_length _ _) fun j v e => (wipe_some e).1) nx
theorem start_in {prog : Program} {w : World} {A : Around} {R : Result → Shared → Prop} {s : Shared} {kx vx t0 i0 t1 i1 : Expr} {sc : Scope} {pos : Pos} {it acc : Value} {env : Env}
    (h0 : codeAny (model prog w) A (.compLoop (dc2 kx vx t0 i0 t1 i1 sc pos) 1 it acc env) R s)
    (h : wpAny (model prog w) A (pyIter it) (fun it2 s2 => codeAny (model prog w) A (.compLoop (dc2 kx vx t0 i0 t1 i1 sc pos) 1 it2 acc env) R s2) (notedBy (model prog w) A env fun x s2 => R (.error x) s2) s) :
    codeAny (model prog w) A (.compStart (dc2 kx vx t0 i0 t1 i1 sc pos) 1 it acc env) R s := by
  refine codeAny_of_tree ?_
  show wpAny _ _ ((compStart (dc2 kx vx t0 i0 t1 i1 sc pos) 1 it acc env).onRaise (fun x => do noteFrame x env; standAt theWindowsPlace)) _ _ s
  refine wpAny_notedAt ?_
  unfold compStart
  show wpAny _ _ (ask >>= _) _ _ s
  refine wpAny_bind (wpAny_askSetting (wpAny_ite ?_))
  split
  · first
      | exact wpAny_bind (wpAny_pure (wpAny_pure (And.intro rfl h0)))
      | exact wpAny_pure (And.intro rfl h0)
  · first
      | exact wpAny_bind (wpAny_rule (wpAny_bind (wpAny_standAt (wpAny_bind (wpAny_mono h (fun it2 s2 z => wpAny_pure (And.intro rfl z)) fun _ _ x => x)))))
      | (refine wpAny_bind (wpAny_rule ?_); show wpAny _ _ (standAt i1.pos >>= _) _ _ s; exact wpAny_bind (wpAny_standAt (wpAny_bind (wpAny_mono h (fun it2 s2 z => wpAny_pure (And.intro rfl z)) fun _ _ x => x))))
theorem deed_out {X : Cx} (hx : X.xe = fun _ _ => False) (hc : X.calm = true) {fs fs1 : List Nat} (hsub : ∀ i ∈ fs1, i ∈ fs) {kx vx t0 i0 t1 i1 : Expr} {sc : Scope} {pos : Pos} {D : Addr} {wi1 : TI} {g1 : TG} {ta1 : L2.St → Hp → (Hp → Prop) → Prop}
    (hs1 : ∀ x, foldedSetIterable i1 X.env x = pure x) (pi1 : PI X t1 i1 wi1) (pg1 : PG X t1 g1) (da : Deed X fs1 (deedIn kx vx D X.env) ta1) :
    Deed X fs (deedOut (dc2 kx vx t0 i0 t1 i1 sc pos) i1 (.ref D) X.env) (tInner fs1 wi1 g1 ta1) := by
  intro pins s σ H Nx k R I h hk
  unfold deedOut
  have h1 := pi1.run pins s σ H _ I h
  rw [hx] at h1
  refine wpAny_bind (wpAny_mono h1 (fun u s1 h2 => ?_) fun _ _ z => z)
  refine wpAny_bind (wpAny_standAt (wpAny_bind (wpAny_of_eq (hs1 u) (wpAny_bind (wpAny_holding (wpAny_mono h2 (fun itv s2 h3 => ?_) fun _ _ z => z))))))
  obtain ⟨it, fp, tn, J, H1, e, I1, T, st, hf, W, ⟨m, w0⟩, turn⟩ := h3
  subst e
  have loop := loopWith hx hc (turn_in kx vx t0 i0 t1 i1 sc pos (.ref it) D X.env) pg1 da T (I1.weak (wipe_length _ _) fun j v e => (wipe_some e).1) st (fun b hb => (hf b hb).1) (fun H' hn b hb => ⟨hn b hb, (hf b hb).2⟩) W m w0 Nx turn
  refine wpAny_bind (wpAny_runOwn ?_)
  rw [Around.mark_none]
  refine codeAny_mono (start_in loop (T.self X.A 0 _ _ _ st loop)) fun r s' hr => ?_
  cases r with
  | ok f =>
    obtain ⟨_, H', I', nx⟩ := hr
    have I2 : Inv X pins (wipe σ fs) H' s' := I'.weak ((wipe_length _ _).trans (wipe_length _ _).symm) fun j v e => by
      obtain ⟨e1, e2⟩ := wipe_some e
      rw [wipe_out fun z => e2 (hsub j z)]
      exact e1
    first
      | exact hk s' H' I2 nx
      | exact wpAny_bind (wpAny_pure (hk s' H' I2 nx))
  | error e => exact hr.elim

/-! ### the whole -/
def outW (g : TG) (fs fs1 : List Nat) (wi1 : TI) (g1 : TG) (tk tv : TE) (σ : L2.St) (Q : VK) : It → Hp → Prop := fun J H1 => ∀ D, H1 D = none → ∃ W : Nat → Nat → Hp → Prop, (∃ m, W 0 m (upd H1 D (.dK []))) ∧ ∀ i m H, W i m H →
  (J.stop i H ∧ Q (.ref D) H) ∨ (J.go i H ∧ ∃ Nx : Hp → Prop, (∀ H', Nx H' → ∃ m', m' < m ∧ W (i + 1) m' H') ∧ ∀ x H', J.yld i H x H' → g x (wipe σ fs) H' fun σ2 H2 => wipe σ2 fs = wipe σ fs ∧ tInner fs1 wi1 g1 (tPut tk tv D) σ2 H2 Nx)
def tDc2 (wi : TI) (g : TG) (fs fs1 : List Nat) (wi1 : TI) (g1 : TG) (tk tv : TE) : TE := fun σ H Q => wi σ H (outW g fs fs1 wi1 g1 tk tv σ Q)
abbrev BlkA (X : Cx) (scope : Scope) (p : Cx → Prop) : Prop := ∀ (s : Shared) (H : Hp) (C : Addr) (cl : List (Str × Addr)) (fp : List Addr), p (X.blk s H scope (compEnvC scope cl C X.env) fp)
section
variable {X : Cx} {kx vx t0 i0 t1 i1 : Expr} {scope : Scope} {own : List (Str × Nat)} {fs1 : List Nat} {pos pos' : Pos} {wi wi1 : TI} {g g1 : TG} {tk tv : TE}
theorem dc2_core {pins : List (Addr × Obj)} {s : Shared} {σ : L2.St} {H : Hp} {Q : VK} {use : Option (Value → Sem Unit)} {Qf : Value → Shared → Prop} (hc : X.calm = true) (hN : X.N.Nodup) (I : Inv X pins σ H s) (hi : PI X t0 i0 wi) (ok : BlkOk X.N X.env.scope scope own) (hv : ∀ i ∈ fs1, i ∈ own.map (·.2))
    (hg : BlkA X scope fun Y => PG Y t0 g) (hi1 : BlkA X scope fun Y => PI Y t1 i1 wi1) (hg1 : BlkA X scope fun Y => PG Y t1 g1) (hk : BlkA X scope fun Y => PE Y kx tk) (he : BlkA X scope fun Y => PE Y vx tv)
    (hs : ∀ x, foldedSetIterable i0 X.env x = pure x) (hs1 : ∀ env x, foldedSetIterable i1 env x = pure x) (h : tDc2 wi g (own.map (·.2)) fs1 wi1 g1 tk tv σ H Q)
    (hRR : ∀ D C s' m H', Inv X pins σ H' s' → Q (.ref D) H' → s'.heap.Ns C m → FpOk X pins H' C → compPost (model X.prog X.w) X.A X.xe use Qf (.ref D) C (.ok .next) s') :
    wpAny (model X.prog X.w) X.A (comprehension (dc2 kx vx t0 i0 t1 i1 scope pos) scope X.env pos' newDict false (eval i0 X.env) use) Qf X.xe s := by
  have hclo := closure_ok (scope := scope) (env := X.env) fun y hy e => I.ok.has y.1 (ok.free y hy e)
  refine wpAny_comprehension_free (use := use) rfl hs hclo ok.kind (fun y hy e => by rw [ok.uniq y hy, e]) (thn (hi.run pins s σ H _ I h) fun xv s1 hx => thn hx fun itv s2 h2 => ?_)
  obtain ⟨it, fp, tn, J, H2, rfl, I2, T, st2, f2, q⟩ := h2
  refine wpAny_newObj_type (newEnv_comp ?_)
  obtain ⟨D, hD⟩ : ∃ D, D = s2.heap.objs.size := ⟨_, rfl⟩
  rw [← hD]
  have hDn : H2 D = none := I2.hok.fresh (by rw [hD]; exact Nat.le_refl _)
  obtain ⟨W, ⟨m0, w0⟩, turn⟩ := q D hDn
  obtain ⟨s3, hs3⟩ : ∃ s3 : Shared, s3 = { s2 with heap := s2.heap.push { cls := .type "dict", data := .dict #[] } } := ⟨_, rfl⟩
  rw [← hs3]
  have keep3 : ∀ b o, s2.heap.get? b = some o → s3.heap.get? b = some o := fun b o e => by rw [hs3]; exact Heap.get?_push_of_some _ e
  obtain ⟨H3, hH3⟩ : ∃ H3 : Hp, H3 = upd H2 D (.dK []) := ⟨_, rfl⟩
  have I3 : Inv X pins σ H3 s3 := by
    rw [hs3, hH3, hD]
    exact I2.laid (t' := s2.toks) (fun b o e => Heap.get?_push_of_some _ e) (Nat.le_refl _) (dk_empty s2.heap I2.big)
  have hlt3 : ∀ b ∈ fp, b < s2.heap.objs.size := fun b hb => let ⟨_, e, _⟩ := T.obj _ _ st2 b hb; Heap.lt_size e
  have f3 : ∀ b ∈ fp, FpOk X pins H3 b ∧ b < s3.heap.objs.size := fun b hb => by
    have hb3 := hlt3 b hb
    refine ⟨⟨?_, (f2 b hb).2⟩, ?_⟩
    · rw [hH3, upd_ne (by rw [hD]; exact Nat.ne_of_lt hb3)]
      exact (f2 b hb).1
    · rw [hs3]
      show b < (s2.heap.push _).objs.size
      rw [Heap.size_push]
      exact Nat.lt_succ_of_lt hb3
  have I4 := block_start I3 ok hN f3
  have zg := hg s3 H3 s3.heap.objs.size (cellsFrom (s3.heap.objs.size + 1) scope.names (cloFrom X.env.cells scope.names [])) fp
  have zi := hi1 s3 H3 s3.heap.objs.size (cellsFrom (s3.heap.objs.size + 1) scope.names (cloFrom X.env.cells scope.names [])) fp
  have zg1 := hg1 s3 H3 s3.heap.objs.size (cellsFrom (s3.heap.objs.size + 1) scope.names (cloFrom X.env.cells scope.names [])) fp
  have zk := hk s3 H3 s3.heap.objs.size (cellsFrom (s3.heap.objs.size + 1) scope.names (cloFrom X.env.cells scope.names [])) fp
  have zv := he s3 H3 s3.heap.objs.size (cellsFrom (s3.heap.objs.size + 1) scope.names (cloFrom X.env.cells scope.names [])) fp
  show codeAny _ _ (.compStart (dc2 kx vx t0 i0 t1 i1 scope pos) 0 (.ref it) (.ref D) (compEnvC scope (cellsFrom (s3.heap.objs.size + 1) scope.names (cloFrom X.env.cells scope.names [])) s3.heap.objs.size X.env)) (compPost (model X.prog X.w) X.A X.xe use Qf (.ref D) s3.heap.objs.size) _
  obtain ⟨ce, hce⟩ : ∃ ce, ce = compEnvC scope (cellsFrom (s3.heap.objs.size + 1) scope.names (cloFrom X.env.cells scope.names [])) s3.heap.objs.size X.env := ⟨_, rfl⟩
  have hcl : ce.locals = s3.heap.objs.size := by rw [hce]; rfl
  rw [← hce] at I4 zg zi zg1 zk zv ⊢
  rw [← hH3] at w0
  obtain ⟨s4, hs4⟩ : ∃ s4 : Shared, s4 = { s3 with heap := pushCells (s3.heap.push { cls := .type "dict", data := .dict #[] }) scope.names } := ⟨_, rfl⟩
  rw [← hs4] at I4 ⊢
  have st4 : tn 0 s4.heap := T.keep _ _ _ st2 fun b _ o e => by
    rw [hs4]
    exact pushCells_keeps _ _ _ _ (Heap.get?_push_of_some _ (keep3 b o e))
  have fpo : ∀ H' : Hp, (∀ b ∈ fp, H' b = none) → ∀ b ∈ fp, FpOk (X.blk s3 H3 scope ce fp) [] H' b := fun H' hn b hb =>
    ⟨hn b hb, (I4.ok.exf b hb).1, I4.ok.exfs b hb, .inl hb, fun x c e => (I4.ok.exf b hb).2 x c e, fun p hp => absurd (show p ∈ ([] : List (Addr × Obj)) ++ [] from hp) (by simp)⟩
  have loop := loopWith (X := X.blk s3 H3 scope ce fp) rfl hc (turn_out kx vx t0 i0 t1 i1 scope pos (.ref it) D ce) zg
    (deed_out (X := X.blk s3 H3 scope ce fp) rfl hc hv (fun x => hs1 ce x) zi zg1 (deed_in (X := X.blk s3 H3 scope ce fp) rfl zk zv)) T (σ := σ) (fs := own.map (·.2)) I4 st4 (fun b hb => (f3 b hb).1.1) fpo W m0 w0 (Q (.ref D)) turn
  have loop2 : codeAny (model X.prog X.w) X.A (.compLoop (dc2 kx vx t0 i0 t1 i1 scope pos) 0 (.ref it) (.ref D) ce) (compPost (model X.prog X.w) X.A X.xe use Qf (.ref D) s3.heap.objs.size) s4 := by
    refine codeAny_mono loop fun r s6 hr => ?_
    cases r with
    | error e => exact hr.elim
    | ok f =>
      obtain ⟨rfl, H6, I6, q6⟩ := hr
      have I7 : Inv X pins σ H6 s6 := I3.call' (ch := fp) I6.os I6.base I6.hok I6.bare fun b hb => ⟨(f3 b hb).1.2.2.2.1, (f3 b hb).1.2.1, (f3 b hb).1.2.2.2.2.1, (f3 b hb).1.2.2.2.2.2⟩
      obtain ⟨m, hn, _⟩ := I6.loc
      have nC : H6 ce.locals = none := I6.free
      have hn : s6.heap.Ns ce.locals m := hn
      rw [hcl] at hn nC
      exact hRR D s3.heap.objs.size s6 m H6 I7 q6 hn (I3.fpOk (Nat.le_refl _) nC)
  exact codeAny_compStart_dict loop2 (T.self X.A 0 _ _ _ st4 loop2)
theorem pe_dc2 (hc : X.calm = true) (hN : X.N.Nodup) (hi : PI X t0 i0 wi) (ok : BlkOk X.N X.env.scope scope own) (hv : ∀ i ∈ fs1, i ∈ own.map (·.2))
    (hg : BlkA X scope fun Y => PG Y t0 g) (hi1 : BlkA X scope fun Y => PI Y t1 i1 wi1) (hg1 : BlkA X scope fun Y => PG Y t1 g1) (hk : BlkA X scope fun Y => PE Y kx tk) (he : BlkA X scope fun Y => PE Y vx tv)
    (hs : ∀ x, foldedSetIterable i0 X.env x = pure x := by intro _; rfl) (hs1 : ∀ env x, foldedSetIterable i1 env x = pure x := by intro _ _; rfl) : PE X (dc2 kx vx t0 i0 t1 i1 scope pos) (tDc2 wi g (own.map (·.2)) fs1 wi1 g1 tk tv) := by
  refine ⟨fun pins s σ H Q I h => ?_⟩
  rw [arm_eval_DictComp]
  refine dc2_core hc hN I hi ok hv hg hi1 hg1 hk he hs hs1 h fun D C s' m H' I' q hn f => ⟨m, hn, fun h2 sb => ?_⟩
  exact ⟨.ref D, H', I'.turned (t' := s'.toks) (fun b o hb e => (sb.2 b hb).trans e) f.1 f.2.1 f.2.2.2.1 f.2.2.2.2.1 f.2.2.2.2.2, rfl, q⟩
/-- name = {..}, on one line, the name a local -/
theorem ps_setDc2 {i : Nat} {y : Str} {py spos : Pos} (hc : X.calm = true) (hN : X.N.Nodup) (hy : X.N[i]? = some y) (hyl : X.env.scope.names.lookup y = some .local) (hsw : swapsWith (dc2 kx vx t0 i0 t1 i1 scope pos) (some (.Name y py)) spos.line X.env = pure true)
    (hi : PI X t0 i0 wi) (ok : BlkOk X.N X.env.scope scope own) (hv : ∀ i ∈ fs1, i ∈ own.map (·.2))
    (hg : BlkA X scope fun Y => PG Y t0 g) (hi1 : BlkA X scope fun Y => PI Y t1 i1 wi1) (hg1 : BlkA X scope fun Y => PG Y t1 g1) (hk : BlkA X scope fun Y => PE Y kx tk) (he : BlkA X scope fun Y => PE Y vx tv)
    (hs : ∀ x, foldedSetIterable i0 X.env x = pure x := by intro _; rfl) (hs1 : ∀ env x, foldedSetIterable i1 env x = pure x := by intro _ _; rfl) : PS X (.Assign [.Name y py] (dc2 kx vx t0 i0 t1 i1 scope pos) spos) (tAsg (tDc2 wi g (own.map (·.2)) fs1 wi1 g1 tk tv) (gName i)) := by
  refine ⟨fun pins s σ H D I h => ?_⟩
  rw [exec_Assign_Name_used _ _ _ _ hsw]
  refine wpAny_bind (wpAny_standAt (wpAny_bind ?_))
  show wpAny _ X.A (do let _ ← comprehension (dc2 kx vx t0 i0 t1 i1 scope pos) scope X.env (firstIterPos [⟨t0, i0, [], 0⟩, ⟨t1, i1, [], 0⟩] pos) newDict false (eval i0 X.env) (some (assign (.Name y py) X.env))) _ _ s
  have h2 : tDc2 wi g (own.map (·.2)) fs1 wi1 g1 tk tv σ H (fun x H1 => gName i x σ H1 D.nx) := h
  refine wpAny_bind (thn (dc2_core (Qf := fun _ s' => SP X pins D .next s') hc hN I hi ok hv hg hi1 hg1 hk he hs hs1 h2 fun L C s' m H' I' q hn f => ?_) fun _ s' hq => wpAny_pure (wpAny_pure hq))
  show wpAny _ _ (assign (.Name y py) X.env (.ref L)) _ _ _
  refine wpAny_assign_Name (store_ok2 (v := V.ref L) I' hN hy (.inl hyl) rfl (fun s2 I2 ⟨a, sb, ha⟩ => ?_) (.inr hyl))
  refine ⟨m, hn.sameBut sb ?_, fun h3 sb3 => ⟨_, H', I2.turned (t' := s2.toks) (fun b o hb e => (sb3.2 b hb).trans e) f.1 f.2.1 f.2.2.2.1 f.2.2.2.2.1 f.2.2.2.2.2, q⟩⟩
  rcases ha with z | z
  · rw [z]
    exact f.2.1
  · exact fun e => f.2.2.2.2.1 y a z e.symm
theorem sw_dict {kx vx : Expr} {gs : List Comprehension} {scope : Scope} {pos py : Pos} {y : Str} {l : Nat} {env : Env} (hk : env.scope.kind = .function) (hy : env.scope.names.lookup y = some .local) (hl : (py.line == pos.line) = true)
    (ha : (scope.names.any fun (n, k) => n == y && (k == .local || k == .cell)) = false) : swapsWith (.DictComp kx vx gs scope pos) (some (.Name y py)) l env = pure true := by
  have e1 : env.kindOf y = some .local := hy
  have e2 : env.blockKind = .function := by unfold Env.blockKind; rw [hk]; rfl
  unfold swapsWith
  simp only [e2, e1, ha, Expr.pos, hl]
  rfl
end
end Rz

namespace Rz
open PySem PySem.Spec PyProof.Rows L2

/-! ### enumerate(a tuple), enumerate(a tuple, start=c) -/
def ItE (K : PySem.W.Frag) (a : Addr) (c : Int) : It :=
  ⟨fun i H => ∃ (xs : List V) (x : V), SqT K H a xs ∧ xs[i]? = some x, fun i H v H' => ∃ T x, v = .ref T ∧ H T = none ∧ H' = upd H T (.tup [.int (c + (i : Int)), x]) ∧ ∀ xs, SqT K H a xs → xs[i]? = some x, fun i H => ∃ xs : List V, SqT K H a xs ∧ xs.length = i⟩
theorem turn_enumT {P : Program} {w : World} {K : PySem.W.Frag} {elts : List Expr} {kk : Nat} {tpos : Pos} (a e it : Addr) (c : Int) (hne : e ≠ it) (hea : e ≠ a) (hai : a ≠ it) :
    Turn P w K (.Tuple elts kk tpos) (ItE K a c) [e, it] e (fun i h => (∃ old, IsEnum h e it (c + (i : Int)) old) ∧ h.IsTupleIter it a i) where
  mem := List.mem_cons_self
  obj := fun i h st b hb => by
    obtain ⟨⟨old, he⟩, o, ho, hc, hd⟩ := st
    rcases List.mem_cons.mp hb with z | z
    · subst z
      exact ⟨_, he, fun v q => nomatch q⟩
    · exact ⟨o, List.mem_singleton.mp z ▸ ho, fun v q => by rw [hd] at q; cases q⟩
  keep := fun i h h' st k => ⟨st.1.imp fun old he => k e List.mem_cons_self _ he, st.2.at fun o q => k it (List.mem_cons_of_mem _ List.mem_cons_self) o q⟩
  item := by
    intro X hP hw hK hc i pins s σ H E I hf st hg
    subst hP hw hK
    obtain ⟨⟨old, he⟩, hit⟩ := st
    obtain ⟨xs, x, hq, hx⟩ := hg
    obtain ⟨its, rv, p, hz⟩ := I.tuple hq
    obtain ⟨u, hu, ru⟩ := rv.get hx
    have hu2 : its.toArray[i]? = some u := by simpa using hu
    have hin : i < its.toArray.size := (Array.getElem?_eq_some_iff.mp hu2).1
    have p2 : s.heap.IsTuple a its.toArray := p
    have Dr := Draws.tuple (prog := X.prog) (w := X.w) (A := X.A.in1) (show X.A.in1.handled = none from I.ok.hd hc) it a hai its.toArray
    have hel : e < s.heap.objs.size := Heap.lt_size he
    have hil : it < s.heap.objs.size := let ⟨_, q, _⟩ := hit; Heap.lt_size q
    refine wpAny_pyNext_enum_itemC Dr he ⟨hit, p2⟩ hin hne (fun z => ?_) fun y h' tk hy ho hst hT hsz hk => ?_
    · rcases List.mem_cons.mp z with z | z
      · exact hne z
      · exact hea (List.mem_singleton.mp z)
    rw [hu2] at hy
    cases hy
    refine ⟨_, rfl, wpAny_letOwnedTupleGo_enum (s := { s with heap := h', toks := tk + 1 }) ho fun h2 he2 sb => ?_⟩
    have hT2 : h2.get? s.heap.objs.size = some { cls := .type "tuple", data := .seq #[.int (c + (i : Int)) tk, u] } := (sb.2 _ (Nat.ne_of_gt hel)).trans hT
    have new : ObjOk X.prog X.w (upd H s.heap.objs.size (.tup [.int (c + (i : Int)), x])) h2 s.heap.objs.size (.tup [.int (c + (i : Int)), x]) :=
      ⟨by show 2 ≤ sizeLine; decide, [.int (c + (i : Int)) tk, u], .cons ⟨_, rfl⟩ (.cons ru .nil), ⟨_, hT2, rfl, _, rfl⟩⟩
    have I1 : Inv X pins σ (upd H s.heap.objs.size (.tup [.int (c + (i : Int)), x])) { s with heap := h2, toks := tk + 1 } :=
      I.turnedNew (ch := [e, it]) (fun b ob hb q => (sb.2 b fun z => hb (z ▸ List.mem_cons_self)).trans (hk b ob (fun z => hb (z ▸ List.mem_cons_self)) (fun z => hb (z ▸ List.mem_cons_of_mem _ List.mem_cons_self)) q)) hf (Nat.le_refl _) new
    refine ⟨.ref s.heap.objs.size, _, I1, rfl, ⟨_, x, rfl, I.hok.fresh (Nat.le_refl _), rfl, fun ys hy => by rw [I.tuple_inj hy hq]; exact hx⟩, ⟨⟨u, ?_⟩, hst.1.at fun o q => (sb.2 it hne.symm).trans q⟩, fun b hb => ?_⟩
    · have e1 : c + ((i + 1 : Nat) : Int) = c + (i : Int) + 1 := by omega
      rw [e1]
      exact he2
    · have hb2 : b < s.heap.objs.size := by
        rcases List.mem_cons.mp hb with z | z
        · exact z ▸ hel
        · exact List.mem_singleton.mp z ▸ hil
      rw [upd_ne (Nat.ne_of_lt hb2)]
      exact (hf b hb).1
  done := by
    intro X hP hw hK hc i pins s σ H E I hf st hg
    subst hP hw hK
    obtain ⟨⟨old, he⟩, hit⟩ := st
    obtain ⟨xs, hq, hx⟩ := hg
    obtain ⟨its, rv, p, hz⟩ := I.tuple hq
    have hl := rv.length
    have hsz : its.toArray.size = i := by rw [List.size_toArray, ← hl, hx]
    have Dr := Draws.tuple (prog := X.prog) (w := X.w) (A := X.A.in1) (show X.A.in1.handled = none from I.ok.hd hc) it a hai its.toArray
    have z := hf it (List.mem_cons_of_mem _ List.mem_cons_self)
    exact wpAny_pyNext_enum_endD Dr he ⟨by rw [hsz]; exact hit, p⟩ fun h' eb => ⟨rfl, I.turned (t' := s.toks) (fun b o hb q => eb b o hb q) z.1 z.2.1 z.2.2.2.1 z.2.2.2.2.1 z.2.2.2.2.2⟩
  self := fun A i s Q E st h => let ⟨⟨_, he⟩, _⟩ := st; wpAny_pyIter_enum he h
set_option maxHeartbeats 1000000 in
theorem meets_enum1 {v : Value} {o : Obj} {H : Heap → Prop} (B : Begins v o H) :
    Meets (Builtin.«enumerate.__new__» ⟨[.type "enumerate", v], []⟩) (fun _ R s => H s.heap ∧ R (.ok (.ret (.ref (s.heap.push o).objs.size)))
      { s with heap := (s.heap.push o).push { cls := .type "enumerate", data := .fields #[.none, .bool false, .ref s.heap.objs.size, rawInt 0, .none, .none] } }) :=
  .of_wp fun prog w A R s h => by
    obtain ⟨hp, g, d, tk, os⟩ := s
    obtain ⟨h1, h⟩ := h
    have hsub := sub_enumerate
    have it : ∀ {A2 : Around} {E : Value → Shared → Prop} {Q : Value → Shared → Prop}, Q (.ref hp.objs.size) ⟨hp.push o, g, d, tk, os⟩ → wpAny (model prog w) A2 (pyIter v) Q E ⟨hp, g, d, tk, os⟩ := fun q => B.iter prog w _ _ ⟨hp, g, d, tk, os⟩ _ h1 q
    wp_walk using it
    refine wpAny_stack_any fun st => wpAny_pure ?_
    split
    · rename_i c _ _ _ _ _
      cases (c == Value.type "enumerate")
      · wp_walk using it
        exact ⟨_, rfl, h⟩
      · wp_walk using it
        exact ⟨_, rfl, h⟩
    · wp_walk using it
      exact ⟨_, rfl, h⟩
theorem call_enum1 {prog : Program} {w : World} {A : Around} {E : Value → Shared → Prop} {s : Shared} {v : Value} {o : Obj} {H : Heap → Prop} {Q : Value → Shared → Prop} (B : Begins v o H) (h1 : H s.heap)
    (h : ∀ h', IsEnum h' (s.heap.objs.size + 1) s.heap.objs.size 0 .none → h'.get? s.heap.objs.size = some o → h'.objs.size = s.heap.objs.size + 2 → (∀ b u, s.heap.get? b = some u → h'.get? b = some u) → Q (.ref (s.heap.objs.size + 1)) { s with heap := h' }) :
    wpAny (model prog w) A (call (.type "enumerate") [v]) Q E s := by
  refine callType_new F.called_enumerate (by decide) (F.typeCall_enumerate_1 _) (F.newCall_enumerate_1 _) (fun obj => F.args_object_init_2 obj _) F.entry_enumerate_new (meets_enum1 B) ⟨h1, ?_⟩
  have hz : (s.heap.push o).objs.size = s.heap.objs.size + 1 := Heap.size_push ..
  have he : IsEnum ((s.heap.push o).push { cls := .type "enumerate", data := .fields #[.none, .bool false, .ref s.heap.objs.size, rawInt 0, .none, .none] }) (s.heap.objs.size + 1) s.heap.objs.size 0 .none := by
    rw [← hz]
    exact Heap.get?_push_size (s.heap.push o) rfl
  rw [hz]
  exact ⟨⟨_, he, rfl⟩, h _ he (Heap.get?_push_of_some _ (Heap.get?_push_size _ B.free)) (by rw [Heap.size_push, hz]) fun b u x => Heap.get?_push_of_some _ (Heap.get?_push_of_some _ x)⟩
def rEnT (K : PySem.W.Frag) (c : Int) (R : It → Hp → Prop) : List V → Hp → Prop := fun vs H1 => ∃ a, vs = [.ref a] ∧ (∃ xs, SqT K H1 a xs) ∧ R (ItE K a c) H1
def iEnT (K : PySem.W.Frag) (ta : TA) : TI := fun σ H R => ta σ H (rEnT K 0 R)
def rEnTk (K : PySem.W.Frag) (R : It → Hp → Prop) (vs : List V) : List V → Hp → Prop := fun zs H1 => ∃ c : Int, zs = [.int c] ∧ -(2 ^ 62) ≤ c ∧ c < 2 ^ 62 ∧ rEnT K c R vs H1
def iEnTk (K : PySem.W.Frag) (ta tk : TA) : TI := fun σ H R => ta σ H fun vs H1 => tk σ H1 (rEnTk K R vs)
section
variable {X : Cx}
theorem enum_pie {pins : List (Addr × Obj)} {σ : L2.St} {H : Hp} {s : Shared} {E : Value → Shared → Prop} {R : It → Hp → Prop} {a : Addr} {xs : List V} {c : Int} {h' : Heap} {elts : List Expr} {kk : Nat} {tpos : Pos} (I : Inv X pins σ H s) (hq : SqT X.K H a xs)
    (he : IsEnum h' (s.heap.objs.size + 1) s.heap.objs.size c .none) (ho : h'.get? s.heap.objs.size = some { cls := .type "tuple_iterator", data := .fields #[.ref a, .int 0 0] }) (hk : ∀ b u, s.heap.get? b = some u → h'.get? b = some u) (q : R (ItE X.K a c) H) :
    wpAny (model X.prog X.w) X.A (pyIter (.ref (s.heap.objs.size + 1))) (PIE X pins σ (.Tuple elts kk tpos) R) E { s with heap := h' } := by
  obtain ⟨its, rv, p, hz⟩ := I.tuple hq
  obtain ⟨oa, hoa, _⟩ := p
  have hal : a < s.heap.objs.size := Heap.lt_size hoa
  have I2 : Inv X pins σ H { s with heap := h' } := I.kept (t' := s.toks) hk
  have he0 : IsEnum h' (s.heap.objs.size + 1) s.heap.objs.size (c + ((0 : Nat) : Int)) .none := by
    rw [show c + ((0 : Nat) : Int) = c by omega]
    exact he
  refine wpAny_pyIter_enum he ⟨s.heap.objs.size + 1, [s.heap.objs.size + 1, s.heap.objs.size], _, _, H, rfl, I2, turn_enumT a (s.heap.objs.size + 1) s.heap.objs.size c (Nat.succ_ne_self _) (Nat.ne_of_gt (Nat.lt_succ_of_lt hal)) (Nat.ne_of_lt hal), ⟨⟨.none, he0⟩, ⟨_, ho, rfl, rfl⟩⟩, fun b hb => ?_, q⟩
  have hle : s.heap.objs.size ≤ b := by
    rcases List.mem_cons.mp hb with z | z
    · rw [z]
      exact Nat.le_succ _
    · rw [List.mem_singleton.mp z]
      exact Nat.le_refl _
  exact I.fpOk hle (I.hok.fresh hle)
theorem pi_enumT {K : PySem.W.Frag} {e : Expr} {ta : TA} {p pos tpos : Pos} {elts : List Expr} {kk : Nat} (hKK : X.K = K) (hg : Gl X "enumerate") (hm : X.mg "enumerate" = none) (ha : PA X [e] ta) (hs : starEach [e] X.env = [(false, eval e X.env)] := by rfl) :
    PI X (.Tuple elts kk tpos) (.Call (.Name "enumerate" p) [e] [] pos) (iEnT K ta) := by
  subst hKK
  refine ⟨fun pins s σ H R I h => Call_ (ld_blt I hg hm boot_enumerate (PyProof.Rows.callWith_type1 (thn (ha.run pos pins s σ H _ I h) fun us s1 ⟨vs, H1, I1, r1, q1⟩ => ?_) hs rfl))⟩
  obtain ⟨a, rfl, ⟨xs, hq⟩, q⟩ := q1
  obtain rfl := Vals.ref1 r1
  obtain ⟨its, rv, p2, hz⟩ := I1.tuple hq
  exact call_enum1 (begins_tuple a its.toArray) p2 fun h' he ho hsz hk => enum_pie I1 hq he ho hk q
theorem callWith_tyKw {M : Model} {Ar : Around} {E : Value → Shared → Prop} {s : Shared} {pos : Pos} {T : String} {first : List Value} {args : List (Bool × Sem Value)} {kws : List (Option Str × Sem Value)} {Q : Value → Shared → Prop} (hplain : (args.any (·.1) || kws.any (·.1.isNone)) = false)
    (h : wpAny M Ar (evalArgs (.type T) true args kws) (fun a s1 => wpAny M Ar (call (.type T) (first ++ a.pos) a.kw) Q E s1) E s) : wpAny M Ar (callWith pos (.type T) first args kws) Q E s := by
  unfold callWith
  refine wpAny_bind (wpAny_holding (wpAny_mono h (fun a s1 h1 => wpAny_bind (wpAny_standAt ?_)) fun _ _ z => z))
  simp only [hplain]
  refine wpAny_bind (wpAny_pure ?_)
  exact wpAny_bind (wpAny_mono h1 (fun r s2 hr => wpAny_bind (wpAny_holding (wpAny_point (wpAny_pure hr)))) fun _ _ z => z)
theorem pi_enumTk {K : PySem.W.Frag} {e : Expr} {ta tk : TA} {p pos tpos : Pos} {elts : List Expr} {kk : Nat} {kws : List Keyword} (hKK : X.K = K) (hg : Gl X "enumerate") (hm : X.mg "enumerate" = none) (ha : PA X [e] ta) (hkw : PK X kws tk)
    (hs : starEach [e] X.env = (false, eval e X.env) :: starEach [] X.env := by rfl) (hall : (backToKw pos (keywordEach kws X.env)).all (·.1.isSome) = true := by rfl)
    (hpl : ((backTo pos (starEach [e] X.env)).any (·.1) || (backToKw pos (keywordEach kws X.env)).any (·.1.isNone)) = false := by rfl) (hks : (backToKw pos (keywordEach kws X.env)).filterMap (·.1) = [Str.ofString "start"] := by rfl) :
    PI X (.Tuple elts kk tpos) (.Call (.Name "enumerate" p) [e] kws pos) (iEnTk K ta tk) := by
  subst hKK
  refine ⟨fun pins s σ H R I h => wpAny_Call_Name_kw (ld_blt I hg hm boot_enumerate (callWith_tyKw hpl (evalArgs_kw2 hall (thn (ha.run pos pins s σ H _ I h) fun us s1 ⟨vs, H1, I1, r1, q1⟩ => thn (hkw.run pos pins s1 σ H1 _ I1 q1) fun ws s2 ⟨zs, H2, I2, r2, q2⟩ => ?_) hs)))⟩
  obtain ⟨c, rfl, hc1, hc2, a, rfl, ⟨xs, hq⟩, q⟩ := q2
  obtain rfl := Vals.ref1 r1
  rw [hks]
  cases r2 with
  | cons r rr =>
    cases rr
    obtain ⟨t, rfl⟩ := r
    obtain ⟨its, rv, p2, hz⟩ := I2.tuple hq
    exact enum_begins_start (begins_tuple a its.toArray) p2 (by omega) (by omega) fun h' he ho hsz hk => enum_pie I2 hq he ho hk q
end
section
variable {K : PySem.W.Frag} {σ : L2.St} {H : Hp} {g g1 : TG} {fs fs1 : List Nat} {wi1 : TI} {ta ta2 : TA} {tk tv tl : TE} {Q : VK} {ta1 : L2.St → Hp → (Hp → Prop) → Prop} {Nx : Hp → Prop} {R : It → Hp → Prop} {vs : List V}
theorem g_dc2T (h : tl σ H (rItT K (outW g fs fs1 wi1 g1 tk tv σ Q))) : tDc2 (iTup K tl) g fs fs1 wi1 g1 tk tv σ H Q := h
theorem g_dc2E (h : ta σ H fun vs H1 => ta2 σ H1 (rEnTk K (outW g fs fs1 wi1 g1 tk tv σ Q) vs)) : tDc2 (iEnTk K ta ta2) g fs fs1 wi1 g1 tk tv σ H Q := h
theorem g_inT (h : tl σ H (rItT K (inW fs1 g1 ta1 σ Nx))) : tInner fs1 (iTup K tl) g1 ta1 σ H Nx := h
theorem g_inE (h : ta σ H (rEnT K 0 (inW fs1 g1 ta1 σ Nx))) : tInner fs1 (iEnT K ta) g1 ta1 σ H Nx := h
theorem g_enTk {c : Int} (h1 : -(2 ^ 62) ≤ c) (h2 : c < 2 ^ 62) (h : rEnT K c R vs H) : rEnTk K R vs [.int c] H := ⟨c, rfl, h1, h2, h⟩
/-- the dict's next entry -/
def putN (Nx : Hp → Prop) (D : Addr) (y z : V) (H2 : Hp) : Prop := ∃ kvs k, y = kV k ∧ H2 D = some (.dK kvs) ∧ kvs.length < sizeLine ∧ Nx (upd H2 D (.dK (putK kvs k z)))
theorem g_put {D : Addr} {Nx : Hp → Prop} (h : tk σ H fun y H1 => tv σ H1 fun z H2 => putN Nx D y z H2) : tPut tk tv D σ H Nx := h
theorem putN_int {D : Addr} {Nx : Hp → Prop} {d : Int} {z : V} {kvs : List (Key × V)} (h : H D = some (.dK kvs)) (hl : kvs.length ≤ 1000000) (q : Nx (upd H D (.dK (putK kvs (.inl d) z)))) : putN Nx D (.int d) z H := ⟨kvs, .inl d, rfl, h, by have := sizeLine_eq; omega, q⟩
theorem out_tup {a : Addr} {xs : List V} (h : SqT K H a xs) (Pv : Addr → Nat → Hp → Prop) (h0 : ∀ D, H D = none → Pv D 0 (upd H D (.dK []))) (hl : ∀ D i H', H D = none → Pv D i H' → SqT K H' a xs)
    (hs : ∀ D i x H', H D = none → xs[i]? = some x → Pv D i H' → g x (wipe σ fs) H' fun σ2 H2 => wipe σ2 fs = wipe σ fs ∧ tInner fs1 wi1 g1 (tPut tk tv D) σ2 H2 (Pv D (i + 1))) (hd : ∀ D H', H D = none → Pv D xs.length H' → Q (.ref D) H') :
    rItT K (outW g fs fs1 wi1 g1 tk tv σ Q) (.ref a) H := by
  refine ⟨a, rfl, ⟨xs, h⟩, fun D hD => ⟨fun i m H' => m = xs.length - i ∧ i ≤ xs.length ∧ Pv D i H', ⟨_, rfl, Nat.zero_le _, h0 D hD⟩, fun i m H' hw => ?_⟩⟩
  obtain ⟨rfl, hi, p⟩ := hw
  have q := hl D i H' hD p
  rcases Nat.lt_or_eq_of_le hi with hlt | heq
  · refine .inr ⟨⟨xs, xs[i], q, List.getElem?_eq_getElem hlt⟩, Pv D (i + 1), fun H2 p2 => ⟨xs.length - (i + 1), by omega, rfl, hlt, p2⟩, fun x H2 y => ?_⟩
    obtain ⟨rfl, y⟩ := y
    exact hs D i x _ hD (y xs q) p
  · subst heq
    exact .inl ⟨⟨xs, q, Nat.le_refl _⟩, hd D H' hD p⟩
theorem out_enum {a : Addr} {xs : List V} {c : Int} (h : SqT K H a xs) (Pv : Addr → Nat → Hp → Prop) (h0 : ∀ D, H D = none → Pv D 0 (upd H D (.dK []))) (hl : ∀ D i H', H D = none → Pv D i H' → SqT K H' a xs)
    (hs : ∀ D i x T H', H D = none → xs[i]? = some x → Pv D i H' → H' T = none → g (.ref T) (wipe σ fs) (upd H' T (.tup [.int (c + (i : Int)), x])) fun σ2 H2 => wipe σ2 fs = wipe σ fs ∧ tInner fs1 wi1 g1 (tPut tk tv D) σ2 H2 (Pv D (i + 1))) (hd : ∀ D H', H D = none → Pv D xs.length H' → Q (.ref D) H') :
    rEnT K c (outW g fs fs1 wi1 g1 tk tv σ Q) [.ref a] H := by
  refine ⟨a, rfl, ⟨xs, h⟩, fun D hD => ⟨fun i m H' => m = xs.length - i ∧ i ≤ xs.length ∧ Pv D i H', ⟨_, rfl, Nat.zero_le _, h0 D hD⟩, fun i m H' hw => ?_⟩⟩
  obtain ⟨rfl, hi, p⟩ := hw
  have q := hl D i H' hD p
  rcases Nat.lt_or_eq_of_le hi with hlt | heq
  · refine .inr ⟨⟨xs, xs[i], q, List.getElem?_eq_getElem hlt⟩, Pv D (i + 1), fun H2 p2 => ⟨xs.length - (i + 1), by omega, rfl, hlt, p2⟩, fun v H2 y => ?_⟩
    obtain ⟨T, x, rfl, hT, rfl, y⟩ := y
    exact hs D i x T _ hD (y xs q) p hT
  · subst heq
    exact .inl ⟨⟨xs, q, rfl⟩, hd D H' hD p⟩
theorem in_tup {a : Addr} {xs : List V} (h : SqT K H a xs) (Pv : Nat → Hp → Prop) (h0 : Pv 0 H) (hl : ∀ i H', Pv i H' → SqT K H' a xs)
    (hs : ∀ i x H', xs[i]? = some x → Pv i H' → g1 x (wipe σ fs1) H' fun σ2 H2 => wipe σ2 fs1 = wipe σ fs1 ∧ ta1 σ2 H2 (Pv (i + 1))) (hd : ∀ H', Pv xs.length H' → Nx H') : rItT K (inW fs1 g1 ta1 σ Nx) (.ref a) H := by
  refine ⟨a, rfl, ⟨xs, h⟩, fun i m H' => m = xs.length - i ∧ i ≤ xs.length ∧ Pv i H', ⟨_, rfl, Nat.zero_le _, h0⟩, fun i m H' hw => ?_⟩
  obtain ⟨rfl, hi, p⟩ := hw
  have q := hl i H' p
  rcases Nat.lt_or_eq_of_le hi with hlt | heq
  · refine .inr ⟨⟨xs, xs[i], q, List.getElem?_eq_getElem hlt⟩, Pv (i + 1), fun H2 p2 => ⟨xs.length - (i + 1), by omega, rfl, hlt, p2⟩, fun x H2 y => ?_⟩
    obtain ⟨rfl, y⟩ := y
    exact hs i x _ (y xs q) p
  · subst heq
    exact .inl ⟨⟨xs, q, Nat.le_refl _⟩, hd H' p⟩
theorem in_enum {a : Addr} {xs : List V} {c : Int} (h : SqT K H a xs) (Pv : Nat → Hp → Prop) (h0 : Pv 0 H) (hl : ∀ i H', Pv i H' → SqT K H' a xs)
    (hs : ∀ i x T H', xs[i]? = some x → Pv i H' → H' T = none → g1 (.ref T) (wipe σ fs1) (upd H' T (.tup [.int (c + (i : Int)), x])) fun σ2 H2 => wipe σ2 fs1 = wipe σ fs1 ∧ ta1 σ2 H2 (Pv (i + 1))) (hd : ∀ H', Pv xs.length H' → Nx H') : rEnT K c (inW fs1 g1 ta1 σ Nx) [.ref a] H := by
  refine ⟨a, rfl, ⟨xs, h⟩, fun i m H' => m = xs.length - i ∧ i ≤ xs.length ∧ Pv i H', ⟨_, rfl, Nat.zero_le _, h0⟩, fun i m H' hw => ?_⟩
  obtain ⟨rfl, hi, p⟩ := hw
  have q := hl i H' p
  rcases Nat.lt_or_eq_of_le hi with hlt | heq
  · refine .inr ⟨⟨xs, xs[i], q, List.getElem?_eq_getElem hlt⟩, Pv (i + 1), fun H2 p2 => ⟨xs.length - (i + 1), by omega, rfl, hlt, p2⟩, fun v H2 y => ?_⟩
    obtain ⟨T, x, rfl, hT, rfl, y⟩ := y
    exact hs i x T _ (y xs q) p hT
  · subst heq
    exact .inl ⟨⟨xs, q, rfl⟩, hd H' p⟩
/-- an entry of a dict -/
def rDG : R2 := fun x y H Q => ∃ a v, x = .ref a ∧ DGet H a y (some v) ∧ Q v H
theorem g_dget {td ty : TE} (h : td σ H fun x H1 => ty σ H1 fun y H2 => rDG x y H2 Q) : tDGet td ty σ H Q := h
theorem g_dgetI {a : Addr} {kvs : List (Key × V)} {d : Int} {v : V} (h : H a = some (.dK kvs)) (e : valV kvs (.inl d) = some v) (q : Q v H) : rDG (.ref a) (.int d) H Q := ⟨a, v, rfl, .inl ⟨kvs, .inl d, .inl h, rfl, e.symm⟩, q⟩
theorem g_setD {a : Addr} {kvs : List (Key × V)} {d : Int} {v : V} {Q : Hp → Prop} (h : H a = some (.dK kvs)) (hl : kvs.length ≤ 1000000) (q : Q (upd H a (.dK (putK kvs (.inl d) v)))) : rSetD (.ref a) (.int d) v H Q := ⟨a, _, rfl, .inl ⟨kvs, .inl d, h, rfl, by have := sizeLine_eq; omega, rfl⟩, q⟩
end
end Rz
namespace Rz
open PySem PySem.Spec PyProof.Rows L2
theorem room1 {k : Nat} {Ar : Around} (r : Room k Ar) : Ar.units + 1 < cLine := by
  have := r.units
  omega
theorem sl_tupAK {X : Cx} {K : PySem.W.Frag} (h : X.K = K) : SlR X (rSlA K) := h ▸ sl_tupA
end Rz

namespace Rz
open PySem PySem.Spec PyProof.Rows L2

/-! ### a dart stands at one place -/
theorem row_of {rows : Rows} {k : Nat} {row : List Int} (h : rows[k]? = some row) : rows.getD k [] = row := by rw [List.getD_eq_getElem?_getD, h, Option.getD_some]
theorem place_inj {rows : Rows} (nd : rows.flatten.Nodup) {k k' i i' : Nat} {row row' : List Int} {d : Int} (h1 : rows[k]? = some row) (h2 : row[i]? = some d) (h1' : rows[k']? = some row') (h2' : row'[i']? = some d) : k = k' ∧ i = i' := by
  have hf := List.pairwise_flatten.mp nd
  obtain ⟨hn, hp⟩ := hf
  have hk := (List.getElem?_eq_some_iff.mp h1)
  have hk' := (List.getElem?_eq_some_iff.mp h1')
  obtain ⟨l1, e1⟩ := hk
  obtain ⟨l1', e1'⟩ := hk'
  have m1 := List.mem_of_getElem? h2
  have m2 := List.mem_of_getElem? h2'
  have ek : k = k' := by
    rcases Nat.lt_trichotomy k k' with z | z | z
    · have := List.pairwise_iff_getElem.mp hp k k' l1 l1' z
      rw [e1, e1'] at this
      exact absurd rfl (this d m1 d m2)
    · exact z
    · have := List.pairwise_iff_getElem.mp hp k' k l1' l1 z
      rw [e1, e1'] at this
      exact absurd rfl (this d m2 d m1)
  subst ek
  rw [h1] at h1'
  cases h1'
  exact ⟨rfl, nd_ix (hn row (List.mem_of_getElem? h1)) h2 h2'⟩
theorem at_of {rows : Rows} (nd : rows.flatten.Nodup) {k i : Nat} {row : List Int} {d : Int} (h1 : rows[k]? = some row) (h2 : row[i]? = some d) : atM rows d = (k, i) := by
  obtain ⟨row', a, b⟩ := at_spec (mem_flat.mpr ⟨k, row, h1, List.mem_of_getElem? h2⟩)
  obtain ⟨e1, e2⟩ := place_inj nd a b h1 h2
  exact Prod.ext e1 e2

/-! ### the next dart clockwise, none behind the last dart of the first m nodes -/
def nxtAt (rows : Rows) (m : Nat) (x : Int) : Option Int :=
  if (atM rows x).1 < m ∧ (atM rows x).2 + 1 = (rows.getD (atM rows x).1 []).length then none else (rows.getD (atM rows x).1 [])[((atM rows x).2 + 1) % (rows.getD (atM rows x).1 []).length]?
theorem nxt_eq {rows : Rows} {m : Nat} {d : Int} : nxt rows m d = nxtAt rows m (twin d) := rfl
def optV : Option Int → V
  | none => .non
  | some d => .int d
def Ahead (kvs : List (Key × V)) (rows : Rows) (m : Nat) (P : Nat × Nat → Prop) : Prop := ∀ d ∈ rows.flatten, P (atM rows d) → valV kvs (.inl d) = some (optV (nxtAt rows m d))
theorem nxtAt_zero {rows : Rows} {k i : Nat} {row : List Int} {d x : Int} (nd : rows.flatten.Nodup) (h1 : rows[k]? = some row) (h2 : row[i]? = some d) (h3 : row[(i + 1) % row.length]? = some x) : nxtAt rows 0 d = some x := by
  unfold nxtAt
  rw [at_of nd h1 h2]
  simp only [row_of h1]
  rw [if_neg (fun z => Nat.not_lt_zero _ z.1)]
  exact h3
/-- an entry more -/
theorem Ahead.put {kvs : List (Key × V)} {rows : Rows} {k i : Nat} {row : List Int} {d x : Int} (nd : rows.flatten.Nodup) (h1 : rows[k]? = some row) (h2 : row[i]? = some d) (h3 : row[(i + 1) % row.length]? = some x) (h : Ahead kvs rows 0 fun q => q.1 < k ∨ q.1 = k ∧ q.2 < i) :
    Ahead (putK kvs (.inl d) (.int x)) rows 0 fun q => q.1 < k ∨ q.1 = k ∧ q.2 < i + 1 := fun y hy hp => by
  rw [valV_put]
  by_cases e : y = d
  · subst e
    rw [if_pos rfl, nxtAt_zero nd h1 h2 h3]
    rfl
  · rw [if_neg (fun z => e (Sum.inl.inj z))]
    refine h y hy ?_
    rcases hp with hp | ⟨hp1, hp2⟩
    · exact .inl hp
    · refine .inr ⟨hp1, ?_⟩
      rcases Nat.lt_or_eq_of_le (Nat.le_of_lt_succ hp2) with z | z
      · exact z
      · obtain ⟨row', a, b⟩ := at_spec hy
        rw [hp1, h1] at a
        cases a
        rw [z, h2] at b
        exact absurd (Option.some.inj b).symm e
theorem Ahead.row {kvs : List (Key × V)} {rows : Rows} {k : Nat} {row : List Int} (h1 : rows[k]? = some row) (h : Ahead kvs rows 0 fun q => q.1 < k ∨ q.1 = k ∧ q.2 < row.length) : Ahead kvs rows 0 fun q => q.1 < k + 1 := fun y hy hp => by
  refine h y hy ?_
  rcases Nat.lt_or_eq_of_le (Nat.le_of_lt_succ hp) with z | z
  · exact .inl z
  · obtain ⟨row', a, b⟩ := at_spec hy
    rw [z, h1] at a
    cases a
    exact .inr ⟨z, (List.getElem?_eq_some_iff.mp b).1⟩
theorem Ahead.whole {kvs : List (Key × V)} {rows : Rows} (h : Ahead kvs rows 0 fun q => q.1 < rows.length) : Ahead kvs rows 0 fun _ => True := fun y hy _ => h y hy (at_lt hy)
/-- the rim: none behind the last dart of a node more -/
theorem Ahead.rim {kvs : List (Key × V)} {rows : Rows} {k : Nat} {row : List Int} {d : Int} (nd : rows.flatten.Nodup) (h1 : rows[k]? = some row) (h2 : row[row.length - 1]? = some d) (h : Ahead kvs rows k fun _ => True) : Ahead (putK kvs (.inl d) .non) rows (k + 1) fun _ => True := fun y hy _ => by
  have hl : 0 < row.length := by
    have := (List.getElem?_eq_some_iff.mp h2).1
    omega
  rw [valV_put]
  by_cases e : y = d
  · subst e
    rw [if_pos rfl]
    unfold nxtAt
    rw [at_of nd h1 h2]
    simp only [row_of h1]
    rw [if_pos ⟨Nat.lt_succ_self _, by omega⟩]
    rfl
  · rw [if_neg (fun z => e (Sum.inl.inj z)), h y hy trivial]
    obtain ⟨row', a, b⟩ := at_spec hy
    unfold nxtAt
    have key : ((atM rows y).1 < k ∧ (atM rows y).2 + 1 = (rows.getD (atM rows y).1 []).length) ↔ ((atM rows y).1 < k + 1 ∧ (atM rows y).2 + 1 = (rows.getD (atM rows y).1 []).length) := by
      refine ⟨fun z => ⟨by omega, z.2⟩, fun z => ⟨?_, z.2⟩⟩
      rcases Nat.lt_or_eq_of_le (Nat.le_of_lt_succ z.1) with w | w
      · exact w
      · have z2 := z.2
        rw [w] at a z2
        rw [h1] at a
        cases a
        rw [row_of h1] at z2
        rw [show (atM rows y).2 = row.length - 1 by omega, h2] at b
        exact absurd (Option.some.inj b).symm e
    simp only [key]
theorem Ahead.rim0 {kvs : List (Key × V)} {rows : Rows} {k : Nat} (h1 : rows[k]? = some []) (h : Ahead kvs rows k fun _ => True) : Ahead kvs rows (k + 1) fun _ => True := fun y hy _ => by
  rw [h y hy trivial]
  obtain ⟨row', a, b⟩ := at_spec hy
  have key : ((atM rows y).1 < k ∧ (atM rows y).2 + 1 = (rows.getD (atM rows y).1 []).length) ↔ ((atM rows y).1 < k + 1 ∧ (atM rows y).2 + 1 = (rows.getD (atM rows y).1 []).length) := by
    refine ⟨fun z => ⟨by omega, z.2⟩, fun z => ⟨?_, z.2⟩⟩
    rcases Nat.lt_or_eq_of_le (Nat.le_of_lt_succ z.1) with w | w
    · exact w
    · rw [w, h1] at a
      cases a
      simp at b
  unfold nxtAt
  simp only [key]

/-! ### the walk of a face comes back -/
theorem twin_inj {a b : Int} (h : twin a = twin b) : a = b := by
  unfold twin at h
  omega
theorem nxt_inj {rows : Rows} {E rim : Nat} (hW : WF rows E) {a b x : Int} (ha : 0 ≤ a ∧ a < 2 * (E : Int)) (hb : 0 ≤ b ∧ b < 2 * (E : Int)) (h1 : nxt rows rim a = some x) (h2 : nxt rows rim b = some x) : a = b := by
  have go : ∀ {c : Int}, 0 ≤ c ∧ c < 2 * (E : Int) → nxt rows rim c = some x → ∃ (k i : Nat) (row : List Int), rows[k]? = some row ∧ row[i]? = some (twin c) ∧ row[(i + 1) % row.length]? = some x := fun {c} hc h => by
    obtain ⟨row, a1, a2⟩ := at_spec ((hW.mem (twin c)).mpr (twin_range hc))
    rw [nxt_eq] at h
    unfold nxtAt at h
    simp only [row_of a1] at h
    split at h
    · cases h
    · exact ⟨_, _, row, a1, a2, h⟩
  obtain ⟨k, i, row, p1, p2, p3⟩ := go ha h1
  obtain ⟨k', i', row', p1', p2', p3'⟩ := go hb h2
  obtain ⟨e1, e2⟩ := place_inj hW.nd p1 p3 p1' p3'
  subst e1
  rw [p1] at p1'
  cases p1'
  have l1 := (List.getElem?_eq_some_iff.mp p2).1
  have l2 := (List.getElem?_eq_some_iff.mp p2').1
  have e3 : i = i' := by
    rcases Nat.lt_or_eq_of_le (show i + 1 ≤ row.length from l1) with z | z
    · rw [Nat.mod_eq_of_lt z] at e2
      rcases Nat.lt_or_eq_of_le (show i' + 1 ≤ row.length from l2) with z' | z'
      · rw [Nat.mod_eq_of_lt z'] at e2
        omega
      · rw [z', Nat.mod_self] at e2
        omega
    · rw [z, Nat.mod_self] at e2
      rcases Nat.lt_or_eq_of_le (show i' + 1 ≤ row.length from l2) with z' | z'
      · rw [Nat.mod_eq_of_lt z'] at e2
        omega
      · omega
  subst e3
  rw [p2] at p2'
  exact twin_inj (Option.some.inj p2')
theorem nxt_range {rows : Rows} {E rim : Nat} (hW : WF rows E) {a x : Int} (h : nxt rows rim a = some x) : 0 ≤ x ∧ x < 2 * (E : Int) := (hW.mem x).mp (nxt_mem h)
/-- a stretch of the walk from d: each its darts once -/
structure Walk1 (rows : Rows) (rim E : Nat) (d : Int) (w : List Int) (l : Int) : Prop where
  hd : w.head? = some d
  last : w[w.length - 1]? = some l
  nd : w.Nodup
  rng : ∀ x ∈ w, 0 ≤ x ∧ x < 2 * (E : Int)
  link : ∀ (i : Nat) x y, w[i]? = some x → w[i + 1]? = some y → nxt rows rim x = some y
theorem Walk1.start {rows : Rows} {rim E : Nat} {d : Int} (h : 0 ≤ d ∧ d < 2 * (E : Int)) : Walk1 rows rim E d [d] d :=
  ⟨rfl, rfl, by simp, fun x hx => by rw [List.mem_singleton.mp hx]; exact h, fun i x y _ b => by simp at b⟩
theorem Walk1.pos {rows : Rows} {rim E : Nat} {d l : Int} {w : List Int} (h : Walk1 rows rim E d w l) : 1 ≤ w.length := by
  have := h.hd
  cases w with
  | nil => cases this
  | cons a b => simp
theorem Walk1.mem {rows : Rows} {rim E : Nat} {d l : Int} {w : List Int} (h : Walk1 rows rim E d w l) : l ∈ w := List.mem_of_getElem? h.last
theorem Walk1.step {rows : Rows} {rim E : Nat} {d l x : Int} {w : List Int} (hW : WF rows E) (h : Walk1 rows rim E d w l) (hn : nxt rows rim l = some x) (hne : x ≠ d) : Walk1 rows rim E d (w ++ [x]) x := by
  have hp := h.pos
  have hx : x ∉ w := fun hm => by
    obtain ⟨i, hi⟩ := List.mem_iff_getElem?.mp hm
    have hil := (List.getElem?_eq_some_iff.mp hi).1
    cases i with
    | zero =>
      have := h.hd
      rw [List.head?_eq_getElem?, hi] at this
      exact hne (Option.some.inj this)
    | succ i =>
      have hi2 : w[i]? = some w[i] := List.getElem?_eq_getElem (by omega)
      have k := h.link i _ _ hi2 hi
      have e := nxt_inj hW (h.rng _ (List.mem_of_getElem? hi2)) (h.rng _ h.mem) k hn
      rw [e] at hi2
      have := nd_ix h.nd hi2 h.last
      omega
  refine ⟨?_, ?_, ?_, fun y hy => ?_, fun i a b ha hb => ?_⟩
  · rw [List.head?_append, h.hd]
    rfl
  · rw [List.length_append, List.length_singleton, Nat.add_sub_cancel, List.getElem?_append_right (Nat.le_refl _), Nat.sub_self]
    rfl
  · rw [List.nodup_append]
    refine ⟨h.nd, by simp, fun a ha b hb e => ?_⟩
    rw [List.mem_singleton.mp hb] at e
    exact hx (e ▸ ha)
  · rcases List.mem_append.mp hy with hy | hy
    · exact h.rng y hy
    · rw [List.mem_singleton.mp hy]
      exact nxt_range hW hn
  · have hi : i + 1 < (w ++ [x]).length := (List.getElem?_eq_some_iff.mp hb).1
    rw [List.length_append, List.length_singleton] at hi
    rw [List.getElem?_append_left (by omega)] at ha
    rcases Nat.lt_or_eq_of_le (show i + 1 ≤ w.length by omega) with z | z
    · rw [List.getElem?_append_left z] at hb
      exact h.link i a b ha hb
    · rw [List.getElem?_append_right (by omega), z, Nat.sub_self] at hb
      have e : x = b := Option.some.inj hb
      have e2 : i = w.length - 1 := by omega
      rw [e2, h.last] at ha
      cases ha
      rw [← e]
      exact hn
theorem nodup_le : ∀ (w l : List Int), w.Nodup → (∀ x ∈ w, x ∈ l) → w.length ≤ l.length
  | [], l, _, _ => Nat.zero_le _
  | x :: w, l, hn, hs => by
    obtain ⟨h1, h2⟩ := List.nodup_cons.mp hn
    have hx := hs x List.mem_cons_self
    have := nodup_le w (l.erase x) h2 fun y hy => (List.mem_erase_of_ne (show y ≠ x from fun z => h1 (by rw [← z]; exact hy))).mpr (hs y (List.mem_cons_of_mem _ hy))
    rw [List.length_erase_of_mem hx] at this
    have := List.length_pos_of_mem hx
    rw [List.length_cons]
    omega
theorem Walk1.len {rows : Rows} {rim E : Nat} {d l : Int} {w : List Int} (h : Walk1 rows rim E d w l) : w.length ≤ 2 * E := by
  have := nodup_le w ((List.range (2 * E)).map Int.ofNat) h.nd fun x hx => by
    have hr := h.rng x hx
    rw [List.mem_map]
    exact ⟨x.toNat, List.mem_range.mpr (by omega), by show ((x.toNat : Nat) : Int) = x; omega⟩
  rw [List.length_map, List.length_range] at this
  exact this
/-- the end of the walk -/
theorem Walk1.face {rows : Rows} {rim E : Nat} {d l : Int} {w : List Int} (n : Nat) (h : Walk1 rows rim E d w l) (hE : 2 * E ≤ 200) (hw : faceM rows rim d = walkF rows rim (201 - w.length) w l) (he : nxt rows rim l = none ∨ nxt rows rim l = some d) : faceM rows rim d = w := by
  have := h.len
  have := h.pos
  obtain ⟨m, hm⟩ : ∃ m, 201 - w.length = m + 1 := ⟨200 - w.length, by omega⟩
  rw [hw, hm]
  show (match nxt rows rim l with
    | none => w
    | some d' => if some d' = w.head? then w else walkF rows rim m (w ++ [d']) d') = w
  rcases he with he | he
  · rw [he]
  · rw [he]
    simp only
    rw [if_pos h.hd.symm]
theorem Walk1.more {rows : Rows} {rim E : Nat} {d l x : Int} {w : List Int} (h : Walk1 rows rim E d w l) (hE : 2 * E ≤ 200) (hw : faceM rows rim d = walkF rows rim (201 - w.length) w l) (hn : nxt rows rim l = some x) (hne : x ≠ d) :
    faceM rows rim d = walkF rows rim (201 - (w ++ [x]).length) (w ++ [x]) x := by
  have := h.len
  have := h.pos
  obtain ⟨m, hm⟩ : ∃ m, 201 - w.length = m + 1 := ⟨200 - w.length, by omega⟩
  have hm2 : 201 - (w ++ [x]).length = m := by
    rw [List.length_append, List.length_singleton]
    omega
  rw [hw, hm, hm2]
  show (match nxt rows rim l with
    | none => w
    | some d' => if some d' = w.head? then w else walkF rows rim m (w ++ [d']) d') = _
  rw [hn]
  simp only
  rw [if_neg]
  rw [h.hd]
  exact fun z => hne (Option.some.inj z)
theorem xor_twin {d : Int} (h : 0 ≤ d) : Builtin.bitXor d 1 = twin d := by
  rw [Bits.bitXor_pp h (by decide)]
  obtain ⟨n, rfl⟩ : ∃ n : Nat, d = n := ⟨d.toNat, by omega⟩
  rw [Int.toNat_natCast]
  show ((n ^^^ 1 : Nat) : Int) = twin n
  have e1 : (n ^^^ 1) % 2 = (n % 2) ^^^ 1 := Nat.xor_mod_two_pow (a := n) (b := 1) (n := 1)
  have e2 : (n ^^^ 1) / 2 = n / 2 := by
    have := Nat.xor_div_two_pow (a := n) (b := 1) (n := 1)
    rw [show 1 / 2 ^ 1 = 0 from rfl, Nat.xor_zero] at this
    exact this
  unfold twin
  rcases Nat.mod_two_eq_zero_or_one n with z | z
  · rw [z] at e1
    have e3 : (n ^^^ 1) % 2 = 1 := e1
    omega
  · rw [z] at e1
    have e3 : (n ^^^ 1) % 2 = 0 := e1
    omega
end Rz
namespace Rz
open PySem PySem.Spec PyProof.Rows L2
theorem sqt_updD {K : PySem.W.Frag} {H : Hp} {D a : Addr} {kvs : List (Key × V)} {xs : List V} {o : HO} (hD : H D = some (.dK kvs)) (h : SqT K H a xs) : SqT K (upd H D o) a xs := by
  rcases h with (h | ⟨u, h⟩) | h
  · exact .inl (.inl (by rw [upd_ne (ne_of h hD (fun z => nomatch z))]; exact h))
  · exact .inl (.inr ⟨u, by rw [upd_ne (ne_of h hD (fun z => nomatch z))]; exact h⟩)
  · exact .inr h
def spOther : Sp := fun vs H Q _ => ∃ d : Int, vs = [.int d] ∧ 0 ≤ d ∧ Q (.int (twin d)) H
/-- the turns of a net, as tuples -/
structure TurnsAt (K : PySem.W.Frag) (H : Hp) (t : Addr) (ts : List Addr) (rows : Rows) : Prop where
  top : SqT K H t (ts.map V.ref)
  len : ts.length = rows.length
  row : ∀ (i : Nat) r row, ts[i]? = some r → rows[i]? = some row → SqT K H r (row.map V.int)
theorem TurnsAt.same {K : PySem.W.Frag} {H H' : Hp} {t : Addr} {ts : List Addr} {rows : Rows} (h : TurnsAt K H t ts rows) (e : Same H H') : TurnsAt K H' t ts rows := ⟨Same.sqt e h.top, h.len, fun i r row a b => Same.sqt e (h.row i r row a b)⟩
theorem TurnsAt.get {K : PySem.W.Frag} {H : Hp} {t : Addr} {ts : List Addr} {rows : Rows} (h : TurnsAt K H t ts rows) {i : Nat} {x : V} (e : (ts.map V.ref)[i]? = some x) : ∃ r, x = .ref r ∧ rows[i]? = some (rows.getD i []) ∧ SqT K H r ((rows.getD i []).map V.int) := by
  rw [List.getElem?_map] at e
  cases hr : ts[i]? with
  | none =>
    rw [hr] at e
    cases e
  | some r =>
    rw [hr] at e
    cases e
    have hl : i < rows.length := by
      rw [← h.len]
      exact (List.getElem?_eq_some_iff.mp hr).1
    have hg := List.getElem?_eq_getElem hl
    rw [row_of hg]
    exact ⟨r, rfl, hg, h.row i r _ hr hg⟩
theorem NetAt.tns {K : PySem.W.Frag} {H : Hp} {p t m : Addr} {ts : List Addr} {as : List V} {rim : Nat} {rows : Rows} {qs : List Rat} (h : NetAt K H p t m ts as rim rows qs) : TurnsAt K H t ts rows := ⟨h.turns, h.len, h.row⟩
def spNextC (K : PySem.W.Frag) : Sp := fun vs H Q _ => ∃ (t : Addr) (ts : List Addr) (rows : Rows) (E : Nat), vs = [.ref t] ∧ TurnsAt K H t ts rows ∧ WF rows E ∧ E ≤ 100 ∧ rows.length ≤ 1000 ∧
  ∀ D kvs H', Same H H' → H D = none → H' D = some (.dK kvs) → Ahead kvs rows 0 (fun _ => True) → kvs.length ≤ 300000 → Q (.ref D) H'
def spLeft (K : PySem.W.Frag) : Sp := fun vs H Q _ => ∃ (v : V) (d : Int) (rim : Nat) (rows : Rows) (qs : List Rat) (E : Nat), vs = [v, .int d] ∧ NetV K H v rim rows qs ∧ WF rows E ∧ E ≤ 100 ∧ rows.length ≤ 1000 ∧ rim ≤ rows.length ∧ (0 ≤ d ∧ d < 2 * (E : Int)) ∧
  ∀ p H', Same H H' → SqT K H' p ((faceM rows rim d).map V.int) → Q (.ref p) H'
def spEnds (K : PySem.W.Frag) : Sp := fun vs H Q _ => ∃ (v : V) (rim : Nat) (rows : Rows) (qs : List Rat) (E : Nat), vs = [v] ∧ NetV K H v rim rows qs ∧ WF rows E ∧ qs.length = E ∧ E ≤ 100 ∧ rows.length ≤ 1000 ∧
  ∀ l (ps : List Addr) H', Same H H' → H l = none → H' l = some (.lst (ps.map V.ref)) → ps.length = E → (∀ (e : Nat) q, ps[e]? = some q → SqT K H' q [.int (((atM rows (2 * (e : Int))).1 : Int) + 1), .int (((atM rows (2 * (e : Int) + 1)).1 : Int) + 1)]) → Q (.ref l) H'
/-- a tuple's cut -/
theorem g_slA {K : PySem.W.Frag} {H : Hp} {a : Addr} {xs : List V} {n : Nat} {Q : VK} (h : SqT K H a xs) (hn : n ≤ xs.length) (q : ∀ p H', Same H H' → SqT K H' p (xs.take n) → Q (.ref p) H') : rSlA K (.ref a) none (some (n : Int)) H Q := by
  have e1 : HT.sIx xs.length 0 none = 0 := rfl
  have e2 : HT.sIx xs.length xs.length (some (n : Int)) = n := by
    rw [HT.sIx_nat]
    omega
  refine ⟨a, xs, rfl, h, fun z => ?_, fun z p hp => ?_⟩
  · rw [e2] at z
    refine q a H (Same.refl _) ?_
    rw [z.2, List.take_length]
    exact h
  · have e3 : cutV xs none (some (n : Int)) = xs.take n := by
      unfold cutV
      rw [e1, e2, List.drop_zero, Nat.sub_zero]
    rw [e3]
    exact q p _ (up_same hp) (SqT.of upd_same)
def Home (kvs : List (Key × V)) (rows : Rows) (P : Nat × Nat → Prop) : Prop := ∀ d ∈ rows.flatten, P (atM rows d) → valV kvs (.inl d) = some (.int (((atM rows d).1 : Int) + 1))
theorem Home.put {kvs : List (Key × V)} {rows : Rows} {k i : Nat} {row : List Int} {d : Int} (nd : rows.flatten.Nodup) (h1 : rows[k]? = some row) (h2 : row[i]? = some d) (h : Home kvs rows fun q => q.1 < k ∨ q.1 = k ∧ q.2 < i) :
    Home (putK kvs (.inl d) (.int ((k : Int) + 1))) rows fun q => q.1 < k ∨ q.1 = k ∧ q.2 < i + 1 := fun y hy hp => by
  rw [valV_put]
  by_cases e : y = d
  · subst e
    rw [if_pos rfl, at_of nd h1 h2]
  · rw [if_neg (fun z => e (Sum.inl.inj z))]
    refine h y hy ?_
    rcases hp with hp | ⟨hp1, hp2⟩
    · exact .inl hp
    · refine .inr ⟨hp1, ?_⟩
      rcases Nat.lt_or_eq_of_le (Nat.le_of_lt_succ hp2) with z | z
      · exact z
      · obtain ⟨row', a, b⟩ := at_spec hy
        rw [hp1, h1] at a
        cases a
        rw [z, h2] at b
        exact absurd (Option.some.inj b).symm e
theorem Home.row {kvs : List (Key × V)} {rows : Rows} {k : Nat} {row : List Int} (h1 : rows[k]? = some row) (h : Home kvs rows fun q => q.1 < k ∨ q.1 = k ∧ q.2 < row.length) : Home kvs rows fun q => q.1 < k + 1 := fun y hy hp => by
  refine h y hy ?_
  rcases Nat.lt_or_eq_of_le (Nat.le_of_lt_succ hp) with z | z
  · exact .inl z
  · obtain ⟨row', a, b⟩ := at_spec hy
    rw [z, h1] at a
    cases a
    exact .inr ⟨z, (List.getElem?_eq_some_iff.mp b).1⟩
/-- n refs laid one after another, the i-th told by its facts -/
theorem int_at {row : List Int} {j : Nat} {x : V} (h : (row.map V.int)[j]? = some x) : ∃ d, row[j]? = some d ∧ x = .int d := by
  rw [List.getElem?_map] at h
  cases hz : row[j]? with
  | none =>
    rw [hz] at h
    cases h
  | some d =>
    rw [hz] at h
    cases h
    exact ⟨d, rfl, rfl⟩
theorem at_snoc {α : Type} {ps : List α} {q x : α} {e : Nat} (h : (ps ++ [q])[e]? = some x) : (e < ps.length ∧ ps[e]? = some x) ∨ (e = ps.length ∧ x = q) := by
  by_cases he : e < ps.length
  · rw [List.getElem?_append_left he] at h
    exact .inl ⟨he, h⟩
  · rw [List.getElem?_append_right (by omega)] at h
    by_cases h0 : e - ps.length = 0
    · rw [h0] at h
      cases h
      exact .inr ⟨by omega, rfl⟩
    · obtain ⟨j, hj⟩ : ∃ j, e - ps.length = j + 1 := ⟨e - ps.length - 1, by omega⟩
      rw [hj] at h
      simp at h
end Rz
namespace Rz
open PySem PySem.Spec PyProof.Rows L2
theorem Eqv.ints {K : PySem.W.Frag} {H : Hp} {n : Nat} {p q : Addr} {ns : List Int} (h1 : SqT K H p (ns.map V.int)) (h2 : SqT K H q (ns.map V.int)) (hl : ns.length < 1000000) : Eqv K H (n + 2) (.ref p) (.ref q) :=
  .tup h1 h2 rfl (by rw [List.length_map]; exact hl) fun i x y e1 e2 => by
    rw [e1] at e2
    cases e2
    obtain ⟨d, _, rfl⟩ := int_at e1
    exact .sc rfl
/-- [list(turn) for turn in turns] -/
theorem rows_lc {K : PySem.W.Frag} {σ : L2.St} {H : Hp} {vs : List Nat} {i₀ : Nat} {Q : VK} {t : Addr} {ts : List Addr} {rows : Rows} (hN : TurnsAt K H t ts rows) (hb : rows.length ≤ 1000) (hw : ∀ x, wipe ((wipe σ vs).set i₀ (some x)) vs = wipe σ vs) (hi : ∀ x, ((wipe σ vs).set i₀ (some x))[i₀]? = some (some x))
    (q : ∀ T rs H', Same H H' → H T = none → RowsAt H' T rs rows → (∀ r ∈ rs, H r = none) → Q (.ref T) H') : rItT K (lcW (gName i₀) tYes (tCB (rListOf K) (tCons (tVar i₀) tNil)) vs σ Q) (.ref t) H := by
  refine g_lcTup hN.top (fun T i acc H' => Same H H' ∧ H' T = some (.lst acc) ∧ ∃ rs : List Addr, rs.length = i ∧ acc = rs.map V.ref ∧ rs.Nodup ∧ (∀ r ∈ rs, H r = none ∧ r ≠ T) ∧ ∀ (j : Nat) r row, rs[j]? = some r → rows[j]? = some row → H' r = some (.lst (row.map V.int))) hw
    (fun T hT => ⟨up_same hT, upd_same, [], rfl, rfl, List.nodup_nil, (fun r hr => nomatch hr), fun j r row a => by simp at a⟩) (fun T i acc H' _ h => Same.sqt h.1 hN.top) ?_ ?_
  · rintro T i x acc H1 hT hx ⟨sm, eT, rs, hl, rfl, hnd, hfr, hrow⟩
    obtain ⟨r, rfl, hri, hr1⟩ := (hN.same sm).get hx
    have hil := (List.getElem?_eq_some_iff.mp hri).1
    refine g_cb (g_cons (g_var (hi _) (g_nil (g_listT hr1 fun l hl0 => ?_))))
    have s1 := up_same (H := H1) (o := .lst ((rows.getD i []).map V.int)) hl0
    have hlT : l ≠ T := (ne_of_none eT hl0).symm
    have hlr : ∀ r ∈ rs, r ≠ l := fun r hr => by
      obtain ⟨j, hj⟩ := List.mem_iff_getElem?.mp hr
      have hj2 : j < rows.length := by
        have := (List.getElem?_eq_some_iff.mp hj).1
        omega
      exact ne_of_none (hrow j r _ hj (List.getElem?_eq_getElem hj2)) hl0
    refine lcN_of (s1 _ _ eT) (by rw [List.length_map]; omega) ⟨fun b o h => ?_, upd_same, rs ++ [l], ?_, ?_, ?_, fun r' hr' => ?_, fun j r' row a b => ?_⟩
    · rw [upd_ne (ne_of_none h hT)]
      exact s1 _ _ (sm _ _ h)
    · rw [List.length_append, hl]
      rfl
    · rw [List.map_append]
      rfl
    · rw [List.nodup_append]
      refine ⟨hnd, by simp, fun a ha b hb2 e => ?_⟩
      rw [List.mem_singleton.mp hb2] at e
      exact hlr a ha e
    · rcases List.mem_append.mp hr' with z | z
      · exact hfr r' z
      · rw [List.mem_singleton.mp z]
        exact ⟨sm.free hl0, hlT⟩
    · rcases at_snoc a with ⟨h1, h2⟩ | ⟨h1, rfl⟩
      · rw [upd_ne (hfr r' (List.mem_of_getElem? h2)).2]
        exact s1 _ _ (hrow j r' row h2 b)
      · rw [h1, hl, hri] at b
        cases b
        rw [upd_ne hlT]
        exact upd_same
  · rintro T acc H1 hT ⟨sm, eT, rs, hl, rfl, hnd, hfr, hrow⟩
    refine q T rs H1 sm hT ⟨eT, ?_, hrow, hnd⟩ fun r hr => (hfr r hr).1
    rw [hl, List.length_map, hN.len]
/-- a law's promise: at every list of at most 63 ints it ends and gives True -/
def spLaw (K : PySem.W.Frag) : Sp := fun vs H Q _ => ∃ (a : Addr) (ns : List Int), vs = [.ref a] ∧ SqL K H a (ns.map V.int) ∧ ns.length ≤ 63 ∧ ∀ H', Q (.bl true) H'
/-- a list of the pairs of the nodes of the edges -/
structure EndsL (K : PySem.W.Frag) (H : Hp) (l : Addr) (ps : List Addr) (rows : Rows) (n : Nat) : Prop where
  top : H l = some (.lst (ps.map V.ref))
  len : ps.length = n
  at_ : ∀ (e : Nat) q, ps[e]? = some q → SqT K H q [.int (((atM rows (2 * (e : Int))).1 : Int) + 1), .int (((atM rows (2 * (e : Int) + 1)).1 : Int) + 1)]
theorem EndsL.same {K : PySem.W.Frag} {H H' : Hp} {l : Addr} {ps : List Addr} {rows : Rows} {n : Nat} (h : EndsL K H l ps rows n) (e : Same H H') : EndsL K H' l ps rows n := ⟨e _ _ h.top, h.len, fun i q z => Same.sqt e (h.at_ i q z)⟩
theorem EndsL.eqv {K : PySem.W.Frag} {H : Hp} {l l' : Addr} {ps ps' : List Addr} {rows : Rows} {n k : Nat} (h : EndsL K H l ps rows n) (h' : EndsL K H l' ps' rows n) (hn : n < 1000000) : Eqv K H (k + 4) (.ref l) (.ref l') := by
  refine .lst (SqL.of h.top) (SqL.of h'.top) (by rw [List.length_map, List.length_map, h.len, h'.len]) (by rw [List.length_map, h'.len]; exact hn) fun i x y e1 e2 => ?_
  rw [List.getElem?_map] at e1 e2
  cases hp : ps[i]? with
  | none =>
    rw [hp] at e1
    cases e1
  | some q =>
    cases hp' : ps'[i]? with
    | none =>
      rw [hp'] at e2
      cases e2
    | some q' =>
      rw [hp] at e1
      rw [hp'] at e2
      cases e1
      cases e2
      exact Eqv.ints (ns := [((atM rows (2 * (i : Int))).1 : Int) + 1, ((atM rows (2 * (i : Int) + 1)).1 : Int) + 1]) (h.at_ i q hp) (h'.at_ i q' hp') (by show 2 < 1000000; decide)
end Rz

namespace Rz
open PySem PySem.Spec PyProof.Rows L2

/-! ### ratios compared -/
def ratD (q : Rat) : PyData := .tuple [.int q.num, .int (q.den : Int)]
theorem RatV.dp {K : PySem.W.Frag} {H : Hp} {v : V} {q : Rat} (h : RatV K H v q) : Dp K H v (ratD q) := by
  obtain ⟨p, rfl, h⟩ := h
  exact .tup h (.cons (.int _) (.cons (.int _) .nil))
theorem rat_ext {p q : Rat} : p = q ↔ p.num = q.num ∧ (p.den : Int) = (q.den : Int) := ⟨fun h => by rw [h]; exact ⟨rfl, rfl⟩, fun h => Rat.ext h.1 (Int.ofNat.inj h.2)⟩
theorem ratD_eqv (p q : Rat) : PyData.eqv (ratD p) (ratD q) = decide (p = q) := by
  have e : PyData.eqv (ratD p) (ratD q) = ((p.num == q.num) && (((p.den : Int) == (q.den : Int)) && true)) := rfl
  rw [e, Bool.and_true]
  by_cases h : p = q
  · rw [decide_eq_true h, h, beq_self_eq_true, beq_self_eq_true]
    rfl
  · rw [decide_eq_false h]
    by_cases h1 : p.num = q.num
    · have h2 : ¬ (p.den : Int) = (q.den : Int) := fun z => h (rat_ext.mpr ⟨h1, z⟩)
      rw [beq_eq_false_iff_ne.mpr h2, Bool.and_false]
    · rw [beq_eq_false_iff_ne.mpr h1, Bool.false_and]
theorem g_neRat {K : PySem.W.Frag} {H : Hp} {x y : V} {p q : Rat} {Q : VK} (h1 : RatV K H x p) (h2 : RatV K H y q) (k : Q (.bl (!decide (p = q))) H) : rNeD K x y H Q := ⟨_, _, h1.dp, h2.dp, by rfl, by rfl, by rw [ratD_eqv]; exact k⟩
theorem g_eqRat {K : PySem.W.Frag} {H : Hp} {x y : V} {p q : Rat} {Q : VK} (h1 : RatV K H x p) (h2 : RatV K H y q) (k : Q (.bl (decide (p = q))) H) : rEqD K x y H Q := ⟨_, _, h1.dp, h2.dp, by rfl, by rfl, by rw [ratD_eqv]; exact k⟩

/-! ### more walks in comprehensions -/
section
variable {K : PySem.W.Frag} {σ : L2.St} {H : Hp} {g : TG} {tt : TT} {te : TE} {vs : List Nat} {Q : VK} {ta : TA} {R : It → Hp → Prop} {D : Ends} {tb : TS}
def rEnL (K : PySem.W.Frag) (R : It → Hp → Prop) : List V → Hp → Prop := fun us H1 => ∃ a xs, us = [.ref a] ∧ SqL K H1 a xs ∧ R (Ite K a) H1
def rZipL (K : PySem.W.Frag) (R : It → Hp → Prop) : List V → Hp → Prop := fun us H1 => ∃ a b xs ys, us = [.ref a, .ref b] ∧ SqL K H1 a xs ∧ SqL K H1 b ys ∧ R (Itz K a b) H1
def iEnL (K : PySem.W.Frag) (ta : TA) : TI := fun σ H R => ta σ H (rEnL K R)
def iZipL (K : PySem.W.Frag) (ta : TA) : TI := fun σ H R => ta σ H (rZipL K R)
theorem pi_enumLK {X : Cx} {e : Expr} {p pos tpos : Pos} {elts : List Expr} {kk : Nat} (hKK : X.K = K) (hg : Gl X "enumerate") (hm : X.mg "enumerate" = none) (ha : PA X [e] ta) (hs : starEach [e] X.env = [(false, eval e X.env)] := by rfl) :
    PI X (.Tuple elts kk tpos) (.Call (.Name "enumerate" p) [e] [] pos) (iEnL K ta) := hKK ▸ pi_enum hg hm ha hs
theorem pi_zipK {X : Cx} {e e2 : Expr} {p pos tpos : Pos} {elts : List Expr} {kk : Nat} (hKK : X.K = K) (hg : Gl X "zip") (hm : X.mg "zip" = none) (ha : PA X [e, e2] ta)
    (hs : starEach [e, e2] X.env = (false, eval e X.env) :: starEach [e2] X.env := by rfl) (hpl : (backTo pos (starEach [e2] X.env)).any (·.1) = false := by rfl) : PI X (.Tuple elts kk tpos) (.Call (.Name "zip" p) [e, e2] [] pos) (iZipL K ta) := hKK ▸ pi_zip hg hm ha hs hpl
theorem g_lcE (h : ta σ H (rEnL K (lcW g tt te vs σ Q))) : tLc (iEnL K ta) g tt te vs σ H Q := h
theorem g_lcZ (h : ta σ H (rZipL K (lcW g tt te vs σ Q))) : tLc (iZipL K ta) g tt te vs σ H Q := h
theorem lc_en {a : Addr} {xs : List V} (h : SqL K H a xs) (Pv : Addr → Nat → List V → Hp → Prop) (h0 : ∀ p, H p = none → Pv p 0 [] (upd H p (.lst []))) (hl : ∀ p i acc H', H p = none → Pv p i acc H' → SqL K H' a xs)
    (hs : ∀ p i x T acc H', H p = none → xs[i]? = some x → Pv p i acc H' → H' T = none → g (.ref T) (wipe σ vs) (upd H' T (.tup [.int (i : Nat), x])) fun σ2 H2 => wipe σ2 vs = wipe σ vs ∧ te σ2 H2 (lcN (Pv p) p i))
    (hd : ∀ p acc H', H p = none → Pv p xs.length acc H' → Q (.ref p) H') : rEnL K (lcW g tYes te vs σ Q) [.ref a] H := by
  refine ⟨a, xs, rfl, h, fun p hp => ⟨fun i m H' => m = xs.length - i ∧ i ≤ xs.length ∧ ∃ acc, Pv p i acc H', ⟨_, rfl, Nat.zero_le _, [], h0 p hp⟩, fun i m H' hw => ?_⟩⟩
  obtain ⟨rfl, hi, acc, pv⟩ := hw
  have q := hl p i acc H' hp pv
  rcases Nat.lt_or_eq_of_le hi with hlt | heq
  · refine .inr ⟨⟨xs, xs[i], q, List.getElem?_eq_getElem hlt⟩, fun H2 => ∃ acc2, Pv p (i + 1) acc2 H2, fun H2 p2 => ⟨xs.length - (i + 1), by omega, rfl, hlt, p2⟩, fun v H2 y => ?_⟩
    obtain ⟨T, x, rfl, hT, rfl, y⟩ := y
    exact hs p i x T acc _ hp (y xs q) pv hT
  · subst heq
    exact .inl ⟨⟨xs, q, Nat.le_refl _⟩, hd p acc H' hp pv⟩
theorem lc_zip {a b : Addr} {xs ys : List V} (h : SqL K H a xs) (h2 : SqL K H b ys) (hlen : xs.length = ys.length) (Pv : Addr → Nat → List V → Hp → Prop) (h0 : ∀ p, H p = none → Pv p 0 [] (upd H p (.lst []))) (hl : ∀ p i acc H', H p = none → Pv p i acc H' → SqL K H' a xs ∧ SqL K H' b ys)
    (hs : ∀ p i x z T acc H', H p = none → xs[i]? = some x → ys[i]? = some z → Pv p i acc H' → H' T = none → g (.ref T) (wipe σ vs) (upd H' T (.tup [x, z])) fun σ2 H2 => wipe σ2 vs = wipe σ vs ∧ te σ2 H2 (lcN (Pv p) p i))
    (hd : ∀ p acc H', H p = none → Pv p xs.length acc H' → Q (.ref p) H') : rZipL K (lcW g tYes te vs σ Q) [.ref a, .ref b] H := by
  refine ⟨a, b, xs, ys, rfl, h, h2, fun p hp => ⟨fun i m H' => m = xs.length - i ∧ i ≤ xs.length ∧ ∃ acc, Pv p i acc H', ⟨_, rfl, Nat.zero_le _, [], h0 p hp⟩, fun i m H' hw => ?_⟩⟩
  obtain ⟨rfl, hi, acc, pv⟩ := hw
  have q := hl p i acc H' hp pv
  rcases Nat.lt_or_eq_of_le hi with hlt | heq
  · refine .inr ⟨⟨xs, ys, xs[i], ys[i], q.1, q.2, List.getElem?_eq_getElem hlt, List.getElem?_eq_getElem _⟩, fun H2 => ∃ acc2, Pv p (i + 1) acc2 H2, fun H2 p2 => ⟨xs.length - (i + 1), by omega, rfl, hlt, p2⟩, fun v H2 y => ?_⟩
    obtain ⟨T, x, z, rfl, hT, rfl, y1, y2⟩ := y
    exact hs p i x z T acc _ hp (y1 xs q.1) (y2 ys q.2) pv hT
  · subst heq
    exact .inl ⟨⟨xs, ys, q.1, q.2, .inl (Nat.le_refl _)⟩, hd p acc H' hp pv⟩
end

section
variable {σ : L2.St} {H : Hp} {g : TG} {ta : TA} {D : Ends} {tb : TS}
def rRng2 (R : It → Hp → Prop) : List V → Hp → Prop := fun vs H1 => ∃ i j : Int, vs = [.int i, .int j] ∧ (-(2 ^ 62) ≤ i ∧ i < 2 ^ 62 ∧ -(2 ^ 62) ≤ j ∧ j < 2 ^ 62) ∧ R (Itr i (j - i).toNat) H1
theorem g_forR2 (h : ta σ H (rRng2 (forW g tb D σ))) : tFor (iRng2 ta) g tb D σ H := h
theorem g_rng2 {i j : Int} (a n : Nat) (ei : i = (a : Int)) (ej : j = (n : Int)) (hb : n < 1000000) (han : a ≤ n) (Pv : Nat → L2.St → Hp → Prop) (h0 : Pv a σ H)
    (hs : ∀ (k : Nat) σ H, a ≤ k → k < n → Pv k σ H → g (.int (k : Int)) σ H fun σ2 H2 => tb { D with nx := Pv (k + 1), ct := Pv (k + 1), bk := D.nx } σ2 H2) (hd : ∀ σ H, Pv n σ H → D.nx σ H) : rRng2 (forW g tb D σ) [.int i, .int j] H := by
  subst ei ej
  refine ⟨_, _, rfl, ⟨by omega, by omega, by omega, by omega⟩, ?_⟩
  rw [show ((n : Int) - (a : Int)).toNat = n - a by omega]
  refine for_range (lo := (a : Int)) (n := n - a) (fun k => Pv (a + k)) h0 (fun k σ H hk p => ?_) fun σ H p => hd σ H ?_
  · have := hs (a + k) σ H (by omega) (by omega) p
    rw [show (a : Int) + (k : Int) = ((a + k : Nat) : Int) by omega]
    exact this
  · rw [show n = a + (n - a) by omega]
    exact p
end
/-! ### rows and matrices in the heap -/
def RowV (K : PySem.W.Frag) (H : Hp) (v : V) (row : Row) : Prop := ∃ p xs, v = .ref p ∧ SqL K H p xs ∧ Rats K H xs row
theorem RowV.same {K : PySem.W.Frag} {H H' : Hp} {v : V} {row : Row} (h : RowV K H v row) (e : Same H H') : RowV K H' v row := let ⟨p, xs, a, b, c⟩ := h; ⟨p, xs, a, e.seq b, c.same e⟩
structure MatL (K : PySem.W.Frag) (H : Hp) (us : List V) (m : Mat) : Prop where
  len : us.length = m.length
  at_ : ∀ (i : Nat) v, us[i]? = some v → RowV K H v (rw' m i)
theorem MatL.same {K : PySem.W.Frag} {H H' : Hp} {us : List V} {m : Mat} (h : MatL K H us m) (e : Same H H') : MatL K H' us m := ⟨h.len, fun i v z => (h.at_ i v z).same e⟩
def MatV (K : PySem.W.Frag) (H : Hp) (v : V) (m : Mat) : Prop := ∃ p us, v = .ref p ∧ SqL K H p us ∧ MatL K H us m
theorem MatV.same {K : PySem.W.Frag} {H H' : Hp} {v : V} {m : Mat} (h : MatV K H v m) (e : Same H H') : MatV K H' v m := let ⟨p, us, a, b, c⟩ := h; ⟨p, us, a, e.seq b, c.same e⟩
theorem Rats.ent {K : PySem.W.Frag} {H : Hp} {xs : List V} {row : Row} (h : Rats K H xs row) {j : Nat} (hj : j < row.length) : ∃ x, xs[j]? = some x ∧ RatV K H x (Rz.ent row j) := by
  have hx : j < xs.length := by rw [h.len]; exact hj
  refine ⟨xs[j], List.getElem?_eq_getElem hx, ?_⟩
  have := h.at_ j _ _ (List.getElem?_eq_getElem hx) (List.getElem?_eq_getElem hj)
  unfold Rz.ent
  rw [List.getD_eq_getElem?_getD, List.getElem?_eq_getElem hj, Option.getD_some]
  exact this
theorem MatL.row {K : PySem.W.Frag} {H : Hp} {us : List V} {m : Mat} (h : MatL K H us m) {i : Nat} (hi : i < m.length) : ∃ p xs, us[i]? = some (.ref p) ∧ SqL K H p xs ∧ Rats K H xs (rw' m i) := by
  have hx : i < us.length := by rw [h.len]; exact hi
  obtain ⟨p, xs, e, b, c⟩ := h.at_ i _ (List.getElem?_eq_getElem hx)
  exact ⟨p, xs, by rw [List.getElem?_eq_getElem hx, e], b, c⟩
theorem MatL.of {K : PySem.W.Frag} {H : Hp} {us : List V} {m : Mat} (hl : us.length = m.length) (h : ∀ i, i < m.length → ∃ v, us[i]? = some v ∧ RowV K H v (rw' m i)) : MatL K H us m := ⟨hl, fun i v z => by
  have hi : i < m.length := by
    rw [← hl]
    exact (List.getElem?_eq_some_iff.mp z).1
  obtain ⟨w, a, b⟩ := h i hi
  rw [z] at a
  cases a
  exact b⟩
theorem MatL.swp {K : PySem.W.Frag} {H : Hp} {us : List V} {m : Mat} {i k : Nat} {x y : V} (h : MatL K H us m) (hi : i < m.length) (hk : k < m.length) (hx : us[k]? = some x) (hy : us[i]? = some y) : MatL K H ((us.set i x).set k y) (Rz.swp m i k) := by
  refine ⟨by rw [List.length_set, List.length_set, swp_len, h.len], fun j v z => ?_⟩
  rw [rw_swp hi hk]
  by_cases e1 : j = k
  · subst e1
    rw [if_pos rfl]
    rw [List.getElem?_set_self (by rw [List.length_set, h.len]; exact hk)] at z
    cases z
    exact h.at_ i _ hy
  · rw [if_neg e1]
    rw [List.getElem?_set_ne (Ne.symm e1)] at z
    by_cases e2 : j = i
    · subst e2
      rw [if_pos rfl]
      rw [List.getElem?_set_self (by rw [h.len]; exact hi)] at z
      cases z
      exact h.at_ k _ hx
    · rw [if_neg e2]
      rw [List.getElem?_set_ne (Ne.symm e2)] at z
      exact h.at_ j v z
theorem Small.swp {n nc L B k a f : Nat} {O : Mat} (h : Small n nc L B k O) (hl : O.length = n) (ha : a < n) (hf : f < n) : Small n nc L B k (Rz.swp O a f) := ⟨fun i j hi hj => by
  rw [rw_swp (by omega) (by omega)]
  split
  · exact h.sc a j ha hj
  · split
    · exact h.sc f j hf hj
    · exact h.sc i j hi hj, h.L0, h.B0, h.hL, h.hB⟩

/-! ### matrices made row by row -/
section
variable {K : PySem.W.Frag} {σ : L2.St} {H : Hp} {g : TG} {te : TE} {vs : List Nat} {Q : VK}
/-- a row that stands, whatever is written at p -/
def RowP (K : PySem.W.Frag) (H : Hp) (p : Addr) (v : V) (row : Row) : Prop := ∃ q xs, v = .ref q ∧ SqL K H q xs ∧ Rats K H xs row ∧ (q ≠ p ∨ ∀ H', SqL K H' q xs)
theorem RowP.v {p : Addr} {v : V} {row : Row} (h : RowP K H p v row) : RowV K H v row := let ⟨q, xs, a, b, c, _⟩ := h; ⟨q, xs, a, b, c⟩
theorem RowP.same {H' : Hp} {p : Addr} {v : V} {row : Row} (h : RowP K H p v row) (e : Same H H') : RowP K H' p v row := let ⟨q, xs, a, b, c, d⟩ := h; ⟨q, xs, a, e.seq b, c.same e, d⟩
theorem RowP.upd {p : Addr} {v : V} {row : Row} {acc : List V} {o : HO} (h : RowP K H p v row) (e : H p = some (.lst acc)) : RowP K (upd H p o) p v row := by
  obtain ⟨q, xs, rfl, a, b, d⟩ := h
  refine ⟨q, xs, rfl, ?_, b.kp Kp.upd e, d⟩
  rcases d with hq | d
  · rcases a with (a | ⟨u, a⟩) | a
    · exact .inl (.inl (by rw [upd_ne hq]; exact a))
    · exact .inl (.inr ⟨u, by rw [upd_ne hq]; exact a⟩)
    · exact .inr a
  · exact d _
theorem RowV.base {p : Addr} {v : V} {row : Row} (h : RowV K H v row) (hp : H p = none) : RowP K H p v row := by
  obtain ⟨q, xs, rfl, a, b⟩ := h
  refine ⟨q, xs, rfl, a, b, ?_⟩
  rcases a with (a | ⟨u, a⟩) | a
  · exact .inl (ne_of_none a hp)
  · exact .inl (ne_of_none a hp)
  · exact .inr fun _ => .inr a
/-- a row there was at H, or one laid behind H' -/
def Made (K : PySem.W.Frag) (H H' : Hp) (w : V) (row : Row) : Prop := RowV K H w row ∨ ∃ q, w = .ref q ∧ H' q = none
theorem Made.p {H' H3 : Hp} {p : Addr} {w : V} {row : Row} {acc : List V} (h : Made K H H' w row) (hp : H p = none) (ep : H' p = some (.lst acc)) (hs : Same H H3) (hr : RowV K H3 w row) : RowP K H3 p w row := by
  rcases h with h | ⟨q, rfl, hq⟩
  · exact (h.base hp).same hs
  · obtain ⟨q2, xs, e, a, b⟩ := hr
    cases e
    exact ⟨q, xs, rfl, a, b, .inl (ne_of_none ep hq).symm⟩
/-- the list that is being filled: i rows of m so far -/
def FillM (K : PySem.W.Frag) (H : Hp) (m : Mat) (p : Addr) (i : Nat) (acc : List V) (H' : Hp) : Prop := Same H H' ∧ H' p = some (.lst acc) ∧ acc.length = i ∧ ∀ (j : Nat) v, acc[j]? = some v → RowP K H' p v (rw' m j)
theorem FillM.start {m : Mat} {p : Addr} (hp : H p = none) : FillM K H m p 0 [] (upd H p (.lst [])) := ⟨up_same hp, upd_same, rfl, fun j v h => by simp at h⟩
theorem FillM.next {m : Mat} {p : Addr} {i : Nat} {acc : List V} {H' H3 : Hp} {w : V} (h : FillM K H m p i acc H') (hp : H p = none) (hs : Same H' H3) (hi : i ≤ 1000000) (hw : RowV K H3 w (rw' m i)) (hm : Made K H H' w (rw' m i)) : lcN (FillM K H m p) p i w H3 := by
  obtain ⟨sm, ep, hl, ha⟩ := h
  have ep3 := hs _ _ ep
  refine lcN_of ep3 (by omega) ⟨fun b o e => ?_, upd_same, by rw [List.length_append, hl]; rfl, fun j v z => ?_⟩
  · rw [upd_ne (ne_of_none e hp)]
    exact hs _ _ (sm _ _ e)
  · rcases at_snoc z with ⟨_, z2⟩ | ⟨z1, rfl⟩
    · exact ((ha j v z2).same hs).upd ep3
    · rw [z1, hl]
      exact (hm.p hp ep (sm.trans hs) hw).upd ep3
theorem FillM.done {m : Mat} {p : Addr} {acc : List V} {H' : Hp} (h : FillM K H m p m.length acc H') : H' p = some (.lst acc) ∧ MatL K H' acc m := ⟨h.2.1, h.2.2.1, fun j v z => (h.2.2.2 j v z).v⟩
theorem copy_rows {i₀ : Nat} {p : Addr} {us : List V} {m : Mat} (hp : SqL K H p us) (hM : MatL K H us m) (hb : m.length ≤ 1000) (hw : ∀ x, wipe ((wipe σ vs).set i₀ (some x)) vs = wipe σ vs) (hi : ∀ x, ((wipe σ vs).set i₀ (some x))[i₀]? = some (some x))
    (k : ∀ l us' H', Same H H' → H l = none → H' l = some (.lst us') → MatL K H' us' m → Q (.ref l) H') : rItL K (lcW (gName i₀) tYes (tCB (rListOf K) (tCons (tVar i₀) tNil)) vs σ Q) (.ref p) H := by
  refine g_lcLst hp (FillM K H m) hw (fun l hl => .start hl) (fun l i acc H' _ h => h.1.seq hp) ?_ ?_
  · intro l i x acc H' hl hx h
    have hil := (List.getElem?_eq_some_iff.mp hx).1
    obtain ⟨q, xs, rfl, a, b⟩ := (hM.at_ i x hx).same h.1
    refine g_cb (g_cons (g_var (hi _) (g_nil (g_listL a fun l2 hl2 => ?_))))
    exact h.next hl (up_same hl2) (by have := hM.len; omega) ⟨l2, xs, rfl, SqL.of upd_same, b.same (up_same hl2)⟩ (.inr ⟨l2, rfl, hl2⟩)
  · intro l acc H' hl h
    rw [hM.len] at h
    obtain ⟨a, b⟩ := h.done
    exact k l acc H' h.1 hl a b
theorem en_rows {p : Addr} {us : List V} {m m' : Mat} (hp : SqL K H p us) (hM : MatL K H us m) (hl : m'.length = m.length) (hb : m.length ≤ 1000)
    (hs : ∀ i v T H' (Qk : VK), Same H H' → us[i]? = some v → i < m.length → H' T = none → (∀ w H3, Same H' H3 → RowV K H3 w (rw' m' i) → Made K H H' w (rw' m' i) → Qk w H3) → g (.ref T) (wipe σ vs) (upd H' T (.tup [.int (i : Nat), v])) fun σ2 H2 => wipe σ2 vs = wipe σ vs ∧ te σ2 H2 Qk)
    (k : ∀ l us' H', Same H H' → H' l = some (.lst us') → MatL K H' us' m' → Q (.ref l) H') : rEnL K (lcW g tYes te vs σ Q) [.ref p] H := by
  refine lc_en hp (FillM K H m') (fun l hl => .start hl) (fun l i acc H' _ h => h.1.seq hp) ?_ ?_
  · intro l i x T acc H' hl0 hx h hT
    have hil := (List.getElem?_eq_some_iff.mp hx).1
    have hil2 : i < m.length := by
      rw [← hM.len]
      exact hil
    exact hs i x T H' _ h.1 hx hil2 hT fun w H3 sm hw hm => h.next hl0 sm (by omega) hw hm
  · intro l acc H' hl0 h
    rw [hM.len, ← hl] at h
    obtain ⟨a, b⟩ := h.done
    exact k l acc H' h.1 a b
theorem clrG_same {W : Mat} {a t : Nat} (h : t ≤ a) (ht : t < W.length) : rw' (clrG W a) t = rw' W t := by
  unfold clrG
  rw [rw_mkM ht, if_neg (by omega)]
end
theorem swp_self {m : Mat} {i : Nat} (h : i < m.length) : swp m i i = m := by
  unfold swp
  rw [set_self h, set_self h]
theorem atI_end {xs : List V} {v : V} (h : xs[xs.length - 1]? = some v) : atI xs (-1) = some v := by
  have hl := (List.getElem?_eq_some_iff.mp h).1
  have e : ixN xs.length (-1) = some (xs.length - 1) := by
    unfold ixN
    rw [if_neg (by decide)]
    rw [if_pos (by omega)]
    exact congrArg some (by omega)
  unfold atI
  rw [e]
  exact h
theorem pa_starK {X : Cx} {K : PySem.W.Frag} {e : Expr} {es : List Expr} {p : Pos} {te : TE} {t : TA} (hK : X.K = K) (he : PE X e te) (hr : PA X es t) : PA X (.Starred e p :: es) (StX.tStar K te t) := hK ▸ StX.pa_star he hr
theorem g_starL {K : PySem.W.Frag} {σ : L2.St} {H : Hp} {te : TE} {t : TA} {Q : List V → Hp → Prop} (h : te σ H fun x H1 => ∃ p xs, x = V.ref p ∧ (SqT K H1 p xs ∨ SqL K H1 p xs) ∧ t σ H1 fun ys H2 => Q (xs ++ ys) H2) : StX.tStar K te t σ H Q := h
def aug (m : Mat) (c : Row) : Mat := List.zipWith (fun r q => r ++ [q]) m c
theorem aug_len {m : Mat} {c : Row} (h : c.length = m.length) : (aug m c).length = m.length := by
  unfold aug
  rw [List.length_zipWith, h, Nat.min_self]
theorem rw_aug {m : Mat} {c : Row} {i : Nat} (h : c.length = m.length) (hi : i < m.length) : rw' (aug m c) i = rw' m i ++ [ent c i] := by
  unfold aug rw' ent
  rw [List.getD_eq_getElem?_getD, List.getElem?_zipWith, List.getElem?_eq_getElem hi, List.getElem?_eq_getElem (by omega)]
  rw [List.getD_eq_getElem?_getD, List.getElem?_eq_getElem hi, List.getD_eq_getElem?_getD, List.getElem?_eq_getElem (by omega)]
  rfl
theorem ent_snoc_lt {r : Row} {q : Rat} {j : Nat} (h : j < r.length) : ent (r ++ [q]) j = ent r j := by
  unfold ent
  rw [List.getD_eq_getElem?_getD, List.getElem?_append_left h, ← List.getD_eq_getElem?_getD]
theorem ent_snoc_eq {r : Row} {q : Rat} {j : Nat} (h : j = r.length) : ent (r ++ [q]) j = q := by
  unfold ent
  rw [List.getD_eq_getElem?_getD, List.getElem?_append_right (by omega), h, Nat.sub_self]
  rfl
theorem clrJ_same {W : Mat} {a : Nat} (ht : a < W.length) : rw' (clrJ W a) a = rw' W a := by
  unfold clrJ
  rw [rw_mkM ht, if_pos rfl]
/-! ### what the defs tell -/
def spPivot (K : PySem.W.Frag) : Sp := fun vs H Q _ => ∃ (v : V) (W : Mat) (a : Nat), vs = [v, .int (a : Int)] ∧ MatV K H v W ∧ a < W.length ∧ W.length ≤ 1000 ∧ (∀ k, k < W.length → a < (rw' W k).length) ∧
  (∀ f, a ≤ f → f < W.length → ent (rw' W f) a ≠ 0 → Q (.int (f : Int)) H) ∧ ((∀ k, a ≤ k → k < W.length → ent (rw' W k) a = 0) → Q .non H)
def spSwapped (K : PySem.W.Frag) : Sp := fun vs H Q _ => ∃ (v : V) (W : Mat) (i k : Nat), vs = [v, .int (i : Int), .int (k : Int)] ∧ MatV K H v W ∧ i < W.length ∧ k < W.length ∧ W.length ≤ 1000 ∧ ∀ v' H', Same H H' → MatV K H' v' (swp W i k) → Q v' H'
def spCleared (K : PySem.W.Frag) : Sp := fun vs H Q _ => ∃ (v u : V) (r p : Row) (a b : Nat), vs = [v, u, .int (a : Int)] ∧ RowV K H v r ∧ RowV K H u p ∧ p.length = r.length ∧ a < r.length ∧ r.length ≤ 1000 ∧ ent p a ≠ 0 ∧ 4 * b ≤ 8000 ∧ (∀ j, j < r.length → Bd b (ent r j) ∧ Bd b (ent p j)) ∧
  ∀ v' H', Same H H' → RowV K H' v' (clr r p a) → (v' = v ∧ clr r p a = r) ∨ (∃ q, v' = .ref q ∧ H q = none) → Q v' H'
def spDet (K : PySem.W.Frag) : Sp := fun vs H Q _ => ∃ (v : V) (m : Mat) (n L B k : Nat), vs = [v] ∧ MatV K H v m ∧ m.length = n ∧ n ≤ 100 ∧ Wide n m ∧ Small n n L B k m ∧ k ≤ 400 ∧ ∀ v' H', Same H H' → RatV K H' v' (det n m) → Q v' H'
def spSolved (K : PySem.W.Frag) : Sp := fun vs H Q _ => ∃ (v u : V) (m : Mat) (xs : List V) (c : Row) (n L B k : Nat) (p : Addr), vs = [v, u] ∧ MatV K H v m ∧ m.length = n ∧ n ≤ 100 ∧ Wide n m ∧ u = .ref p ∧ SqL K H p xs ∧ Rats K H xs c ∧ c.length = n ∧ Small n (n + 1) L B k (aug m c) ∧ k ≤ 400 ∧ det n m ≠ 0 ∧
  ∀ l ys x H', Same H H' → H' l = some (.lst ys) → Rats K H' ys x → x.length = n → (∀ j, j < n → Bd (8 * k) (ent x j)) → (∀ i, i < n → sumN n (fun j => ent (rw' m i) j * ent x j) = ent c i) → Q (.ref l) H'
end Rz

namespace Rz

/-! ### the sum over all orders of the columns -/
def insN (a k : Nat) (o : List Nat) : List Nat := o.take a ++ [k] ++ o.drop a
def sgnI (k : Nat) : Int := if k % 2 = 0 then 1 else -1
def ordM : Nat → List (List Nat × Int)
  | 0 => [([], 1)]
  | k + 1 => (ordM k).flatMap fun p => (List.range (k + 1)).map fun a => (insN a k p.1, if (k - a) % 2 = 0 then p.2 else -p.2)
def sumL (l : List Rat) : Rat := l.foldl (fun a b => a + b) 0
theorem foldl_add (l : List Rat) (a : Rat) : l.foldl (fun a b => a + b) a = a + sumL l := by
  unfold sumL
  induction l generalizing a with
  | nil => simp only [List.foldl_nil]; grind
  | cons x l ih =>
    rw [List.foldl_cons, List.foldl_cons, ih, ih (0 + x)]
    grind
theorem sumL_cons {x : Rat} {l : List Rat} : sumL (x :: l) = x + sumL l := by
  show (x :: l).foldl _ 0 = _
  rw [List.foldl_cons, foldl_add]
  grind
theorem sumL_nil : sumL [] = 0 := rfl
theorem sumL_append {l k : List Rat} : sumL (l ++ k) = sumL l + sumL k := by
  induction l with
  | nil => rw [List.nil_append, sumL_nil]; grind
  | cons x l ih => rw [List.cons_append, sumL_cons, sumL_cons, ih]; grind
theorem sumL_snoc {l : List Rat} {x : Rat} : sumL (l ++ [x]) = sumL l + x := by rw [sumL_append, sumL_cons, sumL_nil]; grind
theorem sumL_flat {α β : Type} {l : List α} {f : α → List β} {g : β → Rat} : sumL ((l.flatMap f).map g) = sumL (l.map fun p => sumL ((f p).map g)) := by
  induction l with
  | nil => rfl
  | cons x l ih => rw [List.flatMap_cons, List.map_append, sumL_append, List.map_cons, sumL_cons, ih]
theorem sumL_range {n : Nat} {f : Nat → Rat} : sumL ((List.range n).map f) = sumN n f := by
  induction n with
  | zero => rfl
  | succ n ih => rw [List.range_succ, List.map_append, List.map_cons, List.map_nil, sumL_snoc, ih]; rfl
theorem sumL_sumN {α : Type} {l : List α} {n : Nat} {f : α → Nat → Rat} : sumL (l.map fun p => sumN n (f p)) = sumN n fun i => sumL (l.map fun p => f p i) := by
  induction l with
  | nil => exact (sumN_zero fun i _ => rfl).symm
  | cons x l ih =>
    rw [List.map_cons, sumL_cons, ih]
    have : sumN n (fun i => sumL ((x :: l).map fun p => f p i)) = sumN n fun i => f x i + 1 * sumL (l.map fun p => f p i) := sumN_congr fun i _ => by
      rw [List.map_cons, sumL_cons]
      grind
    rw [this, sumN_add]
    grind
theorem sumL_mul {α : Type} {l : List α} {f : α → Rat} {c : Rat} : sumL (l.map fun p => c * f p) = c * sumL (l.map f) := by
  induction l with
  | nil => rw [List.map_nil, List.map_nil, sumL_nil]; grind
  | cons x l ih => rw [List.map_cons, List.map_cons, sumL_cons, sumL_cons, ih]; grind
theorem prodN_pull {n a : Nat} {f : Nat → Rat} (h : a ≤ n) : prodN (n + 1) f = f a * prodN n fun i => if i < a then f i else f (i + 1) := by
  induction n with
  | zero =>
    have : a = 0 := by omega
    subst this
    simp only [prodN]
    grind
  | succ n ih =>
    by_cases e : a = n + 1
    · subst e
      have := prodN_congr (n := n + 1) (f := fun i => if i < n + 1 then f i else f (i + 1)) (g := f) fun i hi => if_pos hi
      rw [this]
      simp only [prodN]
      grind
    · have e1 := ih (by omega)
      rw [show prodN (n + 1 + 1) f = prodN (n + 1) f * f (n + 1) from rfl, e1]
      rw [show (prodN (n + 1) fun i => if i < a then f i else f (i + 1)) = (prodN n fun i => if i < a then f i else f (i + 1)) * f (n + 1) by
        simp only [prodN]
        rw [if_neg (by omega)]]
      grind
def termM (m : Mat) (n : Nat) (p : List Nat × Int) : Rat := (p.2 : Rat) * prodN n fun i => ent (rw' m i) (p.1.getD i 0)
theorem insN_len {a k : Nat} {o : List Nat} : (insN a k o).length = o.length + 1 := by
  unfold insN
  rw [List.length_append, List.length_append, List.length_take, List.length_drop, List.length_singleton]
  omega
theorem insN_at {a k : Nat} {o : List Nat} (h : a ≤ o.length) {i : Nat} : (insN a k o).getD i 0 = if i < a then o.getD i 0 else if i = a then k else o.getD (i - 1) 0 := by
  unfold insN
  have hl : (o.take a).length = a := by rw [List.length_take]; omega
  rw [List.getD_eq_getElem?_getD]
  by_cases h1 : i < a
  · rw [if_pos h1, List.append_assoc, List.getElem?_append_left (by omega), List.getElem?_take, if_pos h1, ← List.getD_eq_getElem?_getD]
  · rw [if_neg h1]
    by_cases h2 : i = a
    · rw [if_pos h2, List.append_assoc, List.getElem?_append_right (by omega), hl, h2, Nat.sub_self]
      rfl
    · rw [if_neg h2, List.getElem?_append_right (by rw [List.length_append, hl]; show a + 1 ≤ i; omega), List.length_append, hl, List.getElem?_drop, List.length_singleton, show a + (i - (a + 1)) = i - 1 by omega, ← List.getD_eq_getElem?_getD]
theorem ordM_len : ∀ {n : Nat} {p : List Nat × Int}, p ∈ ordM n → p.1.length = n
  | 0, p, h => by
    rw [List.mem_singleton.mp h]
    rfl
  | n + 1, p, h => by
    obtain ⟨q, hq, hp⟩ := List.mem_flatMap.mp h
    obtain ⟨a, _, rfl⟩ := List.mem_map.mp hp
    show (insN a n q.1).length = n + 1
    rw [insN_len, ordM_len hq]
theorem ordM_lt : ∀ {n : Nat} {p : List Nat × Int}, p ∈ ordM n → ∀ x ∈ p.1, x < n
  | 0, p, h => by
    rw [List.mem_singleton.mp h]
    intro x hx
    cases hx
  | n + 1, p, h => by
    obtain ⟨q, hq, hp⟩ := List.mem_flatMap.mp h
    obtain ⟨a, _, rfl⟩ := List.mem_map.mp hp
    intro x hx
    have hx : x ∈ q.1.take a ++ [n] ++ q.1.drop a := hx
    rcases List.mem_append.mp hx with hx | hx
    · rcases List.mem_append.mp hx with hx | hx
      · have := ordM_lt hq x (List.mem_of_mem_take hx)
        omega
      · rw [List.mem_singleton.mp hx]
        omega
    · have := ordM_lt hq x (List.mem_of_mem_drop hx)
      omega
theorem ordM_sgn : ∀ {n : Nat} {p : List Nat × Int}, p ∈ ordM n → p.2 = 1 ∨ p.2 = -1
  | 0, p, h => by
    rw [List.mem_singleton.mp h]
    exact .inl rfl
  | n + 1, p, h => by
    obtain ⟨q, hq, hp⟩ := List.mem_flatMap.mp h
    obtain ⟨a, _, rfl⟩ := List.mem_map.mp hp
    have := ordM_sgn hq
    show (if (n - a) % 2 = 0 then q.2 else -q.2) = 1 ∨ (if (n - a) % 2 = 0 then q.2 else -q.2) = -1
    split <;> omega
theorem ordM_count : ∀ n : Nat, (ordM n).length = fct n
  | 0 => rfl
  | n + 1 => by
    have : ∀ l : List (List Nat × Int), (l.flatMap fun p => (List.range (n + 1)).map fun a => (insN a n p.1, if (n - a) % 2 = 0 then p.2 else -p.2)).length = (n + 1) * l.length := fun l => by
      induction l with
      | nil => rfl
      | cons x l ih =>
        rw [List.flatMap_cons, List.length_append, ih, List.length_map, List.length_range, List.length_cons, Nat.mul_succ]
        omega
    show (List.flatMap _ (ordM n)).length = (n + 1) * fct n
    rw [this, ordM_count n]
theorem leibniz : ∀ {n : Nat} {m : Mat}, m.length = n → sumL ((ordM n).map (termM m n)) = det n m
  | 0, m, h => by
    show sumL [termM m 0 ([], 1)] = 1
    rw [sumL_cons, sumL_nil]
    unfold termM
    simp only [prodN]
    show ((1 : Int) : Rat) * 1 + 0 = 1
    rw [show ((1 : Int) : Rat) = 1 from rfl]
    grind
  | n + 1, m, h => by
    show sumL (((ordM n).flatMap fun p => (List.range (n + 1)).map fun a => (insN a n p.1, if (n - a) % 2 = 0 then p.2 else -p.2)).map (termM m (n + 1))) = _
    rw [sumL_flat]
    have key : (ordM n).map (fun p => sumL (((List.range (n + 1)).map fun a => (insN a n p.1, if (n - a) % 2 = 0 then p.2 else -p.2)).map (termM m (n + 1)))) =
        (ordM n).map fun p => sumN (n + 1) fun a => (sgn (n - a) * ent (rw' m a) n) * termM (m.eraseIdx a) n p := by
      refine List.map_congr_left fun p hp => ?_
      have hpl := ordM_len hp
      rw [List.map_map, sumL_range]
      refine sumN_congr fun a ha => ?_
      show ((if (n - a) % 2 = 0 then p.2 else -p.2 : Int) : Rat) * (prodN (n + 1) fun i => ent (rw' m i) ((insN a n p.1).getD i 0)) = _
      rw [prodN_pull (a := a) (by omega), insN_at (show a ≤ p.1.length by omega), if_neg (Nat.lt_irrefl a), if_pos rfl]
      have e2 : (prodN n fun i => if i < a then ent (rw' m i) ((insN a n p.1).getD i 0) else ent (rw' m (i + 1)) ((insN a n p.1).getD (i + 1) 0)) = prodN n fun i => ent (rw' (m.eraseIdx a) i) (p.1.getD i 0) := prodN_congr fun i hi => by
        by_cases z : i < a
        · rw [if_pos z, rw_erase_lt z, insN_at (by omega), if_pos z]
        · rw [if_neg z, rw_erase_ge (by omega), insN_at (by omega), if_neg (by omega), if_neg (by omega), Nat.add_sub_cancel]
      rw [e2]
      unfold termM sgn
      split
      · grind
      · rw [Rat.intCast_neg]
        grind
    rw [key, sumL_sumN]
    show _ = sumN (n + 1) fun i => sgn (n - i) * ent (rw' m i) n * det n (m.eraseIdx i)
    refine sumN_congr fun a ha => ?_
    rw [sumL_mul, leibniz (by rw [List.length_eraseIdx, if_pos (by omega)]; omega)]
/-- the sizes of what is summed -/
theorem prodN_sc {L B : Nat} : ∀ {n : Nat} {f : Nat → Rat}, (∀ i, i < n → Sc L B (f i)) → Sc (L ^ n) (B ^ n) (prodN n f)
  | 0, f, _ => Sc.one (by simp)
  | n + 1, f, h => by
    rw [Nat.pow_succ, Nat.pow_succ]
    exact (prodN_sc fun i hi => h i (by omega)).mul (h n (by omega))
theorem sumL_sc {L B : Nat} : ∀ {l : List Rat}, (∀ x ∈ l, Sc L B x) → Sc L (l.length * B) (sumL l)
  | [], _ => Sc.zero
  | x :: l, h => by
    rw [sumL_cons, List.length_cons, Nat.succ_mul, Nat.add_comm]
    exact (h x List.mem_cons_self).add (sumL_sc fun y hy => h y (List.mem_cons_of_mem _ hy))
end Rz
namespace Rz
open PySem PySem.Spec PyProof.Rows L2
/-- an order and its sign, laid apart from p -/
def OrdAt (K : PySem.W.Frag) (H : Hp) (p : Addr) (v : V) (q : List Nat × Int) : Prop := ∃ a b, v = .ref a ∧ H a = some (.lst [.ref b, .int q.2]) ∧ H b = some (.lst (q.1.map fun x : Nat => V.int (x : Int))) ∧ a ≠ p ∧ b ≠ p
structure OrdL (K : PySem.W.Frag) (H : Hp) (p : Addr) (us : List V) (os : List (List Nat × Int)) : Prop where
  top : H p = some (.lst us)
  len : us.length = os.length
  at_ : ∀ (i : Nat) v q, us[i]? = some v → os[i]? = some q → OrdAt K H p v q
theorem OrdL.same {K : PySem.W.Frag} {H H' : Hp} {p : Addr} {us : List V} {os : List (List Nat × Int)} (h : OrdL K H p us os) (e : Same H H') : OrdL K H' p us os :=
  ⟨e _ _ h.top, h.len, fun i v q a b => let ⟨x, y, c, d, f, g, k⟩ := h.at_ i v q a b; ⟨x, y, c, e _ _ d, e _ _ f, g, k⟩⟩
theorem OrdL.snoc {K : PySem.W.Frag} {H : Hp} {p a b : Addr} {us : List V} {os : List (List Nat × Int)} {q : List Nat × Int} (h : OrdL K H p us os) (ha : H a = some (.lst [.ref b, .int q.2])) (hb : H b = some (.lst (q.1.map fun x : Nat => V.int (x : Int)))) (na : a ≠ p) (nb : b ≠ p) :
    OrdL K (upd H p (.lst (us ++ [.ref a]))) p (us ++ [.ref a]) (os ++ [q]) := by
  refine ⟨upd_same, by rw [List.length_append, List.length_append, h.len]; rfl, fun i v q' e1 e2 => ?_⟩
  rcases at_snoc e1 with ⟨h1, h2⟩ | ⟨h1, rfl⟩
  · rw [List.getElem?_append_left (by rw [← h.len]; exact h1)] at e2
    obtain ⟨x, y, c, d, f, g, k⟩ := h.at_ i v q' h2 e2
    exact ⟨x, y, c, by rw [upd_ne g]; exact d, by rw [upd_ne k]; exact f, g, k⟩
  · rw [List.getElem?_append_right (by rw [← h.len]; omega), h1, h.len, Nat.sub_self] at e2
    cases e2
    exact ⟨a, b, rfl, by rw [upd_ne na]; exact ha, by rw [upd_ne nb]; exact hb, na, nb⟩
/-- the orders that come of one -/
def growO (k j : Nat) (p : List Nat × Int) : List (List Nat × Int) := (List.range j).map fun a => (insN a k p.1, if (k - a) % 2 = 0 then p.2 else -p.2)
theorem growO_succ {k j : Nat} {p : List Nat × Int} : growO k (j + 1) p = growO k j p ++ [(insN j k p.1, if (k - j) % 2 = 0 then p.2 else -p.2)] := by
  unfold growO
  rw [List.range_succ, List.map_append]
  rfl
theorem growO_len {k j : Nat} {p : List Nat × Int} : (growO k j p).length = j := by
  unfold growO
  rw [List.length_map, List.length_range]
theorem flat_len {k i : Nat} {l : List (List Nat × Int)} (h : i ≤ l.length) : ((l.take i).flatMap (growO k (k + 1))).length = i * (k + 1) := by
  induction i with
  | zero => rw [List.take_zero, Nat.zero_mul]; rfl
  | succ i ih =>
    rw [List.take_succ, List.flatMap_append, List.length_append, ih (by omega), List.getElem?_eq_getElem (show i < l.length by omega)]
    show _ + ([l[i]].flatMap (growO k (k + 1))).length = _
    rw [List.flatMap_cons, List.flatMap_nil, List.append_nil, growO_len, Nat.succ_mul]
def spOrders (K : PySem.W.Frag) : Sp := fun vs H Q _ => ∃ n : Nat, vs = [.int (n : Int)] ∧ n ≤ 6 ∧ ∀ p us H', Same H H' → H p = none → OrdL K H' p us (ordM n) → Q (.ref p) H'
def spSum (K : PySem.W.Frag) : Sp := fun vs H Q _ => ∃ (v : V) (m : Mat) (n L B k : Nat), vs = [v] ∧ MatV K H v m ∧ m.length = n ∧ n ≤ 6 ∧ Wide n m ∧ Small n n L B k m ∧ k ≤ 400 ∧ ∀ v' H', Same H H' → RatV K H' v' (det n m) → Q v' H'
theorem g_slL {K : PySem.W.Frag} {H : Hp} {a : Addr} {xs : List V} {lo hi : Option Int} {Q : VK} (h : SqL K H a xs) (q : ∀ p, H p = none → Q (.ref p) (upd H p (.lst (cutV xs lo hi)))) : rSlL K (.ref a) lo hi H Q := ⟨a, xs, rfl, h, q⟩
theorem cutV_to {xs : List V} {n : Nat} (h : n ≤ xs.length) : cutV xs none (some (n : Int)) = xs.take n := by
  unfold cutV
  rw [HT.sIx_nat, HT.sIx_none, List.drop_zero, Nat.sub_zero, Nat.min_eq_left h]
theorem cutV_from {xs : List V} {n : Nat} (h : n ≤ xs.length) : cutV xs (some (n : Int)) none = xs.drop n := by
  unfold cutV
  rw [HT.sIx_nat, HT.sIx_none, Nat.min_eq_left h, List.take_of_length_le]
  rw [List.length_drop]
  omega
section
variable {te : TE} {tl th : TO} {σ : L2.St} {H : Hp} {Q : VK}
theorem g_slice {r : V → Option Int → Option Int → Hp → VK → Prop} (h : te σ H fun x H1 => tl σ H1 fun l H2 => th σ H2 fun u H3 => r x l u H3 Q) : tSl r te tl th σ H Q := h
theorem g_pNo {Q : Option Int → Hp → Prop} (h : Q none H) : tNoPart σ H Q := h
theorem g_pYes {Q : Option Int → Hp → Prop} (h : te σ H fun x H1 => ∃ i, x = .int i ∧ Q (some i) H1) : tPart te σ H Q := h
end
end Rz

namespace Rz
open PySem PySem.Spec PyProof.Rows L2

theorem op_catAK {X : Cx} {K : PySem.W.Frag} (h : X.K = K) : OpR X (binaryOp .Add) (rCatA K) := h ▸ op_catA
section
variable {K : PySem.W.Frag} {H : Hp} {Q : VK} {σ : L2.St} {vs : List Nat} {te : TE} {tt : TT}
theorem g_catA {a b : Addr} {xs ys : List V} (h1 : SqT K H a xs) (h2 : SqT K H b ys) (hl : xs.length + ys.length ≤ 1000000) (q : ∀ p H', Same H H' → SqT K H' p (xs ++ ys) → Q (.ref p) H') : rCatA K (.ref a) (.ref b) H Q := by
  refine ⟨a, b, xs, ys, rfl, rfl, h1, h2, by have := sizeLine_eq; omega, fun z => ?_, fun _ z => ?_, fun _ _ p hp => ?_⟩
  · rw [z] at q
    exact q b H (Same.refl _) h2
  · rw [z, List.append_nil] at q
    exact q a H (Same.refl _) h1
  · exact q p _ (up_same hp) (SqT.of upd_same)
theorem g_slA2 {a : Addr} {xs : List V} {lo hi : Option Int} (h : SqT K H a xs) (q : ∀ p H', Same H H' → SqT K H' p (cutV xs lo hi) → Q (.ref p) H') : rSlA K (.ref a) lo hi H Q := by
  refine ⟨a, xs, rfl, h, fun z => ?_, fun z p hp => q p _ (up_same hp) (SqT.of upd_same)⟩
  refine q a H (Same.refl _) ?_
  unfold cutV
  rw [z.1, z.2, List.drop_zero, Nat.sub_zero, List.take_length]
  exact h
theorem Rats.take {xs : List V} {qs : List Rat} (h : Rats K H xs qs) (n : Nat) : Rats K H (xs.take n) (qs.take n) := ⟨by rw [List.length_take, List.length_take, h.len], fun i x q a b => by
  rw [List.getElem?_take] at a b
  by_cases z : i < n
  · rw [if_pos z] at a b
    exact h.at_ i x q a b
  · rw [if_neg z] at a
    cases a⟩
theorem Rats.drop {xs : List V} {qs : List Rat} (h : Rats K H xs qs) (n : Nat) : Rats K H (xs.drop n) (qs.drop n) := ⟨by rw [List.length_drop, List.length_drop, h.len], fun i x q a b => by
  rw [List.getElem?_drop] at a b
  exact h.at_ _ x q a b⟩
theorem Rats.app {xs ys : List V} {qs rs : List Rat} (h : Rats K H xs qs) (k : Rats K H ys rs) : Rats K H (xs ++ ys) (qs ++ rs) := ⟨by rw [List.length_append, List.length_append, h.len, k.len], fun i x q a b => by
  by_cases z : i < xs.length
  · rw [List.getElem?_append_left z] at a
    rw [List.getElem?_append_left (h.len ▸ z)] at b
    exact h.at_ i x q a b
  · rw [List.getElem?_append_right (by omega)] at a
    rw [List.getElem?_append_right (by rw [← h.len]; omega), ← h.len] at b
    exact k.at_ _ x q a b⟩
theorem Rats.one {x : V} {q : Rat} (h : RatV K H x q) : Rats K H [x] [q] := by
  have := Rats.nil.snoc h
  exact this
/-- the turns at ts, without their tuple -/
structure TsL (K : PySem.W.Frag) (H : Hp) (ts : List Addr) (rows : Rows) : Prop where
  len : ts.length = rows.length
  row : ∀ (i : Nat) r row, ts[i]? = some r → rows[i]? = some row → SqT K H r (row.map V.int)
theorem TsL.take {ts : List Addr} {rows : Rows} (h : TsL K H ts rows) (n : Nat) : TsL K H (ts.take n) (rows.take n) := ⟨by rw [List.length_take, List.length_take, h.len], fun i r row a b => by
  rw [List.getElem?_take] at a b
  by_cases z : i < n
  · rw [if_pos z] at a b
    exact h.row i r row a b
  · rw [if_neg z] at a
    cases a⟩
theorem TsL.drop {ts : List Addr} {rows : Rows} (h : TsL K H ts rows) (n : Nat) : TsL K H (ts.drop n) (rows.drop n) := ⟨by rw [List.length_drop, List.length_drop, h.len], fun i r row a b => by
  rw [List.getElem?_drop] at a b
  exact h.row _ r row a b⟩
theorem TsL.app {ts us : List Addr} {rows rows' : Rows} (h : TsL K H ts rows) (k : TsL K H us rows') : TsL K H (ts ++ us) (rows ++ rows') := ⟨by rw [List.length_append, List.length_append, h.len, k.len], fun i r row a b => by
  by_cases z : i < ts.length
  · rw [List.getElem?_append_left z] at a
    rw [List.getElem?_append_left (h.len ▸ z)] at b
    exact h.row i r row a b
  · rw [List.getElem?_append_right (by omega)] at a
    rw [List.getElem?_append_right (by rw [← h.len]; omega), ← h.len] at b
    exact k.row _ r row a b⟩
theorem TsL.same {H' : Hp} {ts : List Addr} {rows : Rows} (h : TsL K H ts rows) (e : Same H H') : TsL K H' ts rows := ⟨h.len, fun i r row a b => Same.sqt e (h.row i r row a b)⟩
theorem TsL.updL {ts : List Addr} {rows : Rows} {S : Addr} {ys : List V} {o : HO} (h : TsL K H ts rows) (e : H S = some (.lst ys)) : TsL K (upd H S o) ts rows := ⟨h.len, fun i r row a b => Kp.sqt Kp.upd e (h.row i r row a b)⟩
theorem NetAt.ts {p t m : Addr} {ts : List Addr} {as : List V} {rim : Nat} {rows : Rows} {qs : List Rat} (h : NetAt K H p t m ts as rim rows qs) : TsL K H ts rows := ⟨h.len, h.row⟩
theorem netV_of {p t m : Addr} {ts : List Addr} {as : List V} {rim : Nat} {rows : Rows} {qs : List Rat} (hp : SqT K H p [.int (rim : Int), .ref t, .ref m]) (ht : SqT K H t (ts.map V.ref)) (h : TsL K H ts rows) (hm : SqT K H m as) (hr : Rats K H as qs) : NetV K H (.ref p) rim rows qs := ⟨p, t, m, ts, as, rfl, hp, ht, h.len, h.row, hm, hr⟩
/-- a comprehension over a tuple, with a test -/
theorem lc_tupIf {a : Addr} {xs : List V} {i₀ : Nat} (h : SqT K H a xs) (Pv : Addr → Nat → List V → Hp → Prop) (hw : ∀ x, wipe ((wipe σ vs).set i₀ (some x)) vs = wipe σ vs) (h0 : ∀ p, H p = none → Pv p 0 [] (upd H p (.lst []))) (hl : ∀ p i acc H', H p = none → Pv p i acc H' → SqT K H' a xs)
    (hs : ∀ p (i : Nat) x acc H', H p = none → xs[i]? = some x → Pv p i acc H' → tt ((wipe σ vs).set i₀ (some x)) H' fun b H3 => if b = true then te ((wipe σ vs).set i₀ (some x)) H3 (lcN (Pv p) p i) else ∃ acc2, Pv p (i + 1) acc2 H3)
    (hd : ∀ p acc H', H p = none → Pv p xs.length acc H' → Q (.ref p) H') : rItT K (lcW (gName i₀) tt te vs σ Q) (.ref a) H := by
  refine ⟨a, rfl, ⟨xs, h⟩, fun p hp => ?_⟩
  refine lc_tup (K := K) (xs := xs) (fun i H' => ∃ acc, Pv p i acc H') ⟨[], h0 p hp⟩ (fun i H' _ ⟨acc, q⟩ => hl p i acc H' hp q) (fun i x H' hi ⟨acc, q⟩ => ?_) (fun H' ⟨acc, q⟩ => hd p acc H' hp q)
  exact ⟨hw _, hs p i x acc H' hp hi q⟩
end
/-! ### nets after moves -/
def dropD (e : Nat) (row : List Int) : List Int := (row.filter fun d => decide (¬ d / 2 = (e : Int))).map fun d => if d > 2 * (e : Int) + 1 then d - 2 else d
def dropE (e : Nat) (rows : Rows) : Rows := rows.map (dropD e)
/-- the node (from 0 on) of a dart -/
def nodeOf (rows : Rows) (d : Int) : Nat := (atM rows d).1
def spLOther : Sp := fun vs H Q _ => ∃ d : Int, vs = [.int d] ∧ Q (.int (twin d)) H
/-- what is known of the ends when the darts ahead of place (i, j) have been gone through -/
def endV (rows : Rows) (i j : Nat) (d : Int) : Int := if (atM rows d).1 < i ∨ (atM rows d).1 = i ∧ (atM rows d).2 < j then ((atM rows d).1 : Int) else 0
def endRows (rows : Rows) (E i j : Nat) : Rows := (List.range E).map fun e : Nat => [endV rows i j (2 * (e : Int)), endV rows i j (2 * (e : Int) + 1)]
theorem endRows_len {rows : Rows} {E i j : Nat} : (endRows rows E i j).length = E := by
  unfold endRows
  rw [List.length_map, List.length_range]
theorem endRows_at {rows : Rows} {E i j e : Nat} (h : e < E) : (endRows rows E i j)[e]? = some [endV rows i j (2 * (e : Int)), endV rows i j (2 * (e : Int) + 1)] := by
  unfold endRows
  rw [List.getElem?_map, List.getElem?_range h]
  rfl
theorem endV_put {rows : Rows} {i j : Nat} {row : List Int} {d x : Int} (nd : rows.flatten.Nodup) (h1 : rows[i]? = some row) (h2 : row[j]? = some d) (hx : x ∈ rows.flatten) : endV rows i (j + 1) x = if x = d then (i : Int) else endV rows i j x := by
  unfold endV
  by_cases e : x = d
  · subst e
    rw [at_of nd h1 h2, if_pos (.inr ⟨rfl, Nat.lt_succ_self _⟩), if_pos rfl]
  · rw [if_neg e]
    obtain ⟨row', a, b⟩ := at_spec hx
    have key : ((atM rows x).1 < i ∨ (atM rows x).1 = i ∧ (atM rows x).2 < j + 1) ↔ ((atM rows x).1 < i ∨ (atM rows x).1 = i ∧ (atM rows x).2 < j) := by
      refine ⟨fun z => ?_, fun z => ?_⟩
      · rcases z with z | ⟨z1, z2⟩
        · exact .inl z
        · refine .inr ⟨z1, ?_⟩
          rcases Nat.lt_or_eq_of_le (Nat.le_of_lt_succ z2) with z3 | z3
          · exact z3
          · rw [z1, h1] at a
            cases a
            rw [z3, h2] at b
            exact absurd (Option.some.inj b).symm e
      · rcases z with z | ⟨z1, z2⟩
        · exact .inl z
        · exact .inr ⟨z1, by omega⟩
    simp only [key]
theorem endV_row {rows : Rows} {i : Nat} {row : List Int} {x : Int} (h1 : rows[i]? = some row) (hx : x ∈ rows.flatten) : endV rows (i + 1) 0 x = endV rows i row.length x := by
  unfold endV
  obtain ⟨row', a, b⟩ := at_spec hx
  have key : ((atM rows x).1 < i + 1 ∨ (atM rows x).1 = i + 1 ∧ (atM rows x).2 < 0) ↔ ((atM rows x).1 < i ∨ (atM rows x).1 = i ∧ (atM rows x).2 < row.length) := by
    refine ⟨fun z => ?_, fun z => ?_⟩
    · by_cases e : (atM rows x).1 = i
      · rw [e, h1] at a
        cases a
        exact .inr ⟨e, (List.getElem?_eq_some_iff.mp b).1⟩
      · exact .inl (by omega)
    · exact .inl (by omega)
  simp only [key]
theorem endV_end {rows : Rows} {x : Int} (hx : x ∈ rows.flatten) : endV rows rows.length 0 x = (nodeOf rows x : Int) := by
  unfold endV nodeOf
  rw [if_pos (.inl (at_lt hx))]
/-- the nodes (from 0 on) of the darts of the edges -/
def endsM (rows : Rows) (E : Nat) : Rows := (List.range E).map fun e : Nat => [(nodeOf rows (2 * (e : Int)) : Int), (nodeOf rows (2 * (e : Int) + 1) : Int)]
def spLEnds (K : PySem.W.Frag) : Sp := fun vs H Q _ => ∃ (v : V) (rim : Nat) (rows : Rows) (qs : List Rat) (E : Nat), vs = [v] ∧ NetV K H v rim rows qs ∧ WF rows E ∧ qs.length = E ∧ E ≤ 100 ∧ rows.length ≤ 1000 ∧
  ∀ l rs H', Same H H' → H l = none → RowsAt H' l rs (endsM rows E) → Q (.ref l) H'
def spLDrop (K : PySem.W.Frag) : Sp := fun vs H Q _ => ∃ (v : V) (e rim : Nat) (rows : Rows) (qs : List Rat), vs = [v, .int (e : Int)] ∧ NetV K H v rim rows qs ∧ e < qs.length ∧ qs.length ≤ 1000 ∧ rows.length ≤ 1000 ∧ (∀ row ∈ rows, row.length ≤ 1000) ∧
  ∀ v' H', Same H H' → NetV K H' v' rim (dropE e rows) (qs.take e ++ qs.drop (e + 1)) → Q v' H'
def spLDropN (K : PySem.W.Frag) : Sp := fun vs H Q _ => ∃ (v : V) (n rim : Nat) (rows : Rows) (qs : List Rat), vs = [v, .int (n : Int)] ∧ NetV K H v rim rows qs ∧ 1 ≤ n ∧ n ≤ rows.length ∧ rows.length ≤ 1000 ∧
  ∀ v' H', Same H H' → NetV K H' v' rim (rows.take (n - 1) ++ rows.drop n) qs → Q v' H'
def spLPut (K : PySem.W.Frag) : Sp := fun vs H Q _ => ∃ (v u : V) (e rim : Nat) (rows : Rows) (qs : List Rat) (q : Rat), vs = [v, .int (e : Int), u] ∧ NetV K H v rim rows qs ∧ RatV K H u q ∧ e < qs.length ∧ qs.length ≤ 1000 ∧
  ∀ v' H', Same H H' → NetV K H' v' rim rows (qs.take e ++ [q] ++ qs.drop (e + 1)) → Q v' H'
theorem find_none {P : Nat → Bool} {n : Nat} (h : ∀ j, j < n → P j = false) : (List.range n).find? P = none := by
  rw [List.find?_eq_none]
  intro x hx
  rw [h x (List.mem_range.mp hx)]
  exact Bool.false_ne_true
theorem find_first {P : Nat → Bool} {n i : Nat} (hi : i < n) (h1 : P i = true) (h0 : ∀ j, j < i → P j = false) : (List.range n).find? P = some i := by
  induction n with
  | zero => omega
  | succ n ih =>
    rw [List.range_succ, List.find?_append]
    by_cases z : i < n
    · rw [ih z]
      rfl
    · have e : i = n := by omega
      subst e
      rw [find_none h0]
      show [i].find? P = some i
      rw [List.find?_cons, h1]
/-! ### what a move makes of a net: none where it does not fit -/
def ResV (K : PySem.W.Frag) (H : Hp) (v : V) (rim : Nat) : Option (Rows × List Rat) → Prop
  | none => v = .non
  | some r => NetV K H v rim r.1 r.2
def loopM (rows : Rows) (qs : List Rat) (k : Int) : Option (Rows × List Rat) :=
  if 0 ≤ k ∧ k < (qs.length : Int) ∧ nodeOf rows (2 * k) = nodeOf rows (2 * k + 1) then some (dropE k.toNat rows, qs.take k.toNat ++ qs.drop (k.toNat + 1)) else none
def looseAt (rows : Rows) (rim : Nat) (k : Int) : Option Nat := (List.range rows.length).find? fun n => decide (rim ≤ n ∧ (rows.getD n []).length = 1 ∧ (rows.getD n []).getD 0 0 / 2 = k)
def looseM (rows : Rows) (rim : Nat) (qs : List Rat) (k : Int) : Option (Rows × List Rat) :=
  if 0 ≤ k ∧ k < (qs.length : Int) then (looseAt rows rim k).map fun n => ((dropE k.toNat rows).take n ++ (dropE k.toNat rows).drop (n + 1), qs.take k.toNat ++ qs.drop (k.toNat + 1)) else none
theorem NetV.same {K : PySem.W.Frag} {H H' : Hp} {v : V} {rim : Nat} {rows : Rows} {qs : List Rat} (h : NetV K H v rim rows qs) (e : Same H H') : NetV K H' v rim rows qs := let ⟨p, t, m, ts, as, a, b⟩ := h; ⟨p, t, m, ts, as, a, b.same e⟩
def spALoop (K : PySem.W.Frag) : Sp := fun vs H Q _ => ∃ (v : V) (e : Int) (rim : Nat) (rows : Rows) (qs : List Rat) (E : Nat), vs = [v, .int e] ∧ NetV K H v rim rows qs ∧ WF rows E ∧ qs.length = E ∧ E ≤ 100 ∧ rows.length ≤ 1000 ∧
  ∀ v' H', Same H H' → ResV K H' v' rim (loopM rows qs e) → Q v' H'
def spALoose (K : PySem.W.Frag) : Sp := fun vs H Q _ => ∃ (v : V) (e : Int) (rim : Nat) (rows : Rows) (qs : List Rat) (E : Nat), vs = [v, .int e] ∧ NetV K H v rim rows qs ∧ WF rows E ∧ qs.length = E ∧ E ≤ 100 ∧ rows.length ≤ 1000 ∧ rim ≤ rows.length ∧
  ∀ v' H', Same H H' → ResV K H' v' rim (looseM rows rim qs e) → Q v' H'
section
variable {K : PySem.W.Frag} {σ : L2.St} {H : Hp} {g : TG} {tb : TS} {D : Ends} {ta : TA} {te : TE} {tt : TT} {vs : List Nat} {Q : VK}
theorem g_lcR2 (h : ta σ H (rRng2 (lcW g tt te vs σ Q))) : tLc (iRng2 ta) g tt te vs σ H Q := h
theorem g_rngZ {lo hi : Int} (n : Nat) (e : hi = lo + (n : Int)) (hlo : -1000 ≤ lo) (hlo2 : lo ≤ 1000) (hn : n < 1000000) (Pv : Nat → L2.St → Hp → Prop) (h0 : Pv 0 σ H)
    (hs : ∀ (k : Nat) σ H, k < n → Pv k σ H → g (.int (lo + (k : Int))) σ H fun σ2 H2 => tb { D with nx := Pv (k + 1), ct := Pv (k + 1), bk := D.nx } σ2 H2) (hd : ∀ σ H, Pv n σ H → D.nx σ H) : rRng2 (forW g tb D σ) [.int lo, .int hi] H := by
  subst e
  refine ⟨_, _, rfl, ⟨by omega, by omega, by omega, by omega⟩, ?_⟩
  rw [show (lo + (n : Int) - lo).toNat = n by omega]
  exact for_range (lo := lo) (n := n) Pv h0 hs hd
theorem g_lcRZ {lo hi : Int} {i₀ : Nat} (n : Nat) (e : hi = lo + (n : Int)) (hlo : -1000 ≤ lo) (hlo2 : lo ≤ 1000) (hn : n < 1000000) (Pv : Addr → Nat → List V → Hp → Prop) (hw : ∀ x, wipe ((wipe σ vs).set i₀ (some x)) vs = wipe σ vs)
    (h0 : ∀ p, H p = none → Pv p 0 [] (upd H p (.lst []))) (hs : ∀ p (i : Nat) acc H', H p = none → i < n → Pv p i acc H' → te ((wipe σ vs).set i₀ (some (.int (lo + (i : Int))))) H' (lcN (Pv p) p i))
    (hd : ∀ p acc H', H p = none → Pv p n acc H' → Q (.ref p) H') : rRng2 (lcW (gName i₀) tYes te vs σ Q) [.int lo, .int hi] H := by
  subst e
  refine ⟨_, _, rfl, ⟨by omega, by omega, by omega, by omega⟩, fun p hp => ?_⟩
  rw [show (lo + (n : Int) - lo).toNat = n by omega]
  exact lc_range (lo := lo) (n := n) (fun i H' => ∃ acc, Pv p i acc H') ⟨[], h0 p hp⟩ (fun i H' hi ⟨acc, q⟩ => ⟨hw _, hs p i acc H' hp hi q⟩) (fun H' ⟨acc, q⟩ => hd p acc H' hp q)
end

/-! ### moves -/
inductive Mv
  | loop (k : Int)
  | loose (k : Int)
  | par (j k : Int)
  | series (v : Int)
  | star (v : Int)
  | num
  | tri (d : Int)
def Mv.items : Mv → List V
  | .loop k => [.str "loop", .int k]
  | .loose k => [.str "loose", .int k]
  | .par j k => [.str "parallel", .int j, .int k]
  | .series v => [.str "series", .int v]
  | .star v => [.str "star", .int v]
  | .num => [.str "number"]
  | .tri d => [.str "triangle", .int d]
def MovV (K : PySem.W.Frag) (H : Hp) (v : V) (mv : Mv) : Prop := ∃ p, v = .ref p ∧ SqT K H p mv.items
theorem MovV.same {K : PySem.W.Frag} {H H' : Hp} {v : V} {mv : Mv} (h : MovV K H v mv) (e : Same H H') : MovV K H' v mv := let ⟨p, a, b⟩ := h; ⟨p, a, Same.sqt e b⟩
/-- the numbers of a move are not great -/
def Mv.small : Mv → Prop
  | .loop k => k.natAbs < 2 ^ 60
  | .loose k => k.natAbs < 2 ^ 60
  | .par j k => j.natAbs < 2 ^ 60 ∧ k.natAbs < 2 ^ 60
  | .series v => v.natAbs < 2 ^ 60
  | .star v => v.natAbs < 2 ^ 60
  | .num => True
  | .tri d => d.natAbs < 2 ^ 60
def MovL (K : PySem.W.Frag) (H : Hp) (us : List V) : Prop := ∀ (i : Nat) v, us[i]? = some v → ∃ mv, MovV K H v mv ∧ mv.small
theorem MovL.same {K : PySem.W.Frag} {H H' : Hp} {us : List V} (h : MovL K H us) (e : Same H H') : MovL K H' us := fun i v z => let ⟨mv, a, b⟩ := h i v z; ⟨mv, a.same e, b⟩
theorem MovL.nil {K : PySem.W.Frag} {H : Hp} : MovL K H [] := fun i v z => by simp at z
theorem MovL.app {K : PySem.W.Frag} {H : Hp} {us ws : List V} (h : MovL K H us) (k : MovL K H ws) : MovL K H (us ++ ws) := fun i v z => by
  by_cases hi : i < us.length
  · rw [List.getElem?_append_left hi] at z
    exact h i v z
  · rw [List.getElem?_append_right (by omega)] at z
    exact k _ v z
theorem MovL.one {K : PySem.W.Frag} {H : Hp} {v : V} {mv : Mv} (h : MovV K H v mv) (hs : mv.small) : MovL K H [v] := fun i w z => by
  cases i with
  | zero =>
    cases z
    exact ⟨mv, h, hs⟩
  | succ i => simp at z
theorem MovL.upd {K : PySem.W.Frag} {H : Hp} {us : List V} {S : Addr} {ys : List V} {o : HO} (h : MovL K H us) (e : H S = some (.lst ys)) : MovL K (upd H S o) us := fun i v z => by
  obtain ⟨mv, ⟨p, a, b⟩, c⟩ := h i v z
  exact ⟨mv, ⟨p, a, Kp.sqt Kp.upd e b⟩, c⟩
def spMoves (K : PySem.W.Frag) : Sp := fun vs H Q _ => ∃ (v : V) (rim : Nat) (rows : Rows) (qs : List Rat), vs = [v] ∧ NetV K H v rim rows qs ∧ qs.length ≤ 100 ∧ rows.length ≤ 1000 ∧ ∀ p us H', Same H H' → H' p = some (.lst us) → us.length ≤ 900000 → MovL K H' us → Q (.ref p) H'
theorem Eqv.net {K : PySem.W.Frag} {H : Hp} {n : Nat} {x y : V} {rim : Nat} {rows : Rows} {qs : List Rat} (h : NetV K H x rim rows qs) (k : NetV K H y rim rows qs) (h1 : rows.length < 1000000) (h2 : ∀ row ∈ rows, row.length < 1000000) (h3 : qs.length < 1000000) : Eqv K H (n + 4) x y := by
  obtain ⟨p, t, m, ts, as, rfl, hN⟩ := h
  obtain ⟨p', t', m', ts', as', rfl, hN'⟩ := k
  refine .tup hN.top hN'.top rfl (by show 3 < 1000000; decide) fun i x y e1 e2 => ?_
  match i, e1, e2 with
  | 0, e1, e2 =>
    cases e1
    cases e2
    exact .sc rfl
  | 1, e1, e2 =>
    cases e1
    cases e2
    refine .tup hN.turns hN'.turns (by rw [List.length_map, List.length_map, hN.len, hN'.len]) (by rw [List.length_map, hN'.len]; exact h1) fun j a b a1 b1 => ?_
    obtain ⟨r, rfl, hr, hs⟩ := hN.tns.get a1
    obtain ⟨r', rfl, hr', hs'⟩ := hN'.tns.get b1
    exact Eqv.ints hs hs' (h2 _ (List.mem_of_getElem? hr))
  | 2, e1, e2 =>
    cases e1
    cases e2
    refine .tup hN.ams hN'.ams (by rw [hN.rats.len, hN'.rats.len]) (by rw [hN'.rats.len]; exact h3) fun j a b a1 b1 => ?_
    have hj : j < qs.length := by
      rw [← hN.rats.len]
      exact (List.getElem?_eq_some_iff.mp a1).1
    exact Eqv.rat (n := n) (hN.rats.at_ j a _ a1 (List.getElem?_eq_getElem hj)) (hN'.rats.at_ j b _ b1 (List.getElem?_eq_getElem hj))
  | i + 3, e1, e2 => simp at e1
/-- a move of a drawing, by F: a net, or an error of class C -/
def spApply (K : PySem.W.Frag) (C : Addr) (F : Nat → Rows → List Rat → Mv → Option (Rows × List Rat)) (S : Mv → Prop) (Emax : Nat) : Sp := fun vs H Q E => ∃ (v u : V) (rim : Nat) (rows : Rows) (qs : List Rat) (En : Nat) (mv : Mv), vs = [v, u] ∧ NetV K H v rim rows qs ∧ MovV K H u mv ∧ S mv ∧ 1 ≤ rim ∧ rim ≤ 7 ∧ Built rim En rows ∧ qs.length = En ∧ En ≤ Emax ∧ (∀ q ∈ qs, 0 < q ∧ Bd 5 q) ∧
  (F rim rows qs mv = none → ∀ H', Same H H' → E (.ref C) none H') ∧ ∀ r, F rim rows qs mv = some r → ∀ v' H', Same H H' → NetV K H' v' rim r.1 r.2 → Q v' H'
def spTolds (K : PySem.W.Frag) (C : Addr) (spF : Sp) : Sp := fun vs H Q _ => ∃ x y, vs = [x, y] ∧ spF [x, y] H (fun v H' => ∀ p, H' p = none → Q (.ref p) (upd H' p (.tup [.str "told", v])))
  (fun cls d H' => cls = .ref C ∧ d = none ∧ ∀ p, H' p = none → Q (.ref p) (upd H' p (.tup [.str "refused"])))
theorem mono_apply {K : PySem.W.Frag} {C : Addr} {F : Nat → Rows → List Rat → Mv → Option (Rows × List Rat)} {S : Mv → Prop} {Em : Nat} : ∀ vs H Q Q' E E', (∀ v H, Q v H → Q' v H) → (∀ c d H, E c d H → E' c d H) → spApply K C F S Em vs H Q E → spApply K C F S Em vs H Q' E' := by
  rintro vs H Q Q' E E' hQ hE ⟨v, u, rim, rows, qs, En, mv, a1, a2, a3, a4, a5, a6, a7, a8, a9, a10, a11, a12⟩
  exact ⟨v, u, rim, rows, qs, En, mv, a1, a2, a3, a4, a5, a6, a7, a8, a9, a10, fun z H' sm => hE _ _ _ (a11 z H' sm), fun r z v' H' sm hv => hQ _ _ (a12 r z v' H' sm hv)⟩
def afterM (rim : Nat) (rows : Rows) (qs : List Rat) : Mv → Option (Rows × List Rat)
  | .loop k => loopM rows qs k
  | .loose k => looseM rows rim qs k
  | _ => none
def isLL (mv : Mv) : Prop := (∃ k, mv = .loop k) ∨ ∃ k, mv = .loose k
def spAfter (K : PySem.W.Frag) (F : Nat → Rows → List Rat → Mv → Option (Rows × List Rat)) (S : Mv → Prop) : Sp := fun vs H Q _ => ∃ (v u : V) (rim : Nat) (rows : Rows) (qs : List Rat) (En : Nat) (mv : Mv), vs = [v, u] ∧ NetV K H v rim rows qs ∧ MovV K H u mv ∧ S mv ∧ WF rows En ∧ qs.length = En ∧ En ≤ 100 ∧ rows.length ≤ 1000 ∧ rim ≤ rows.length ∧
  ∀ v' H', Same H H' → ResV K H' v' rim (F rim rows qs mv) → Q v' H'
theorem g_callSD {sp : Sp} {dvs : List V} {E : L2.St → XK} {tas : TA} {σ : L2.St} {H : Hp} {Q : VK} (h : tas σ H fun vs H1 => sp (vs ++ dvs) H1 Q (E σ)) : tCallSD sp dvs E tas σ H Q := h
end Rz

namespace Rz
open PySem PySem.Spec PyProof.Rows L2

/-! ### what stays while the law's state is written -/
theorem st_sql {K : PySem.W.Frag} {H H' : Hp} {S c p : Addr} {xs : List V} (h : SqL K H p xs) (hS : StAt H S c) (k : Kp S H H') (hx : ∀ i h n : Int, xs ≠ [.ref c, .int i, .int h, .int n]) : SqL K H' p xs := by
  obtain ⟨_, i, hh, n, cs, e1, _⟩ := hS
  rcases h with (h | ⟨u, h⟩) | h
  · refine .inl (.inl (k p _ (fun z => ?_) h))
    rw [z, e1] at h
    cases h
    exact hx i hh n rfl
  · refine .inl (.inr ⟨u, k p _ (fun z => ?_) h⟩)
    rw [z, e1] at h
    cases h
  · exact .inr h
theorem rats_no {K : PySem.W.Frag} {H : Hp} {c : Addr} {xs : List V} {row : Row} (b : Rats K H xs row) (i h n : Int) : xs ≠ [.ref c, .int i, .int h, .int n] := fun z => by
  subst z
  have hl := b.len
  have h1 : 1 < row.length := by
    rw [← hl]
    show 1 < 4
    decide
  obtain ⟨_, e, _⟩ := b.at_ 1 (.int i) _ rfl (List.getElem?_eq_getElem h1)
  cases e
theorem RowV.st {K : PySem.W.Frag} {H H' : Hp} {S c : Addr} {v : V} {row : Row} (h : RowV K H v row) (hS : StAt H S c) (k : Kp S H H') : RowV K H' v row := by
  obtain ⟨p, xs, rfl, a, b⟩ := h
  obtain ⟨ys, hy⟩ := hS.lst
  exact ⟨p, xs, rfl, st_sql a hS k (rats_no b), b.kp k hy⟩
theorem RowP.st {K : PySem.W.Frag} {H H' : Hp} {S c p : Addr} {v : V} {row : Row} (h : RowP K H p v row) (hS : StAt H S c) (k : Kp S H H') : RowP K H' p v row := by
  obtain ⟨q, xs, rfl, a, b, d⟩ := h
  obtain ⟨ys, hy⟩ := hS.lst
  exact ⟨q, xs, rfl, st_sql a hS k (rats_no b), b.kp k hy, d⟩
theorem MatV.st {K : PySem.W.Frag} {H H' : Hp} {S c : Addr} {v : V} {m : Mat} (h : MatV K H v m) (hS : StAt H S c) (k : Kp S H H') : MatV K H' v m := by
  obtain ⟨p, us, rfl, a, b⟩ := h
  refine ⟨p, us, rfl, st_sql a hS k fun i h n z => ?_, b.len, fun i v e => (b.at_ i v e).st hS k⟩
  subst z
  obtain ⟨_, _, e, _⟩ := b.at_ 1 (.int i) rfl
  cases e

/-! ### matrices compared -/
def rowD (r : Row) : PyData := .list (r.map ratD)
def matD (m : Mat) : PyData := .list (m.map rowD)
theorem dpAll_of {K : PySem.W.Frag} {H : Hp} {α : Type} {f : α → PyData} : ∀ {us : List V} {l : List α}, us.length = l.length → (∀ (i : Nat) v x, us[i]? = some v → l[i]? = some x → Dp K H v (f x)) → DpAll K H us (l.map f)
  | [], [], _, _ => .nil
  | [], _ :: _, h, _ => by simp at h
  | _ :: _, [], h, _ => by simp at h
  | u :: us, x :: l, h, k => .cons (k 0 u x rfl rfl) (dpAll_of (by simpa using h) fun i v y a b => k (i + 1) v y a b)
theorem RowV.dp {K : PySem.W.Frag} {H : Hp} {v : V} {r : Row} (h : RowV K H v r) : Dp K H v (rowD r) := by
  obtain ⟨p, xs, rfl, a, b⟩ := h
  exact .lst a (dpAll_of b.len fun i v x e1 e2 => (b.at_ i v x e1 e2).dp)
theorem MatV.dp {K : PySem.W.Frag} {H : Hp} {v : V} {m : Mat} (h : MatV K H v m) : Dp K H v (matD m) := by
  obtain ⟨p, us, rfl, a, b⟩ := h
  refine .lst a (dpAll_of b.len fun i v x e1 e2 => ?_)
  have := b.at_ i v e1
  rw [show rw' m i = x by unfold rw'; rw [List.getD_eq_getElem?_getD, e2]; rfl] at this
  exact this.dp
theorem eqvAll_self {α : Type} {f : α → PyData} (h : ∀ x, PyData.eqv (f x) (f x) = true) : ∀ l : List α, PyData.eqvAll (l.map f) (l.map f) = true
  | [] => rfl
  | x :: l => by
    show (PyData.eqv (f x) (f x) && PyData.eqvAll (l.map f) (l.map f)) = true
    rw [h x, eqvAll_self h l]
    rfl
theorem lay_map {α : Type} {f : α → PyData} (h : ∀ x, PyData.canLay0 (f x) = true) : ∀ l : List α, PyData.canLayAll0 (l.map f) = true
  | [] => rfl
  | x :: l => by
    show (PyData.canLay0 (f x) && PyData.canLayAll0 (l.map f)) = true
    rw [h x, lay_map h l]
    rfl
theorem depth_map {α : Type} {f : α → PyData} {d : Nat} (h : ∀ x, PyData.depth (f x) ≤ d) : ∀ l : List α, PyData.depthAll (l.map f) ≤ d
  | [] => Nat.zero_le _
  | x :: l => by
    show max (PyData.depth (f x)) (PyData.depthAll (l.map f)) ≤ d
    have := h x
    have := depth_map h l
    omega
theorem rowD_eqv (r : Row) : PyData.eqv (rowD r) (rowD r) = true := eqvAll_self (fun q => by rw [ratD_eqv, decide_eq_true rfl]) r
theorem matD_eqv (m : Mat) : PyData.eqv (matD m) (matD m) = true := eqvAll_self rowD_eqv m
theorem rowD_depth (r : Row) : PyData.depth (rowD r) ≤ 2 := by
  show PyData.depthAll (r.map ratD) + 1 ≤ 2
  have := depth_map (f := ratD) (d := 1) (fun q => Nat.le_refl _) r
  omega
theorem matD_shaped (m : Mat) : SeqAt.shaped (matD m) = true := by
  unfold SeqAt.shaped
  rw [Bool.and_eq_true]
  refine ⟨lay_map (f := rowD) (fun r => lay_map (f := ratD) (fun q => rfl) r) m, decide_eq_true ?_⟩
  show PyData.depthAll (m.map rowD) + 1 ≤ 64
  have := depth_map (f := rowD) (d := 2) rowD_depth m
  omega
theorem g_neMat {K : PySem.W.Frag} {H : Hp} {x y : V} {m : Mat} {Q : VK} (h1 : MatV K H x m) (h2 : MatV K H y m) (k : Q (.bl false) H) : rNeD K x y H Q := ⟨_, _, h1.dp, h2.dp, matD_shaped m, matD_shaped m, by rw [matD_eqv]; exact k⟩

/-! ### sizes of quotients -/
theorem sc_div {a : Int} {b c A : Nat} (hb : 0 < b) (hA : a.natAbs * c ≤ A) : Sc (b * c) A (Rat.divInt a (b : Int)) := by
  refine ⟨a * c, ?_, by rw [Int.natAbs_mul, Int.natAbs_natCast]; exact hA⟩
  have hb0 : (((b : Nat) : Int) : Rat) ≠ 0 := fun z => by
    have := Rat.intCast_eq_zero_iff.mp z
    omega
  rw [Rat.divInt_eq_div, Int.natCast_mul, Rat.intCast_mul, Rat.intCast_mul]
  grind
theorem Sc.up {L B c A : Nat} {q : Rat} (h : Sc L B q) (hA : B * c ≤ A) : Sc (L * c) A q := by
  obtain ⟨z, e, b⟩ := h
  refine ⟨z * c, ?_, ?_⟩
  · rw [Int.natCast_mul, Rat.intCast_mul, Rat.intCast_mul, ← e]
    grind
  · rw [Int.natAbs_mul, Int.natAbs_natCast]
    exact Nat.le_trans (Nat.mul_le_mul_right _ b) hA
/-- the rows a matrix is drawn of: of size at most n -/
structure Drawn (n L B : Nat) (m : Mat) : Prop where
  wide : ∀ k, k < m.length → (rw' m k).length = n
  sc : ∀ k j, k < m.length → j < n → Sc L B (ent (rw' m k) j)
theorem Drawn.nil {n L B : Nat} : Drawn n L B [] := ⟨fun k h => absurd h (Nat.not_lt_zero _), fun k j h => absurd h (Nat.not_lt_zero _)⟩
theorem rw_snoc_lt {m : Mat} {r : Row} {k : Nat} (h : k < m.length) : rw' (m ++ [r]) k = rw' m k := by
  unfold rw'
  rw [List.getD_eq_getElem?_getD, List.getElem?_append_left h, ← List.getD_eq_getElem?_getD]
theorem rw_snoc_eq {m : Mat} {r : Row} {k : Nat} (h : k = m.length) : rw' (m ++ [r]) k = r := by
  unfold rw'
  rw [List.getD_eq_getElem?_getD, List.getElem?_append_right (by omega), h, Nat.sub_self]
  rfl
theorem Drawn.snoc {n L B : Nat} {m : Mat} {r : Row} (h : Drawn n L B m) (hl : r.length = n) (hr : ∀ j, j < n → Sc L B (ent r j)) : Drawn n L B (m ++ [r]) := by
  refine ⟨fun k hk => ?_, fun k j hk hj => ?_⟩
  · rw [List.length_append, List.length_singleton] at hk
    by_cases e : k < m.length
    · rw [rw_snoc_lt e]
      exact h.wide k e
    · rw [rw_snoc_eq (by omega)]
      exact hl
  · rw [List.length_append, List.length_singleton] at hk
    by_cases e : k < m.length
    · rw [rw_snoc_lt e]
      exact h.sc k j e hj
    · rw [rw_snoc_eq (by omega)]
      exact hr j hj
theorem Drawn.set {n L B i : Nat} {m : Mat} {r : Row} (h : Drawn n L B m) (hl : r.length = n) (hr : ∀ j, j < n → Sc L B (ent r j)) : Drawn n L B (m.set i r) := by
  refine ⟨fun k hk => ?_, fun k j hk hj => ?_⟩
  · rw [List.length_set] at hk
    by_cases e : i = k
    · subst e
      rw [rw_set_eq hk]
      exact hl
    · rw [rw_set_ne e]
      exact h.wide k hk
  · rw [List.length_set] at hk
    by_cases e : i = k
    · subst e
      rw [rw_set_eq hk]
      exact hr j hj
    · rw [rw_set_ne e]
      exact h.sc k j hk hj
theorem small_of {n nc : Nat} {m : Mat} (hn : n ≤ 6) (h : ∀ i j, i < n → j < nc → Sc 120 1620 (ent (rw' m i) j)) : Small n nc 120 1620 80 m := by
  refine ⟨h, by decide, by decide, Nat.lt_of_le_of_lt (Nat.pow_le_pow_right (by decide) hn) (by decide), ?_⟩
  exact Nat.lt_of_le_of_lt (Nat.mul_le_mul (fct_mono hn) (Nat.pow_le_pow_right (by decide) hn)) (by decide)
theorem draw_sc {a : Int} {b : Int} (ha : -9 ≤ a ∧ a ≤ 9) (hb : 1 ≤ b ∧ b ≤ 5) : Sc 60 540 (Rat.divInt a b) := by
  have hb2 : b = 1 ∨ b = 2 ∨ b = 3 ∨ b = 4 ∨ b = 5 := by omega
  have h9 : a.natAbs ≤ 9 := by omega
  rcases hb2 with rfl | rfl | rfl | rfl | rfl
  · exact sc_div (b := 1) (c := 60) (by decide) (by omega)
  · exact sc_div (b := 2) (c := 30) (by decide) (by omega)
  · exact sc_div (b := 3) (c := 20) (by decide) (by omega)
  · exact sc_div (b := 4) (c := 15) (by decide) (by omega)
  · exact sc_div (b := 5) (c := 12) (by decide) (by omega)
/-- the rows as they are being drawn, beside the law's state -/
structure BR (K : PySem.W.Frag) (H : Hp) (S c R : Addr) (us : List V) (m : Mat) : Prop where
  st : StAt H S c
  nS : R ≠ S
  nc : R ≠ c
  top : H R = some (.lst us)
  len : us.length = m.length
  at_ : ∀ (i : Nat) v, us[i]? = some v → RowP K H R v (rw' m i)
section
variable {K : PySem.W.Frag} {H H' : Hp} {S c R : Addr} {us : List V} {m : Mat}
theorem BR.same (h : BR K H S c R us m) (e : Same H H') : BR K H' S c R us m := ⟨h.st.same e, h.nS, h.nc, e _ _ h.top, h.len, fun i v z => (h.at_ i v z).same e⟩
theorem BR.pick (h : BR K H S c R us m) (hS : StAt H' S c) (k : Kp S H H') : BR K H' S c R us m := ⟨hS, h.nS, h.nc, k _ _ h.nS h.top, h.len, fun i v z => (h.at_ i v z).st h.st k⟩
theorem BR.v (h : BR K H S c R us m) : MatV K H (.ref R) m := ⟨R, us, rfl, SqL.of h.top, h.len, fun i v z => (h.at_ i v z).v⟩
theorem BR.snoc {v : V} {row : Row} (h : BR K H S c R us m) (hv : RowP K H R v row) : BR K (upd H R (.lst (us ++ [v]))) S c R (us ++ [v]) (m ++ [row]) := by
  refine ⟨h.st.upd h.nS h.nc, h.nS, h.nc, upd_same, by rw [List.length_append, List.length_append, h.len]; rfl, fun i w z => ?_⟩
  rcases at_snoc z with ⟨z1, z2⟩ | ⟨z1, rfl⟩
  · rw [rw_snoc_lt (by rw [← h.len]; exact z1)]
    exact (h.at_ i w z2).upd h.top
  · rw [rw_snoc_eq (by rw [← h.len]; exact z1)]
    exact hv.upd h.top
theorem BR.set {v : V} {row : Row} {i : Nat} (h : BR K H S c R us m) (hi : i < m.length) (hv : RowP K H R v row) : BR K (upd H R (.lst (us.set i v))) S c R (us.set i v) (m.set i row) := by
  refine ⟨h.st.upd h.nS h.nc, h.nS, h.nc, upd_same, by rw [List.length_set, List.length_set, h.len], fun j w z => ?_⟩
  by_cases e : i = j
  · subst e
    rw [List.getElem?_set_self (by rw [h.len]; exact hi)] at z
    cases z
    rw [rw_set_eq hi]
    exact hv.upd h.top
  · rw [List.getElem?_set_ne e] at z
    rw [rw_set_ne e]
    exact (h.at_ j w z).upd h.top
end
theorem ent_take {r : Row} {j k : Nat} (h : j < k) : ent (r.take k) j = ent r j := by
  unfold ent
  rw [List.getD_eq_getElem?_getD, List.getElem?_take, if_pos h, ← List.getD_eq_getElem?_getD]
theorem kp_new {H0 H : Hp} {S p : Addr} {o : HO} (h : Kp S H0 H) (hp : H0 p = none) : Kp S H0 (upd H p o) := fun b x n e => by
  rw [upd_ne (ne_of_none e hp)]
  exact h b x n e
end Rz

set_option maxHeartbeats 4000000
/-! Moves, more: least and greatest of two numbers, sorted lists of two, the move of parallel edges. -/
namespace Rz
open PySem PySem.Spec PyProof.Rows L2
def rMin2n : List V → Hp → VK → Prop := fun xs H Q => ∃ i j, xs = [.int i, .int j] ∧ Q (.int (if j < i then j else i)) H
def rMax2n : List V → Hp → VK → Prop := fun xs H Q => ∃ i j, xs = [.int i, .int j] ∧ Q (.int (if j > i then j else i)) H
section
variable {X : Cx} {K : PySem.W.Frag}
theorem call_min2n (hc : X.calm = true) : CallR X (.builtin "min") rMin2n := call_min2 hc
theorem call_max2n (hc : X.calm = true) : CallR X (.builtin "max") rMax2n := call_max2 hc
theorem call_sortedK (h : X.K = K) : CallR X (.builtin "sorted") (rSorted K) := h ▸ cr_sorted
end
section
variable {K : PySem.W.Frag} {H : Hp} {Q : VK}
theorem g_min2 {i j : Int} (h : Q (.int (if j < i then j else i)) H) : rMin2n [.int i, .int j] H Q := ⟨i, j, rfl, h⟩
theorem g_max2 {i j : Int} (h : Q (.int (if j > i then j else i)) H) : rMax2n [.int i, .int j] H Q := ⟨i, j, rfl, h⟩
def lo2 (a b : Int) : Int := if b < a then b else a
def hi2 (a b : Int) : Int := if b < a then a else b
theorem sorted2 {a b : Int} {xs : List Int} (h : xs.Perm [a, b]) (s : xs.Pairwise (· ≤ ·)) : xs = [lo2 a b, hi2 a b] := by
  match xs, h, s with
  | [], h, _ => exact absurd h.length_eq (by simp)
  | [_], h, _ => exact absurd h.length_eq (by simp)
  | _ :: _ :: _ :: _, h, _ => exact absurd h.length_eq (by simp)
  | [x, y], h, s =>
    have hxy : x ≤ y := by
      cases s with
      | cons h _ => exact h y (List.mem_singleton.mpr rfl)
    have m1 : a = x ∨ a = y := by simpa using h.mem_iff.mpr (show a ∈ [a, b] by simp)
    have m2 : b = x ∨ b = y := by simpa using h.mem_iff.mpr (show b ∈ [a, b] by simp)
    have m3 : x = a ∨ x = b := by simpa using h.mem_iff.mp (show x ∈ [x, y] by simp)
    have m4 : y = a ∨ y = b := by simpa using h.mem_iff.mp (show y ∈ [x, y] by simp)
    unfold lo2 hi2
    have e1 : x = if b < a then b else a := by split <;> omega
    have e2 : y = if b < a then a else b := by split <;> omega
    rw [← e1, ← e2]
theorem g_sorted2 {p : Addr} {a b : Int} (h : SqL K H p [.int a, .int b]) (q : ∀ r, H r = none → Q (.ref r) (upd H r (.lst [.int (lo2 a b), .int (hi2 a b)]))) : rSorted K [.ref p] H Q :=
  ⟨p, [a, b], rfl, h, by show 2 < 64; decide, fun ns r hp hs hr => by
    rw [sorted2 hp hs]
    exact q r hr⟩
theorem pair_eqv (a b c d : Int) : PyData.eqv (.list [.int a, .int b]) (.list [.int c, .int d]) = decide (a = c ∧ b = d) := by
  have e : PyData.eqv (.list [.int a, .int b]) (.list [.int c, .int d]) = ((a == c) && ((b == d) && true)) := rfl
  rw [e, Bool.and_true]
  by_cases h1 : a = c
  · by_cases h2 : b = d
    · rw [decide_eq_true ⟨h1, h2⟩, h1, h2, beq_self_eq_true, beq_self_eq_true]
      rfl
    · rw [decide_eq_false (fun z => h2 z.2), beq_eq_false_iff_ne.mpr h2, Bool.and_false]
  · rw [decide_eq_false (fun z => h1 z.1), beq_eq_false_iff_ne.mpr h1, Bool.false_and]
theorem g_neP2 {p q : Addr} {a b c d : Int} (h : SqL K H p [.int a, .int b]) (h2 : SqL K H q [.int c, .int d]) (k : Q (.bl (!decide (a = c ∧ b = d))) H) : rNeD K (.ref p) (.ref q) H Q :=
  ⟨_, _, .lst h (.cons (.int _) (.cons (.int _) .nil)), .lst h2 (.cons (.int _) (.cons (.int _) .nil)), by rfl, by rfl, by rw [pair_eqv]; exact k⟩
end

/-! ### parallel edges -/
def endA (rows : Rows) (k : Int) : Int := (nodeOf rows (2 * k) : Int)
def endB (rows : Rows) (k : Int) : Int := (nodeOf rows (2 * k + 1) : Int)
def sameEnds (rows : Rows) (j k : Int) : Prop := lo2 (endA rows j) (endB rows j) = lo2 (endA rows k) (endB rows k) ∧ hi2 (endA rows j) (endB rows j) = hi2 (endA rows k) (endB rows k)
instance {rows : Rows} {j k : Int} : Decidable (sameEnds rows j k) := inferInstanceAs (Decidable (_ ∧ _))
def parQ (qs : List Rat) (j k : Nat) : List Rat :=
  let rs := qs.take j ++ [qs.getD j 0 + qs.getD k 0] ++ qs.drop (j + 1)
  rs.take k ++ rs.drop (k + 1)
def parM (rows : Rows) (qs : List Rat) (j k : Int) : Option (Rows × List Rat) :=
  if (0 ≤ j ∧ 0 ≤ k ∧ j < (qs.length : Int) ∧ k < (qs.length : Int) ∧ j ≠ k) ∧ sameEnds rows j k ∧ endA rows j ≠ endB rows j then some (dropE k.toNat rows, parQ qs j.toNat k.toNat) else none
def spAPar (K : PySem.W.Frag) : Sp := fun vs H Q _ => ∃ (v : V) (j k : Int) (rim : Nat) (rows : Rows) (qs : List Rat) (E : Nat), vs = [v, .int j, .int k] ∧ NetV K H v rim rows qs ∧ WF rows E ∧ qs.length = E ∧ E ≤ 100 ∧ rows.length ≤ 1000 ∧ (∀ q ∈ qs, Bd 5 q) ∧
  ∀ v' H', Same H H' → ResV K H' v' rim (parM rows qs j k) → Q v' H'
def afterP (rim : Nat) (rows : Rows) (qs : List Rat) : Mv → Option (Rows × List Rat)
  | .par j k => parM rows qs j k
  | _ => none
def isPar (mv : Mv) : Prop := ∃ j k, mv = .par j k
/-- as spAfter, with amounts of bounded size -/
def spAfter2 (K : PySem.W.Frag) (F : Nat → Rows → List Rat → Mv → Option (Rows × List Rat)) (S : Mv → Prop) : Sp := fun vs H Q _ => ∃ (v u : V) (rim : Nat) (rows : Rows) (qs : List Rat) (En : Nat) (mv : Mv), vs = [v, u] ∧ NetV K H v rim rows qs ∧ MovV K H u mv ∧ S mv ∧ WF rows En ∧ qs.length = En ∧ En ≤ 100 ∧ rows.length ≤ 1000 ∧ rim ≤ rows.length ∧ (∀ q ∈ qs, Bd 5 q) ∧
  ∀ v' H', Same H H' → ResV K H' v' rim (F rim rows qs mv) → Q v' H'
def mvName : Mv → Str
  | .loop _ => "loop"
  | .loose _ => "loose"
  | .par _ _ => "parallel"
  | .series _ => "series"
  | .star _ => "star"
  | .num => "number"
  | .tri _ => "triangle"
theorem mvName_at (mv : Mv) : atI mv.items 0 = some (.str (mvName mv)) := by cases mv <;> rfl
theorem small_dropE {rows : Rows} {e n : Nat} (h : ∀ row ∈ rows, row.length ≤ n) : ∀ row ∈ dropE e rows, row.length ≤ n := fun row hr => by
  obtain ⟨r, h1, rfl⟩ := List.mem_map.mp hr
  refine Nat.le_trans ?_ (h r h1)
  unfold dropD
  rw [List.length_map]
  exact List.length_filter_le ..
end Rz

set_option maxHeartbeats 4000000
/-! sorted(t), t a tuple of numbers. -/
namespace Rz
open PySem PySem.Spec PyProof.Rows L2
section
variable {prog : Program} {w : World} {A : Around} {E : Value → Shared → Prop} {s : Shared}
theorem sorted_tup {a : Addr} {vs : List Value} {ns : List Int} {Q : Value → Shared → Prop} (hl : IsTup s.heap a vs.toArray) (hI : IntsAre vs ns) (h64 : vs.length < 64)
    (h : ∀ (out : Array Value) (ns' : List Int) (h' : Heap) (p : Addr) (e : Nat), IntsAre out.toList ns' → ns'.Perm ns → ns'.Pairwise (· ≤ ·) → (∀ b o, s.heap.get? b = some o → h'.get? b = some o) → s.heap.get? p = none → h'.get? p = some (seqObj "list" out e) → Q (.ref p) { s with heap := h' }) :
    wpAny (model prog w) A (call (.builtin "sorted") [.ref a]) Q E s := by
  obtain ⟨o, ho, hc, n, hd⟩ := hl
  refine Calls.call_function_entry kind_sorted plain_sorted entry_sorted (args_sorted1 _) ?_
  unfold Builtin.«sorted»
  refine wpAny_bind (m := checkCount "sorted" 1 1 _) (wpAny_pure ?_)
  refine wpAny_bind (PySem.wpAny_collect_seq a (.inr rfl) ho hc hd (fun h1 k1 => ?_) (by have := sizeLine_eq; rw [List.size_toArray]; omega))
  have hsz : s.heap.get? h1.objs.size = none := by
    cases z : s.heap.get? h1.objs.size with
    | none => rfl
    | some o => exact absurd (Heap.lt_size (k1 _ _ z)) (Nat.lt_irrefl _)
  refine wpAny_bind (wpAny_newList ?_ (by have := sizeLine_eq; show vs.toArray.toList.length ≤ _; rw [List.toList_toArray]; omega))
  have hoL : (h1.push (seqObj "list" vs.toArray 0)).get? h1.objs.size = some (seqObj "list" vs.toArray 0) := Heap.get?_push_size _ rfl
  refine wpAny_bind (wpAny_holding (wpAny_call_entry slot_list_sort ⟨_, hoL, rfl⟩ entry_list_sort (list_sort_tree (s := { s with heap := h1.push (seqObj "list" vs.toArray 0) }) hoL hI h64 fun out ns' a1 a2 a3 => ⟨_, rfl, ?_⟩) (args_list_sort _)))
  obtain ⟨e, he⟩ := sortedHeap_at (vs := vs) (out := out) hoL
  refine wpAny_pure ⟨_, rfl, h out ns' _ _ e a1 a2 a3 (fun b o hb => ?_) hsz he⟩
  have hb1 := k1 b o hb
  have hlt := Heap.lt_size hb1
  rw [sortedHeap_old (Nat.ne_of_lt hlt) (by rw [size_push']; exact Nat.lt_succ_of_lt hlt)]
  exact Heap.get?_push_of_some _ hb1
end
def rSortedT (K : PySem.W.Frag) : List V → Hp → VK → Prop := fun vs H Q => ∃ (a : Addr) (ns : List Int), vs = [V.ref a] ∧ SqT K H a (ns.map V.int) ∧ ns.length < 64 ∧
  ∀ (ns' : List Int) (p : Addr), ns'.Perm ns → ns'.Pairwise (· ≤ ·) → H p = none → Q (.ref p) (upd H p (.lst (ns'.map V.int)))
section
variable {X : Cx} {K : PySem.W.Frag}
theorem cr_sortedT : CallR X (.builtin "sorted") (rSortedT X.K) := by
  intro pins s σ H vs us Q I r h
  obtain ⟨a, ns, rfl, hs, h64, q⟩ := h
  obtain ⟨its, rv, hl, _⟩ := I.tuple hs
  rw [Vals.ref1 r]
  have hi := rv.ints
  refine sorted_tup hl hi (by rw [hi.length]; exact h64) fun out ns' h' p e h1 h2 h3 k hp he => ?_
  have hlen : (ns'.map V.int).length ≤ sizeLine := by rw [List.length_map, h2.length_eq]; exact small64 h64
  exact ⟨.ref p, upd H p (.lst (ns'.map V.int)), I.laidN (t' := s.toks) k hp (I.hok.gone hp) ⟨hlen, out.toList, e, vals_of_ints h1, he⟩, rfl, q ns' p h2 h3 (I.hok.gone hp)⟩
theorem call_sortedTK (h : X.K = K) : CallR X (.builtin "sorted") (rSortedT K) := h ▸ cr_sortedT
end
theorem g_sorted2T {K : PySem.W.Frag} {H : Hp} {Q : VK} {p : Addr} {a b : Int} (h : SqT K H p [.int a, .int b]) (q : ∀ r, H r = none → Q (.ref r) (upd H r (.lst [.int (lo2 a b), .int (hi2 a b)]))) : rSortedT K [.ref p] H Q :=
  ⟨p, [a, b], rfl, h, by show 2 < 64; decide, fun ns r hp hs hr => by
    rw [sorted2 hp hs]
    exact q r hr⟩
section
variable {K : PySem.W.Frag} {H : Hp} {Q : VK} {σ : L2.St} {vs : List Nat} {te : TE} {tt : TT}
theorem lc_rngIf {j : Int} {i₀ : Nat} (n : Nat) (e : j = (n : Int)) (hb : n < 1000000) (Pv : Addr → Nat → List V → Hp → Prop) (hw : ∀ x, wipe ((wipe σ vs).set i₀ (some x)) vs = wipe σ vs)
    (h0 : ∀ p, H p = none → Pv p 0 [] (upd H p (.lst [])))
    (hs : ∀ p (i : Nat) acc H', H p = none → i < n → Pv p i acc H' → tt ((wipe σ vs).set i₀ (some (.int (i : Int)))) H' fun b H3 => if b = true then te ((wipe σ vs).set i₀ (some (.int (i : Int)))) H3 (lcN (Pv p) p i) else ∃ acc2, Pv p (i + 1) acc2 H3)
    (hd : ∀ p acc H', H p = none → Pv p n acc H' → Q (.ref p) H') : rRng1 (lcW (gName i₀) tt te vs σ Q) [.int j] H := by
  subst e
  refine ⟨(n : Int), rfl, by omega, by omega, fun p hp => ?_⟩
  rw [Int.toNat_natCast]
  refine lc_range (lo := 0) (n := n) (fun i H' => ∃ acc, Pv p i acc H') ⟨[], h0 p hp⟩ (fun i H' hi ⟨acc, q⟩ => ?_) (fun H' ⟨acc, q⟩ => hd p acc H' hp q)
  rw [show (0 : Int) + (i : Int) = (i : Int) by omega]
  exact ⟨hw _, hs p i acc H' hp hi q⟩
end
/-- a dart stands in the turn of its node only -/
theorem in_row {rows : Rows} (nd : rows.flatten.Nodup) {d : Int} {k : Nat} {row : List Int} (h1 : rows[k]? = some row) (hd : d ∈ rows.flatten) : d ∈ row ↔ k = nodeOf rows d := by
  constructor
  · intro hm
    obtain ⟨i, hi, e⟩ := List.getElem_of_mem hm
    have := at_of nd h1 (show row[i]? = some d by rw [List.getElem?_eq_getElem hi, e])
    unfold nodeOf
    rw [this]
  · intro e
    obtain ⟨row2, e1, e2⟩ := at_spec hd
    have e1 : rows[nodeOf rows d]? = some row2 := e1
    rw [← e, h1] at e1
    cases e1
    exact List.mem_of_getElem? e2
/-- [tuple(x) for x in L], L a list of lists of numbers -/
theorem tups_lc {K : PySem.W.Frag} {σ : L2.St} {H : Hp} {vs : List Nat} {i₀ : Nat} {Q : VK} {L : Addr} {rs : List Addr} {rows : Rows} (hR : RowsAt H L rs rows) (hb : rows.length ≤ 1000) (hw : ∀ x, wipe ((wipe σ vs).set i₀ (some x)) vs = wipe σ vs) (hi : ∀ x, ((wipe σ vs).set i₀ (some x))[i₀]? = some (some x))
    (q : ∀ p ts H', Same H H' → H' p = some (.lst (ts.map V.ref)) → TsL K H' ts rows → Q (.ref p) H') : rItL K (lcW (gName i₀) tYes (tCB (rTupleOf K) (tCons (tVar i₀) tNil)) vs σ Q) (.ref L) H := by
  refine g_lcLst (SqL.of hR.top) (fun p i acc H' => Same H H' ∧ H' p = some (.lst acc) ∧ ∃ ts : List Addr, ts.length = i ∧ acc = ts.map V.ref ∧ ∀ (j : Nat) r row, ts[j]? = some r → rows[j]? = some row → SqT K H' r (row.map V.int)) hw
    (fun p hp => ⟨up_same hp, upd_same, [], rfl, rfl, fun j r row a => by simp at a⟩) (fun p i acc H' _ h => h.1.seq (SqL.of hR.top)) ?_ ?_
  · rintro p i x acc H1 hp hx ⟨sm, ep, ts, hl, rfl, ht⟩
    rw [List.getElem?_map] at hx
    cases hri : rs[i]? with
    | none =>
      rw [hri] at hx
      cases hx
    | some r =>
      rw [hri] at hx
      cases hx
      have hlt : i < rows.length := by
        rw [← hR.len]
        exact (List.getElem?_eq_some_iff.mp hri).1
      have hrow := sm _ _ (hR.at_ i r _ hri (List.getElem?_eq_getElem hlt))
      refine g_cb (g_cons (g_var (hi _) (g_nil (g_tupleL (SqL.of hrow) fun z hz => ?_))))
      have e5' := (up_same (o := .tup (rows[i].map V.int)) hz) _ _ ep
      refine lcN_of e5' (by rw [List.length_map]; omega) ⟨fun b o h => ?_, upd_same, ts ++ [z], ?_, ?_, fun j r' row a b => ?_⟩
      · rw [upd_ne (ne_of_none h hp)]
        exact (up_same hz) _ _ (sm _ _ h)
      · rw [List.length_append, hl]
        rfl
      · rw [List.map_append]
        rfl
      · refine Kp.sqt Kp.upd e5' ?_
        rcases at_snoc a with ⟨h1, h2⟩ | ⟨h1, rfl⟩
        · exact Same.sqt (up_same hz) (ht j r' row h2 b)
        · rw [h1, hl, List.getElem?_eq_getElem hlt] at b
          cases b
          exact SqT.of upd_same
  · rintro p acc H1 hp ⟨sm, ep, ts, hl, rfl, ht⟩
    exact q p ts H1 sm ep ⟨by rw [hl, List.length_map, hR.len], ht⟩
/-- a row in the place of a dart of a turn -/
def swapR (row : List Int) (d : Int) (ns : List Int) : List Int := row.take (row.idxOf d) ++ ns ++ row.drop (row.idxOf d + 1)
def spSwap (K : PySem.W.Frag) : Sp := fun vs H Q _ => ∃ (L : Addr) (n : Nat) (d : Int) (q : Addr) (rs : List Addr) (rows : Rows) (row ns : List Int), vs = [.ref L, .int (n : Int), .int d, .ref q] ∧ RowsAt H L rs rows ∧ rows[n]? = some row ∧ d ∈ row ∧ H q = some (.lst (ns.map V.int)) ∧ Few rows ∧ ns.length ≤ 1000 ∧
  ∀ (r : Addr) H', Kp L H H' → H r = none → RowsAt H' L (rs.set n r) (rows.set n (swapR row d ns)) → Q .non H'
/-- two edges in series at a node become one -/
def serRows (rows : Rows) (n : Nat) (lo hi : Int) : Rows := (rows.set (nodeOf rows (twin hi)) (swapR (rows.getD (nodeOf rows (twin hi)) []) (twin hi) [lo])).set n []
def serM (rim : Nat) (rows : Rows) (qs : List Rat) (v : Int) : Option (Rows × List Rat) :=
  if (rim : Int) < v ∧ v ≤ (rows.length : Int) ∧ (rows.getD (v - 1).toNat []).length = 2 then
    let row := rows.getD (v - 1).toNat []
    let lo := lo2 (row.getD 0 0) (row.getD 1 0)
    let hi := hi2 (row.getD 0 0) (row.getD 1 0)
    if lo / 2 = hi / 2 then none else
      let a := qs.getD (lo / 2).toNat 0
      let b := qs.getD (hi / 2).toNat 0
      let rows2 := dropE (hi / 2).toNat (serRows rows (v - 1).toNat lo hi)
      let q2 := qs.take (lo / 2).toNat ++ [a * b / (a + b)] ++ qs.drop ((lo / 2).toNat + 1)
      some (rows2.take (v - 1).toNat ++ rows2.drop ((v - 1).toNat + 1), q2.take (hi / 2).toNat ++ q2.drop ((hi / 2).toNat + 1))
  else none
def spASer (K : PySem.W.Frag) : Sp := fun vs H Q _ => ∃ (v : V) (n : Int) (rim : Nat) (rows : Rows) (qs : List Rat) (E : Nat), vs = [v, .int n] ∧ NetV K H v rim rows qs ∧ WF rows E ∧ qs.length = E ∧ E ≤ 100 ∧ rows.length ≤ 1000 ∧ 1 ≤ rim ∧ rim ≤ rows.length ∧ (∀ q ∈ qs, 0 < q ∧ Bd 5 q) ∧
  ∀ v' H', Same H H' → ResV K H' v' rim (serM rim rows qs n) → Q v' H'
def afterS (rim : Nat) (rows : Rows) (qs : List Rat) : Mv → Option (Rows × List Rat)
  | .series v => serM rim rows qs v
  | _ => none
def isSer (mv : Mv) : Prop := ∃ v, mv = .series v
/-- as spAfter, with amounts above 0 of bounded size -/
def spAfter3 (K : PySem.W.Frag) (F : Nat → Rows → List Rat → Mv → Option (Rows × List Rat)) (S : Mv → Prop) : Sp := fun vs H Q _ => ∃ (v u : V) (rim : Nat) (rows : Rows) (qs : List Rat) (En : Nat) (mv : Mv), vs = [v, u] ∧ NetV K H v rim rows qs ∧ MovV K H u mv ∧ S mv ∧ WF rows En ∧ qs.length = En ∧ En ≤ 100 ∧ rows.length ≤ 1000 ∧ rim ≤ rows.length ∧ 1 ≤ rim ∧ (∀ q ∈ qs, 0 < q ∧ Bd 5 q) ∧
  ∀ v' H', Same H H' → ResV K H' v' rim (F rim rows qs mv) → Q v' H'
theorem serRows_small {rows : Rows} {i n : Nat} {lo hi : Int} (h : ∀ row ∈ rows, row.length ≤ n) : ∀ row ∈ serRows rows i lo hi, row.length ≤ 2 * n + 1 := fun row hr => by
  unfold serRows at hr
  rcases List.mem_or_eq_of_mem_set hr with h1 | h1
  · rcases List.mem_or_eq_of_mem_set h1 with h2 | h2
    · have := h row h2; omega
    · rw [h2]
      have hg : (rows.getD (nodeOf rows (twin hi)) []).length ≤ n := by
        rw [List.getD_eq_getElem?_getD]
        cases e : rows[nodeOf rows (twin hi)]? with
        | none => exact Nat.zero_le _
        | some r => exact h r (List.mem_of_getElem? e)
      unfold swapR
      simp only [List.length_append, List.length_take, List.length_drop, List.length_cons, List.length_nil]
      omega
  · rw [h1]; exact Nat.zero_le _
theorem afterS_small {rim n : Nat} {rows : Rows} {qs : List Rat} {mv : Mv} {r : Rows × List Rat} (h : afterS rim rows qs mv = some r) (hn : ∀ row ∈ rows, row.length ≤ n) : r.1.length ≤ rows.length ∧ (∀ row ∈ r.1, row.length ≤ 2 * n + 1) ∧ r.2.length ≤ qs.length + 1 := by
  cases mv with
  | series v =>
    simp only [afterS, serM] at h
    split at h
    · split at h
      · cases h
      · cases h
        refine ⟨?_, fun row hr => ?_, ?_⟩
        · simp only [List.length_append, List.length_take, List.length_drop, dropE, serRows, List.length_map, List.length_set]
          omega
        · rcases List.mem_append.mp hr with h | h
          · exact small_dropE (serRows_small hn) row (List.mem_of_mem_take h)
          · exact small_dropE (serRows_small hn) row (List.mem_of_mem_drop h)
        · simp only [List.length_append, List.length_take, List.length_drop, List.length_cons, List.length_nil]
          omega
    · cases h
  | par => cases h
  | loop => cases h
  | loose => cases h
  | star => cases h
  | num => cases h
  | tri => cases h
end Rz

set_option maxHeartbeats 4000000
/-! No edge of a drawing stands alone between two inner nodes; each inner node has darts. -/
namespace Rz
open PySem PySem.Spec PyProof.Rows L2

def Full (rim : Nat) (rows : Rows) : Prop := ∀ (m : Nat) row, rim ≤ m → rows[m]? = some row → row ≠ []
def Lone (rim : Nat) (rows : Rows) : Prop := ∀ (m n : Nat) (d : Int), rim ≤ m → rim ≤ n → rows[m]? = some [d] → rows[n]? = some [twin d] → False
theorem ins_len (p : Nat) (x : Int) (row : List Int) : (ins p x row).length = row.length + 1 := by
  rw [(ins_perm p x row).length_eq]
  rfl
theorem modRow_at {rows : Rows} {n m : Nat} {f : List Int → List Int} {row : List Int} (h : (modRow rows n f)[m]? = some row) : (m = n ∧ ∃ r, rows[m]? = some r ∧ row = f r) ∨ rows[m]? = some row := by
  unfold modRow at h
  by_cases e : n = m
  · subst e
    have hl : n < rows.length := by
      have := (List.getElem?_eq_some_iff.mp h).1
      rw [List.length_set] at this
      exact this
    rw [List.getElem?_set_self hl] at h
    refine .inl ⟨rfl, rows[n], List.getElem?_eq_getElem hl, ?_⟩
    rw [List.getD_eq_getElem?_getD, List.getElem?_eq_getElem hl, Option.getD_some] at h
    exact (Option.some.inj h).symm
  · rw [List.getElem?_set_ne e] at h
    exact .inr h
theorem ins_one {rows : Rows} {n m p : Nat} {x d : Int} (h : (modRow rows n (ins p x))[m]? = some [d]) : rows[m]? = some [d] ∨ rows[m]? = some [] := by
  rcases modRow_at h with ⟨rfl, r, hr, e⟩ | h
  · have := congrArg List.length e
    rw [ins_len] at this
    cases r with
    | nil => exact .inr hr
    | cons a b => simp at this
  · exact .inl h
theorem ins_nil {rows : Rows} {n m p : Nat} {x : Int} (h : (modRow rows n (ins p x))[m]? = some []) : rows[m]? = some [] := by
  rcases modRow_at h with ⟨rfl, r, hr, e⟩ | h
  · have := congrArg List.length e
    rw [ins_len] at this
    simp at this
  · exact h
theorem Full.insd {rim : Nat} {rows : Rows} {n p : Nat} {x : Int} (h : Full rim rows) : Full rim (modRow rows n (ins p x)) := fun m row hm hr e => by
  subst e
  exact h m [] hm (ins_nil hr) rfl
theorem Full.one {rim : Nat} {rows : Rows} {n m p : Nat} {x d : Int} (h : Full rim rows) (hm : rim ≤ m) (hr : (modRow rows n (ins p x))[m]? = some [d]) : rows[m]? = some [d] := by
  rcases ins_one hr with z | z
  · exact z
  · exact absurd rfl (h m [] hm z)
theorem lone_of {rim E : Nat} {rows rows' : Rows} (hW : WF rows E) (h : Lone rim rows) (h1 : ∀ (m : Nat) d, rim ≤ m → rows'[m]? = some [d] → rows[m]? = some [d] ∨ d = 2 * (E : Int) ∨ d = 2 * (E : Int) + 1)
    (h2 : ∀ m n : Nat, rim ≤ m → rim ≤ n → rows'[m]? = some [2 * (E : Int)] → rows'[n]? = some [2 * (E : Int) + 1] → False) : Lone rim rows' := fun m n d hm hn a b => by
  have old : ∀ {k : Nat} {x : Int}, rows[k]? = some [x] → 0 ≤ x ∧ x < 2 * (E : Int) := fun {k x} z => (hW.mem x).mp (mem_flat.mpr ⟨k, _, z, List.mem_singleton.mpr rfl⟩)
  rcases h1 m d hm a with x | x
  · rcases h1 n (twin d) hn b with y | y
    · exact h m n d hm hn x y
    · have := twin_range (old x)
      omega
  · rcases x with rfl | rfl
    · have e : twin (2 * (E : Int)) = 2 * (E : Int) + 1 := by unfold twin; omega
      rw [e] at b
      exact h2 m n hm hn a b
    · have e : twin (2 * (E : Int) + 1) = 2 * (E : Int) := by unfold twin; omega
      rw [e] at b
      exact h2 n m hn hm b a
theorem Grow.full {rim E : Nat} {rows rows' : Rows} (g : Grow rim E rows rows') (hW : WF rows E) (hrim : rim ≤ rows.length) (h0 : 0 < rim) (hF : Full rim rows) (hL : Lone rim rows) : Full rim rows' ∧ Lone rim rows' := by
  have new : ∀ {k : Nat} {x : Int} {row : List Int}, rows[k]? = some row → x ∈ row → 0 ≤ x ∧ x < 2 * (E : Int) := fun {k x row} z hx => (hW.mem x).mp (mem_flat.mpr ⟨k, _, z, hx⟩)
  have two : ∀ {n1 p1 n2 p2 : Nat} {x y : Int}, Full rim (modRow (modRow rows n1 (ins p1 x)) n2 (ins p2 y)) ∧ Lone rim (modRow (modRow rows n1 (ins p1 x)) n2 (ins p2 y)) := fun {n1 p1 n2 p2 x y} => by
    refine ⟨hF.insd.insd, fun m n d hm hn a b => ?_⟩
    exact hL m n d hm hn (hF.one hm (hF.insd.one hm a)) (hF.one hn (hF.insd.one hn b))
  cases g with
  | rimEdge n o j hn ho hs =>
    have ho2 : o < rim := by rw [ho]; exact Nat.mod_lt _ h0
    have key : ∀ (m : Nat) row, rim ≤ m → (modRow (modRow rows n (ins 0 (2 * (E : Int)))) o (fun row => row ++ [2 * (E : Int) + 1]))[m]? = some row → rows[m]? = some row := fun m row hm h => by
      rcases modRow_at h with ⟨e, _⟩ | h
      · omega
      · rcases modRow_at h with ⟨e, _⟩ | h
        · omega
        · exact h
    exact ⟨fun m row hm h => hF m row hm (key m row hm h), fun m k d hm hk a b => hL m k d hm hk (key m _ hm a) (key k _ hk b)⟩
  | before n hn =>
    have key : ∀ (m : Nat) row, rim ≤ m → ((rows ++ [rows.getD n [] ++ [2 * (E : Int) + 1]]).set n [2 * (E : Int)])[m]? = some row → rows[m]? = some row ∨ row = rows.getD n [] ++ [2 * (E : Int) + 1] := fun m row hm h => by
      rw [List.getElem?_set_ne (by omega)] at h
      rcases at_snoc h with ⟨_, h⟩ | ⟨_, h⟩
      · exact .inl h
      · exact .inr h
    refine ⟨fun m row hm h => ?_, lone_of hW hL (fun m d hm h => ?_) fun m k hm hk a b => ?_⟩
    · rcases key m row hm h with z | z
      · exact hF m row hm z
      · rw [z]; simp
    · rcases key m _ hm h with z | z
      · exact .inl z
      · have e := congrArg List.getLast? z
        rw [List.getLast?_append] at e
        simp at e
        exact .inr (.inr e)
    · rcases key m _ hm a with z | z
      · have := new z (List.mem_singleton.mpr rfl)
        omega
      · have e := congrArg List.getLast? z
        rw [List.getLast?_append] at e
        simp at e
        omega
  | within e he =>
    have hd : (2 * (e : Int) + 1) ∈ rows.flatten := (hW.mem _).mpr (by omega)
    obtain ⟨row0, hr1, hr2⟩ := at_spec hd
    have hl := (List.getElem?_eq_some_iff.mp hr1).1
    have hg : rows.getD (atM rows (2 * (e : Int) + 1)).1 [] = row0 := row_of hr1
    have key : ∀ (m : Nat) row, ((rows ++ [[2 * (e : Int) + 1, 2 * (E : Int)]]).set (atM rows (2 * (e : Int) + 1)).1 ((rows.getD (atM rows (2 * (e : Int) + 1)).1 []).set (atM rows (2 * (e : Int) + 1)).2 (2 * (E : Int) + 1)))[m]? = some row →
        rows[m]? = some row ∨ row = [2 * (e : Int) + 1, 2 * (E : Int)] ∨ (m = (atM rows (2 * (e : Int) + 1)).1 ∧ row = row0.set (atM rows (2 * (e : Int) + 1)).2 (2 * (E : Int) + 1)) := fun m row h => by
      rw [hg] at h
      by_cases z : (atM rows (2 * (e : Int) + 1)).1 = m
      · rw [z, List.getElem?_set_self (by rw [List.length_append]; omega)] at h
        exact .inr (.inr ⟨z.symm, (Option.some.inj h).symm⟩)
      · rw [List.getElem?_set_ne z] at h
        rcases at_snoc h with ⟨_, h⟩ | ⟨_, h⟩
        · exact .inl h
        · exact .inr (.inl h)
    refine ⟨fun m row hm h => ?_, lone_of hW hL (fun m d hm h => ?_) fun m k hm hk a b => ?_⟩
    · rcases key m row h with z | z | ⟨z1, z⟩
      · exact hF m row hm z
      · rw [z]; simp
      · intro e2
        rw [e2] at z
        have := congrArg List.length z
        rw [List.length_set] at this
        have := (List.getElem?_eq_some_iff.mp hr2).1
        simp at *
        omega
    · rcases key m _ h with z | z | ⟨z1, z⟩
      · exact .inl z
      · have := congrArg List.length z
        simp at this
      · refine .inr (.inr ?_)
        have hl2 := (List.getElem?_eq_some_iff.mp hr2).1
        have e1 := congrArg List.length z
        rw [List.length_set, List.length_singleton] at e1
        have e2 : (atM rows (2 * (e : Int) + 1)).2 = 0 := by omega
        rw [e2] at z
        have e3 := congrArg (fun l : List Int => l[0]?) z
        simp only [List.getElem?_cons_zero] at e3
        rw [List.getElem?_set_self (by omega)] at e3
        exact Option.some.inj e3
    · rcases key m _ a with z | z | ⟨z1, z⟩
      · have := new z (List.mem_singleton.mpr rfl)
        omega
      · have := congrArg List.length z
        simp at this
      · have hl2 := (List.getElem?_eq_some_iff.mp hr2).1
        have e3 : (2 * (E : Int)) ∈ row0.set (atM rows (2 * (e : Int) + 1)).2 (2 * (E : Int) + 1) := by rw [← z]; simp
        rcases List.mem_or_eq_of_mem_set e3 with w | w
        · have := new hr1 w
          omega
        · omega
  | beside e he r1 h1 =>
    subst h1
    exact two
  | twig n p hn hp =>
    have hlen : (modRow rows n (ins p (2 * (E : Int)))).length = rows.length := modRow_len
    have key : ∀ (m : Nat) row, (modRow rows n (ins p (2 * (E : Int))) ++ [[2 * (E : Int) + 1]])[m]? = some row → (modRow rows n (ins p (2 * (E : Int))))[m]? = some row ∨ row = [2 * (E : Int) + 1] := fun m row h => by
      rcases at_snoc h with ⟨_, h⟩ | ⟨_, h⟩
      · exact .inl h
      · exact .inr h
    refine ⟨fun m row hm h => ?_, lone_of hW hL (fun m d hm h => ?_) fun m k hm hk a b => ?_⟩
    · rcases key m row h with z | z
      · exact hF.insd m row hm z
      · rw [z]; simp
    · rcases key m _ h with z | z
      · exact .inl (hF.one hm z)
      · exact .inr (.inr (by simpa using z))
    · rcases key m _ a with z | z
      · have := new (hF.one hm z) (List.mem_singleton.mpr rfl)
        omega
      · have : 2 * (E : Int) = 2 * (E : Int) + 1 := by simpa using z
        omega
  | loop n p hn hp => exact two
  | across d x y hd hx hy r1 h1 =>
    subst h1
    exact two
theorem Built.full {rim E : Nat} {rows : Rows} (h : Built rim E rows) (h0 : 0 < rim) : Full rim rows ∧ Lone rim rows := by
  induction h with
  | start =>
    have no : ∀ (m : Nat) row, rim ≤ m → (List.replicate rim ([] : List Int))[m]? = some row → False := fun m row hm h => by
      have := (List.getElem?_eq_some_iff.mp h).1
      rw [List.length_replicate] at this
      omega
    exact ⟨fun m row hm h => (no m row hm h).elim, fun m n d hm hn a b => (no m _ hm a).elim⟩
  | grow hb g ih =>
    obtain ⟨w, l1, l2⟩ := hb.all h0
    exact g.full w l1 h0 ih.1 ih.2
end Rz

set_option maxHeartbeats 4000000
/-! Rules for the program's own modules: a written dict's get, texts with numbers in them, comprehensions within comprehensions, a call of a local name, dict.get with a default. -/
namespace Rz
open PySem PySem.Spec PyProof.Rows L2

/-! ### a written dict by get -/
def KD (K : PySem.W.Frag) (w : World) (p : Addr) : Prop := ∃ es n, KDict K w p es n
def tKGet (K : PySem.W.Frag) (w : World) (td ty : TE) : TE := fun σ H Q => td σ H fun x H1 => ∃ p, x = .ref p ∧ KD K w p ∧ ty σ H1 fun y H2 => ∃ z u v, y = .str z ∧ PySem.W.nsIn K p z = some (some u) ∧ RelV v u ∧ Q v H2
theorem pe_kget1 {X : Cx} {K : PySem.W.Frag} {w : World} {o e : Expr} {apos cpos : Pos} {td ty : TE} (hK : X.K = K) (hw : X.w = w) (ho : PE X o td) (he : PE X e ty) (m : M1 X o "get" apos e cpos) : PE X (.Call (.Attribute o "get" apos) [e] [] cpos) (tKGet K w td ty) := by
  subst hK hw
  refine ⟨fun pins s σ H Q I h => ?_⟩
  refine wpAny_Call_method m.base m.few m.line PySem.F.plainAttrs_dict PySem.F.slot_dict_get PySem.F.type_dict_get (thn (ho.run pins s σ H _ I h) fun u s1 ⟨x, H1, I1, rx, q1⟩ => ?_)
  obtain ⟨p, rfl, ⟨es, n, D⟩, q1⟩ := q1
  obtain rfl : u = Value.ref p := rx
  refine ⟨kd_type D I1, fun b q => ?_, ?_⟩
  · cases q
    exact ⟨_, I1.kIn _ _ D.at_, rfl⟩
  rw [m.trees]
  refine Calls.callWith_builtin rfl (Calls.evalArgs_plain (Calls.spliced_cons (thn (he.run pins s1 σ H1 _ I1 q1) fun iv s2 ⟨y, H2, I2, ry, q2⟩ => Calls.spliced_nil ?_)))
  obtain ⟨z, u, v, rfl, e, rv, q2⟩ := q2
  obtain ⟨t, rfl⟩ := ry
  refine call_meetsIn PySem.F.slot_dict_get (kd_type D I2) PySem.F.entry_dict_get (PySem.F.args_dict_get_2 _ _) (meets_dict_get (strKind X.prog X.w) p (strKind_is X.prog X.w z t) D.low) ⟨_, PySem.W.mapOf_K (prog := X.prog) I2.kIn D.at_ D.lit, ?_⟩
  rw [PySem.W.find_K D.at_ e]
  exact ⟨v, H2, I2.tok _, rv, q2⟩
theorem g_kget {K : PySem.W.Frag} {w : World} {td ty : TE} {σ : L2.St} {H : Hp} {Q : VK} (h : td σ H fun x H1 => ∃ p, x = .ref p ∧ KD K w p ∧ ty σ H1 fun y H2 => ∃ z u v, y = .str z ∧ PySem.W.nsIn K p z = some (some u) ∧ RelV v u ∧ Q v H2) : tKGet K w td ty σ H Q := h

/-! ### texts with numbers in them -/
theorem str_len_app (a b : Str) : (a ++ b).length = a.length + b.length := by
  show (a.cps ++ b.cps).size = _
  rw [Array.size_append]
  rfl
theorem int_text_le {i : Int} (h : i.natAbs < 2 ^ 60) : (toString i : Str).length ≤ 100 := by
  have h2 : i.natAbs.log2 < 60 := by
    by_cases z : i.natAbs = 0
    · rw [z]; decide
    · exact (Nat.log2_lt z).mpr h
  have := int_text_length_le (k := 60) (by decide) h2
  show (Str.ofString (toString i)).length ≤ 100
  rw [PySem.ofString_length]
  omega
section
variable {σ : L2.St} {H : Hp} {acc s : Str} {ts : List TE} {Q : Str → Hp → Prop} {n m : Nat} {i : Int}
/-- the text so far has at most m signs -/
theorem g_jsC (hl : acc.length ≤ m) (hs : s.length ≤ 1000) (hm : m ≤ 1000000) (h : (acc ++ s).length ≤ m + 1000 → tJs ts (acc ++ s) σ H Q) : tJs (tC (.str s) :: ts) acc σ H Q := by
  have e := str_len_app acc s
  exact ⟨s, rfl, by rw [sizeLine_eq]; omega, h (by omega)⟩
theorem g_jsI (hσ : σ[n]? = some (some (.int i))) (hi : i.natAbs < 2 ^ 60) (hl : acc.length ≤ m) (hm : m ≤ 1000000) (h : (acc ++ (toString i : Str)).length ≤ m + 1000 → tJs ts (acc ++ (toString i : Str)) σ H Q) : tJs (tFmt (tVar n) :: ts) acc σ H Q := by
  have e := str_len_app acc (toString i : Str)
  have e2 := int_text_le hi
  have h2 : i.natAbs.log2 < 1920 := by
    by_cases z : i.natAbs = 0
    · rw [z]; decide
    · exact Nat.lt_trans ((Nat.log2_lt z).mpr hi) (by decide)
  exact ⟨.int i, hσ, .inr ⟨i, rfl, h2, _, rfl, by rw [sizeLine_eq]; omega, h (by omega)⟩⟩
/-- the first part -/
theorem g_js0 {R : Str → Prop} (hs : s.length ≤ 1000) (h : (Str.empty ++ s).length ≤ 1000 → R s) : ∃ y : Str, V.str s = .str y ∧ (Str.empty ++ y).length ≤ sizeLine ∧ R y := by
  have e := str_len_app Str.empty s
  have e0 : Str.empty.length = 0 := rfl
  exact ⟨s, rfl, by rw [sizeLine_eq]; omega, h (by omega)⟩
theorem g_jsN (h : Q acc H) : tJs [] acc σ H Q := h
end

/-! ### a comprehension within a comprehension -/
theorem lookup_relab {env : Env} : ∀ {names : List (Str × NameKind)} {x : Str}, names.lookup x = some .cell ∨ names.lookup x = some .free →
    (names.map fun (n, k) => if (k == NameKind.free && env.scope.kind == .function && env.kindOf n == some .cell) then (n, NameKind.cell) else (n, k)).lookup x = some .cell ∨
    (names.map fun (n, k) => if (k == NameKind.free && env.scope.kind == .function && env.kindOf n == some .cell) then (n, NameKind.cell) else (n, k)).lookup x = some .free
  | [], _, h => by simp at h
  | (n, k) :: r, x, h => by
    have ih := @lookup_relab env r x
    show List.lookup x ((if (k == NameKind.free && env.scope.kind == .function && env.kindOf n == some .cell) = true then (n, NameKind.cell) else (n, k)) :: _) = _ ∨ List.lookup x ((if (k == NameKind.free && env.scope.kind == .function && env.kindOf n == some .cell) = true then (n, NameKind.cell) else (n, k)) :: _) = _
    cases hx : x == n with
    | true =>
      simp only [List.lookup_cons, hx] at h
      by_cases hc : (k == NameKind.free && env.scope.kind == .function && env.kindOf n == some .cell) = true
      · rw [if_pos hc]
        simp only [List.lookup_cons, hx]
        exact .inl trivial
      · rw [if_neg hc]
        simp only [List.lookup_cons, hx]
        exact h
    | false =>
      simp only [List.lookup_cons, hx] at h
      by_cases hc : (k == NameKind.free && env.scope.kind == .function && env.kindOf n == some .cell) = true
      · rw [if_pos hc]; simp only [List.lookup_cons, hx]; exact ih h
      · rw [if_neg hc]; simp only [List.lookup_cons, hx]; exact ih h
theorem blkIn {X : Cx} {s : Shared} {H : Hp} {sc0 scope : Scope} {cl : List (Str × Addr)} {C : Addr} {fp : List Addr} {own : List (Str × Nat)} {N : List Str} (hN : (X.blk s H sc0 (compEnvC sc0 cl C X.env) fp).N = N) (h : BlkOk N sc0 scope own) :
    BlkOk (X.blk s H sc0 (compEnvC sc0 cl C X.env) fp).N (X.blk s H sc0 (compEnvC sc0 cl C X.env) fp).env.scope scope own := by
  subst hN
  exact ⟨h.kind, h.uniq, h.ix, fun y hy e => lookup_relab (h.free y hy e), h.own⟩

/-! ### dict.get with a default -/
def rDGet2 : V → V → V → Hp → VK → Prop := fun x y z H Q => ∃ a o, x = .ref a ∧ DGet H a y o ∧ Q (o.getD z) H
theorem g_dget2 {td ty tx : TE} {σ : L2.St} {H : Hp} {Q : VK} (h : td σ H fun x H1 => ∃ a, x = .ref a ∧ IsD H1 a ∧ ty σ H1 fun y H2 => tx σ H2 fun z H3 => ∃ o, DGet H3 a y o ∧ Q (o.getD z) H3) : tDGet2 td ty tx σ H Q := h
theorem isD_of {H : Hp} {a : Addr} {kvs : List (Key × V)} (h : H a = some (.dK kvs)) : IsD H a := .inl ⟨kvs, .inl h⟩
theorem dget_of {H : Hp} {a : Addr} {kvs : List (Key × V)} {d : Int} (h : H a = some (.dK kvs)) : DGet H a (.int d) (valV kvs (.inl d)) := .inl ⟨kvs, .inl d, .inl h, rfl, rfl⟩
/-! ### a call of a local name that holds a def of the program, what is raised wished for -/
theorem g_callL {i : Nat} {f : Addr} {sp : Sp} {dvs : List V} {E : XK} {tas : TA} {σ : L2.St} {H : Hp} {Q : VK} (e : σ[i]? = some (some (.ref f))) (h : tas σ H fun vs H1 => sp (vs ++ dvs) H1 Q E) : tCallL i f sp dvs E tas σ H Q := ⟨e, h⟩
end Rz
namespace Rz
open PySem PySem.Spec PyProof.Rows L2
def spHomes (K : PySem.W.Frag) : Sp := fun vs H Q _ => ∃ (v : V) (rim : Nat) (rows : Rows) (qs : List Rat) (E : Nat), vs = [v] ∧ NetV K H v rim rows qs ∧ WF rows E ∧ E ≤ 100 ∧ rows.length ≤ 1000 ∧
  ∀ D kvs H', Same H H' → H D = none → H' D = some (.dK kvs) → Home kvs rows (fun _ => True) → kvs.length ≤ 300000 → Q (.ref D) H'
/-- is there an edge k -/
def spCheckE (K : PySem.W.Frag) (C : Addr) : Sp := fun vs H Q E => ∃ (v : V) (e : Int) (rim : Nat) (rows : Rows) (qs : List Rat), vs = [v, .int e] ∧ NetV K H v rim rows qs ∧ e.natAbs < 2 ^ 60 ∧
  (¬ (0 ≤ e ∧ e < (qs.length : Int)) → E (.ref C) none H) ∧ (0 ≤ e → e < (qs.length : Int) → Q .non H)
def spFallen : Sp := fun vs H Q _ => ∃ d e : Int, vs = [.int d, .int e] ∧ Q (.int (if d / 2 > e then d - 2 else d)) H
end Rz
namespace Rz
open PySem PySem.Spec PyProof.Rows L2
/-- [.. for turn in turns], its items tuples -/
theorem turns_lc {K : PySem.W.Frag} {σ : L2.St} {H : Hp} {vs : List Nat} {i₀ : Nat} {Q : VK} {te : TE} {t : Addr} {ts : List Addr} {rows : Rows} (f : List Int → List Int) (hN : TurnsAt K H t ts rows) (hb : rows.length ≤ 100000) (hw : ∀ x, wipe ((wipe σ vs).set i₀ (some x)) vs = wipe σ vs)
    (hs : ∀ (i : Nat) r H' (Q2 : VK), rows[i]? = some (rows.getD i []) → Same H H' → SqT K H' r ((rows.getD i []).map V.int) → (∀ u H'', Same H' H'' → SqT K H'' u ((f (rows.getD i [])).map V.int) → Q2 (.ref u) H'') → te ((wipe σ vs).set i₀ (some (.ref r))) H' Q2)
    (q : ∀ l us H', Same H H' → H l = none → H' l = some (.lst (us.map V.ref)) → TsL K H' us (rows.map f) → Q (.ref l) H') : rItT K (lcW (gName i₀) tYes te vs σ Q) (.ref t) H := by
  refine g_lcTup hN.top (fun l i acc H' => Same H H' ∧ H' l = some (.lst acc) ∧ ∃ us : List Addr, acc = us.map V.ref ∧ TsL K H' us ((rows.take i).map f)) hw
    (fun l hl => ⟨up_same hl, upd_same, [], rfl, ⟨rfl, fun i r row z => by simp at z⟩⟩) (fun l i acc H' _ h => Same.sqt h.1 hN.top) ?_ ?_
  · rintro l i x acc H1 hl hx ⟨sm, el, us, rfl, hT⟩
    obtain ⟨r, rfl, hri, hr1⟩ := (hN.same sm).get hx
    have hil := (List.getElem?_eq_some_iff.mp hri).1
    refine hs i r H1 _ hri sm hr1 fun u H2 s2 hu => ?_
    have el2 := s2 _ _ el
    have e5 : (rows.take (i + 1)).map f = (rows.take i).map f ++ [f (rows.getD i [])] := by
      rw [List.take_succ, hri, List.map_append]
      rfl
    refine lcN_of el2 (by rw [List.length_map, hT.len, List.length_map, List.length_take]; omega) ⟨fun b o h => ?_, upd_same, us ++ [u], by rw [List.map_append]; rfl, ?_⟩
    · rw [upd_ne (ne_of_none h hl)]
      exact s2 _ _ (sm _ _ h)
    · rw [e5]
      refine TsL.updL (TsL.app (hT.same s2) ⟨rfl, fun j r' row a b => ?_⟩) el2
      cases j with
      | zero =>
        cases a
        cases b
        exact hu
      | succ j => simp at a
  · rintro l acc H1 hl ⟨sm, el, us, rfl, hT⟩
    rw [List.length_map, hN.len, List.take_length] at hT
    exact q l us H1 sm hl el hT
/-! ### a walk over the ends of an edge that are loose -/
theorem loose_first {rim En n : Nat} {rows : Rows} {e : Nat} (hW : WF rows En) (hL : Lone rim rows) (he : e < En) (h1 : rim ≤ n) (h2 : (rows.getD n []).length = 1) {d : Int} (hd : d = 2 * (e : Int) ∨ d = 2 * (e : Int) + 1) (hn : (atM rows d).1 = n) : looseAt rows rim (e : Int) = some n := by
  have hdm : d ∈ rows.flatten := (hW.mem d).mpr (by omega)
  obtain ⟨row, ha, hb⟩ := at_spec hdm
  rw [hn] at ha
  have hrow := row_of ha
  rw [hrow] at h2
  obtain ⟨x, rfl⟩ : ∃ x, row = [x] := by
    match row, h2 with
    | [x], _ => exact ⟨x, rfl⟩
  have hx : d ∈ [x] := List.mem_of_getElem? hb
  rw [List.mem_singleton.mp hx] at hd
  have hnl := (List.getElem?_eq_some_iff.mp ha).1
  unfold looseAt
  refine find_first hnl (decide_eq_true ⟨h1, by rw [hrow]; rfl, by rw [hrow]; show x / 2 = _; omega⟩) fun j hj => decide_eq_false ?_
  rintro ⟨j1, j2, j3⟩
  have hjl : j < rows.length := by omega
  have hjr : rows[j]? = some (rows.getD j []) := by rw [List.getD_eq_getElem?_getD, List.getElem?_eq_getElem hjl]; rfl
  obtain ⟨y, hy⟩ : ∃ y, rows.getD j [] = [y] := by
    match hq : rows.getD j [], j2 with
    | [y], _ => exact ⟨y, rfl⟩
  rw [hy] at hjr j3
  have j4 : y / 2 = (e : Int) := j3
  by_cases z : y = x
  · subst z
    have := (place_inj hW.nd hjr (i := 0) rfl ha (i' := 0) rfl).1
    omega
  · have : y = twin x := by unfold twin; omega
    subst this
    exact hL n j x h1 j1 ha hjr
theorem loose_none {rim En : Nat} {rows : Rows} {e : Nat} (hW : WF rows En) (h : ∀ d : Int, d = 2 * (e : Int) ∨ d = 2 * (e : Int) + 1 → ¬ (rim ≤ (atM rows d).1 ∧ (rows.getD (atM rows d).1 []).length = 1)) : looseAt rows rim (e : Int) = none := by
  unfold looseAt
  refine find_none fun j hj => decide_eq_false ?_
  rintro ⟨j1, j2, j3⟩
  have hjr : rows[j]? = some (rows.getD j []) := by rw [List.getD_eq_getElem?_getD, List.getElem?_eq_getElem hj]; rfl
  obtain ⟨y, hy⟩ : ∃ y, rows.getD j [] = [y] := by
    match hq : rows.getD j [], j2 with
    | [y], _ => exact ⟨y, rfl⟩
  rw [hy] at hjr j3
  have j4 : y / 2 = (e : Int) := j3
  have e1 := at_of hW.nd hjr (i := 0) rfl
  exact h y (by omega) ⟨by rw [e1]; exact j1, by rw [e1, hy]; rfl⟩
def isLoop (mv : Mv) : Prop := (∃ k, mv = .loop k) ∧ mv.small
def isLoose (mv : Mv) : Prop := (∃ k, mv = .loose k) ∧ mv.small
end Rz

set_option maxHeartbeats 4000000
namespace Rz
open PySem PySem.Spec PyProof.Rows L2
/-! ### xs[::-1], t[::-1] -/
theorem fm_congr {α β : Type} {f g : α → Option β} : ∀ l : List α, (∀ x ∈ l, f x = g x) → l.filterMap f = l.filterMap g
  | [], _ => rfl
  | x :: l, h => by
    rw [List.filterMap_cons, List.filterMap_cons, h x List.mem_cons_self, fm_congr l fun y hy => h y (List.mem_cons_of_mem _ hy)]
section
variable {prog : Program} {w : World} {A : Around} {E : Value → Shared → Prop} {s : Shared}
theorem sliceApplied_back {sl : Addr} {vs : Value} {n : Nat} {Q : Int × Int × Nat → Shared → Prop} (hs : s.heap.IsSliceOf sl .none .none vs) (ps : IsPart vs (some (-1)))
    (h : Q ((n : Int) - 1, -1, n) s) : wpAny (model prog w) A (Builtin.Slice.sliceApplied (.ref sl) (pure (n : Int))) Q E s := by
  obtain ⟨os, hos, hcs, hds⟩ := id hs
  unfold Builtin.Slice.sliceApplied Builtin.Slice.sliceFields
  refine wpAny_bind (wpAny_bind (wpAny_field hos hds (x := .none) rfl (wpAny_bind (wpAny_field hos hds (x := .none) rfl (wpAny_bind (wpAny_field hos hds (x := vs) rfl (wpAny_pure ?_)))))))
  refine wpAny_bind (HT.slicePart_ ps ?_)
  show wpAny _ _ (if ((-1 : Int) == 0) = true then _ else _) _ _ s
  rw [if_neg (by decide)]
  refine wpAny_bind (HT.slicePart_ .none (wpAny_bind (HT.slicePart_ .none (wpAny_bind (wpAny_pure ?_)))))
  have e1 : Builtin.Slice.sliceAdjust none none (-1) (n : Int) = ((n : Int) - 1, -1) := by
    unfold Builtin.Slice.sliceAdjust
    simp
  have e2 : Builtin.Slice.slicePlaces ((n : Int) - 1) (-1) (-1) = n := by
    unfold Builtin.Slice.slicePlaces
    rw [if_neg (by decide)]
    by_cases z : (n : Int) - 1 > -1
    · rw [if_pos z, show (- -1 : Int) = 1 by decide, Int.ediv_one]
      omega
    · rw [if_neg z]
      omega
  show wpAny _ _ (match Builtin.Slice.sliceAdjust none none (-1) (n : Int) with | (lo, hi) => pure (lo, (-1 : Int), Builtin.Slice.slicePlaces lo hi (-1))) _ _ s
  rw [e1]
  show wpAny _ _ (pure ((n : Int) - 1, (-1 : Int), Builtin.Slice.slicePlaces ((n : Int) - 1) (-1) (-1))) _ _ s
  rw [e2]
  exact wpAny_pure h
theorem pick_back (xs : Array Value) : ((List.range xs.size).filterMap fun (m : Nat) => xs[(((xs.size : Nat) : Int) - 1 + (m : Int) * (-1)).toNat]?) = xs.toList.reverse := by
  have e : (List.range xs.size).filterMap (fun (m : Nat) => xs[(((xs.size : Nat) : Int) - 1 + (m : Int) * (-1)).toNat]?) = ((List.range xs.size).map fun k => xs.size - 1 - k).filterMap (xs[·]?) := by
    rw [List.filterMap_map]
    refine fm_congr _ fun k hk => ?_
    have := List.mem_range.mp hk
    have e3 : (((xs.size : Nat) : Int) - 1 + (k : Int) * (-1)).toNat = xs.size - 1 - k := by omega
    rw [e3]
    rfl
  rw [e, PySem.W.krv_range, List.filterMap_reverse, PySem.W.krv_all]
theorem getItem_tuple_back {t sl : Addr} {items : Array Value} {vs : Value} {Q : Value → Shared → Prop} (ht : IsTup s.heap t items) (hs : s.heap.IsSliceOf sl .none .none vs) (ps : IsPart vs (some (-1)))
    (h : Q (.ref s.heap.objs.size) { s with heap := s.heap.push { cls := .type "tuple", data := .seq items.toList.reverse.toArray } }) (hsz : items.size ≤ sizeLine) : wpAny (model prog w) A (getItem (.ref t) (.ref sl)) Q E s := by
  have htake : sizeOk (.seq items.toList.reverse.toArray) := by
    show items.toList.reverse.toArray.size ≤ sizeLine
    rw [List.size_toArray, List.length_reverse, Array.length_toList]
    exact hsz
  obtain ⟨os, hos, hcs, hds⟩ := id hs
  have hTs : s.TypeIs (.ref sl) "slice" := ⟨os, hos, hcs⟩
  unfold getItem
  try with_reducible refine wpAny_holding ?_
  first | refine wpAny_bind (wpAny_pure ?_) | skip
  refine wpAny_bind (wpAny_sequenceKey ht.typeIs (by decide) ?_)
  refine wpAny_bind (wpAny_callSpecial?_slot (name := Str.ofString "__getitem__") ht.typeIs PyProof.Rows.slot_tuple_getitem
    (wpAny_call_entry PyProof.Rows.slot_tuple_getitem ht.typeIs entry_tuple_getitem ?_ (args_tuple_getitem _ _)))
  show wpAny _ _ (Builtin.Tuple.tupleItemsOf (.ref t) >>= _) _ _ s
  refine wpAny_bind (tupleItemsOf_ ht ?_)
  refine wpAny_bind (wpAny_typeOf hTs ?_)
  rw [if_pos (by decide)]
  refine wpAny_bind (sliceApplied_back hs ps ?_)
  have hno : ¬ ((((items.size : Nat) : Int) - 1 == 0 && (-1 : Int) == 1 && items.size == items.size) = true) := by
    intro q
    rw [Bool.and_eq_true, Bool.and_eq_true] at q
    exact absurd q.1.2 (by decide)
  show wpAny _ _ (if ((((items.size : Nat) : Int) - 1) == 0 && (-1 : Int) == 1 && items.size == items.size) = true then _ else _) _ _ s
  rw [if_neg hno, pick_back]
  first
    | exact wpAny_bind (m := Builtin.Tuple.tupleExact _) (wpAny_newObj_type (wpAny_pure ⟨_, rfl, wpAny_pure h⟩) htake)
    | exact wpAny_bind (m := Builtin.Tuple.tupleExact _) (wpAny_newObj_type (wpAny_bind (wpAny_pure (wpAny_pure ⟨_, rfl, wpAny_pure h⟩))) htake)
    | exact wpAny_bind (wpAny_bind (m := Builtin.Tuple.tupleExact _) (wpAny_newObj_type (wpAny_pure (wpAny_pure ⟨_, rfl, wpAny_pure h⟩)) htake))
    | exact wpAny_bind (wpAny_bind (m := Builtin.Tuple.tupleExact _) (wpAny_newObj_type (wpAny_pure ⟨_, rfl, wpAny_pure h⟩) htake))
end
def tRevT (K : PySem.W.Frag) (te : TE) : TE := fun σ H Q => te σ H fun x H1 => ∃ a xs, x = .ref a ∧ SqT K H1 a xs ∧ ∀ p, H1 p = none → Q (.ref p) (upd H1 p (.tup xs.reverse))
section
variable {X : Cx} {K : PySem.W.Frag}
theorem pe_revLK (hK : X.K = K) {e : Expr} {te : TE} {k : Nat} {p1 p2 p3 pos : Pos} (he : PE X e te) : PE X (.Subscript e (.Slice none none (some (.UnaryOp .USub (.Constant (.int 1) k p1) p2)) p3) pos) (tRevL K te) := hK ▸ pe_revL he
theorem pe_revTK (hK : X.K = K) {e : Expr} {te : TE} {k : Nat} {p1 p2 p3 pos : Pos} (he : PE X e te) : PE X (.Subscript e (.Slice none none (some (.UnaryOp .USub (.Constant (.int 1) k p1) p2)) p3) pos) (tRevT K te) := by
  subst hK
  refine ⟨fun pins s σ H Q I h => ?_⟩
  refine Subscript_ (thn (he.run pins s σ H _ I h) fun v s1 ⟨x, H1, I1, r1, q1⟩ => ?_)
  obtain ⟨a, xs, ex, hx, q⟩ := q1
  subst ex
  cases r1
  have hst : PO X (some (.UnaryOp .USub (.Constant (.int 1) k p1) p2)) (tPart (tUn (rU fun i => .int (-i)) (tC (.int 1)))) := po_some (pe_un un_neg pe_int)
  refine wpAny_Slice (wpAny_pure (wpAny_pure ?_))
  refine thn (hst.run pins s1 σ H1 (fun o H4 => o = some (-1) ∧ H4 = H1) I1 ⟨1, rfl, -1, rfl, rfl, rfl⟩) fun vs s4 ⟨o, H4, I4, ps, eo, e4⟩ => ?_
  subst eo e4
  have I5 : Inv X pins σ H4 { s4 with heap := s4.heap.push { cls := .type "slice", data := .fields #[.none, .none, vs] } } := I4.kept (t' := s4.toks) fun b ob q => Heap.get?_push_of_some _ q
  obtain ⟨its, r, ht, hz⟩ := I5.tuple hx
  have hlen := r.length
  show wpAny (model X.prog X.w) X.A (subscriptTail e (.Slice none none (some (.UnaryOp .USub (.Constant (.int 1) k p1) p2)) p3) (.ref a) (.ref s4.heap.objs.size)) (EP X pins σ Q) X.xe { s4 with heap := s4.heap.push { cls := .type "slice", data := .fields #[.none, .none, vs] } }
  refine tail_any (ops := [.ref a, .ref s4.heap.objs.size]) ht.typeIs (PyProof.Rows.slot_tuple_getitem.lookup) ?_ (by with_unfolding_all rfl)
  refine getItem_tuple_back ht (Heap.IsSliceOf.new _ .none .none vs) ps ?_ (by rw [List.size_toArray]; omega)
  refine ⟨.ref _, _, I5.laid (t' := s4.toks) (o := .tup xs.reverse) (fun b ob q => Heap.get?_push_of_some _ q) (Nat.le_refl _) ?_, rfl, q _ (I5.hok.fresh (Nat.le_refl _))⟩
  exact ⟨by rw [List.length_reverse]; exact hz, _, r.reverse, IsTup.new _ _⟩
theorem g_revL {te : TE} {σ : L2.St} {H : Hp} {Q : VK} (h : te σ H fun x H1 => ∃ a xs, x = .ref a ∧ SqL K H1 a xs ∧ ∀ p, H1 p = none → Q (.ref p) (upd H1 p (.lst xs.reverse))) : tRevL K te σ H Q := h
theorem g_revT {te : TE} {σ : L2.St} {H : Hp} {Q : VK} (h : te σ H fun x H1 => ∃ a xs, x = .ref a ∧ SqT K H1 a xs ∧ ∀ p, H1 p = none → Q (.ref p) (upd H1 p (.tup xs.reverse))) : tRevT K te σ H Q := h
end
end Rz

namespace Rz
open PySem PySem.Spec PyProof.Rows L2

/-! ### tables: tuples of tuples of ratios -/
def TRowV (K : PySem.W.Frag) (H : Hp) (v : V) (row : Row) : Prop := ∃ p xs, v = .ref p ∧ SqT K H p xs ∧ Rats K H xs row
structure TabL (K : PySem.W.Frag) (H : Hp) (us : List V) (m : Mat) : Prop where
  len : us.length = m.length
  at_ : ∀ (i : Nat) v, us[i]? = some v → TRowV K H v (rw' m i)
def TabV (K : PySem.W.Frag) (H : Hp) (v : V) (m : Mat) : Prop := ∃ p us, v = .ref p ∧ SqT K H p us ∧ TabL K H us m
section
variable {K : PySem.W.Frag} {H H' : Hp} {v : V} {m : Mat} {r0 : Row} {us : List V}
theorem TRowV.same (h : TRowV K H v r0) (e : Same H H') : TRowV K H' v r0 := let ⟨p, xs, a, b, c⟩ := h; ⟨p, xs, a, Same.sqt e b, c.same e⟩
theorem TabL.same (h : TabL K H us m) (e : Same H H') : TabL K H' us m := ⟨h.len, fun i v z => (h.at_ i v z).same e⟩
theorem TabV.same (h : TabV K H v m) (e : Same H H') : TabV K H' v m := let ⟨p, us, a, b, c⟩ := h; ⟨p, us, a, Same.sqt e b, c.same e⟩
theorem TRowV.kp {S : Addr} {ys : List V} (h : TRowV K H v r0) (e : Kp S H H') (hS : H S = some (.lst ys)) : TRowV K H' v r0 := let ⟨p, xs, a, b, c⟩ := h; ⟨p, xs, a, Kp.sqt e hS b, c.kp e hS⟩
theorem TabV.kp {S : Addr} {ys : List V} (h : TabV K H v m) (e : Kp S H H') (hS : H S = some (.lst ys)) : TabV K H' v m := let ⟨p, us, a, b, c⟩ := h; ⟨p, us, a, Kp.sqt e hS b, c.len, fun i v z => (c.at_ i v z).kp e hS⟩
theorem TabL.row (h : TabL K H us m) {i : Nat} (hi : i < m.length) : ∃ p xs, us[i]? = some (.ref p) ∧ SqT K H p xs ∧ Rats K H xs (rw' m i) := by
  have hx : i < us.length := by rw [h.len]; exact hi
  obtain ⟨p, xs, e, b, c⟩ := h.at_ i _ (List.getElem?_eq_getElem hx)
  exact ⟨p, xs, by rw [List.getElem?_eq_getElem hx, e], b, c⟩
end
/-- a tuple of numbers -/
def ntS (ns : List Nat) : List V := ns.map fun n : Nat => V.int (n : Int)
def IntT (K : PySem.W.Frag) (H : Hp) (v : V) (ns : List Nat) : Prop := ∃ p, v = .ref p ∧ SqT K H p (ntS ns)
theorem IntT.same {K : PySem.W.Frag} {H H' : Hp} {v : V} {ns : List Nat} (h : IntT K H v ns) (e : Same H H') : IntT K H' v ns := let ⟨p, a, b⟩ := h; ⟨p, a, Same.sqt e b⟩
theorem ntS_at {ns : List Nat} {i : Nat} {x : V} (h : (ntS ns)[i]? = some x) : ∃ n, ns[i]? = some n ∧ x = .int (n : Int) := by
  unfold ntS at h
  rw [List.getElem?_map] at h
  cases e : ns[i]? with
  | none => rw [e] at h; cases h
  | some n => rw [e] at h; cases h; exact ⟨n, rfl, rfl⟩
theorem ntS_len {ns : List Nat} : (ntS ns).length = ns.length := List.length_map ..
theorem atI_pred {xs : List V} {n : Nat} {v : V} (h1 : 1 ≤ n) (h : xs[n - 1]? = some v) : atI xs ((n : Int) - 1) = some v := by
  rw [show (n : Int) - 1 = ((n - 1 : Nat) : Int) by omega]
  exact atI_nat h
/-- the rows of heads, the columns of tails, with all signs turned about; numbers from 1 on -/
def negM (m : Mat) (hs ts : List Nat) : Mat := hs.map fun i => ts.map fun j => - ent (rw' m (i - 1)) (j - 1)
theorem negM_len {m : Mat} {hs ts : List Nat} : (negM m hs ts).length = hs.length := List.length_map ..
theorem rw_negM {m : Mat} {hs ts : List Nat} {i n : Nat} (h : hs[i]? = some n) : rw' (negM m hs ts) i = ts.map fun j => - ent (rw' m (n - 1)) (j - 1) := by
  unfold rw' negM
  rw [List.getD_eq_getElem?_getD, List.getElem?_map, h]
  rfl
theorem ent_negM {m : Mat} {hs ts : List Nat} {i j n t : Nat} (h : hs[i]? = some n) (h2 : ts[j]? = some t) : ent (rw' (negM m hs ts) i) j = - ent (rw' m (n - 1)) (t - 1) := by
  rw [rw_negM h]
  unfold Rz.ent
  rw [List.getD_eq_getElem?_getD, List.getElem?_map, h2]
  rfl
theorem negM_wide {m : Mat} {hs ts : List Nat} {n : Nat} (h : ts.length = n) : Wide n (negM m hs ts) := fun k hk => by
  rw [negM_len] at hk
  rw [rw_negM (List.getElem?_eq_getElem hk), List.length_map, h]
/-- what fits a square table of N rows -/
structure Fits (N : Nat) (hs ts : List Nat) : Prop where
  len : hs.length = ts.length
  hd : ∀ i ∈ hs, 1 ≤ i ∧ i ≤ N
  tl : ∀ j ∈ ts, 1 ≤ j ∧ j ≤ N
structure Sq (N : Nat) (m : Mat) : Prop where
  len : m.length = N
  wide : ∀ i, i < N → (rw' m i).length = N
theorem negM_small {L B k N n : Nat} {m : Mat} {hs ts : List Nat} (hF : Fits N hs ts) (hn : hs.length = n) (h : ∀ i j, i < N → j < N → Sc L B (ent (rw' m i) j)) (hL : 0 < L) (hB : 0 < B) (h1 : L ^ n < 2 ^ k) (h2 : fct n * B ^ n < 2 ^ k) : Small n n L B k (negM m hs ts) := by
  refine ⟨fun i j hi hj => ?_, hL, hB, h1, h2⟩
  have ei := List.getElem?_eq_getElem (l := hs) (i := i) (by omega)
  have ej := List.getElem?_eq_getElem (l := ts) (i := j) (by rw [← hF.len]; omega)
  rw [ent_negM ei ej]
  have a := hF.hd _ (List.getElem_mem (by omega : i < hs.length))
  have b := hF.tl _ (List.getElem_mem (by rw [← hF.len]; omega : j < ts.length))
  exact (h _ _ (by omega) (by omega)).neg
def spMinor (K : PySem.W.Frag) : Sp := fun vs H Q _ => ∃ (v u t : V) (m : Mat) (hs ts : List Nat) (N n L B k : Nat), vs = [v, u, t] ∧ TabV K H v m ∧ IntT K H u hs ∧ IntT K H t ts ∧ Sq N m ∧ N ≤ 100 ∧ Fits N hs ts ∧ hs.length = n ∧ n ≤ 100 ∧ Small n n L B k (negM m hs ts) ∧ k ≤ 400 ∧
  ∀ v' H', Same H H' → RatV K H' v' (det n (negM m hs ts)) → Q v' H'

/-! ### lists of ratios, lists of rows: comprehensions -/
section
variable {K : PySem.W.Frag} {σ : L2.St} {H : Hp} {g : TG} {tt : TT} {te : TE} {vs : List Nat} {Q : VK}
theorem take_getD {qs : List Rat} {i : Nat} (h : i < qs.length) : qs.take (i + 1) = qs.take i ++ [qs.getD i 0] := by
  rw [List.take_succ, List.getD_eq_getElem?_getD, List.getElem?_eq_getElem h]
  rfl
theorem rats_lcT {a : Addr} {xs : List V} {i₀ : Nat} (qs : List Rat) (h : SqT K H a xs) (hl : qs.length = xs.length) (hb : xs.length ≤ 1000) (hw : ∀ x, wipe ((wipe σ vs).set i₀ (some x)) vs = wipe σ vs)
    (hs : ∀ i x H' (Qk : VK), Same H H' → xs[i]? = some x → (∀ v H3, Same H' H3 → RatV K H3 v (qs.getD i 0) → Qk v H3) → te ((wipe σ vs).set i₀ (some x)) H' Qk)
    (k : ∀ l ys H', Same H H' → H l = none → H' l = some (.lst ys) → Rats K H' ys qs → Q (.ref l) H') : rItT K (lcW (gName i₀) tYes te vs σ Q) (.ref a) H := by
  refine g_lcTup h (fun l i acc H' => Same H H' ∧ H' l = some (.lst acc) ∧ Rats K H' acc (qs.take i)) hw (fun l hl => ⟨up_same hl, upd_same, by rw [List.take_zero]; exact Rats.nil⟩) (fun l i acc H' _ h2 => Same.sqt h2.1 h) ?_ ?_
  · rintro l i x acc H' hl0 hx ⟨sm, el, hacc⟩
    have hi := (List.getElem?_eq_some_iff.mp hx).1
    refine hs i x H' _ sm hx fun v H3 s3 hv => ?_
    have el3 := s3 _ _ el
    refine lcN_of el3 (by rw [hacc.len, List.length_take]; omega) ⟨fun b o e => ?_, upd_same, ?_⟩
    · rw [upd_ne (ne_of_none e hl0)]
      exact s3 _ _ (sm _ _ e)
    · rw [take_getD (by omega)]
      exact ((hacc.same s3).snoc hv).kp Kp.upd el3
  · rintro l acc H' hl0 ⟨sm, el, hacc⟩
    rw [← hl, List.take_length] at hacc
    exact k l acc H' sm hl0 el hacc
theorem rats_lcR {j : Int} {n i₀ : Nat} (qs : List Rat) (e : j = (n : Int)) (hl : qs.length = n) (hb : n ≤ 1000) (hw : ∀ x, wipe ((wipe σ vs).set i₀ (some x)) vs = wipe σ vs)
    (hs : ∀ i H' (Qk : VK), Same H H' → i < n → (∀ v H3, Same H' H3 → RatV K H3 v (qs.getD i 0) → Qk v H3) → te ((wipe σ vs).set i₀ (some (.int (i : Int)))) H' Qk)
    (k : ∀ l ys H', Same H H' → H l = none → H' l = some (.lst ys) → Rats K H' ys qs → Q (.ref l) H') : rRng1 (lcW (gName i₀) tYes te vs σ Q) [.int j] H := by
  refine g_lcRng n e (by omega) (fun l i acc H' => Same H H' ∧ H' l = some (.lst acc) ∧ Rats K H' acc (qs.take i)) hw (fun l hl => ⟨up_same hl, upd_same, by rw [List.take_zero]; exact Rats.nil⟩) ?_ ?_
  · rintro l i acc H' hl0 hi ⟨sm, el, hacc⟩
    refine hs i H' _ sm hi fun v H3 s3 hv => ?_
    have el3 := s3 _ _ el
    refine lcN_of el3 (by rw [hacc.len, List.length_take]; omega) ⟨fun b o e => ?_, upd_same, ?_⟩
    · rw [upd_ne (ne_of_none e hl0)]
      exact s3 _ _ (sm _ _ e)
    · rw [take_getD (by omega)]
      exact ((hacc.same s3).snoc hv).kp Kp.upd el3
  · rintro l acc H' hl0 ⟨sm, el, hacc⟩
    rw [← hl, List.take_length] at hacc
    exact k l acc H' sm hl0 el hacc
theorem rows_lcT {a : Addr} {xs : List V} {i₀ : Nat} (m : Mat) (h : SqT K H a xs) (hl : m.length = xs.length) (hb : xs.length ≤ 1000) (hw : ∀ x, wipe ((wipe σ vs).set i₀ (some x)) vs = wipe σ vs)
    (hs : ∀ i x H' (Qk : VK), Same H H' → xs[i]? = some x → (∀ q ys H3, Same H' H3 → H' q = none → H3 q = some (.lst ys) → Rats K H3 ys (rw' m i) → Qk (.ref q) H3) → te ((wipe σ vs).set i₀ (some x)) H' Qk)
    (k : ∀ l us' H', Same H H' → H l = none → H' l = some (.lst us') → MatL K H' us' m → Q (.ref l) H') : rItT K (lcW (gName i₀) tYes te vs σ Q) (.ref a) H := by
  refine g_lcTup h (FillM K H m) hw (fun l hl => .start hl) (fun l i acc H' _ h2 => Same.sqt h2.1 h) ?_ ?_
  · intro l i x acc H' hl0 hx hF
    have hi := (List.getElem?_eq_some_iff.mp hx).1
    exact hs i x H' _ hF.1 hx fun q ys H3 s3 hq eq hr => hF.next hl0 s3 (by omega) ⟨q, ys, rfl, SqL.of eq, hr⟩ (.inr ⟨q, rfl, hq⟩)
  · intro l acc H' hl0 hF
    rw [← hl] at hF
    obtain ⟨a, b⟩ := hF.done
    exact k l acc H' hF.1 hl0 a b
/-- a comprehension over a list, with a test -/
theorem g_lcLstIf {a : Addr} {xs : List V} {i₀ : Nat} (h : SqL K H a xs) (Pv : Addr → Nat → List V → Hp → Prop) (hw : ∀ x, wipe ((wipe σ vs).set i₀ (some x)) vs = wipe σ vs)
    (h0 : ∀ p, H p = none → Pv p 0 [] (upd H p (.lst []))) (hl : ∀ p i acc H', H p = none → Pv p i acc H' → SqL K H' a xs)
    (hs : ∀ p (i : Nat) x acc H', H p = none → xs[i]? = some x → Pv p i acc H' → tt ((wipe σ vs).set i₀ (some x)) H' fun b H3 => if b = true then te ((wipe σ vs).set i₀ (some x)) H3 (lcN (Pv p) p i) else ∃ acc2, Pv p (i + 1) acc2 H3)
    (hd : ∀ p acc H', H p = none → Pv p xs.length acc H' → Q (.ref p) H') : rItL K (lcW (gName i₀) tt te vs σ Q) (.ref a) H := by
  refine ⟨a, rfl, ⟨xs, h⟩, fun p hp => ?_⟩
  refine lc_list (K := K) (xs := xs) (fun i H' => ∃ acc, Pv p i acc H') ⟨[], h0 p hp⟩ (fun i H' _ ⟨acc, q⟩ => hl p i acc H' hp q) (fun i x H' hi ⟨acc, q⟩ => ?_) (fun H' ⟨acc, q⟩ => hd p acc H' hp q)
  exact ⟨hw _, hs p i x acc H' hp hi q⟩
/-- the numbers lo .. hi - 1 that a test lets through -/
def passN (P : Nat → Bool) (lo n : Nat) : List Nat := ((List.range n).map (lo + ·)).filter P
theorem passN_succ {P : Nat → Bool} {lo n : Nat} : passN P lo (n + 1) = if P (lo + n) = true then passN P lo n ++ [lo + n] else passN P lo n := by
  unfold passN
  rw [List.range_succ, List.map_append, List.filter_append]
  by_cases h : P (lo + n) = true
  · rw [if_pos h]
    simp [h]
  · rw [if_neg h]
    simp [h]
theorem passN_len {P : Nat → Bool} {lo n : Nat} : (passN P lo n).length ≤ n := by
  unfold passN
  refine Nat.le_trans (List.length_filter_le _ _) ?_
  rw [List.length_map, List.length_range]
  exact Nat.le_refl _
theorem filt_lc {lo hi : Nat} {i₀ : Nat} (P : Nat → Bool) (hlh : lo ≤ hi) (hb : hi ≤ 1000) (hw : ∀ x, wipe ((wipe σ vs).set i₀ (some x)) vs = wipe σ vs) (hi0 : ∀ x, ((wipe σ vs).set i₀ (some x))[i₀]? = some (some x))
    (ht : ∀ k H' (Qb : Bool → Hp → Prop), Same H H' → lo ≤ k → k < hi → (∀ H3, Same H' H3 → Qb (P k) H3) → tt ((wipe σ vs).set i₀ (some (.int (k : Int)))) H' Qb)
    (k : ∀ l H', Same H H' → H l = none → H' l = some (.lst (ntS (passN P lo (hi - lo)))) → Q (.ref l) H') : rRng2 (lcW (gName i₀) tt (tVar i₀) vs σ Q) [.int (lo : Int), .int (hi : Int)] H := by
  refine ⟨_, _, rfl, ⟨by omega, by omega, by omega, by omega⟩, fun p hp => ?_⟩
  rw [show ((hi : Int) - (lo : Int)).toNat = hi - lo by omega]
  refine lc_range (lo := (lo : Int)) (n := hi - lo) (fun i H' => Same H H' ∧ H' p = some (.lst (ntS (passN P lo i)))) ⟨up_same hp, upd_same⟩ (fun i H' hi2 ⟨sm, ep⟩ => ⟨hw _, ?_⟩) fun H' ⟨sm, ep⟩ => k p H' sm hp ep
  rw [show (lo : Int) + (i : Int) = ((lo + i : Nat) : Int) by omega]
  refine ht (lo + i) H' _ sm (by omega) (by omega) fun H3 s3 => ?_
  have ep3 := s3 _ _ ep
  refine if_2 (fun e => ?_) (fun e => ?_)
  · refine g_var (hi0 _) ?_
    refine ⟨_, ep3, by rw [ntS_len]; have := passN_len (P := P) (lo := lo) (n := i); have := sizeLine_eq; omega, ?_, ?_⟩
    · intro b o eb
      rw [upd_ne (ne_of_none eb hp)]
      exact s3 _ _ (sm _ _ eb)
    · rw [upd_same, passN_succ, if_pos e]
      unfold ntS
      rw [List.map_append]
      rfl
  · refine ⟨sm.trans s3, ?_⟩
    rw [passN_succ, if_neg (by rw [e]; decide)]
    exact ep3
end
/-! ### rows that are written in place -/
structure MR (K : PySem.W.Frag) (H : Hp) (R : Addr) (us : List V) (m : Mat) : Prop where
  top : H R = some (.lst us)
  len : us.length = m.length
  at_ : ∀ (i : Nat) v, us[i]? = some v → RowP K H R v (rw' m i)
section
variable {K : PySem.W.Frag} {H H' : Hp} {R : Addr} {us : List V} {m : Mat}
theorem MR.same (h : MR K H R us m) (e : Same H H') : MR K H' R us m := ⟨e _ _ h.top, h.len, fun i v z => (h.at_ i v z).same e⟩
theorem MR.l (h : MR K H R us m) : MatL K H us m := ⟨h.len, fun i v z => (h.at_ i v z).v⟩
theorem MR.v (h : MR K H R us m) : MatV K H (.ref R) m := ⟨R, us, rfl, SqL.of h.top, h.l⟩
theorem MR.set {v : V} {row : Row} {i : Nat} (h : MR K H R us m) (hi : i < m.length) (hv : RowP K H R v row) : MR K (upd H R (.lst (us.set i v))) R (us.set i v) (m.set i row) := by
  refine ⟨upd_same, by rw [List.length_set, List.length_set, h.len], fun j w z => ?_⟩
  by_cases e : i = j
  · subst e
    rw [List.getElem?_set_self (by rw [h.len]; exact hi)] at z
    cases z
    rw [rw_set_eq hi]
    exact hv.upd h.top
  · rw [List.getElem?_set_ne e] at z
    rw [rw_set_ne e]
    exact (h.at_ j w z).upd h.top
theorem MR.snoc {v : V} {row : Row} (h : MR K H R us m) (hv : RowP K H R v row) : MR K (upd H R (.lst (us ++ [v]))) R (us ++ [v]) (m ++ [row]) := by
  refine ⟨upd_same, by rw [List.length_append, List.length_append, h.len]; rfl, fun i w z => ?_⟩
  rcases at_snoc z with ⟨z1, z2⟩ | ⟨z1, rfl⟩
  · rw [rw_snoc_lt (by rw [← h.len]; exact z1)]
    exact (h.at_ i w z2).upd h.top
  · rw [rw_snoc_eq (by rw [← h.len]; exact z1)]
    exact hv.upd h.top
theorem FillM.mr {p : Addr} {acc : List V} (h : FillM K H m p m.length acc H') : MR K H' p acc m := ⟨h.2.1, h.2.2.1, h.2.2.2⟩
end
section
variable {K : PySem.W.Frag} {σ : L2.St} {H : Hp} {g : TG} {te : TE} {vs : List Nat} {Q : VK}
theorem copy_rowsR {i₀ : Nat} {p : Addr} {us : List V} {m : Mat} (hp : SqL K H p us) (hM : MatL K H us m) (hb : m.length ≤ 1000) (hw : ∀ x, wipe ((wipe σ vs).set i₀ (some x)) vs = wipe σ vs) (hi : ∀ x, ((wipe σ vs).set i₀ (some x))[i₀]? = some (some x))
    (k : ∀ l us' H', Same H H' → H l = none → MR K H' l us' m → Q (.ref l) H') : rItL K (lcW (gName i₀) tYes (tCB (rListOf K) (tCons (tVar i₀) tNil)) vs σ Q) (.ref p) H := by
  refine g_lcLst hp (FillM K H m) hw (fun l hl => .start hl) (fun l i acc H' _ h => h.1.seq hp) ?_ ?_
  · intro l i x acc H' hl hx h
    have hil := (List.getElem?_eq_some_iff.mp hx).1
    obtain ⟨q, xs, rfl, a, b⟩ := (hM.at_ i x hx).same h.1
    refine g_cb (g_cons (g_var (hi _) (g_nil (g_listL a fun l2 hl2 => ?_))))
    exact h.next hl (up_same hl2) (by have := hM.len; omega) ⟨l2, xs, rfl, SqL.of upd_same, b.same (up_same hl2)⟩ (.inr ⟨l2, rfl, hl2⟩)
  · intro l acc H' hl h
    rw [hM.len] at h
    exact k l acc H' h.1 hl h.mr
end
end Rz

namespace Rz
open PySem PySem.Spec PyProof.Rows L2

/-! ### the law's choices of numbers, and its circular pairs -/
def rowsN (c : Nat) : Nat → List (List Nat)
  | 0 => [[]]
  | k + 1 => rowsN c k ++ ((rowsN c k).filter fun r => decide (r.length < c)).map (· ++ [k + 1])
def subN (s c : Nat) : List (List Nat) := (rowsN c s).filter fun r => decide (r.length = c)
def turnOf (ch : List Nat) (h s : Nat) : List Nat := ch.drop (2 * h - s) ++ ch.take (2 * h - s)
def pairOf (ch : List Nat) (h s : Nat) : List Nat × List Nat := ((turnOf ch h s).take h, ((turnOf ch h s).drop h).reverse)
def pairsTo (n i : Nat) : List (List Nat × List Nat) := (List.range i).flatMap fun h => (subN n (2 * (h + 1))).flatMap fun ch => (List.range (h + 1)).map fun s => pairOf ch (h + 1) s
def pairsN (n : Nat) : List (List Nat × List Nat) := pairsTo n (n / 2)
theorem rowsN_len {c : Nat} : ∀ {k : Nat}, (rowsN c k).length ≤ 2 ^ k
  | 0 => Nat.le_refl _
  | k + 1 => by
    unfold rowsN
    rw [List.length_append, List.length_map, Nat.pow_succ]
    have h1 := rowsN_len (c := c) (k := k)
    have h2 := List.length_filter_le (fun r => decide (r.length < c)) (rowsN c k)
    omega
theorem rowsN_row {c : Nat} : ∀ {k : Nat}, ∀ r ∈ rowsN c k, r.length ≤ k
  | 0, r, h => by
    rw [List.mem_singleton.mp h]
    exact Nat.le_refl _
  | k + 1, r, h => by
    unfold rowsN at h
    rcases List.mem_append.mp h with h | h
    · have := rowsN_row r h
      omega
    · obtain ⟨r', h', rfl⟩ := List.mem_map.mp h
      have := rowsN_row r' (List.mem_filter.mp h').1
      rw [List.length_append]
      show r'.length + 1 ≤ k + 1
      omega
theorem subN_len {s c : Nat} : (subN s c).length ≤ 2 ^ s := Nat.le_trans (List.length_filter_le _ _) rowsN_len
theorem subN_row {s c : Nat} {r : List Nat} (h : r ∈ subN s c) : r.length = c := of_decide_eq_true (List.mem_filter.mp h).2
theorem pairsTo_succ {n i : Nat} : pairsTo n (i + 1) = pairsTo n i ++ (subN n (2 * (i + 1))).flatMap fun ch => (List.range (i + 1)).map fun s => pairOf ch (i + 1) s := by
  have key : ∀ f : Nat → List (List Nat × List Nat), (List.range (i + 1)).flatMap f = (List.range i).flatMap f ++ f i := fun f => by
    rw [List.range_succ, List.flatMap_append, List.flatMap_cons, List.flatMap_nil, List.append_nil]
  exact key _

/-! ### lists of lists of numbers -/
/-- the lists at us hold rs; none of them stands at p -/
structure LLs (H : Hp) (p : Addr) (us : List V) (rs : List (List Nat)) : Prop where
  len : us.length = rs.length
  at_ : ∀ (i : Nat) v r, us[i]? = some v → rs[i]? = some r → ∃ q, v = .ref q ∧ H q = some (.lst (ntS r)) ∧ q ≠ p
section
variable {H H' : Hp} {p : Addr} {us : List V} {rs : List (List Nat)}
theorem LLs.nil : LLs H p [] [] := ⟨rfl, fun i v r h => by simp at h⟩
theorem LLs.same (h : LLs H p us rs) (e : Same H H') : LLs H' p us rs := ⟨h.len, fun i v r a b => let ⟨q, c, d, f⟩ := h.at_ i v r a b; ⟨q, c, e _ _ d, f⟩⟩
theorem LLs.upd {o : HO} (h : LLs H p us rs) : LLs (upd H p o) p us rs := ⟨h.len, fun i v r a b => let ⟨q, c, d, f⟩ := h.at_ i v r a b; ⟨q, c, by rw [upd_ne f]; exact d, f⟩⟩
theorem LLs.snoc {q : Addr} {r : List Nat} (h : LLs H p us rs) (e : H q = some (.lst (ntS r))) (hq : q ≠ p) : LLs H p (us ++ [.ref q]) (rs ++ [r]) := by
  refine ⟨by rw [List.length_append, List.length_append, h.len]; rfl, fun i v x a b => ?_⟩
  by_cases hi : i < us.length
  · rw [List.getElem?_append_left hi] at a
    rw [List.getElem?_append_left (h.len ▸ hi)] at b
    exact h.at_ i v x a b
  · rw [List.getElem?_append_right (by omega)] at a
    rw [List.getElem?_append_right (by rw [← h.len]; omega), ← h.len] at b
    by_cases h0 : i - us.length = 0
    · rw [h0] at a b
      cases a
      cases b
      exact ⟨q, rfl, e, hq⟩
    · obtain ⟨j, hj⟩ : ∃ j, i - us.length = j + 1 := ⟨i - us.length - 1, by omega⟩
      rw [hj] at a
      simp at a
theorem LLs.app {ws : List V} {qs : List (List Nat)} (h : LLs H p us rs) (k : LLs H p ws qs) : LLs H p (us ++ ws) (rs ++ qs) := by
  refine ⟨by rw [List.length_append, List.length_append, h.len, k.len], fun i v x a b => ?_⟩
  by_cases hi : i < us.length
  · rw [List.getElem?_append_left hi] at a
    rw [List.getElem?_append_left (h.len ▸ hi)] at b
    exact h.at_ i v x a b
  · rw [List.getElem?_append_right (by omega)] at a
    rw [List.getElem?_append_right (by rw [← h.len]; omega), ← h.len] at b
    exact k.at_ _ v x a b
/-- no list stands at a place that is free -/
theorem LLs.to {p' : Addr} (h : LLs H p us rs) (hp : H p' = none) : LLs H p' us rs := ⟨h.len, fun i v r a b => let ⟨q, c, d, _⟩ := h.at_ i v r a b; ⟨q, c, d, ne_of_none d hp⟩⟩
end
def spSubs (K : PySem.W.Frag) : Sp := fun vs H Q _ => ∃ s c : Nat, vs = [.int (s : Int), .int (c : Int)] ∧ s ≤ 7 ∧ c ≤ 100 ∧ ∀ p us H', Same H H' → H p = none → H' p = some (.lst us) → LLs H' p us (subN s c) → Q (.ref p) H'
/-- pairs of tuples of numbers -/
structure PairL (H : Hp) (us : List V) (ps : List (List Nat × List Nat)) : Prop where
  len : us.length = ps.length
  at_ : ∀ (i : Nat) v q, us[i]? = some v → ps[i]? = some q → ∃ a h t, v = .ref a ∧ H a = some (.tup [.ref h, .ref t]) ∧ H h = some (.tup (ntS q.1)) ∧ H t = some (.tup (ntS q.2))
section
variable {H H' : Hp} {us : List V} {ps : List (List Nat × List Nat)}
theorem PairL.nil : PairL H [] [] := ⟨rfl, fun i v r h => by simp at h⟩
theorem PairL.same (h : PairL H us ps) (e : Same H H') : PairL H' us ps := ⟨h.len, fun i v r x y => let ⟨a, b, c, d, f, g, k⟩ := h.at_ i v r x y; ⟨a, b, c, d, e _ _ f, e _ _ g, e _ _ k⟩⟩
theorem PairL.kp {S : Addr} {ys : List V} (h : PairL H us ps) (e : Kp S H H') (hS : H S = some (.lst ys)) : PairL H' us ps := by
  refine ⟨h.len, fun i v r x y => ?_⟩
  obtain ⟨a, b, c, d, f, g, k⟩ := h.at_ i v r x y
  have ne : ∀ {q : Addr} {xs : List V}, H q = some (.tup xs) → q ≠ S := fun h z => by
    rw [z, hS] at h
    cases h
  exact ⟨a, b, c, d, e _ _ (ne f) f, e _ _ (ne g) g, e _ _ (ne k) k⟩
theorem PairL.snoc {a h t : Addr} {q : List Nat × List Nat} (hl : PairL H us ps) (e : H a = some (.tup [.ref h, .ref t])) (e1 : H h = some (.tup (ntS q.1))) (e2 : H t = some (.tup (ntS q.2))) : PairL H (us ++ [.ref a]) (ps ++ [q]) := by
  refine ⟨by rw [List.length_append, List.length_append, hl.len]; rfl, fun i v x y z => ?_⟩
  by_cases hi : i < us.length
  · rw [List.getElem?_append_left hi] at y
    rw [List.getElem?_append_left (hl.len ▸ hi)] at z
    exact hl.at_ i v x y z
  · rw [List.getElem?_append_right (by omega)] at y
    rw [List.getElem?_append_right (by rw [← hl.len]; omega), ← hl.len] at z
    by_cases h0 : i - us.length = 0
    · rw [h0] at y z
      cases y
      cases z
      exact ⟨a, h, t, rfl, e, e1, e2⟩
    · obtain ⟨j, hj⟩ : ∃ j, i - us.length = j + 1 := ⟨i - us.length - 1, by omega⟩
      rw [hj] at y
      simp at y
end
def spPairs (K : PySem.W.Frag) : Sp := fun vs H Q _ => ∃ n : Nat, vs = [.int (n : Int)] ∧ n ≤ 7 ∧ ∀ p us H', Same H H' → H p = none → H' p = some (.lst us) → PairL H' us (pairsN n) → Q (.ref p) H'
theorem ntS_app {a b : List Nat} : ntS (a ++ b) = ntS a ++ ntS b := List.map_append ..
theorem ntS_drop {a : List Nat} {n : Nat} : (ntS a).drop n = ntS (a.drop n) := by unfold ntS; rw [List.map_drop]
theorem ntS_take {a : List Nat} {n : Nat} : (ntS a).take n = ntS (a.take n) := by unfold ntS; rw [List.map_take]
theorem ntS_rev {a : List Nat} : (ntS a).reverse = ntS a.reverse := by unfold ntS; rw [List.map_reverse]
end Rz

namespace Rz
open PySem PySem.Spec PyProof.Rows L2

/-! ### rows whose items are written in place, beside the law's state -/
structure DR (K : PySem.W.Frag) (H0 H : Hp) (S c R : Addr) (rs : List Addr) (m : Mat) : Prop where
  st : StAt H S c
  s0 : StAt H0 S c
  kp : Kp S H0 H
  R0 : H0 R = none
  r0 : ∀ r ∈ rs, H0 r = none
  top : H R = some (.lst (rs.map V.ref))
  len : rs.length = m.length
  at_ : ∀ (i : Nat) r, rs[i]? = some r → ∃ xs, H r = some (.lst xs) ∧ Rats K H xs (rw' m i)
  nd : rs.Nodup
  nR : R ∉ rs
section
variable {K : PySem.W.Frag} {H0 H H' : Hp} {S c R : Addr} {rs : List Addr} {m : Mat}
theorem DR.same (h : DR K H0 H S c R rs m) (e : Same H H') : DR K H0 H' S c R rs m :=
  ⟨h.st.same e, h.s0, h.kp.trans (Kp.of e), h.R0, h.r0, e _ _ h.top, h.len, fun i r z => let ⟨xs, a, b⟩ := h.at_ i r z; ⟨xs, e _ _ a, b.same e⟩, h.nd, h.nR⟩
theorem DR.pick (h : DR K H0 H S c R rs m) (hS : StAt H' S c) (k : Kp S H H') : DR K H0 H' S c R rs m := by
  obtain ⟨ys, hy⟩ := h.st.lst
  refine ⟨hS, h.s0, h.kp.trans k, h.R0, h.r0, k _ _ (h.s0.neS h.R0) h.top, h.len, fun i r z => ?_, h.nd, h.nR⟩
  obtain ⟨xs, a, b⟩ := h.at_ i r z
  exact ⟨xs, k _ _ (h.s0.neS (h.r0 r (List.mem_of_getElem? z))) a, b.kp k hy⟩
theorem DR.get (h : DR K H0 H S c R rs m) {i : Nat} (hi : i < m.length) : ∃ r xs, (rs.map V.ref)[i]? = some (.ref r) ∧ rs[i]? = some r ∧ H r = some (.lst xs) ∧ Rats K H xs (rw' m i) := by
  have hx : i < rs.length := by rw [h.len]; exact hi
  obtain ⟨xs, a, b⟩ := h.at_ i _ (List.getElem?_eq_getElem hx)
  exact ⟨rs[i], xs, by rw [List.getElem?_map, List.getElem?_eq_getElem hx]; rfl, List.getElem?_eq_getElem hx, a, b⟩
theorem Rats.set {xs : List V} {qs : List Rat} {j : Nat} {v : V} {q : Rat} (h : Rats K H xs qs) (hv : RatV K H v q) : Rats K H (xs.set j v) (qs.set j q) := by
  refine ⟨by rw [List.length_set, List.length_set, h.len], fun i x y a b => ?_⟩
  by_cases e : j = i
  · subst e
    have hj : j < xs.length := by
      have := (List.getElem?_eq_some_iff.mp a).1
      rw [List.length_set] at this
      exact this
    rw [List.getElem?_set_self hj] at a
    rw [List.getElem?_set_self (h.len ▸ hj)] at b
    cases a
    cases b
    exact hv
  · rw [List.getElem?_set_ne e] at a
    rw [List.getElem?_set_ne e] at b
    exact h.at_ i x y a b
theorem DR.put (h : DR K H0 H S c R rs m) {i j : Nat} {r : Addr} {xs : List V} {v : V} {q : Rat} (hr : rs[i]? = some r) (hx : H r = some (.lst xs)) (hv : RatV K H v q) : DR K H0 (upd H r (.lst (xs.set j v))) S c R rs (m.set i ((rw' m i).set j q)) := by
  have hm := List.mem_of_getElem? hr
  have hrS := h.s0.neS (h.r0 r hm)
  have hrc := h.s0.nec (h.r0 r hm)
  have hRr : R ≠ r := fun z => h.nR (z ▸ hm)
  have hi : i < m.length := by
    rw [← h.len]
    exact (List.getElem?_eq_some_iff.mp hr).1
  refine ⟨h.st.upd hrS hrc, h.s0, fun b o n e => ?_, h.R0, h.r0, by rw [upd_ne hRr]; exact h.top, by rw [List.length_set]; exact h.len, fun i' r' z => ?_, h.nd, h.nR⟩
  · rw [upd_ne (ne_of_none e (h.r0 r hm))]
    exact h.kp b o n e
  · by_cases e : i = i'
    · subst e
      rw [hr] at z
      cases z
      obtain ⟨xs', a, b⟩ := h.at_ i r hr
      rw [hx] at a
      cases a
      refine ⟨_, upd_same, ?_⟩
      rw [rw_set_eq hi]
      exact (b.set hv).kp Kp.upd hx
    · obtain ⟨xs', a, b⟩ := h.at_ i' r' z
      have hne : r' ≠ r := by
        rintro rfl
        exact e (nd_ix h.nd hr z)
      refine ⟨xs', by rw [upd_ne hne]; exact a, ?_⟩
      rw [rw_set_ne e]
      exact b.kp Kp.upd hx
end
/-- a matrix of zeros -/
def zeroM (n : Nat) : Mat := mkM n fun _ => List.replicate n 0
theorem rats_rep {K : PySem.W.Frag} {H : Hp} {v : V} (n : Nat) (h : RatV K H v 0) : Rats K H (List.replicate n v) (List.replicate n 0) := by
  refine ⟨by rw [List.length_replicate, List.length_replicate], fun i x q a b => ?_⟩
  rw [List.getElem?_replicate] at a b
  split at a
  · rename_i z
    rw [if_pos z] at b
    cases a
    cases b
    exact h
  · cases a
section
variable {K : PySem.W.Frag} {σ : L2.St} {H : Hp} {te : TE} {vs : List Nat} {Q : VK}
/-- rows laid one after another -/
theorem rows_lcRD {j : Int} {n i₀ : Nat} {S c : Addr} (m : Mat) (e : j = (n : Int)) (hl : m.length = n) (hb : n ≤ 1000) (hS : StAt H S c) (hw : ∀ x, wipe ((wipe σ vs).set i₀ (some x)) vs = wipe σ vs)
    (hs : ∀ i H' (Qk : VK), Same H H' → i < n → (∀ q ys H3, Same H' H3 → H' q = none → H3 q = some (.lst ys) → Rats K H3 ys (rw' m i) → Qk (.ref q) H3) → te ((wipe σ vs).set i₀ (some (.int (i : Int)))) H' Qk)
    (k : ∀ l rs H', DR K H H' S c l rs m → Q (.ref l) H') : rRng1 (lcW (gName i₀) tYes te vs σ Q) [.int j] H := by
  refine g_lcRng n e (by omega) (fun l i acc H' => ∃ rs : List Addr, acc = rs.map V.ref ∧ Same H H' ∧ H' l = some (.lst acc) ∧ rs.length = i ∧ (∀ r ∈ rs, H r = none) ∧ rs.Nodup ∧ l ∉ rs ∧ ∀ (i : Nat) r, rs[i]? = some r → ∃ xs, H' r = some (.lst xs) ∧ Rats K H' xs (rw' m i)) hw ?_ ?_ ?_
  · exact fun l hl => ⟨[], rfl, up_same hl, upd_same, rfl, (fun r hr => nomatch hr), List.nodup_nil, (fun h => nomatch h), fun i r z => by simp at z⟩
  · rintro l i acc H' hl0 hi ⟨rs, rfl, sm, el, hrl, hr0, hnd, hnl, hat⟩
    refine hs i H' _ sm hi fun q ys H3 s3 hq eq hr => ?_
    have el3 := s3 _ _ el
    have hql : q ≠ l := (ne_of_none el hq).symm
    have hq0 : H q = none := sm.free hq
    have hqrs : q ∉ rs := fun hm => by
      obtain ⟨i', hi'⟩ := List.mem_iff_getElem?.mp hm
      obtain ⟨xs, a, _⟩ := hat i' q hi'
      rw [a] at hq
      cases hq
    refine lcN_of el3 (by rw [List.length_map]; omega) ⟨rs ++ [q], by rw [List.map_append]; rfl, fun b o e => ?_, upd_same, by rw [List.length_append, hrl]; rfl, fun r hr' => ?_, ?_, fun hm => ?_, fun i' r z => ?_⟩
    · rw [upd_ne (ne_of_none e hl0)]
      exact s3 _ _ (sm _ _ e)
    · rcases List.mem_append.mp hr' with h | h
      · exact hr0 r h
      · rw [List.mem_singleton.mp h]
        exact hq0
    · rw [List.nodup_append]
      refine ⟨hnd, by simp, fun a ha b hb2 e2 => ?_⟩
      rw [List.mem_singleton.mp hb2] at e2
      exact hqrs (e2 ▸ ha)
    · rcases List.mem_append.mp hm with h | h
      · exact hnl h
      · exact hql (List.mem_singleton.mp h).symm
    · by_cases hi' : i' < rs.length
      · rw [List.getElem?_append_left hi'] at z
        obtain ⟨xs, a, b⟩ := hat i' r z
        have hrl2 : r ≠ l := fun z2 => hnl (z2 ▸ List.mem_of_getElem? z)
        exact ⟨xs, by rw [upd_ne hrl2]; exact s3 _ _ a, (b.same s3).kp Kp.upd el3⟩
      · rw [List.getElem?_append_right (by omega)] at z
        by_cases h0 : i' - rs.length = 0
        · rw [h0] at z
          cases z
          have : i' = i := by omega
          subst this
          exact ⟨ys, by rw [upd_ne hql]; exact eq, hr.kp Kp.upd el3⟩
        · obtain ⟨j', hj'⟩ : ∃ j', i' - rs.length = j' + 1 := ⟨i' - rs.length - 1, by omega⟩
          rw [hj'] at z
          simp at z
  · rintro l acc H' hl0 ⟨rs, rfl, sm, el, hrl, hr0, hnd, hnl, hat⟩
    exact k l rs H' ⟨hS.same sm, hS, Kp.of sm, hl0, hr0, el, by rw [hrl, hl], hat, hnd, hnl⟩
/-- tuple(row) for row in rows -/
theorem tab_lc {i₀ : Nat} {p : Addr} {us : List V} {m : Mat} (hp : SqL K H p us) (hM : MatL K H us m) (hb : m.length ≤ 1000) (hw : ∀ x, wipe ((wipe σ vs).set i₀ (some x)) vs = wipe σ vs) (hi : ∀ x, ((wipe σ vs).set i₀ (some x))[i₀]? = some (some x))
    (k : ∀ l us' H', Same H H' → H l = none → H' l = some (.lst us') → TabL K H' us' m → Q (.ref l) H') : rItL K (lcW (gName i₀) tYes (tCB (rTupleOf K) (tCons (tVar i₀) tNil)) vs σ Q) (.ref p) H := by
  refine g_lcLst hp (fun l i acc H' => Same H H' ∧ H' l = some (.lst acc) ∧ acc.length = i ∧ ∀ (j : Nat) v, acc[j]? = some v → TRowV K H' v (rw' m j)) hw (fun l hl => ⟨up_same hl, upd_same, rfl, fun j v z => by simp at z⟩) (fun l i acc H' _ h => h.1.seq hp) ?_ ?_
  · rintro l i x acc H' hl0 hx ⟨sm, el, hal, hat⟩
    have hil := (List.getElem?_eq_some_iff.mp hx).1
    obtain ⟨q, xs, rfl, a, b⟩ := (hM.at_ i x hx).same sm
    refine g_cb (g_cons (g_var (hi _) (g_nil (g_tupleL a fun l2 hl2 => ?_))))
    have s2 := up_same (o := .tup xs) hl2
    have el2 := s2 _ _ el
    refine lcN_of el2 (by have := hM.len; omega) ⟨fun b2 o e => ?_, upd_same, by rw [List.length_append, hal]; rfl, fun j v z => ?_⟩
    · rw [upd_ne (ne_of_none e hl0)]
      exact s2 _ _ (sm _ _ e)
    · rcases at_snoc z with ⟨_, z2⟩ | ⟨z1, rfl⟩
      · exact ((hat j v z2).same s2).kp Kp.upd el2
      · rw [z1, hal]
        have h1 : TRowV K (upd H' l2 (.tup xs)) (.ref l2) (rw' m i) := ⟨l2, xs, rfl, SqT.of upd_same, b.same s2⟩
        exact h1.kp Kp.upd el2
  · rintro l acc H' hl0 ⟨sm, el, hal, hat⟩
    exact k l acc H' sm hl0 el ⟨by rw [hal, hM.len], hat⟩
end
theorem ent_set_eq {r : Row} {j : Nat} {q : Rat} (h : j < r.length) : ent (r.set j q) j = q := by
  unfold ent
  rw [List.getD_eq_getElem?_getD, List.getElem?_set_self h]
  rfl
theorem ent_set_ne {r : Row} {j k : Nat} {q : Rat} (h : j ≠ k) : ent (r.set j q) k = ent r k := by
  unfold ent
  rw [List.getD_eq_getElem?_getD, List.getElem?_set_ne h, ← List.getD_eq_getElem?_getD]
theorem DR.matL {K : PySem.W.Frag} {H0 H : Hp} {S c R : Addr} {rs : List Addr} {m : Mat} (h : DR K H0 H S c R rs m) : MatL K H (rs.map V.ref) m := by
  refine ⟨by rw [List.length_map, h.len], fun i v z => ?_⟩
  rw [List.getElem?_map] at z
  cases e : rs[i]? with
  | none => rw [e] at z; cases z
  | some r =>
    rw [e] at z
    cases z
    obtain ⟨xs, a, b⟩ := h.at_ i r e
    exact ⟨r, xs, rfl, SqL.of a, b⟩
/-- the pairs fit -/
def okPair (n : Nat) (q : List Nat × List Nat) : Bool := decide (q.1.length = q.2.length) && decide (1 ≤ q.1.length) && decide (q.1.length ≤ 3) && q.1.all (fun i => decide (1 ≤ i) && decide (i ≤ n)) && q.2.all fun i => decide (1 ≤ i) && decide (i ≤ n)
theorem pairs_ok (n : Nat) (h : n ≤ 7) : (pairsN n).all (okPair n) = true ∧ (2 ≤ n → 0 < (pairsN n).length) ∧ (pairsN n).length ≤ 200 := by
  have key : ∀ n, n < 8 → (pairsN n).all (okPair n) = true ∧ (2 ≤ n → 0 < (pairsN n).length) ∧ (pairsN n).length ≤ 200 := by decide +kernel
  exact key n (by omega)
theorem pair_fits {n : Nat} {q : List Nat × List Nat} (h : okPair n q = true) : Fits n q.1 q.2 ∧ 1 ≤ q.1.length ∧ q.1.length ≤ 3 := by
  unfold okPair at h
  simp only [Bool.and_eq_true, decide_eq_true_eq, List.all_eq_true] at h
  obtain ⟨⟨⟨⟨a, b⟩, c⟩, d⟩, e⟩ := h
  exact ⟨⟨a, d, e⟩, b, c⟩
end Rz

set_option maxHeartbeats 4000000
namespace Rz

/-! ### a row begun with one of its darts -/
def rot (row : List Int) (d : Int) : List Int := row.drop (row.idxOf d) ++ row.take (row.idxOf d)
theorem idxOf_split {a b : List Int} {x : Int} (h : x ∉ a) : (a ++ x :: b).idxOf x = a.length := by
  rw [List.idxOf_append, if_neg h, List.idxOf_cons_self, Nat.zero_add]
theorem rot_split {a b : List Int} {x : Int} (h : x ∉ a) : rot (a ++ x :: b) x = x :: b ++ a := by
  unfold rot
  rw [idxOf_split h, List.drop_left, List.take_left]
theorem mem_split {l : List Int} {x : Int} (h : x ∈ l) : ∃ a b, l = a ++ x :: b ∧ x ∉ a := by
  induction l with
  | nil => cases h
  | cons y l ih =>
    by_cases e : y = x
    · subst e
      exact ⟨[], l, rfl, fun h => nomatch h⟩
    · obtain ⟨a, b, rfl, hn⟩ := ih (by
        rcases List.mem_cons.mp h with h | h
        · exact absurd h.symm e
        · exact h)
      refine ⟨y :: a, b, rfl, fun hm => ?_⟩
      rcases List.mem_cons.mp hm with hm | hm
      · exact e hm.symm
      · exact hn hm
theorem rot_map {row : List Int} {f : Int → Int} {x : Int} (hx : x ∈ row) (hi : ∀ y ∈ row, f y = f x → y = x) : rot (row.map f) (f x) = (rot row x).map f := by
  obtain ⟨a, b, rfl, hn⟩ := mem_split hx
  rw [rot_split hn, List.map_append, List.map_cons, rot_split]
  · rw [List.map_append, List.map_cons]
  · intro hm
    obtain ⟨y, hy, e⟩ := List.mem_map.mp hm
    have := hi y (List.mem_append_left _ hy) e
    subst this
    exact hn hy
theorem rot_rot {u v : List Int} {x : Int} (hx : x ∈ u ++ v) (nd : (u ++ v).Nodup) : rot (v ++ u) x = rot (u ++ v) x := by
  obtain ⟨_, _, hd⟩ := List.nodup_append.mp nd
  rcases List.mem_append.mp hx with h | h
  · obtain ⟨a, b, rfl, hn⟩ := mem_split h
    have hv : x ∉ v := fun z => hd x h x z rfl
    have h2 : x ∉ v ++ a := fun z => by
      rcases List.mem_append.mp z with z | z
      · exact hv z
      · exact hn z
    rw [show v ++ (a ++ x :: b) = (v ++ a) ++ x :: b by rw [List.append_assoc], rot_split h2, show a ++ x :: b ++ v = a ++ x :: (b ++ v) by rw [List.append_assoc]; rfl, rot_split hn]
    show x :: (b ++ (v ++ a)) = x :: (b ++ v ++ a)
    rw [List.append_assoc]
  · obtain ⟨a, b, rfl, hn⟩ := mem_split h
    have hu : x ∉ u := fun z => hd x z x h rfl
    have h2 : x ∉ u ++ a := fun z => by
      rcases List.mem_append.mp z with z | z
      · exact hu z
      · exact hn z
    rw [show u ++ (a ++ x :: b) = (u ++ a) ++ x :: b by rw [List.append_assoc], rot_split h2, show a ++ x :: b ++ u = a ++ x :: (b ++ u) by rw [List.append_assoc]; rfl, rot_split hn]
    show x :: (b ++ u ++ a) = x :: (b ++ (u ++ a))
    rw [List.append_assoc]
theorem rot_uv (row : List Int) (d : Int) : ∃ u v, row = u ++ v ∧ rot row d = v ++ u := ⟨row.take (row.idxOf d), row.drop (row.idxOf d), (List.take_append_drop _ _).symm, rfl⟩
theorem rot_len {row : List Int} {d : Int} : (rot row d).length = row.length := by
  obtain ⟨u, v, e, e2⟩ := rot_uv row d
  rw [e2, e, List.length_append, List.length_append, Nat.add_comm]

/-! ### the numbering -/
structure NSt where
  order : List Nat
  rows : Rows
  firsts : List Int
def stepD (rows : Rows) (st : NSt) (d : Int) : NSt :=
  if d ∈ st.firsts ∨ twin d ∈ st.firsts then st
  else if nodeOf rows (twin d) ∈ st.order then ⟨st.order, st.rows, st.firsts ++ [d]⟩
  else ⟨st.order ++ [nodeOf rows (twin d)], st.rows ++ [rot (rows.getD (nodeOf rows (twin d)) []) (twin d)], st.firsts ++ [d]⟩
def startN (rim : Nat) (rows : Rows) : NSt := ⟨List.range rim, rows.take rim, []⟩
def passRow (rows : Rows) (st : NSt) (k : Nat) : NSt := if k < st.rows.length then (st.rows.getD k []).foldl (stepD rows) st else st
def runN (rim : Nat) (rows : Rows) : Nat → NSt
  | 0 => startN rim rows
  | k + 1 => passRow rows (runN rim rows k) k
def numF (rim : Nat) (rows : Rows) : NSt := runN rim rows rows.length
def markD (fs : List Int) (d : Int) : Int := if d ∈ fs then 2 * (fs.idxOf d : Int) else 2 * (fs.idxOf (twin d) : Int) + 1
def numRows (rim : Nat) (rows : Rows) : Rows := (numF rim rows).rows.map fun row : List Int => row.map (markD (numF rim rows).firsts)
def numQs (rim : Nat) (rows : Rows) (qs : List Rat) : List Rat := (numF rim rows).firsts.map fun d => qs.getD (d / 2).toNat 0

theorem twin_twin (d : Int) : twin (twin d) = d := by
  unfold twin
  omega
theorem twin_ne (d : Int) : twin d ≠ d := by
  unfold twin
  omega
theorem mem_row {rows : Rows} {n : Nat} {d : Int} (h : d ∈ rows.getD n []) : d ∈ rows.flatten ∧ n < rows.length := by
  rw [List.getD_eq_getElem?_getD] at h
  cases e : rows[n]? with
  | none =>
    rw [e] at h
    cases h
  | some row =>
    rw [e] at h
    exact ⟨mem_flat.mpr ⟨n, row, e, h⟩, (List.getElem?_eq_some_iff.mp e).1⟩
theorem node_row {rows : Rows} (nd : rows.flatten.Nodup) {n : Nat} {d : Int} (h : d ∈ rows.getD n []) : nodeOf rows d = n := by
  obtain ⟨h1, h2⟩ := mem_row h
  have e : rows[n]? = some (rows.getD n []) := by rw [List.getD_eq_getElem?_getD, List.getElem?_eq_getElem h2]; rfl
  exact ((in_row nd e h1).mp h).symm
theorem row_node {rows : Rows} {d : Int} (h : d ∈ rows.flatten) : d ∈ rows.getD (nodeOf rows d) [] := by
  obtain ⟨row, h1, h2⟩ := at_spec h
  unfold nodeOf
  rw [getD_at h1]
  exact List.mem_of_getElem? h2
theorem row_nd {rows : Rows} (nd : rows.flatten.Nodup) (n : Nat) : (rows.getD n []).Nodup := by
  rw [List.getD_eq_getElem?_getD]
  cases e : rows[n]? with
  | none => exact List.nodup_nil
  | some row => exact (List.pairwise_flatten.mp nd).1 row (List.mem_of_getElem? e)

/-! ### what stays true while the numbers are given -/
structure NInv (rim E : Nat) (rows : Rows) (st : NSt) : Prop where
  on : st.order.Nodup
  ol : ∀ n ∈ st.order, n < rows.length
  len : st.rows.length = st.order.length
  row : ∀ (i n : Nat), st.order[i]? = some n → ∃ u v, rows.getD n [] = u ++ v ∧ st.rows.getD i [] = v ++ u
  rim_ : ∀ i, i < rim → st.order[i]? = some i ∧ st.rows.getD i [] = rows.getD i []
  fd : ∀ d ∈ st.firsts, nodeOf rows d ∈ st.order ∧ nodeOf rows (twin d) ∈ st.order ∧ d ∈ rows.flatten
  fn : st.firsts.Nodup
  ft : ∀ d ∈ st.firsts, twin d ∉ st.firsts
section
variable {rim E : Nat} {rows : Rows} {st : NSt}
theorem getD_snoc {α : Type} {l : List α} {x y : α} : (l ++ [x]).getD l.length y = x := by
  rw [List.getD_eq_getElem?_getD, List.getElem?_append_right (Nat.le_refl _), Nat.sub_self]
  rfl
theorem getD_app {α : Type} {l k : List α} {i : Nat} {y : α} (h : i < l.length) : (l ++ k).getD i y = l.getD i y := by
  rw [List.getD_eq_getElem?_getD, List.getElem?_append_left h, ← List.getD_eq_getElem?_getD]
theorem NInv.start (hr : rim ≤ rows.length) : NInv rim E rows (startN rim rows) := by
  have h2 : ∀ i, i < rim → (List.range rim)[i]? = some i ∧ (rows.take rim).getD i [] = rows.getD i [] := fun i hi => by
    refine ⟨List.getElem?_range hi, ?_⟩
    rw [List.getD_eq_getElem?_getD, List.getElem?_take, if_pos hi, ← List.getD_eq_getElem?_getD]
  refine ⟨List.nodup_range, fun n hn => Nat.lt_of_lt_of_le (List.mem_range.mp hn) hr, ?_, fun i n h => ?_, h2, (fun d hd => nomatch hd), List.nodup_nil, (fun d hd => nomatch hd)⟩
  · show (rows.take rim).length = (List.range rim).length
    rw [List.length_take, List.length_range]
    omega
  · have hi : i < rim := by
      have := (List.getElem?_eq_some_iff.mp h).1
      rw [show (startN rim rows).order = List.range rim from rfl, List.length_range] at this
      exact this
    obtain ⟨e1, e2⟩ := h2 i hi
    rw [show (startN rim rows).order = List.range rim from rfl, e1] at h
    cases h
    exact ⟨[], rows.getD i [], rfl, by rw [List.append_nil]; exact e2⟩
theorem NInv.step (hW : WF rows E) (h : NInv rim E rows st) {d : Int} (hd : d ∈ rows.flatten) (hn : nodeOf rows d ∈ st.order) : NInv rim E rows (stepD rows st d) := by
  have ht : twin d ∈ rows.flatten := (hW.mem _).mpr (twin_range ((hW.mem _).mp hd))
  unfold stepD
  by_cases hm : d ∈ st.firsts ∨ twin d ∈ st.firsts
  · rw [if_pos hm]
    exact h
  · rw [if_neg hm]
    have hm1 : d ∉ st.firsts := fun z => hm (.inl z)
    have hm2 : twin d ∉ st.firsts := fun z => hm (.inr z)
    have hfn : (st.firsts ++ [d]).Nodup := by
      rw [List.nodup_append]
      refine ⟨h.fn, by simp, fun a ha b hb e => ?_⟩
      rw [List.mem_singleton.mp hb] at e
      exact hm1 (e ▸ ha)
    have hft : ∀ x ∈ st.firsts ++ [d], twin x ∉ st.firsts ++ [d] := fun x hx hx2 => by
      rcases List.mem_append.mp hx with hx | hx
      · rcases List.mem_append.mp hx2 with z | z
        · exact h.ft x hx z
        · have e := List.mem_singleton.mp z
          rw [← e, twin_twin] at hm2
          exact hm2 hx
      · rw [List.mem_singleton.mp hx] at hx2
        rcases List.mem_append.mp hx2 with z | z
        · exact hm2 z
        · exact twin_ne d (List.mem_singleton.mp z)
    by_cases ho : nodeOf rows (twin d) ∈ st.order
    · rw [if_pos ho]
      refine ⟨h.on, h.ol, h.len, h.row, h.rim_, fun x hx => ?_, hfn, hft⟩
      rcases List.mem_append.mp hx with hx | hx
      · exact h.fd x hx
      · rw [List.mem_singleton.mp hx]
        exact ⟨hn, ho, hd⟩
    · rw [if_neg ho]
      refine ⟨?_, fun n hn' => ?_, by simp only [List.length_append, List.length_singleton, h.len], fun i n hi => ?_, fun i hi => ?_, fun x hx => ?_, hfn, hft⟩
      · rw [List.nodup_append]
        refine ⟨h.on, by simp, fun a ha b hb e => ?_⟩
        rw [List.mem_singleton.mp hb] at e
        exact ho (e ▸ ha)
      · rcases List.mem_append.mp hn' with z | z
        · exact h.ol n z
        · rw [List.mem_singleton.mp z]
          exact at_lt ht
      · by_cases hl : i < st.order.length
        · simp only [List.getElem?_append_left hl] at hi
          obtain ⟨u, v, e1, e2⟩ := h.row i n hi
          exact ⟨u, v, e1, by rw [getD_app (by rw [h.len]; exact hl)]; exact e2⟩
        · have hi2 : i = st.order.length := by
            have := (List.getElem?_eq_some_iff.mp hi).1
            rw [List.length_append, List.length_singleton] at this
            omega
          subst hi2
          simp only [List.getElem?_append_right (Nat.le_refl _), Nat.sub_self] at hi
          cases hi
          obtain ⟨u, v, e1, e2⟩ := rot_uv (rows.getD (nodeOf rows (twin d)) []) (twin d)
          refine ⟨u, v, e1, ?_⟩
          rw [← h.len, getD_snoc]
          exact e2
      · obtain ⟨e1, e2⟩ := h.rim_ i hi
        have hl := (List.getElem?_eq_some_iff.mp e1).1
        exact ⟨by rw [List.getElem?_append_left hl]; exact e1, by rw [getD_app (by rw [h.len]; exact hl)]; exact e2⟩
      · rcases List.mem_append.mp hx with hx | hx
        · obtain ⟨a, b, c⟩ := h.fd x hx
          exact ⟨List.mem_append_left _ a, List.mem_append_left _ b, c⟩
        · rw [List.mem_singleton.mp hx]
          exact ⟨List.mem_append_left _ hn, List.mem_append_right _ (List.mem_singleton.mpr rfl), hd⟩
/-- the order and the firsts only grow -/
theorem step_grow {d : Int} : (∃ a, (stepD rows st d).order = st.order ++ a) ∧ (∃ b, (stepD rows st d).rows = st.rows ++ b) ∧ (∀ x ∈ st.firsts, x ∈ (stepD rows st d).firsts) ∧ (d ∈ (stepD rows st d).firsts ∨ twin d ∈ (stepD rows st d).firsts) := by
  unfold stepD
  by_cases hm : d ∈ st.firsts ∨ twin d ∈ st.firsts
  · rw [if_pos hm]
    exact ⟨⟨[], (List.append_nil _).symm⟩, ⟨[], (List.append_nil _).symm⟩, fun x hx => hx, hm⟩
  · rw [if_neg hm]
    split
    · exact ⟨⟨[], (List.append_nil _).symm⟩, ⟨[], (List.append_nil _).symm⟩, fun x hx => List.mem_append_left _ hx, .inl (List.mem_append_right _ (List.mem_singleton.mpr rfl))⟩
    · exact ⟨⟨_, rfl⟩, ⟨_, rfl⟩, fun x hx => List.mem_append_left _ hx, .inl (List.mem_append_right _ (List.mem_singleton.mpr rfl))⟩
theorem fold_inv (hW : WF rows E) : ∀ (ds : List Int) (st : NSt), NInv rim E rows st → (∀ d ∈ ds, d ∈ rows.flatten ∧ nodeOf rows d ∈ st.order) →
    NInv rim E rows (ds.foldl (stepD rows) st) ∧ (∃ a, (ds.foldl (stepD rows) st).order = st.order ++ a) ∧ (∃ b, (ds.foldl (stepD rows) st).rows = st.rows ++ b) ∧ (∀ x ∈ st.firsts, x ∈ (ds.foldl (stepD rows) st).firsts) ∧ ∀ d ∈ ds, d ∈ (ds.foldl (stepD rows) st).firsts ∨ twin d ∈ (ds.foldl (stepD rows) st).firsts
  | [], st, h, _ => ⟨h, ⟨[], (List.append_nil _).symm⟩, ⟨[], (List.append_nil _).symm⟩, (fun x hx => hx), (fun d hd => nomatch hd)⟩
  | d :: ds, st, h, hd => by
    obtain ⟨d1, d2⟩ := hd d List.mem_cons_self
    obtain ⟨⟨a, ea⟩, ⟨b, eb⟩, c, e⟩ := step_grow (rows := rows) (st := st) (d := d)
    obtain ⟨i1, ⟨a2, ea2⟩, ⟨b2, eb2⟩, c2, e2⟩ := fold_inv hW ds (stepD rows st d) (h.step hW d1 d2) fun x hx => by
      obtain ⟨x1, x2⟩ := hd x (List.mem_cons_of_mem _ hx)
      exact ⟨x1, by rw [ea]; exact List.mem_append_left _ x2⟩
    rw [List.foldl_cons]
    refine ⟨i1, ⟨a ++ a2, by rw [ea2, ea, List.append_assoc]⟩, ⟨b ++ b2, by rw [eb2, eb, List.append_assoc]⟩, fun x hx => c2 x (c x hx), fun x hx => ?_⟩
    rcases List.mem_cons.mp hx with rfl | hx
    · rcases e with e | e
      · exact .inl (c2 _ e)
      · exact .inr (c2 _ e)
    · exact e2 x hx
theorem NInv.darts (hW : WF rows E) (h : NInv rim E rows st) {i : Nat} {d : Int} (hd : d ∈ st.rows.getD i []) : ∃ n, st.order[i]? = some n ∧ d ∈ rows.getD n [] ∧ d ∈ rows.flatten ∧ nodeOf rows d = n ∧ n ∈ st.order := by
  have hi : i < st.order.length := by
    rw [← h.len]
    exact (mem_row hd).2
  have e := List.getElem?_eq_getElem hi
  obtain ⟨u, v, e1, e2⟩ := h.row i _ e
  have hm : d ∈ rows.getD st.order[i] [] := by
    rw [e1]
    rw [e2] at hd
    rcases List.mem_append.mp hd with z | z
    · exact List.mem_append_right _ z
    · exact List.mem_append_left _ z
  exact ⟨_, e, hm, (mem_row hm).1, node_row hW.nd hm, List.getElem_mem hi⟩
theorem nodup_leN : ∀ (N : Nat) (l : List Nat), l.Nodup → (∀ x ∈ l, x < N) → l.length ≤ N
  | 0, l, _, h => by
    cases l with
    | nil => exact Nat.le_refl _
    | cons x l => exact absurd (h x List.mem_cons_self) (Nat.not_lt_zero _)
  | N + 1, l, nd, h => by
    by_cases hm : N ∈ l
    · have h1 := nodup_leN N (l.erase N) (nd.erase N) fun x hx => by
        have h2 := h x (List.mem_of_mem_erase hx)
        have h3 : x ≠ N := fun e => by
          subst e
          exact (List.Nodup.not_mem_erase nd) hx
        omega
      rw [List.length_erase_of_mem hm] at h1
      omega
    · have h1 := nodup_leN N l nd fun x hx => by
        have h2 := h x hx
        have h3 : x ≠ N := fun e => hm (e ▸ hx)
        omega
      omega
theorem order_le (h : NInv rim E rows st) : st.order.length ≤ rows.length := nodup_leN _ _ h.on h.ol

/-! ### the rows one after another -/
theorem pass_inv (hW : WF rows E) (h : NInv rim E rows st) (k : Nat) :
    NInv rim E rows (passRow rows st k) ∧ (∃ a, (passRow rows st k).order = st.order ++ a) ∧ (∃ b, (passRow rows st k).rows = st.rows ++ b) ∧ (∀ x ∈ st.firsts, x ∈ (passRow rows st k).firsts) ∧ ∀ d ∈ st.rows.getD k [], d ∈ (passRow rows st k).firsts ∨ twin d ∈ (passRow rows st k).firsts := by
  unfold passRow
  by_cases hk : k < st.rows.length
  · rw [if_pos hk]
    refine fold_inv hW _ st h fun d hd => ?_
    obtain ⟨n, _, _, h1, h2, h3⟩ := h.darts hW hd
    exact ⟨h1, h2 ▸ h3⟩
  · rw [if_neg hk]
    refine ⟨h, ⟨[], (List.append_nil _).symm⟩, ⟨[], (List.append_nil _).symm⟩, (fun x hx => hx), fun d hd => ?_⟩
    rw [List.getD_eq_getElem?_getD, List.getElem?_eq_none (by omega)] at hd
    cases hd
/-- all darts of the rows ahead of k are met -/
def Met (st : NSt) (k : Nat) : Prop := ∀ i, i < k → ∀ d ∈ st.rows.getD i [], d ∈ st.firsts ∨ twin d ∈ st.firsts
theorem run_inv (hW : WF rows E) (hr : rim ≤ rows.length) : ∀ k, NInv rim E rows (runN rim rows k) ∧ Met (runN rim rows k) (min k (runN rim rows k).rows.length)
  | 0 => ⟨.start hr, fun i hi => absurd hi (by omega)⟩
  | k + 1 => by
    obtain ⟨h1, h2⟩ := run_inv hW hr k
    obtain ⟨i1, _, ⟨b, eb⟩, i3, i4⟩ := pass_inv hW h1 k
    refine ⟨i1, fun i hi d hd => ?_⟩
    show d ∈ (passRow rows (runN rim rows k) k).firsts ∨ _
    have hd' : d ∈ (passRow rows (runN rim rows k) k).rows.getD i [] := hd
    rw [eb] at hd'
    by_cases hl : i < (runN rim rows k).rows.length
    · rw [getD_app hl] at hd'
      by_cases hik : i < k
      · rcases h2 i (by omega) d hd' with z | z
        · exact .inl (i3 _ z)
        · exact .inr (i3 _ z)
      · have e : i = k := by omega
        subst e
        exact i4 d hd'
    · exfalso
      have hk : ¬ k < (runN rim rows k).rows.length := by omega
      have e : passRow rows (runN rim rows k) k = runN rim rows k := by
        unfold passRow
        rw [if_neg hk]
      have : (runN rim rows (k + 1)).rows = (runN rim rows k).rows := congrArg NSt.rows e
      rw [this] at hi
      omega
theorem run_stop (hW : WF rows E) (hr : rim ≤ rows.length) : ∀ d, runN rim rows (rows.length + d) = numF rim rows
  | 0 => rfl
  | d + 1 => by
    have h := run_stop hW hr d
    show passRow rows (runN rim rows (rows.length + d)) (rows.length + d) = _
    rw [h]
    unfold passRow
    have h1 := (run_inv hW hr rows.length).1
    have h2 := order_le h1
    have h3 := h1.len
    have h4 : (numF rim rows).rows.length ≤ rows.length := by
      show (runN rim rows rows.length).rows.length ≤ _
      omega
    rw [if_neg (by omega)]
/-- a run that has passed all its rows -/
theorem run_end (hW : WF rows E) (hr : rim ≤ rows.length) : ∀ d k, (runN rim rows k).rows.length ≤ k → runN rim rows (k + d) = runN rim rows k
  | 0, k, _ => rfl
  | d + 1, k, h => by
    have e := run_end hW hr d k h
    show passRow rows (runN rim rows (k + d)) (k + d) = _
    rw [e]
    unfold passRow
    rw [if_neg (by omega)]
theorem run_full (hW : WF rows E) (hr : rim ≤ rows.length) {k : Nat} (h : (runN rim rows k).rows.length ≤ k) : runN rim rows k = numF rim rows := by
  rcases Nat.lt_or_ge k rows.length with z | z
  · have := run_end hW hr (rows.length - k) k h
    rw [show k + (rows.length - k) = rows.length by omega] at this
    exact this.symm
  · have := run_stop hW hr (k - rows.length)
    rw [show rows.length + (k - rows.length) = k by omega] at this
    exact this
theorem num_inv (hW : WF rows E) (hr : rim ≤ rows.length) : NInv rim E rows (numF rim rows) ∧ ∀ i, ∀ d ∈ (numF rim rows).rows.getD i [], d ∈ (numF rim rows).firsts ∨ twin d ∈ (numF rim rows).firsts := by
  obtain ⟨h1, h2⟩ := run_inv hW hr rows.length
  refine ⟨h1, fun i d hd => h2 i ?_ d hd⟩
  have h3 := (mem_row hd).2
  have h4 := order_le h1
  have h5 := h1.len
  have h6 : (numF rim rows).rows.length = (runN rim rows rows.length).rows.length := rfl
  omega
/-- what is reached -/
def Rch (rim : Nat) (rows : Rows) (n : Nat) : Prop := n ∈ (numF rim rows).order
theorem rch_met (hW : WF rows E) (hr : rim ≤ rows.length) {n : Nat} {d : Int} (hn : Rch rim rows n) (hd : d ∈ rows.getD n []) : d ∈ (numF rim rows).firsts ∨ twin d ∈ (numF rim rows).firsts := by
  obtain ⟨h1, h2⟩ := num_inv hW hr
  obtain ⟨i, hi⟩ := List.mem_iff_getElem?.mp hn
  obtain ⟨u, v, e1, e2⟩ := h1.row i n hi
  refine h2 i d ?_
  rw [e2]
  rw [e1] at hd
  rcases List.mem_append.mp hd with z | z
  · exact List.mem_append_right _ z
  · exact List.mem_append_left _ z
theorem rch_close (hW : WF rows E) (hr : rim ≤ rows.length) {n : Nat} {d : Int} (hn : Rch rim rows n) (hd : d ∈ rows.getD n []) : Rch rim rows (nodeOf rows (twin d)) := by
  obtain ⟨h1, _⟩ := num_inv hW hr
  rcases rch_met hW hr hn hd with z | z
  · exact (h1.fd d z).2.1
  · exact (h1.fd _ z).1
end

/-! ### one net is another one with other numbers -/
structure Iso (rim : Nat) (rows rows' : Rows) (R : Nat → Prop) (ren : Int → Int) (pi : Nat → Nat) : Prop where
  le : rim ≤ rows.length
  le' : rim ≤ rows'.length
  nd : rows.flatten.Nodup
  tf : ∀ d ∈ rows.flatten, twin d ∈ rows.flatten
  rimR : ∀ n, n < rim → R n
  close : ∀ n d, R n → d ∈ rows.getD n [] → R (nodeOf rows (twin d))
  rimE : ∀ n, n < rim → pi n = n ∧ rows'.getD n [] = (rows.getD n []).map ren
  inner : ∀ n, R n → rim ≤ n → ∃ u v, rows.getD n [] = u ++ v ∧ rows'.getD (pi n) [] = (v ++ u).map ren
  tw : ∀ n d, R n → d ∈ rows.getD n [] → ren (twin d) = twin (ren d)
  node : ∀ n d, R n → d ∈ rows.getD n [] → nodeOf rows' (ren d) = pi n
  inj : ∀ n m d e, R n → R m → d ∈ rows.getD n [] → e ∈ rows.getD m [] → ren d = ren e → d = e
  pinj : ∀ n m, R n → R m → pi n = pi m → n = m
def NSt.map (st : NSt) (ren : Int → Int) (pi : Nat → Nat) : NSt := ⟨st.order.map pi, st.rows.map fun row : List Int => row.map ren, st.firsts.map ren⟩
/-- a state within what is reached -/
structure In (rim : Nat) (rows : Rows) (R : Nat → Prop) (st : NSt) : Prop where
  o : ∀ n ∈ st.order, R n
  r : ∀ i, ∀ d ∈ st.rows.getD i [], ∃ n, R n ∧ d ∈ rows.getD n []
  f : ∀ d ∈ st.firsts, ∃ n, R n ∧ d ∈ rows.getD n []
  rim_ : ∀ n, n < rim → n ∈ st.order
section
variable {rim : Nat} {rows rows' : Rows} {R : Nat → Prop} {ren : Int → Int} {pi : Nat → Nat} {st : NSt}
theorem Iso.tin (I : Iso rim rows rows' R ren pi) {n : Nat} {d : Int} (hn : R n) (hd : d ∈ rows.getD n []) : R (nodeOf rows (twin d)) ∧ twin d ∈ rows.getD (nodeOf rows (twin d)) [] := ⟨I.close n d hn hd, row_node (I.tf d (mem_row hd).1)⟩
theorem Iso.step (I : Iso rim rows rows' R ren pi) (h : In rim rows R st) {n : Nat} {d : Int} (hn : R n) (hd : d ∈ rows.getD n []) : stepD rows' (st.map ren pi) (ren d) = (stepD rows st d).map ren pi ∧ In rim rows R (stepD rows st d) := by
  obtain ⟨t1, t2⟩ := I.tin hn hd
  have m1 : ∀ {x : Int} {m : Nat}, R m → x ∈ rows.getD m [] → (ren x ∈ st.firsts.map ren ↔ x ∈ st.firsts) := fun {x m} hm hx => by
    constructor
    · intro z
      obtain ⟨y, hy, e⟩ := List.mem_map.mp z
      obtain ⟨k, hk, hky⟩ := h.f y hy
      rw [I.inj m k x y hm hk hx hky e.symm]
      exact hy
    · exact fun z => List.mem_map.mpr ⟨x, z, rfl⟩
  have e1 := m1 hn hd
  have e2 := m1 t1 t2
  have en : nodeOf rows' (twin (ren d)) = pi (nodeOf rows (twin d)) := by
    rw [← I.tw n d hn hd]
    exact I.node _ _ t1 t2
  have eo : pi (nodeOf rows (twin d)) ∈ st.order.map pi ↔ nodeOf rows (twin d) ∈ st.order := by
    constructor
    · intro z
      obtain ⟨y, hy, e⟩ := List.mem_map.mp z
      rw [← I.pinj y _ (h.o y hy) t1 e]
      exact hy
    · exact fun z => List.mem_map.mpr ⟨_, z, rfl⟩
  unfold stepD
  by_cases hm : d ∈ st.firsts ∨ twin d ∈ st.firsts
  · have hm' : ren d ∈ (st.map ren pi).firsts ∨ twin (ren d) ∈ (st.map ren pi).firsts := by
      rw [← I.tw n d hn hd]
      exact hm.imp e1.mpr e2.mpr
    rw [if_pos hm, if_pos hm']
    exact ⟨rfl, h⟩
  · have hm' : ¬ (ren d ∈ (st.map ren pi).firsts ∨ twin (ren d) ∈ (st.map ren pi).firsts) := by
      rw [← I.tw n d hn hd]
      exact fun z => hm (z.imp e1.mp e2.mp)
    rw [if_neg hm, if_neg hm', en]
    have hf : ∀ x ∈ st.firsts ++ [d], ∃ n, R n ∧ x ∈ rows.getD n [] := fun x hx => by
      rcases List.mem_append.mp hx with z | z
      · exact h.f x z
      · rw [List.mem_singleton.mp z]
        exact ⟨n, hn, hd⟩
    by_cases ho : nodeOf rows (twin d) ∈ st.order
    · rw [if_pos ho, if_pos (show pi (nodeOf rows (twin d)) ∈ (st.map ren pi).order from eo.mpr ho)]
      refine ⟨?_, h.o, h.r, hf, h.rim_⟩
      show NSt.mk _ _ (st.firsts.map ren ++ [ren d]) = NSt.mk _ _ ((st.firsts ++ [d]).map ren)
      rw [List.map_append]
      rfl
    · rw [if_neg ho, if_neg (show ¬ pi (nodeOf rows (twin d)) ∈ (st.map ren pi).order from fun z => ho (eo.mp z))]
      have hge : rim ≤ nodeOf rows (twin d) := by
        rcases Nat.lt_or_ge (nodeOf rows (twin d)) rim with z | z
        · exact absurd (h.rim_ _ z) ho
        · exact z
      obtain ⟨u, v, eu, ev⟩ := I.inner _ t1 hge
      have hrow : rot (rows'.getD (pi (nodeOf rows (twin d))) []) (twin (ren d)) = (rot (rows.getD (nodeOf rows (twin d)) []) (twin d)).map ren := by
        have hx : twin d ∈ v ++ u := by
          rw [eu] at t2
          rcases List.mem_append.mp t2 with z | z
          · exact List.mem_append_right _ z
          · exact List.mem_append_left _ z
        rw [← I.tw n d hn hd, ev, rot_map hx fun y hy e => ?_]
        · rw [rot_rot (by rw [← eu]; exact t2) (by rw [← eu]; exact row_nd I.nd _), ← eu]
        · have hy2 : y ∈ rows.getD (nodeOf rows (twin d)) [] := by
            rw [eu]
            rcases List.mem_append.mp hy with z | z
            · exact List.mem_append_right _ z
            · exact List.mem_append_left _ z
          exact I.inj _ _ y _ t1 t1 hy2 t2 e
      rw [hrow]
      refine ⟨?_, fun m hm2 => ?_, fun i x hx => ?_, hf, fun m hm2 => List.mem_append_left _ (h.rim_ m hm2)⟩
      · show NSt.mk (st.order.map pi ++ [pi _]) ((st.rows.map fun row : List Int => row.map ren) ++ [_]) (st.firsts.map ren ++ [ren d]) = NSt.mk ((st.order ++ [_]).map pi) ((st.rows ++ [_]).map fun row : List Int => row.map ren) ((st.firsts ++ [d]).map ren)
        rw [List.map_append, List.map_append, List.map_append]
        rfl
      · rcases List.mem_append.mp hm2 with z | z
        · exact h.o m z
        · rw [List.mem_singleton.mp z]
          exact t1
      · by_cases hl : i < st.rows.length
        · have hx' : x ∈ (st.rows ++ [rot (rows.getD (nodeOf rows (twin d)) []) (twin d)]).getD i [] := hx
          rw [getD_app hl] at hx'
          exact h.r i x hx'
        · have hx' : x ∈ (st.rows ++ [rot (rows.getD (nodeOf rows (twin d)) []) (twin d)]).getD i [] := hx
          have hl2 := (mem_row hx').2
          rw [List.length_append, List.length_singleton] at hl2
          have e : i = st.rows.length := by omega
          rw [e, getD_snoc] at hx'
          obtain ⟨u2, v2, a1, a2⟩ := rot_uv (rows.getD (nodeOf rows (twin d)) []) (twin d)
          refine ⟨_, t1, ?_⟩
          rw [a1]
          rw [a2] at hx'
          rcases List.mem_append.mp hx' with z | z
          · exact List.mem_append_right _ z
          · exact List.mem_append_left _ z
theorem Iso.fold (I : Iso rim rows rows' R ren pi) : ∀ (ds : List Int) (st : NSt), In rim rows R st → (∀ d ∈ ds, ∃ n, R n ∧ d ∈ rows.getD n []) →
    (ds.map ren).foldl (stepD rows') (st.map ren pi) = (ds.foldl (stepD rows) st).map ren pi ∧ In rim rows R (ds.foldl (stepD rows) st)
  | [], st, h, _ => ⟨rfl, h⟩
  | d :: ds, st, h, hd => by
    obtain ⟨n, h1, h2⟩ := hd d List.mem_cons_self
    obtain ⟨a, b⟩ := I.step h h1 h2
    rw [List.map_cons, List.foldl_cons, List.foldl_cons, a]
    exact I.fold ds _ b fun x hx => hd x (List.mem_cons_of_mem _ hx)
theorem Iso.run (I : Iso rim rows rows' R ren pi) : ∀ k, runN rim rows' k = (runN rim rows k).map ren pi ∧ In rim rows R (runN rim rows k)
  | 0 => by
    refine ⟨?_, fun n hn => I.rimR n (List.mem_range.mp hn), fun i d hd => ?_, (fun d hd => nomatch hd), fun n hn => List.mem_range.mpr hn⟩
    · show NSt.mk (List.range rim) (rows'.take rim) [] = NSt.mk ((List.range rim).map pi) ((rows.take rim).map fun row : List Int => row.map ren) []
      congr 1
      · conv => lhs; rw [← List.map_id (List.range rim)]
        exact List.map_congr_left fun n hn => (I.rimE n (List.mem_range.mp hn)).1.symm
      · refine List.ext_getElem? fun i => ?_
        rw [List.getElem?_map, List.getElem?_take, List.getElem?_take]
        by_cases hi : i < rim
        · rw [if_pos hi, if_pos hi]
          have h1 := (I.rimE i hi).2
          have l1 := I.le
          have l2 := I.le'
          rw [List.getD_eq_getElem?_getD, List.getD_eq_getElem?_getD, List.getElem?_eq_getElem (by omega), List.getElem?_eq_getElem (by omega)] at h1
          rw [List.getElem?_eq_getElem (by omega), List.getElem?_eq_getElem (by omega)]
          exact congrArg some h1
        · rw [if_neg hi, if_neg hi]
          rfl
    · have hd' : d ∈ (rows.take rim).getD i [] := hd
      have hi : i < rim := by
        have := (mem_row hd').2
        rw [List.length_take] at this
        omega
      rw [List.getD_eq_getElem?_getD, List.getElem?_take, if_pos hi, ← List.getD_eq_getElem?_getD] at hd'
      exact ⟨i, I.rimR i hi, hd'⟩
  | k + 1 => by
    obtain ⟨a, b⟩ := I.run k
    show passRow rows' (runN rim rows' k) k = (passRow rows (runN rim rows k) k).map ren pi ∧ In rim rows R (passRow rows (runN rim rows k) k)
    rw [a]
    unfold passRow
    have hl : ((runN rim rows k).map ren pi).rows.length = (runN rim rows k).rows.length := List.length_map ..
    rw [hl]
    by_cases hk : k < (runN rim rows k).rows.length
    · rw [if_pos hk, if_pos hk]
      have e : ((runN rim rows k).map ren pi).rows.getD k [] = ((runN rim rows k).rows.getD k []).map ren := by
        show ((runN rim rows k).rows.map fun row : List Int => row.map ren).getD k [] = _
        rw [List.getD_eq_getElem?_getD, List.getElem?_map, List.getD_eq_getElem?_getD, List.getElem?_eq_getElem hk]
        rfl
      rw [e]
      exact I.fold _ _ b fun d hd => b.r k d hd
    · rw [if_neg hk, if_neg hk]
      exact ⟨rfl, b⟩
/-- both come to the same net -/
theorem Iso.num {E E' : Nat} (I : Iso rim rows rows' R ren pi) (hW : WF rows E) (hW' : WF rows' E') : numF rim rows' = (numF rim rows).map ren pi ∧ In rim rows R (numF rim rows) := by
  obtain ⟨a, b⟩ := I.run (rows.length + rows'.length)
  have e1 := run_stop (rim := rim) hW I.le rows'.length
  have e2 := run_stop (rim := rim) hW' I.le' rows.length
  rw [Nat.add_comm rows'.length] at e2
  rw [e1] at a b
  rw [e2] at a
  exact ⟨a, b⟩
theorem idx_map {fs : List Int} {d : Int} (hd : d ∈ fs) (hi : ∀ y ∈ fs, ren y = ren d → y = d) : (fs.map ren).idxOf (ren d) = fs.idxOf d := by
  obtain ⟨a, b, rfl, hn⟩ := mem_split hd
  rw [idxOf_split hn, List.map_append, List.map_cons, idxOf_split, List.length_map]
  intro hm
  obtain ⟨y, hy, e⟩ := List.mem_map.mp hm
  exact hn (hi y (List.mem_append_left _ hy) e ▸ hy)
theorem Iso.mark (I : Iso rim rows rows' R ren pi) (h : In rim rows R st) (hm : ∀ n d, R n → d ∈ rows.getD n [] → d ∈ st.firsts ∨ twin d ∈ st.firsts) {n : Nat} {d : Int} (hn : R n) (hd : d ∈ rows.getD n []) : markD (st.firsts.map ren) (ren d) = markD st.firsts d := by
  have key : ∀ {x : Int} {m : Nat}, R m → x ∈ rows.getD m [] → (ren x ∈ st.firsts.map ren ↔ x ∈ st.firsts) ∧ (x ∈ st.firsts → (st.firsts.map ren).idxOf (ren x) = st.firsts.idxOf x) := fun {x m} hm hx => by
    have hi : ∀ y ∈ st.firsts, ren y = ren x → y = x := fun y hy e => by
      obtain ⟨k, hk, hky⟩ := h.f y hy
      exact I.inj k m y x hk hm hky hx e
    refine ⟨⟨fun z => ?_, fun z => List.mem_map.mpr ⟨x, z, rfl⟩⟩, fun z => idx_map z hi⟩
    obtain ⟨y, hy, e⟩ := List.mem_map.mp z
    exact hi y hy e ▸ hy
  obtain ⟨t1, t2⟩ := I.tin hn hd
  obtain ⟨a1, a2⟩ := key hn hd
  obtain ⟨b1, b2⟩ := key t1 t2
  unfold markD
  by_cases z : d ∈ st.firsts
  · rw [if_pos z, if_pos (a1.mpr z), a2 z]
  · rw [if_neg z, if_neg (fun q => z (a1.mp q)), ← I.tw n d hn hd]
    have z2 : twin d ∈ st.firsts := (hm n d hn hd).resolve_left z
    rw [b2 z2]
theorem Iso.rowsEq {E E' : Nat} (I : Iso rim rows rows' R ren pi) (hW : WF rows E) (hW' : WF rows' E') (hm : ∀ n d, R n → d ∈ rows.getD n [] → d ∈ (numF rim rows).firsts ∨ twin d ∈ (numF rim rows).firsts) : numRows rim rows' = numRows rim rows := by
  obtain ⟨a, b⟩ := I.num hW hW'
  unfold numRows
  rw [a]
  show ((numF rim rows).rows.map fun row : List Int => row.map ren).map (fun row : List Int => row.map (markD ((numF rim rows).firsts.map ren))) = _
  rw [List.map_map]
  refine List.ext_getElem? fun i => ?_
  rw [List.getElem?_map, List.getElem?_map]
  cases e : (numF rim rows).rows[i]? with
  | none => rfl
  | some row =>
    show some ((row.map ren).map _) = some (row.map _)
    rw [List.map_map]
    congr 1
    refine List.map_congr_left fun d hd => ?_
    obtain ⟨n, hn, hdn⟩ := b.r i d (by rw [getD_at e]; exact hd)
    exact I.mark b hm hn hdn
end
end Rz

set_option maxHeartbeats 4000000
namespace Rz
theorem ixU {α : Type} {l : List α} (nd : l.Nodup) {i j : Nat} {x : α} (a : l[i]? = some x) (b : l[j]? = some x) : i = j := by
  obtain ⟨h1, e1⟩ := List.getElem?_eq_some_iff.mp a
  obtain ⟨h2, e2⟩ := List.getElem?_eq_some_iff.mp b
  exact (List.getElem_inj nd).mp (e1.trans e2.symm)
section
variable {rim E : Nat} {rows : Rows} {qs : List Rat}
theorem idx_at {fs : List Int} (nd : fs.Nodup) {k : Nat} {d : Int} (h : fs[k]? = some d) : fs.idxOf d = k := by
  have hm := List.mem_of_getElem? h
  have h1 := List.idxOf_lt_length_of_mem hm
  have h2 : fs[fs.idxOf d]? = some d := by rw [List.getElem?_eq_getElem h1, List.getElem_idxOf]
  exact ixU nd h2 h
theorem idx_atN {fs : List Nat} (nd : fs.Nodup) {k n : Nat} (h : fs[k]? = some n) : fs.idxOf n = k := by
  have hm := List.mem_of_getElem? h
  have h1 := List.idxOf_lt_length_of_mem hm
  have h2 : fs[fs.idxOf n]? = some n := by rw [List.getElem?_eq_getElem h1, List.getElem_idxOf]
  exact ixU nd h2 h
theorem at_idx {fs : List Int} {d : Int} (h : d ∈ fs) : fs[fs.idxOf d]? = some d := by
  have h1 := List.idxOf_lt_length_of_mem h
  rw [List.getElem?_eq_getElem h1, List.getElem_idxOf]
theorem at_idxN {fs : List Nat} {d : Nat} (h : d ∈ fs) : fs[fs.idxOf d]? = some d := by
  have h1 := List.idxOf_lt_length_of_mem h
  rw [List.getElem?_eq_getElem h1, List.getElem_idxOf]
/-- the marks of the darts of a list, each of which stands there or its twin does -/
structure MarkOk (fs : List Int) : Prop where
  nd : fs.Nodup
  tw : ∀ d ∈ fs, twin d ∉ fs
theorem MarkOk.range {fs : List Int} (d : Int) (h : d ∈ fs ∨ twin d ∈ fs) : 0 ≤ markD fs d ∧ markD fs d < 2 * (fs.length : Int) := by
  unfold markD
  by_cases z : d ∈ fs
  · rw [if_pos z]
    have := List.idxOf_lt_length_of_mem z
    omega
  · rw [if_neg z]
    have := List.idxOf_lt_length_of_mem (h.resolve_left z)
    omega
theorem MarkOk.twin_ {fs : List Int} (M : MarkOk fs) {d : Int} (h : d ∈ fs ∨ twin d ∈ fs) : markD fs (twin d) = twin (markD fs d) := by
  unfold markD
  by_cases z : d ∈ fs
  · rw [if_pos z, if_neg (M.tw d z), twin_twin]
    unfold twin
    omega
  · have z2 := h.resolve_left z
    rw [if_neg z, if_pos z2]
    unfold twin
    omega
theorem MarkOk.inj {fs : List Int} {d e : Int} (h : d ∈ fs ∨ twin d ∈ fs) (k : e ∈ fs ∨ twin e ∈ fs) (eq : markD fs d = markD fs e) : d = e := by
  have two : ∀ {a b : Int}, a ∈ fs → b ∈ fs → fs.idxOf a = fs.idxOf b → a = b := fun {a b} ha hb e => by
    have h1 := at_idx ha
    have h2 := at_idx hb
    rw [e, h2] at h1
    exact (Option.some.inj h1).symm
  unfold markD at eq
  by_cases z : d ∈ fs
  · rw [if_pos z] at eq
    by_cases y : e ∈ fs
    · rw [if_pos y] at eq
      exact two z y (by omega)
    · rw [if_neg y] at eq
      omega
  · have z2 := h.resolve_left z
    rw [if_neg z] at eq
    by_cases y : e ∈ fs
    · rw [if_pos y] at eq
      omega
    · have y2 := k.resolve_left y
      rw [if_neg y] at eq
      exact twin_inj (two z2 y2 (by omega))
theorem num_mark (hW : WF rows E) (hr : rim ≤ rows.length) : MarkOk (numF rim rows).firsts := by
  obtain ⟨h1, _⟩ := num_inv hW hr
  exact ⟨h1.fn, h1.ft⟩
/-- rows, each of them a turned row of other ones, renamed -/
theorem flat_nd {rows2 : Rows} {order : List Nat} {ren : Int → Int} (nd : rows.flatten.Nodup) (on : order.Nodup) (hl : rows2.length = order.length)
    (hr : ∀ (i n : Nat), order[i]? = some n → ∃ u v, rows.getD n [] = u ++ v ∧ rows2.getD i [] = (v ++ u).map ren)
    (hi : ∀ n m d e, n ∈ order → m ∈ order → d ∈ rows.getD n [] → e ∈ rows.getD m [] → ren d = ren e → d = e) : rows2.flatten.Nodup := by
  refine List.pairwise_flatten.mpr ⟨fun row hrow => ?_, List.pairwise_iff_getElem.mpr fun i j hi1 hj1 hij => ?_⟩
  · obtain ⟨i, hi1⟩ := List.mem_iff_getElem?.mp hrow
    have hil := (List.getElem?_eq_some_iff.mp hi1).1
    have e := List.getElem?_eq_getElem (l := order) (i := i) (by omega)
    obtain ⟨u, v, e1, e2⟩ := hr i _ e
    rw [getD_at hi1] at e2
    rw [e2]
    have h1 := row_nd nd order[i]
    rw [e1] at h1
    have h2 : (v ++ u).Nodup := (List.perm_append_comm.nodup_iff).mp h1
    refine List.pairwise_map.mpr (List.Pairwise.imp_of_mem (fun {a b} ha hb hab eq => hab ?_) h2)
    have m : ∀ {x : Int}, x ∈ v ++ u → x ∈ rows.getD order[i] [] := fun hx => by
      rw [e1]
      rcases List.mem_append.mp hx with z | z
      · exact List.mem_append_right _ z
      · exact List.mem_append_left _ z
    exact hi _ _ a b (List.getElem_mem _) (List.getElem_mem _) (m ha) (m hb) eq
  · intro x hx y hy eq
    have ei := List.getElem?_eq_getElem (l := order) (i := i) (by omega)
    have ej := List.getElem?_eq_getElem (l := order) (i := j) (by omega)
    have key : ∀ {k : Nat} {z : Int} (hk : k < rows2.length) (hk2 : k < order.length), z ∈ rows2[k] → ∃ d, d ∈ rows.getD order[k] [] ∧ ren d = z := fun {k z} hk hk2 hz => by
      obtain ⟨u, v, e1, e2⟩ := hr k _ (List.getElem?_eq_getElem hk2)
      rw [getD_at (List.getElem?_eq_getElem hk)] at e2
      rw [e2] at hz
      obtain ⟨d, hd, e⟩ := List.mem_map.mp hz
      refine ⟨d, ?_, e⟩
      rw [e1]
      rcases List.mem_append.mp hd with z | z
      · exact List.mem_append_right _ z
      · exact List.mem_append_left _ z
    obtain ⟨d, hd, ed⟩ := key hi1 (by omega) hx
    obtain ⟨e, he, ee⟩ := key hj1 (by omega) hy
    have := hi _ _ d e (List.getElem_mem _) (List.getElem_mem _) hd he (by rw [ed, ee, eq])
    subst this
    have h1 := node_row nd hd
    have h2 := node_row nd he
    have h3 : i = j := ixU on (by rw [ei, ← h1]) (by rw [ej, ← h2])
    omega
theorem numRows_at (hW : WF rows E) (hr : rim ≤ rows.length) {i n : Nat} (h : (numF rim rows).order[i]? = some n) : ∃ u v, rows.getD n [] = u ++ v ∧ (numRows rim rows).getD i [] = (v ++ u).map (markD (numF rim rows).firsts) := by
  obtain ⟨h1, _⟩ := num_inv hW hr
  obtain ⟨u, v, e1, e2⟩ := h1.row i n h
  refine ⟨u, v, e1, ?_⟩
  have hi : i < (numF rim rows).rows.length := by
    rw [h1.len]
    exact (List.getElem?_eq_some_iff.mp h).1
  unfold numRows
  rw [List.getD_eq_getElem?_getD, List.getElem?_map, List.getElem?_eq_getElem hi]
  rw [List.getD_eq_getElem?_getD, List.getElem?_eq_getElem hi] at e2
  show ((numF rim rows).rows[i]).map _ = _
  rw [show (numF rim rows).rows[i] = v ++ u from e2]
theorem numRows_len (hW : WF rows E) (hr : rim ≤ rows.length) : (numRows rim rows).length = (numF rim rows).order.length := by
  obtain ⟨h1, _⟩ := num_inv hW hr
  unfold numRows
  rw [List.length_map, h1.len]
theorem num_wf (hW : WF rows E) (hr : rim ≤ rows.length) : WF (numRows rim rows) (numF rim rows).firsts.length := by
  obtain ⟨h1, _⟩ := num_inv hW hr
  have M := num_mark hW hr
  have hnd : (numRows rim rows).flatten.Nodup := flat_nd hW.nd h1.on (numRows_len hW hr) (fun i n h => numRows_at hW hr h) fun n m d e hn hm hd he eq => MarkOk.inj (rch_met hW hr hn hd) (rch_met hW hr hm he) eq
  refine ⟨hnd, fun x => ⟨fun hx => ?_, fun hx => ?_⟩⟩
  · obtain ⟨i, row, hi, hx⟩ := mem_flat.mp hx
    have hil := (List.getElem?_eq_some_iff.mp hi).1
    rw [numRows_len hW hr] at hil
    obtain ⟨u, v, e1, e2⟩ := numRows_at hW hr (List.getElem?_eq_getElem hil)
    rw [getD_at hi] at e2
    rw [e2] at hx
    obtain ⟨d, hd, rfl⟩ := List.mem_map.mp hx
    refine MarkOk.range d (rch_met hW hr (List.getElem_mem hil) ?_)
    rw [e1]
    rcases List.mem_append.mp hd with z | z
    · exact List.mem_append_right _ z
    · exact List.mem_append_left _ z
  · have hk : (x / 2).toNat < (numF rim rows).firsts.length := by omega
    have ek := List.getElem?_eq_getElem hk
    obtain ⟨f1, f2, f3⟩ := h1.fd _ (List.getElem_mem hk)
    have put : ∀ {d : Int}, nodeOf rows d ∈ (numF rim rows).order → d ∈ rows.flatten → markD (numF rim rows).firsts d ∈ (numRows rim rows).flatten := fun {d} ho hd => by
      obtain ⟨u, v, e1, e2⟩ := numRows_at hW hr (at_idxN ho)
      have h2 := row_node hd
      have h3 : markD (numF rim rows).firsts d ∈ (numRows rim rows).getD ((numF rim rows).order.idxOf (nodeOf rows d)) [] := by
        rw [e2]
        refine List.mem_map.mpr ⟨d, ?_, rfl⟩
        rw [e1] at h2
        rcases List.mem_append.mp h2 with z | z
        · exact List.mem_append_right _ z
        · exact List.mem_append_left _ z
      exact (mem_row h3).1
    have hm : markD (numF rim rows).firsts (numF rim rows).firsts[(x / 2).toNat] = 2 * (x / 2) := by
      unfold markD
      rw [if_pos (List.getElem_mem hk), idx_at h1.fn ek]
      omega
    have h2 : x = 2 * (x / 2) ∨ x = twin (2 * (x / 2)) := by
      unfold twin
      omega
    rcases h2 with z | z
    · rw [z, ← hm]
      exact put f1 f3
    · rw [z, ← hm, ← M.twin_ (.inl (List.getElem_mem hk))]
      exact put f2 ((hW.mem _).mpr (twin_range ((hW.mem _).mp f3)))
theorem num_iso (hW : WF rows E) (hr : rim ≤ rows.length) : Iso rim rows (numRows rim rows) (Rch rim rows) (markD (numF rim rows).firsts) (fun n => (numF rim rows).order.idxOf n) := by
  obtain ⟨h1, _⟩ := num_inv hW hr
  have M := num_mark hW hr
  have hW2 := num_wf hW hr
  have hrl : rim ≤ (numF rim rows).order.length := by
    rcases Nat.eq_zero_or_pos rim with z | z
    · omega
    · have := (List.getElem?_eq_some_iff.mp (h1.rim_ (rim - 1) (by omega)).1).1
      omega
  have rimIdx : ∀ n, n < rim → (numF rim rows).order.idxOf n = n := fun n hn => idx_atN h1.on (h1.rim_ n hn).1
  refine ⟨hr, by rw [numRows_len hW hr]; exact hrl, hW.nd, fun d hd => (hW.mem _).mpr (twin_range ((hW.mem _).mp hd)), fun n hn => List.mem_of_getElem? (h1.rim_ n hn).1, fun n d hn hd => rch_close hW hr hn hd, fun n hn => ⟨rimIdx n hn, ?_⟩, fun n hn _ => ?_, fun n d hn hd => M.twin_ (rch_met hW hr hn hd), fun n d hn hd => ?_, fun n m d e hn hm hd he eq => MarkOk.inj (rch_met hW hr hn hd) (rch_met hW hr hm he) eq, fun n m hn hm eq => ?_⟩
  · have hi : n < (numF rim rows).rows.length := by rw [h1.len]; omega
    have e2 := (h1.rim_ n hn).2
    unfold numRows
    rw [List.getD_eq_getElem?_getD, List.getElem?_map, List.getElem?_eq_getElem hi]
    rw [List.getD_eq_getElem?_getD, List.getElem?_eq_getElem hi] at e2
    show ((numF rim rows).rows[n]).map _ = _
    rw [show (numF rim rows).rows[n] = rows.getD n [] from e2]
  · exact numRows_at hW hr (at_idxN hn)
  · refine node_row hW2.nd ?_
    obtain ⟨u, v, e1, e2⟩ := numRows_at hW hr (at_idxN hn)
    rw [e2]
    refine List.mem_map.mpr ⟨d, ?_, rfl⟩
    rw [e1] at hd
    rcases List.mem_append.mp hd with z | z
    · exact List.mem_append_right _ z
    · exact List.mem_append_left _ z
  · have a := at_idxN hn
    have b := at_idxN hm
    have eq2 : (numF rim rows).order.idxOf n = (numF rim rows).order.idxOf m := eq
    rw [eq2, b] at a
    exact (Option.some.inj a).symm
theorem Iso.qsEq {rows' : Rows} {R : Nat → Prop} {ren : Int → Int} {pi : Nat → Nat} {E' : Nat} {qs' : List Rat} (I : Iso rim rows rows' R ren pi) (hW : WF rows E) (hW' : WF rows' E') (hq : ∀ d ∈ (numF rim rows).firsts, qs'.getD (ren d / 2).toNat 0 = qs.getD (d / 2).toNat 0) : numQs rim rows' qs' = numQs rim rows qs := by
  obtain ⟨a, _⟩ := I.num hW hW'
  unfold numQs
  rw [a]
  show ((numF rim rows).firsts.map ren).map _ = _
  rw [List.map_map]
  exact List.map_congr_left fun d hd => hq d hd
theorem num_idem (hW : WF rows E) (hr : rim ≤ rows.length) : numRows rim (numRows rim rows) = numRows rim rows ∧ numQs rim (numRows rim rows) (numQs rim rows qs) = numQs rim rows qs := by
  obtain ⟨h1, _⟩ := num_inv hW hr
  have I := num_iso hW hr
  refine ⟨I.rowsEq hW (num_wf hW hr) fun n d hn hd => rch_met hW hr hn hd, I.qsEq hW (num_wf hW hr) fun d hd => ?_⟩
  have e := at_idx hd
  have hl := (List.getElem?_eq_some_iff.mp e).1
  have hm : markD (numF rim rows).firsts d = 2 * ((numF rim rows).firsts.idxOf d : Int) := by
    unfold markD
    rw [if_pos hd]
  have h2 : (markD (numF rim rows).firsts d / 2).toNat = (numF rim rows).firsts.idxOf d := by
    rw [hm]
    omega
  unfold numQs
  rw [h2, List.getD_eq_getElem?_getD, List.getElem?_map, e]
  rfl
end

/-! ### the same net in another order -/
def renM (es : List Nat) (fl : List Int) (d : Int) : Int := 2 * (es.getD (d / 2).toNat 0 : Int) + (d + fl.getD (d / 2).toNat 0) % 2
structure Mixed (rim E : Nat) (rows rows' : Rows) (nodes es : List Nat) (fl : List Int) : Prop where
  nn : nodes.Nodup
  nm : ∀ n, n ∈ nodes ↔ n < rows.length
  nr : ∀ i, i < rim → nodes[i]? = some i
  en : es.Nodup
  em : ∀ e, e ∈ es ↔ e < E
  el : es.length = E
  len : rows'.length = nodes.length
  row : ∀ (i n : Nat), nodes[i]? = some n → ∃ u v, rows.getD n [] = u ++ v ∧ rows'.getD i [] = (v ++ u).map (renM es fl) ∧ (i < rim → u = [])
section
variable {rim E : Nat} {rows rows' : Rows} {nodes es : List Nat} {fl : List Int}
theorem Mixed.half (h : Mixed rim E rows rows' nodes es fl) {d : Int} (hd : 0 ≤ d ∧ d < 2 * (E : Int)) : es[(d / 2).toNat]? = some (es.getD (d / 2).toNat 0) ∧ renM es fl d / 2 = (es.getD (d / 2).toNat 0 : Int) := by
  have hl : (d / 2).toNat < es.length := by rw [h.el]; omega
  refine ⟨by rw [List.getD_eq_getElem?_getD, List.getElem?_eq_getElem hl]; rfl, ?_⟩
  unfold renM
  omega
theorem Mixed.range (h : Mixed rim E rows rows' nodes es fl) {d : Int} (hd : 0 ≤ d ∧ d < 2 * (E : Int)) : 0 ≤ renM es fl d ∧ renM es fl d < 2 * (E : Int) := by
  have h1 := (h.em _).mp (List.mem_of_getElem? (h.half hd).1)
  unfold renM
  omega
theorem Mixed.inj (h : Mixed rim E rows rows' nodes es fl) {d e : Int} (hd : 0 ≤ d ∧ d < 2 * (E : Int)) (he : 0 ≤ e ∧ e < 2 * (E : Int)) (eq : renM es fl d = renM es fl e) : d = e := by
  obtain ⟨a1, a2⟩ := h.half hd
  obtain ⟨b1, b2⟩ := h.half he
  rw [eq, b2] at a2
  have h2 : es.getD (d / 2).toNat 0 = es.getD (e / 2).toNat 0 := by omega
  rw [h2] at a1
  have h3 := ixU h.en a1 b1
  have h4 : d / 2 = e / 2 := by omega
  unfold renM at eq
  rw [h4] at eq
  omega
theorem Mixed.twin_ (d : Int) : renM es fl (twin d) = twin (renM es fl d) := by
  have h4 : twin d / 2 = d / 2 := by
    unfold twin
    omega
  unfold renM
  rw [h4]
  unfold twin
  omega
theorem Mixed.wf (h : Mixed rim E rows rows' nodes es fl) (hW : WF rows E) : WF rows' E := by
  have hr : ∀ {n : Nat} {d : Int}, d ∈ rows.getD n [] → 0 ≤ d ∧ d < 2 * (E : Int) := fun hd => (hW.mem _).mp (mem_row hd).1
  have hnd : rows'.flatten.Nodup := flat_nd hW.nd h.nn h.len (fun i n e => by
    obtain ⟨u, v, e1, e2, _⟩ := h.row i n e
    exact ⟨u, v, e1, e2⟩) fun n m d e hn hm hd he eq => h.inj (hr hd) (hr he) eq
  refine ⟨hnd, fun x => ⟨fun hx => ?_, fun hx => ?_⟩⟩
  · obtain ⟨i, row, hi, hx⟩ := mem_flat.mp hx
    have hil := (List.getElem?_eq_some_iff.mp hi).1
    rw [h.len] at hil
    obtain ⟨u, v, e1, e2, _⟩ := h.row i _ (List.getElem?_eq_getElem hil)
    rw [getD_at hi] at e2
    rw [e2] at hx
    obtain ⟨d, hd, rfl⟩ := List.mem_map.mp hx
    refine h.range (hr (n := nodes[i]) ?_)
    rw [e1]
    rcases List.mem_append.mp hd with z | z
    · exact List.mem_append_right _ z
    · exact List.mem_append_left _ z
  · have hm : (x / 2).toNat ∈ es := (h.em _).mpr (by omega)
    have e := at_idxN hm
    obtain ⟨k, hk⟩ : ∃ k, k = es.idxOf (x / 2).toNat := ⟨_, rfl⟩
    rw [← hk] at e
    have hkE : k < E := by
      rw [← h.el]
      exact (List.getElem?_eq_some_iff.mp e).1
    obtain ⟨d, hd⟩ : ∃ d : Int, d = 2 * (k : Int) + (x + fl.getD k 0) % 2 := ⟨_, rfl⟩
    have hdr : 0 ≤ d ∧ d < 2 * (E : Int) := by omega
    have hdk : (d / 2).toNat = k := by omega
    have hx2 : renM es fl d = x := by
      unfold renM
      rw [hdk, List.getD_eq_getElem?_getD, e]
      show 2 * (((x / 2).toNat : Nat) : Int) + (d + fl.getD k 0) % 2 = x
      omega
    have hdm : d ∈ rows.flatten := (hW.mem _).mpr hdr
    have hn : nodeOf rows d ∈ nodes := (h.nm _).mpr (at_lt hdm)
    obtain ⟨u, v, e1, e2, _⟩ := h.row _ _ (at_idxN hn)
    have h2 := row_node hdm
    have h3 : renM es fl d ∈ rows'.getD (nodes.idxOf (nodeOf rows d)) [] := by
      rw [e2]
      refine List.mem_map.mpr ⟨d, ?_, rfl⟩
      rw [e1] at h2
      rcases List.mem_append.mp h2 with z | z
      · exact List.mem_append_right _ z
      · exact List.mem_append_left _ z
    rw [← hx2]
    exact (mem_row h3).1
theorem Mixed.iso (h : Mixed rim E rows rows' nodes es fl) (hW : WF rows E) (hr : rim ≤ rows.length) : Iso rim rows rows' (fun n => n < rows.length) (renM es fl) (fun n => nodes.idxOf n) := by
  have hr2 : ∀ {n : Nat} {d : Int}, d ∈ rows.getD n [] → 0 ≤ d ∧ d < 2 * (E : Int) := fun hd => (hW.mem _).mp (mem_row hd).1
  have hW2 := h.wf hW
  have hrl : rim ≤ nodes.length := by
    rcases Nat.eq_zero_or_pos rim with z | z
    · omega
    · have := (List.getElem?_eq_some_iff.mp (h.nr (rim - 1) (by omega))).1
      omega
  have tf : ∀ d ∈ rows.flatten, twin d ∈ rows.flatten := fun d hd => (hW.mem _).mpr (twin_range ((hW.mem _).mp hd))
  refine ⟨hr, by rw [h.len]; exact hrl, hW.nd, tf, fun n hn => by omega, fun n d _ hd => at_lt (tf d (mem_row hd).1), fun n hn => ⟨idx_atN h.nn (h.nr n hn), ?_⟩, fun n hn _ => ?_, fun n d _ _ => Mixed.twin_ d, fun n d hn hd => ?_, fun n m d e _ _ hd he eq => h.inj (hr2 hd) (hr2 he) eq, fun n m hn hm eq => ?_⟩
  · obtain ⟨u, v, e1, e2, e3⟩ := h.row n n (h.nr n hn)
    rw [e2, e1, e3 hn]
    simp
  · obtain ⟨u, v, e1, e2, _⟩ := h.row _ _ (at_idxN ((h.nm n).mpr hn))
    exact ⟨u, v, e1, e2⟩
  · refine node_row hW2.nd ?_
    obtain ⟨u, v, e1, e2, _⟩ := h.row _ _ (at_idxN ((h.nm n).mpr hn))
    rw [e2]
    refine List.mem_map.mpr ⟨d, ?_, rfl⟩
    rw [e1] at hd
    rcases List.mem_append.mp hd with z | z
    · exact List.mem_append_right _ z
    · exact List.mem_append_left _ z
  · have a := at_idxN ((h.nm n).mpr hn)
    have b := at_idxN ((h.nm m).mpr hm)
    have eq2 : nodes.idxOf n = nodes.idxOf m := eq
    rw [eq2, b] at a
    exact (Option.some.inj a).symm
/-- both come to the same numbered net -/
theorem Mixed.num (h : Mixed rim E rows rows' nodes es fl) (hW : WF rows E) (hr : rim ≤ rows.length) {qs qs' : List Rat} (hq : ∀ e, e < E → qs'.getD (es.getD e 0) 0 = qs.getD e 0) : numRows rim rows' = numRows rim rows ∧ numQs rim rows' qs' = numQs rim rows qs := by
  have I := h.iso hW hr
  have hW2 := h.wf hW
  obtain ⟨h1, h2⟩ := num_inv hW hr
  refine ⟨?_, I.qsEq hW hW2 fun d hd => ?_⟩
  · obtain ⟨a, b⟩ := I.num hW hW2
    unfold numRows
    rw [a]
    show ((numF rim rows).rows.map fun row : List Int => row.map _).map (fun row : List Int => row.map (markD ((numF rim rows).firsts.map _))) = _
    rw [List.map_map]
    refine List.ext_getElem? fun i => ?_
    rw [List.getElem?_map, List.getElem?_map]
    cases e : (numF rim rows).rows[i]? with
    | none => rfl
    | some row =>
      show some ((row.map _).map _) = some (row.map _)
      rw [List.map_map]
      congr 1
      refine List.map_congr_left fun d hd => ?_
      have hd2 : d ∈ (numF rim rows).rows.getD i [] := by rw [getD_at e]; exact hd
      have hmet := h2 i d hd2
      -- the marks of what is renamed
      have key : ∀ x : Int, x ∈ rows.flatten → (renM es fl x ∈ (numF rim rows).firsts.map (renM es fl) ↔ x ∈ (numF rim rows).firsts) ∧ (x ∈ (numF rim rows).firsts → ((numF rim rows).firsts.map (renM es fl)).idxOf (renM es fl x) = (numF rim rows).firsts.idxOf x) := fun x hx => by
        have hi : ∀ y ∈ (numF rim rows).firsts, renM es fl y = renM es fl x → y = x := fun y hy e => h.inj ((hW.mem _).mp (h1.fd y hy).2.2) ((hW.mem _).mp hx) e
        refine ⟨⟨fun z => ?_, fun z => List.mem_map.mpr ⟨x, z, rfl⟩⟩, fun z => idx_map z hi⟩
        obtain ⟨y, hy, e⟩ := List.mem_map.mp z
        exact hi y hy e ▸ hy
      obtain ⟨n, _, _, hdf, _, _⟩ := h1.darts hW hd2
      have htf : twin d ∈ rows.flatten := (hW.mem _).mpr (twin_range ((hW.mem _).mp hdf))
      obtain ⟨a1, a2⟩ := key d hdf
      obtain ⟨b1, b2⟩ := key _ htf
      show markD _ (renM es fl d) = _
      unfold markD
      by_cases z : d ∈ (numF rim rows).firsts
      · rw [if_pos z, if_pos (a1.mpr z), a2 z]
      · rw [if_neg z, if_neg (fun q => z (a1.mp q)), ← Mixed.twin_, b2 (hmet.resolve_left z)]
  · have hd2 := (hW.mem _).mp (h1.fd d hd).2.2
    rw [(h.half hd2).2]
    have := hq (d / 2).toNat (by omega)
    rw [← this]
    rfl
end
end Rz

set_option maxHeartbeats 4000000
/-! Rules for the program's moves: comprehensions over enumerate of a tuple, of two clauses, displayed dicts; nets with other amounts, with other darts. -/
namespace Rz
open PySem PySem.Spec PyProof.Rows L2
section
variable {K : PySem.W.Frag} {σ : L2.St} {H : Hp} {g g1 : TG} {ta : TA} {tl tl1 te : TE} {tt tt1 : TT} {vs vs1 : List Nat} {Q : VK} {wi1 : TI}
theorem g_lcEnT (h : ta σ H (rEnT K 0 (lcW g tt te vs σ Q))) : tLc (iEnT K ta) g tt te vs σ H Q := h
theorem lc_enT {a : Addr} {xs : List V} (h : SqT K H a xs) (Pv : Addr → Nat → List V → Hp → Prop) (h0 : ∀ p, H p = none → Pv p 0 [] (upd H p (.lst []))) (hl : ∀ p i acc H', H p = none → Pv p i acc H' → SqT K H' a xs)
    (hs : ∀ p i x T acc H', H p = none → xs[i]? = some x → Pv p i acc H' → H' T = none → g (.ref T) (wipe σ vs) (upd H' T (.tup [.int (i : Nat), x])) fun σ2 H2 => wipe σ2 vs = wipe σ vs ∧ te σ2 H2 (lcN (Pv p) p i))
    (hd : ∀ p acc H', H p = none → Pv p xs.length acc H' → Q (.ref p) H') : rEnT K 0 (lcW g tYes te vs σ Q) [.ref a] H := by
  refine ⟨a, rfl, ⟨xs, h⟩, fun p hp => ⟨fun i m H' => m = xs.length - i ∧ i ≤ xs.length ∧ ∃ acc, Pv p i acc H', ⟨_, rfl, Nat.zero_le _, [], h0 p hp⟩, fun i m H' hw => ?_⟩⟩
  obtain ⟨rfl, hi, acc, pv⟩ := hw
  have q := hl p i acc H' hp pv
  rcases Nat.lt_or_eq_of_le hi with hlt | heq
  · refine .inr ⟨⟨xs, xs[i], q, List.getElem?_eq_getElem hlt⟩, fun H2 => ∃ acc2, Pv p (i + 1) acc2 H2, fun H2 p2 => ⟨xs.length - (i + 1), by omega, rfl, hlt, p2⟩, fun v H2 y => ?_⟩
    obtain ⟨T, x, rfl, hT, rfl, y⟩ := y
    have := hs p i x T acc _ hp (y xs q) pv hT
    rw [show (0 : Int) + (i : Int) = (i : Int) by omega]
    exact this
  · subst heq
    exact .inl ⟨⟨xs, q, rfl⟩, hd p acc H' hp pv⟩
/-- two clauses -/
def lc2W (g : TG) (tt : TT) (wi1 : TI) (g1 : TG) (tt1 : TT) (te : TE) (vs vs1 : List Nat) (σ : L2.St) (Q : VK) : It → Hp → Prop := fun J H1 => ∀ D, H1 D = none → ∃ W : Nat → Nat → Hp → Prop, (∃ m, W 0 m (upd H1 D (.lst []))) ∧ ∀ i m H, W i m H →
  (J.stop i H ∧ Q (.ref D) H) ∨ (J.go i H ∧ ∃ Nx : Hp → Prop, (∀ H', Nx H' → ∃ m', m' < m ∧ W (i + 1) m' H') ∧ ∀ x H', J.yld i H x H' → g x (wipe σ vs) H' fun σ2 H2 => wipe σ2 vs = wipe σ vs ∧ tt σ2 H2 fun b H3 =>
    if b = true then wi1 σ2 H3 fun J1 H4 => ∃ W1 : Nat → Nat → Hp → Prop, (∃ m, W1 0 m H4) ∧ ∀ j k H, W1 j k H →
      (J1.stop j H ∧ Nx H) ∨ (J1.go j H ∧ ∃ Nx1 : Hp → Prop, (∀ H', Nx1 H' → ∃ k', k' < k ∧ W1 (j + 1) k' H') ∧ ∀ x H', J1.yld j H x H' → g1 x (wipe σ2 vs1) H' fun σ3 H5 => wipe σ3 vs1 = wipe σ2 vs1 ∧ tt1 σ3 H5 fun b H6 =>
        if b = true then te σ3 H6 fun y H7 => ∃ acc, H7 D = some (.lst acc) ∧ acc.length < sizeLine ∧ Nx1 (upd H7 D (.lst (acc ++ [y]))) else Nx1 H6)
    else Nx H3)
theorem g_lc2T (h : tl σ H (rItT K (lc2W g tt wi1 g1 tt1 te vs vs1 σ Q))) : tLc2 (iTup K tl) g tt wi1 g1 tt1 te vs vs1 σ H Q := h
/-- [y for x in row for y in f(x)] -/
theorem flat_lc2 {i0 i1 : Nat} {a : Addr} {row : List Int} (f : Int → List Int) (h : SqT K H a (row.map V.int)) (hlen : (row.flatMap f).length ≤ 1000000) (hw0 : ∀ x, wipe ((wipe σ vs).set i0 (some x)) vs = wipe σ vs)
    (hw1 : ∀ x y, wipe ((wipe ((wipe σ vs).set i0 (some x)) vs1).set i1 (some y)) vs1 = wipe ((wipe σ vs).set i0 (some x)) vs1) (hv : ∀ x y, ((wipe ((wipe σ vs).set i0 (some x)) vs1).set i1 (some y))[i1]? = some (some y))
    (hin : ∀ (j : Nat) d H' (Q2 : VK), row[j]? = some d → Same H H' → (∀ b H'', Same H' H'' → SqT K H'' b ((f d).map V.int) → Q2 (.ref b) H'') → tl1 ((wipe σ vs).set i0 (some (.int d))) H' Q2)
    (q : ∀ l H', Same H H' → H l = none → H' l = some (.lst ((row.flatMap f).map V.int)) → Q (.ref l) H') : rItT K (lc2W (gName i0) tYes (iTup K tl1) (gName i1) tYes (tVar i1) vs vs1 σ Q) (.ref a) H := by
  have pre : ∀ i, ((row.take i).flatMap f).length ≤ (row.flatMap f).length := fun i => by
    have e : row.flatMap f = (row.take i).flatMap f ++ (row.drop i).flatMap f := by rw [← List.flatMap_append, List.take_append_drop]
    rw [e, List.length_append]
    omega
  refine ⟨a, rfl, ⟨_, h⟩, fun D hD => ⟨fun i m H' => m = row.length - i ∧ i ≤ row.length ∧ Same H H' ∧ H' D = some (.lst (((row.take i).flatMap f).map V.int)), ⟨_, rfl, Nat.zero_le _, up_same hD, upd_same⟩, fun i m H' hw => ?_⟩⟩
  obtain ⟨rfl, hi, sm, eD⟩ := hw
  have hq := Same.sqt sm h
  rcases Nat.lt_or_eq_of_le hi with hlt | heq
  · have hri : row[i]? = some row[i] := List.getElem?_eq_getElem hlt
    have hmi : (row.map V.int)[i]? = some (.int row[i]) := by rw [List.getElem?_map, hri]; rfl
    refine .inr ⟨⟨_, .int row[i], hq, hmi⟩, fun H2 => Same H H2 ∧ H2 D = some (.lst (((row.take (i + 1)).flatMap f).map V.int)), fun H2 p2 => ⟨row.length - (i + 1), by omega, rfl, hlt, p2.1, p2.2⟩, fun x H2 y => ?_⟩
    obtain ⟨rfl, y⟩ := y
    have y2 := y _ hq
    rw [hmi] at y2
    obtain rfl := Option.some.inj y2
    refine ⟨hw0 _, ?_⟩
    show tl1 _ _ _
    refine hin i row[i] _ _ hri sm fun b H3 s3 hb => ?_
    have etk : (row.take (i + 1)).flatMap f = (row.take i).flatMap f ++ f row[i] := by
      rw [List.take_succ, hri, List.flatMap_append]
      congr 1
      show (f row[i] ++ []) = f row[i]
      rw [List.append_nil]
    have hle := pre (i + 1)
    rw [etk, List.length_append] at hle
    refine ⟨b, rfl, ⟨_, hb⟩, fun j k H4 => k = (f row[i]).length - j ∧ j ≤ (f row[i]).length ∧ Same H H4 ∧ SqT K H4 b ((f row[i]).map V.int) ∧ H4 D = some (.lst (((row.take i).flatMap f ++ (f row[i]).take j).map V.int)), ⟨_, rfl, Nat.zero_le _, sm.trans s3, hb, by rw [List.take_zero, List.append_nil]; exact s3 _ _ eD⟩, fun j k H4 hw4 => ?_⟩
    obtain ⟨rfl, hj, sm4, hb4, eD4⟩ := hw4
    rcases Nat.lt_or_eq_of_le hj with hlt2 | heq2
    · have hrj : (f row[i])[j]? = some (f row[i])[j] := List.getElem?_eq_getElem hlt2
      have hmj : ((f row[i]).map V.int)[j]? = some (.int (f row[i])[j]) := by rw [List.getElem?_map, hrj]; rfl
      refine .inr ⟨⟨_, .int (f row[i])[j], hb4, hmj⟩, fun H5 => Same H H5 ∧ SqT K H5 b ((f row[i]).map V.int) ∧ H5 D = some (.lst (((row.take i).flatMap f ++ (f row[i]).take (j + 1)).map V.int)), fun H5 p5 => ⟨(f row[i]).length - (j + 1), by omega, rfl, hlt2, p5.1, p5.2.1, p5.2.2⟩, fun x H5 y => ?_⟩
      obtain ⟨rfl, y⟩ := y
      have y2 := y _ hb4
      rw [hmj] at y2
      obtain rfl := Option.some.inj y2
      refine ⟨hw1 _ _, ?_⟩
      unfold tYes
      dsimp only
      rw [if_pos rfl]
      refine ⟨_, hv _ _, _, eD4, ?_, fun c o e => ?_, ?_, ?_⟩
      · rw [List.length_map, List.length_append, List.length_take, sizeLine_eq]
        omega
      · rw [upd_ne (ne_of_none e hD)]
        exact sm4 _ _ e
      · exact Kp.sqt Kp.upd eD4 hb4
      · rw [upd_same, show (f row[i]).take (j + 1) = (f row[i]).take j ++ [(f row[i])[j]] by rw [List.take_succ, hrj]; rfl, ← List.append_assoc, List.map_append (l₂ := [_])]
        rfl
    · refine .inl ⟨⟨_, hb4, by rw [List.length_map, heq2]; exact Nat.le_refl _⟩, sm4, ?_⟩
      rw [etk, eD4, heq2, List.take_length]
  · subst heq
    refine .inl ⟨⟨_, hq, by rw [List.length_map]; exact Nat.le_refl _⟩, q D H' sm hD ?_⟩
    rw [eD, List.take_length]
end
/-! ### other amounts, other darts -/
def ovr (g : Nat → Option Rat) (qs : List Rat) : List Rat := (List.range qs.length).map fun j => (g j).getD (qs.getD j 0)
def AmD (K : PySem.W.Frag) (H : Hp) (kvs : List (Key × V)) (g : Nat → Option Rat) (n : Nat) : Prop := ∀ j : Nat, j < n → match g j with
  | none => valV kvs (.inl (j : Int)) = none
  | some q => ∃ x, valV kvs (.inl (j : Int)) = some x ∧ RatV K H x q
theorem AmD.same {K : PySem.W.Frag} {H H' : Hp} {kvs : List (Key × V)} {g : Nat → Option Rat} {n : Nat} (h : AmD K H kvs g n) (e : Same H H') : AmD K H' kvs g n := fun j hj => by
  have := h j hj
  cases hg : g j with
  | none => rw [hg] at this; exact this
  | some q =>
    rw [hg] at this
    obtain ⟨x, a, b⟩ := this
    exact ⟨x, a, b.same e⟩
def spWithA (K : PySem.W.Frag) : Sp := fun vs H Q _ => ∃ (v : V) (D : Addr) (kvs : List (Key × V)) (g : Nat → Option Rat) (rim : Nat) (rows : Rows) (qs : List Rat), vs = [v, .ref D] ∧ NetV K H v rim rows qs ∧ H D = some (.dK kvs) ∧ AmD K H kvs g qs.length ∧ qs.length ≤ 1000 ∧
  ∀ v' H', Same H H' → NetV K H' v' rim rows (ovr g qs) → Q v' H'
def DaD (K : PySem.W.Frag) (H : Hp) (kvs : List (Key × V)) (c : Int → Option (List Int)) (rows : Rows) : Prop := ∀ d ∈ rows.flatten, match c d with
  | none => valV kvs (.inl d) = none
  | some ns => ∃ p, valV kvs (.inl d) = some (.ref p) ∧ SqT K H p (ns.map V.int)
def spWithD (K : PySem.W.Frag) : Sp := fun vs H Q _ => ∃ (v : V) (D : Addr) (kvs : List (Key × V)) (c : Int → Option (List Int)) (rim : Nat) (rows : Rows) (qs : List Rat), vs = [v, .ref D] ∧ NetV K H v rim rows qs ∧ H D = some (.dK kvs) ∧ DaD K H kvs c rows ∧ rows.length ≤ 1000 ∧ (∀ row ∈ rows, row.length ≤ 1000) ∧ (∀ d ns, c d = some ns → ns.length ≤ 100) ∧
  ∀ v' H', Same H H' → NetV K H' v' rim (rows.map fun row => row.flatMap fun d => (c d).getD [d]) qs → Q v' H'
theorem ovr_len {g : Nat → Option Rat} {qs : List Rat} : (ovr g qs).length = qs.length := by
  unfold ovr
  rw [List.length_map, List.length_range]
theorem ovr_at {g : Nat → Option Rat} {qs : List Rat} {j : Nat} (h : j < qs.length) : (ovr g qs)[j]? = some ((g j).getD (qs.getD j 0)) := by
  unfold ovr
  rw [List.getElem?_map, List.getElem?_range h]
  rfl
theorem ovr_one {qs : List Rat} {a : Nat} {q : Rat} (h : a < qs.length) : ovr (fun j => if j = a then some q else none) qs = qs.take a ++ [q] ++ qs.drop (a + 1) := by
  refine List.ext_getElem? fun j => ?_
  by_cases hj : j < qs.length
  · rw [ovr_at hj]
    have hq : qs.getD j 0 = qs[j] := by rw [List.getD_eq_getElem?_getD, List.getElem?_eq_getElem hj]; rfl
    rw [hq]
    rcases Nat.lt_trichotomy j a with z | z | z
    · rw [if_neg (by omega), List.append_assoc, List.getElem?_append_left (by rw [List.length_take]; omega), List.getElem?_take, if_pos z, List.getElem?_eq_getElem hj]
      rfl
    · subst z
      rw [if_pos rfl, List.append_assoc, List.getElem?_append_right (by rw [List.length_take]; omega), List.length_take, show j - min j qs.length = 0 by omega]
      rfl
    · rw [if_neg (by omega), List.getElem?_append_right (by rw [List.length_append, List.length_take]; show min a qs.length + 1 ≤ j; omega), List.getElem?_drop, List.length_append, List.length_take]
      rw [show a + 1 + (j - (min a qs.length + [q].length)) = j by show a + 1 + (j - (min a qs.length + 1)) = j; omega, List.getElem?_eq_getElem hj]
      rfl
  · rw [List.getElem?_eq_none (by rw [ovr_len]; omega), List.getElem?_eq_none]
    rw [List.length_append, List.length_append, List.length_take, List.length_drop]
    show min a qs.length + 1 + _ ≤ _
    omega
/-- a dict displayed with one entry -/
theorem g_disp1 {σ : L2.St} {H : Hp} {Q : VK} {tk tv : TE} {d : Int} {x : V} (hk : ∀ (H' : Hp) (Q2 : VK), Q2 (.int d) H' → tk σ H' Q2) (hv : ∀ (H' : Hp) (Q2 : VK), Q2 x H' → tv σ H' Q2) (q : ∀ p, H p = none → Q (.ref p) (upd H p (.dK [(.inl d, x)]))) : tDisp [(tk, tv)] σ H Q := by
  intro p hp
  refine hk _ _ (hv _ _ ?_)
  refine ⟨upd_same, [(.inl d, x)], rfl, by show 1 ≤ 15; decide, ?_⟩
  have e : upd (upd H p (.dK [])) p (.dK (mergeK [] [(.inl d, x)])) = upd H p (.dK [(.inl d, x)]) := by
    funext b
    by_cases z : b = p
    · subst z
      rw [upd_same, upd_same]
      rfl
    · rw [upd_ne z, upd_ne z, upd_ne z]
  rw [e]
  exact q p hp
end Rz

set_option maxHeartbeats 4000000
namespace Rz
open PySem PySem.Spec PyProof.Rows L2

/-! ### t.index(d), numbers -/
def rTIndex (K : PySem.W.Frag) : V → List V → Hp → VK → Prop := fun x vs H Q => ∃ (p : Addr) (ns : List Int) (d : Int), x = .ref p ∧ vs = [.int d] ∧ SqT K H p (ns.map V.int) ∧ d ∈ ns ∧ Q (.int ((ns.idxOf d : Nat) : Int)) H
section
variable {X : Cx} {K : PySem.W.Frag}
theorem mt_tindexK (hK : X.K = K) : MtR X "tuple.index" (rTIndex K) := by
  subst hK
  intro pins s σ H x xs v us Q I rx rs h
  obtain ⟨p, ns, d, rfl, rfl, hq, hd, q⟩ := h
  cases rx
  obtain ⟨u, rfl, t, rfl⟩ := vals1 rs
  obtain ⟨its, r, pl, hz⟩ := I.tuple hq
  obtain ⟨⟨cls, dd, dt, sl⟩, ho, hc, n, hdd⟩ := pl
  simp only at hc hdd
  subst hc
  subst hdd
  have hl : its.toArray.size = ns.length := by rw [List.size_toArray, ← r.length, List.length_map]
  have hjn : ns.idxOf d < ns.length := List.idxOf_lt_length_of_mem hd
  have hj : ns.idxOf d < its.toArray.size := by rw [hl]; exact hjn
  have at' : ∀ (m : Nat) (hm : m < its.toArray.size), ∃ y t', ns[m]? = some y ∧ its.toArray[m] = Value.int y t' := fun m hm => by
    have hm' : m < ns.length := by rw [← hl]; exact hm
    obtain ⟨w, hw, t', hw'⟩ := r.get (i := m) (x := .int ns[m]) (by simp [hm'])
    refine ⟨ns[m], t', List.getElem?_eq_getElem hm', ?_⟩
    have e := (List.getElem?_eq_some_iff.mp hw).2
    rw [← hw', ← e]
    simp
  refine call_meets PySem.F.slot_tuple_index ⟨_, ho, rfl⟩ PySem.F.entry_tuple_index (PySem.F.args_tuple_index_2 _ _) (_root_.TI.tuple_indexAt p its.toArray n dd sl (.int d t) (eqU (.int d)) (ns.idxOf d) hj ?_ ?_)
    ⟨ho, fun w hw => mem_eqAt (x := .int d) ⟨t, rfl⟩ rfl r (flat_ints ns) w (by simpa using hw), ⟨.int ((ns.idxOf d : Nat) : Int), H, I.tok _, ⟨_, rfl⟩, q⟩⟩
  · obtain ⟨y, t', h1, h2⟩ := at' _ hj
    have e : y = d := by
      rw [List.getElem?_eq_getElem hjn, List.getElem_idxOf] at h1
      cases h1
      rfl
    rw [h2, e]
    show (d == d) = true
    exact beq_self_eq_true d
  · intro m hm hmj
    obtain ⟨y, t', h1, h2⟩ := at' m hm
    rw [h2]
    show (y == d) = false
    have hm' : m < ns.length := by rw [← hl]; exact hm
    rw [List.getElem?_eq_getElem hm'] at h1
    cases h1
    exact List.not_of_lt_findIdx (p := fun x => x == d) (xs := ns) (i := m) hmj
/-! ### sets -/
theorem cr_set0N {P : Program} {w : World} (hP : X.prog = P) (hw : X.w = w) : CallR X (.type "set") (rSet0K P w) := by subst hP hw; exact cr_set0K
theorem pe_saddN {P : Program} {w : World} {o e : Expr} {es : List Expr} {to : TE} {t : TA} {apos cpos : Pos} (hP : X.prog = P) (hw : X.w = w) (ho : PE X o to) (ha : PA X (e :: es) t)
    (hbase : attributeBase o "add" X.env (eval o X.env) = eval o X.env := by rfl)
    (hfew : ((backTo cpos (starEach (e :: es) X.env)).all (fun x => !x.1) && (backToKw cpos (keywordEach [] X.env)).all (fun x => x.1.isSome)
      && decide ((e :: es).length + ([] : List Keyword).length + (if ([] : List Keyword).isEmpty then 0 else 1) < 30)) = true := by rfl)
    (hline : (apos.endLine == cpos.line) = true := by rfl) (hs : starEach (e :: es) X.env = (false, eval e X.env) :: starEach es X.env := by rfl) (hplain : (backTo cpos (starEach es X.env)).any (·.1) = false := by rfl) :
    PE X (.Call (.Attribute o "add" apos) (e :: es) [] cpos) (tSAddK P w to t) := by subst hP hw; exact pe_saddK ho ha hbase hfew hline hs hplain
theorem or_sinN {P : Program} {w : World} (hP : X.prog = P) (hw : X.w = w) : OpR X (compareOp .In) (rSInK P w false) := by subst hP hw; exact or_sinK
theorem or_snotinN {P : Program} {w : World} (hP : X.prog = P) (hw : X.w = w) : OpR X (compareOp .NotIn) (rSInK P w true) := by subst hP hw; exact or_snotinK
end
/-- the numbers of a list, as a set of keys -/
def setOf (ns : List Int) (k : Key) : Bool := decide (∃ n ∈ ns, k = .inl n)
section
variable {P : Program} {w : World} {K : PySem.W.Frag} {σ : L2.St} {H : Hp} {Q : VK} {p : Addr}
theorem g_set0 (h : ∀ p, H p = none → Q (.ref p) (upd H p (SetK P w p (fun _ => false) 0))) : rSet0K P w [] H Q := ⟨rfl, h⟩
theorem g_tindex {ns : List Int} {d : Int} (h : SqT K H p (ns.map V.int)) (hd : d ∈ ns) (q : Q (.int ((ns.idxOf d : Nat) : Int)) H) : rTIndex K (.ref p) [.int d] H Q := ⟨p, ns, d, rfl, rfl, h, hd, q⟩
theorem g_sadd {to : TE} {t : TA} (h : to σ H fun x H1 => (∃ a S n, x = V.ref a ∧ H1 a = some (SetK P w a S n)) ∧ t σ H1 fun xs H2 => rSAddK P w x xs H2 Q) : tSAddK P w to t σ H Q := h
theorem g_saddI {S : Key → Bool} {n : Nat} {d : Int} (h : H p = some (SetK P w p S n)) (hn : n + 1 < 4096) (q : Q .non (upd H p (SetK P w p (fun j => S j || decide (j = .inl d)) (if S (.inl d) = true then n else n + 1)))) : rSAddK P w (.ref p) [.int d] H Q :=
  ⟨p, .inl d, S, n, rfl, rfl, h, by unfold scanBound; exact hn, q⟩
theorem g_sinI {S : Key → Bool} {n : Nat} {d : Int} {neg : Bool} (h : H p = some (SetK P w p S n)) (q : Q (.bl (if neg then !S (.inl d) else S (.inl d))) H) : rSInK P w neg (.int d) (.ref p) H Q := ⟨.inl d, p, S, n, rfl, rfl, h, q⟩
theorem g_din {ty td : TE} (h : ty σ H fun y H1 => td σ H1 fun x H2 => ∃ a o, x = .ref a ∧ DGet H2 a y o ∧ Q (.bl o.isSome) H2) : tDIn ty td σ H Q := h
theorem g_dnotin {ty td : TE} (h : ty σ H fun y H1 => td σ H1 fun x H2 => ∃ a o, x = .ref a ∧ DGet H2 a y o ∧ Q (.bl (!o.isSome)) H2) : tDNotIn ty td σ H Q := h
end
/-! ### name = {k: v for ..} -/
section
variable {X : Cx}
theorem ps_setDc {kx vx tg iter : Expr} {ifs : List Expr} {scope : Scope} {own : List (Str × Nat)} {pos : Pos} {wi : TI} {g : TG} {tt : TT} {tk tv : TE} {i : Nat} {y : Str} {py spos : Pos} (hc : X.calm = true) (hN : X.N.Nodup) (hy : X.N[i]? = some y) (hyl : X.env.scope.names.lookup y = some .local)
    (hsw : swapsWith (.DictComp kx vx [⟨tg, iter, ifs, 0⟩] scope pos) (some (.Name y py)) spos.line X.env = pure true)
    (hi : PI X tg iter wi) (ok : BlkOk X.N X.env.scope scope own)
    (hg : ∀ (s : Shared) (H : Hp) (C : Addr) (cl : List (Str × Addr)) (fp : List Addr), PG (X.blk s H scope (compEnvC scope cl C X.env) fp) tg g) (ht : ∀ (s : Shared) (H : Hp) (C : Addr) (cl : List (Str × Addr)) (fp : List Addr), PTs (X.blk s H scope (compEnvC scope cl C X.env) fp) ifs tt)
    (hk : ∀ (s : Shared) (H : Hp) (C : Addr) (cl : List (Str × Addr)) (fp : List Addr), PE (X.blk s H scope (compEnvC scope cl C X.env) fp) kx tk)
    (he : ∀ (s : Shared) (H : Hp) (C : Addr) (cl : List (Str × Addr)) (fp : List Addr), PE (X.blk s H scope (compEnvC scope cl C X.env) fp) vx tv) (hs : ∀ x, foldedSetIterable iter X.env x = pure x := by intro _; rfl) :
    PS X (.Assign [.Name y py] (.DictComp kx vx [⟨tg, iter, ifs, 0⟩] scope pos) spos) (tAsg (tDc wi g tt tk tv (own.map (·.2))) (gName i)) := by
  refine ⟨fun pins s σ H D I h => ?_⟩
  rw [exec_Assign_Name_used _ _ _ _ hsw]
  refine wpAny_bind (wpAny_standAt (wpAny_bind ?_))
  show wpAny _ X.A (do let _ ← comprehension (.DictComp kx vx [⟨tg, iter, ifs, 0⟩] scope pos) scope X.env (firstIterPos [⟨tg, iter, ifs, 0⟩] pos) newDict false (eval iter X.env) (some (assign (.Name y py) X.env))) _ _ s
  have h2 : tDc wi g tt tk tv (own.map (·.2)) σ H (fun x H1 => gName i x σ H1 D.nx) := h
  refine wpAny_bind (thn (dc_core (Qf := fun _ s' => SP X pins D .next s') hc hN I hi ok hg ht hk he hs h2 fun L C s' m H' I' q hn f => ?_) fun _ s' hq => wpAny_pure (wpAny_pure hq))
  show wpAny _ _ (assign (.Name y py) X.env (.ref L)) _ _ _
  refine wpAny_assign_Name (store_ok2 (v := V.ref L) I' hN hy (.inl hyl) rfl (fun s2 I2 ⟨a, sb, ha⟩ => ?_) (.inr hyl))
  refine ⟨m, hn.sameBut sb ?_, fun h3 sb3 => ⟨_, H', I2.turned (t' := s2.toks) (fun b o hb e => (sb3.2 b hb).trans e) f.1 f.2.1 f.2.2.2.1 f.2.2.2.2.1 f.2.2.2.2.2, q⟩⟩
  rcases ha with z | z
  · rw [z]
    exact f.2.1
  · exact fun e => f.2.2.2.2.1 y a z e.symm
end
/-- a dict comprehension, by the head of its walk -/
def dcW (g : TG) (tt : TT) (tk tv : TE) (vs : List Nat) (σ : L2.St) (Q : VK) : It → Hp → Prop := fun J H1 => ∀ D, H1 D = none → ∃ W : Nat → Nat → Hp → Prop, (∃ m, W 0 m (upd H1 D (.dK []))) ∧ ∀ i m H, W i m H →
  (J.stop i H ∧ Q (.ref D) H) ∨ (J.go i H ∧ ∃ Nx : Hp → Prop, (∀ H', Nx H' → ∃ m', m' < m ∧ W (i + 1) m' H') ∧ ∀ x H', J.yld i H x H' → g x (wipe σ vs) H' fun σ2 H2 => wipe σ2 vs = wipe σ vs ∧ tt σ2 H2 fun b H3 =>
    if b = true then tk σ2 H3 fun y H4 => tv σ2 H4 fun z H5 => ∃ kvs k, y = kV k ∧ H5 D = some (.dK kvs) ∧ kvs.length < sizeLine ∧ Nx (upd H5 D (.dK (putK kvs k z))) else Nx H3)
section
variable {K : PySem.W.Frag} {σ : L2.St} {H : Hp} {g : TG} {tt : TT} {tk tv te tl : TE} {ta : TA} {vs : List Nat} {Q : VK}
theorem g_dcR2 (h : ta σ H (rRng2 (dcW g tt tk tv vs σ Q))) : tDc (iRng2 ta) g tt tk tv vs σ H Q := h
theorem g_dcL (h : tl σ H (rItL K (dcW g tt tk tv vs σ Q))) : tDc (iList K tl) g tt tk tv vs σ H Q := h
/-- behind a turn: y: z is put into the dict at D -/
def dcN (Pv : Nat → List (Key × V) → Hp → Prop) (D : Addr) (i : Nat) (y : V) : VK := fun z H5 => ∃ kvs k, y = kV k ∧ H5 D = some (.dK kvs) ∧ kvs.length < sizeLine ∧ ∃ kvs2, Pv (i + 1) kvs2 (upd H5 D (.dK (putK kvs k z)))
theorem dcN_of {Pv : Nat → List (Key × V) → Hp → Prop} {D : Addr} {i : Nat} {k : Key} {z : V} {H5 : Hp} {kvs : List (Key × V)} (h : H5 D = some (.dK kvs)) (hl : kvs.length ≤ 1000000) (q : Pv (i + 1) (putK kvs k z) (upd H5 D (.dK (putK kvs k z)))) : dcN Pv D i (kV k) z H5 :=
  ⟨kvs, k, rfl, h, by have := sizeLine_eq; omega, _, q⟩
theorem dc_rng2 {lo hi : Int} {i₀ : Nat} (n : Nat) (e : hi = lo + (n : Int)) (hlo : -1000 ≤ lo) (hlo2 : lo ≤ 1000) (hn : n < 1000000) (Pv : Addr → Nat → List (Key × V) → Hp → Prop) (hw : ∀ x, wipe ((wipe σ vs).set i₀ (some x)) vs = wipe σ vs)
    (h0 : ∀ D, H D = none → Pv D 0 [] (upd H D (.dK [])))
    (hs : ∀ D (i : Nat) kvs H', H D = none → i < n → Pv D i kvs H' → tk ((wipe σ vs).set i₀ (some (.int (lo + (i : Int))))) H' fun y H4 => tv ((wipe σ vs).set i₀ (some (.int (lo + (i : Int))))) H4 (dcN (Pv D) D i y))
    (hd : ∀ D kvs H', H D = none → Pv D n kvs H' → Q (.ref D) H') : rRng2 (dcW (gName i₀) tYes tk tv vs σ Q) [.int lo, .int hi] H := by
  subst e
  refine ⟨_, _, rfl, ⟨by omega, by omega, by omega, by omega⟩, fun D hD => ?_⟩
  rw [show (lo + (n : Int) - lo).toNat = n by omega]
  refine ⟨fun i m H' => m = n - i ∧ i ≤ n ∧ ∃ kvs, Pv D i kvs H', ⟨_, rfl, Nat.zero_le _, [], h0 D hD⟩, ?_⟩
  rintro i m H' ⟨rfl, hi, kvs, p⟩
  by_cases hlt : i < n
  · refine .inr ⟨hlt, fun H2 => ∃ kvs2, Pv D (i + 1) kvs2 H2, fun H2 p' => ⟨n - (i + 1), by omega, rfl, hlt, p'⟩, fun x H2 y => ?_⟩
    obtain ⟨rfl, rfl⟩ := y
    exact ⟨hw _, hs D i kvs _ hD hlt p⟩
  · have e : i = n := by omega
    subst e
    exact .inl ⟨Nat.le_refl _, hd D kvs H' hD p⟩
end
theorem g_listRg {te : L2.St → Hp → (Int → Int → Hp → Prop) → Prop} {σ : L2.St} {H : Hp} {Q : VK} (h : te σ H fun a b H1 => RgOk a b ∧ ∀ q, H1 q = none → Q (.ref q) (upd H1 q (.lst (rgV a b)))) : tLstRg te σ H Q := h
theorem g_rg1 {ta : TE} {σ : L2.St} {H : Hp} {Q : Int → Int → Hp → Prop} (h : ta σ H fun x H1 => ∃ n, x = .int n ∧ Q 0 n H1) : tRg1 ta σ H Q := h
theorem g_rg2 {ta tb : TE} {σ : L2.St} {H : Hp} {Q : Int → Int → Hp → Prop} (h : ta σ H fun x H1 => tb σ H1 fun y H2 => ∃ i j, x = .int i ∧ y = .int j ∧ Q i j H2) : tRg2 ta tb σ H Q := h
theorem rgV_nat (n : Nat) : rgV 0 (n : Int) = ntS (List.range n) := by
  unfold rgV ntS
  rw [show ((n : Int) - 0).toNat = n by omega]
  refine List.map_congr_left fun i _ => ?_
  rw [Int.zero_add]
/-! ### tuples that are known to have no dict: made by tuple(list), asked by .index -/
def TupO (o : Obj) : Prop := o.cls = .type "tuple" ∧ o.dict = none
def SqN (H : Hp) (p : Addr) (xs : List V) : Prop := ∃ o, H p = some (.frz o (.tup xs)) ∧ TupO o
section
variable {X : Cx} {K : PySem.W.Frag}
theorem SqN.sqt {H : Hp} {p : Addr} {xs : List V} (h : SqN H p xs) : SqT K H p xs := by
  obtain ⟨o, e, _⟩ := h
  exact .inl (.inr ⟨o, e⟩)
theorem SqN.same {H H' : Hp} {p : Addr} {xs : List V} (h : SqN H p xs) (s : Same H H') : SqN H' p xs := by
  obtain ⟨o, e, z⟩ := h
  exact ⟨o, s _ _ e, z⟩
theorem SqN.upd {H : Hp} {S p : Addr} {xs : List V} {o o' : HO} (e : H S = some o) (h2 : ∀ u ys, o ≠ .frz u (.tup ys)) (h : SqN H p xs) : SqN (upd H S o') p xs := by
  obtain ⟨u, e2, z⟩ := h
  refine ⟨u, ?_, z⟩
  rw [upd_ne (fun y => by rw [y, e] at e2; exact h2 _ _ (Option.some.inj e2))]
  exact e2
def rTupleF (K : PySem.W.Frag) : List V → Hp → VK → Prop := fun xs H Q => ∃ p ys, xs = [.ref p] ∧ SqL K H p ys ∧ ∀ l o, H l = none → TupO o → Q (.ref l) (upd H l (.frz o (.tup ys)))
theorem zc_tupleF (hK : X.K = K) : CallR X (.type "tuple") (rTupleF K) := by
  subst hK
  intro pins s σ H xs us Q I r h
  obtain ⟨p, ys, rfl, hq, q⟩ := h
  obtain ⟨u, rfl, rx⟩ := vals1 r
  cases rx
  obtain ⟨its, r', pl, hz⟩ := I.list hq
  have hlen := r'.length
  refine call_tuple_list pl.isList (fun h' kp => ?_) (by simp only [List.size_toArray] <;> omega)
  have I1 : Inv X pins σ H { s with heap := h' } := I.kept (t' := s.toks) kp
  have I2 : Inv X pins σ (upd H h'.objs.size (.frz { cls := .type "tuple", data := .seq its.toArray } (.tup ys))) { s with heap := h'.push { cls := .type "tuple", data := .seq its.toArray } } :=
    I1.laid (t' := s.toks) (fun b o e => Heap.get?_push_of_some _ e) (Nat.le_refl _) ⟨Heap.get?_push_size _ rfl, show ObjOk X.prog X.w _ _ _ (.tup ys) from ⟨hz, its, r', IsTup.new _ _⟩⟩
  exact ⟨.ref h'.objs.size, _, I2, rfl, q _ _ (I1.hok.fresh (Nat.le_refl _)) ⟨rfl, rfl⟩⟩
theorem g_tupleF {Q : VK} {H : Hp} {p : Addr} {xs : List V} (h : SqL K H p xs) (q : ∀ l o, H l = none → TupO o → Q (.ref l) (upd H l (.frz o (.tup xs)))) : rTupleF K [.ref p] H Q := ⟨p, xs, rfl, h, q⟩
def rBMT (r : V → List V → Hp → VK → Prop) (t : TA) (σ : L2.St) (Q : VK) : VK := fun x H1 => (∃ p xs, x = .ref p ∧ SqN H1 p xs) ∧ t σ H1 fun xs H2 => r x xs H2 Q
def tBMT (r : V → List V → Hp → VK → Prop) (to : TE) (t : TA) : TE := fun σ H Q => to σ H (rBMT r t σ Q)
variable {o e : Expr} {es : List Expr} {to : TE} {t : TA} {name : Str} {apos cpos : Pos} {id : String} {r : V → List V → Hp → VK → Prop}
theorem pe_bmT (pa : PlainAttrs "tuple") (slot : Slot "tuple" name id) (hty : typeOf (.builtin id) = pure (.type "method_descriptor")) (hm : MtR X id r) (ho : PE X o to) (ha : PA X (e :: es) t)
    (hbase : attributeBase o name X.env (eval o X.env) = eval o X.env := by rfl)
    (hfew : ((backTo cpos (starEach (e :: es) X.env)).all (fun x => !x.1) && (backToKw cpos (keywordEach [] X.env)).all (fun x => x.1.isSome)
      && decide ((e :: es).length + ([] : List Keyword).length + (if ([] : List Keyword).isEmpty then 0 else 1) < 30)) = true := by rfl)
    (hline : (apos.endLine == cpos.line) = true := by rfl) (hs : starEach (e :: es) X.env = (false, eval e X.env) :: starEach es X.env := by rfl) (hplain : (backTo cpos (starEach es X.env)).any (·.1) = false := by rfl) :
    PE X (.Call (.Attribute o name apos) (e :: es) [] cpos) (tBMT r to t) := by
  refine ⟨fun pins s σ H Q I h => ?_⟩
  refine wpAny_Call_method_late hbase hfew hline rfl (thn (ho.run pins s σ H _ I h) fun v s1 ⟨x, H1, I1, r1, ty, q1⟩ => ?_)
  obtain ⟨p, xs, rfl, ob, hp, hc, hd⟩ := ty
  cases r1
  have hg := (I1.hok p _ hp).1
  refine ⟨"tuple", id, pa, slot, hty, ⟨ob, hg, hc⟩, fun a e2 => ?_, ?_⟩
  · cases e2
    exact ⟨ob, hg, hd⟩
  have hA := ha.run cpos pins s1 σ H1 _ I1 q1
  rw [hs] at hA ⊢
  refine Calls.callWith_builtin (by show (false || (backTo cpos (starEach es X.env)).any (·.1)) = false; rw [hplain] <;> rfl) (Calls.evalArgs_plain ?_)
  exact thn hA fun us s2 ⟨vs, H2, I2, r2, q2⟩ => hm pins s2 σ H2 _ vs _ us Q I2 (show RelV (.ref p) (.ref p) from rfl) r2 q2
theorem g_bmT {Q : VK} {σ : L2.St} {H : Hp} (h : to σ H (rBMT r t σ Q)) : tBMT r to t σ H Q := h
theorem g_rbmT {Q : VK} {σ : L2.St} {H : Hp} {p : Addr} {xs : List V} (h : SqN H p xs) (q : t σ H fun xs H2 => r (.ref p) xs H2 Q) : rBMT r t σ Q (.ref p) H := ⟨⟨p, xs, rfl, h⟩, q⟩
end
section
variable {X : Cx} {K : PySem.W.Frag} {o e : Expr} {es : List Expr} {to : TE} {t : TA} {name : Str} {apos cpos : Pos} {T id : String} {r : V → List V → Hp → VK → Prop}
/-- a method, the fragment by name: within a comprehension -/
theorem pe_bmK (hK : X.K = K) (pa : PlainAttrs T) (slot : Slot T name id) (hty : typeOf (.builtin id) = pure (.type "method_descriptor")) (hm : MtR X id r) (ho : PE X o to) (ha : PA X (e :: es) t)
    (hbase : attributeBase o name X.env (eval o X.env) = eval o X.env := by rfl)
    (hfew : ((backTo cpos (starEach (e :: es) X.env)).all (fun x => !x.1) && (backToKw cpos (keywordEach [] X.env)).all (fun x => x.1.isSome)
      && decide ((e :: es).length + ([] : List Keyword).length + (if ([] : List Keyword).isEmpty then 0 else 1) < 30)) = true := by rfl)
    (hline : (apos.endLine == cpos.line) = true := by rfl) (hs : starEach (e :: es) X.env = (false, eval e X.env) :: starEach es X.env := by rfl) (hplain : (backTo cpos (starEach es X.env)).any (·.1) = false := by rfl) :
    PE X (.Call (.Attribute o name apos) (e :: es) [] cpos) (tBM K T r to t) := by
  subst hK
  exact pe_bm pa slot hty hm ho ha hbase hfew hline hs hplain
end
end Rz

namespace Rz
open PySem PySem.Spec PyProof.Rows L2

theorem sqt_upd {K : PySem.W.Frag} {H : Hp} {S a : Addr} {xs : List V} {o o' : HO} (e : H S = some o) (h1 : ∀ ys, o ≠ .tup ys) (h2 : ∀ u ys, o ≠ .frz u (.tup ys)) (h : SqT K H a xs) : SqT K (upd H S o') a xs := by
  rcases h with (h | ⟨u, h⟩) | h
  · refine .inl (.inl ?_)
    rw [upd_ne (fun z => by rw [z, e] at h; exact h1 _ (Option.some.inj h))]
    exact h
  · refine .inl (.inr ⟨u, ?_⟩)
    rw [upd_ne (fun z => by rw [z, e] at h; exact h2 _ _ (Option.some.inj h))]
    exact h
  · exact .inr h
theorem TsL.upd {K : PySem.W.Frag} {H : Hp} {S : Addr} {ts : List Addr} {rows : Rows} {o o' : HO} (e : H S = some o) (h1 : ∀ ys, o ≠ .tup ys) (h2 : ∀ u ys, o ≠ .frz u (.tup ys)) (h : TsL K H ts rows) : TsL K (upd H S o') ts rows := ⟨h.len, fun i r row a b => sqt_upd e h1 h2 (h.row i r row a b)⟩
theorem TsL.snoc {K : PySem.W.Frag} {H : Hp} {ts : List Addr} {rows : Rows} {u : Addr} {row : List Int} (h : TsL K H ts rows) (hu : SqT K H u (row.map V.int)) : TsL K H (ts ++ [u]) (rows ++ [row]) := h.app ⟨rfl, fun j r' row' a b => by
  cases j with
  | zero =>
    cases a
    cases b
    exact hu
  | succ j => simp at a⟩
/-- the program's state of numbers in the heap -/
structure NH (P : Program) (w : World) (K : PySem.W.Frag) (H0 H : Hp) (T F N M : Addr) (us : List Addr) (rows : Rows) (st : NSt) : Prop where
  sm : Same H0 H
  T0 : H0 T = none
  F0 : H0 F = none
  N0 : H0 N = none
  M0 : H0 M = none
  TF : T ≠ F
  eT : H T = some (.lst (us.map V.ref))
  hT : TsL K H us st.rows
  eF : H F = some (.lst (st.firsts.map V.int))
  eN : ∃ kvs, H N = some (.dK kvs) ∧ kvs.length ≤ 1000 + st.order.length ∧ ∀ n : Nat, n < rows.length → valV kvs (.inl ((n : Int) + 1)) = if n ∈ st.order then some (V.bl true) else none
  eM : ∃ S c, H M = some (SetK P w M S c) ∧ c ≤ 2 * st.firsts.length ∧ ∀ d : Int, S (.inl d) = decide (d ∈ st.firsts ∨ twin d ∈ st.firsts)
section
variable {P : Program} {w : World} {K : PySem.W.Frag} {H0 H H' : Hp} {T F N M : Addr} {us : List Addr} {rows : Rows} {st : NSt}
theorem NH.same (h : NH P w K H0 H T F N M us rows st) (e : Same H H') : NH P w K H0 H' T F N M us rows st := by
  obtain ⟨kvs, a, b, c⟩ := h.eN
  obtain ⟨S, n, a2, b2, c2⟩ := h.eM
  exact ⟨h.sm.trans e, h.T0, h.F0, h.N0, h.M0, h.TF, e _ _ h.eT, h.hT.same e, e _ _ h.eF, ⟨kvs, e _ _ a, b, c⟩, ⟨S, n, e _ _ a2, b2, c2⟩⟩
theorem setK_kind {a : Addr} {S : Key → Bool} {n : Nat} : (∀ ys, SetK P w a S n ≠ .tup ys) ∧ (∀ u ys, SetK P w a S n ≠ .frz u (.tup ys)) ∧ (∀ ys, SetK P w a S n ≠ .lst ys) ∧ (∀ ys, SetK P w a S n ≠ .dK ys) := ⟨(fun _ z => nomatch z), (fun _ _ z => nomatch z), (fun _ z => nomatch z), (fun _ z => nomatch z)⟩
theorem NH.ne (h : NH P w K H0 H T F N M us rows st) : T ≠ N ∧ T ≠ M ∧ F ≠ N ∧ F ≠ M ∧ N ≠ M := by
  obtain ⟨kvs, a, _⟩ := h.eN
  obtain ⟨S, n, a2, _⟩ := h.eM
  refine ⟨ne_of h.eT a (fun z => nomatch z), ne_of h.eT a2 (fun z => nomatch z), ne_of h.eF a (fun z => nomatch z), ne_of h.eF a2 (fun z => nomatch z), ne_of a a2 (fun z => nomatch z)⟩
theorem same_fresh {p : Addr} {o : HO} (h : Same H0 H) (hp : H0 p = none) : Same H0 (upd H p o) := fun b x e => by
  rw [upd_ne (ne_of_none e hp)]
  exact h b x e
/-- a dart is put behind the firsts, it and its twin are met -/
theorem NH.first (h : NH P w K H0 H T F N M us rows st) {d : Int} {S : Key → Bool} {c : Nat} (eM : H M = some (SetK P w M S c)) {c1 c2 : Nat} (h1 : c1 ≤ c + 1) (h2 : c2 ≤ c1 + 1) (hc : c ≤ 2 * st.firsts.length) (hS : ∀ d : Int, S (.inl d) = decide (d ∈ st.firsts ∨ twin d ∈ st.firsts)) :
    NH P w K H0 (upd (upd (upd H F (.lst (st.firsts.map V.int ++ [V.int d]))) M (SetK P w M (fun j => S j || decide (j = .inl d)) c1)) M (SetK P w M (fun j => (fun j => S j || decide (j = .inl d)) j || decide (j = .inl (twin d))) c2)) T F N M us rows ⟨st.order, st.rows, st.firsts ++ [d]⟩ := by
  obtain ⟨nTN, nTM, nFN, nFM, nNM⟩ := h.ne
  obtain ⟨kvs, a, b, cc⟩ := h.eN
  have e1 : upd H F (.lst (st.firsts.map V.int ++ [V.int d])) M = some (SetK P w M S c) := by rw [upd_ne nFM.symm]; exact eM
  refine ⟨same_fresh (same_fresh (same_fresh h.sm h.F0) h.M0) h.M0, h.T0, h.F0, h.N0, h.M0, h.TF, ?_, ?_, ?_, ⟨kvs, ?_, b, cc⟩, ⟨_, c2, upd_same, ?_, fun x => ?_⟩⟩
  · rw [upd_ne nTM, upd_ne nTM, upd_ne h.TF]
    exact h.eT
  · exact TsL.upd upd_same setK_kind.1 setK_kind.2.1 (TsL.upd e1 setK_kind.1 setK_kind.2.1 (h.hT.updL h.eF))
  · rw [upd_ne nFM, upd_ne nFM, upd_same, List.map_append]
    rfl
  · rw [upd_ne nNM, upd_ne nNM, upd_ne nFN.symm]
    exact a
  · rw [List.length_append, List.length_singleton]
    omega
  · show ((S (.inl x) || decide ((Sum.inl x : Key) = .inl d)) || decide ((Sum.inl x : Key) = .inl (twin d))) = _
    rw [hS x]
    have i1 : ((Sum.inl x : Key) = .inl d) ↔ x = d := ⟨fun z => Sum.inl.inj z, fun z => by rw [z]⟩
    have i2 : ((Sum.inl x : Key) = .inl (twin d)) ↔ x = twin d := ⟨fun z => Sum.inl.inj z, fun z => by rw [z]⟩
    rw [Bool.eq_iff_iff]
    simp only [Bool.or_eq_true, decide_eq_true_eq, List.mem_append, List.mem_singleton, i1, i2]
    have i3 : twin x = d ↔ x = twin d := ⟨fun z => by rw [← z, twin_twin], fun z => by rw [z, twin_twin]⟩
    rw [i3]
    constructor
    · rintro ((h | h) | h)
      · exact h.imp .inl .inl
      · exact .inl (.inr h)
      · exact .inr (.inr h)
    · rintro ((h | h) | (h | h))
      · exact .inl (.inl (.inl h))
      · exact .inl (.inr h)
      · exact .inl (.inl (.inr h))
      · exact .inr h
/-- a node is met -/
theorem NH.node (h : NH P w K H0 H T F N M us rows st) {n : Nat} {kvs : List (Key × V)} (e : H N = some (.dK kvs)) (hl : kvs.length ≤ 1000 + st.order.length) (hv : ∀ n : Nat, n < rows.length → valV kvs (.inl ((n : Int) + 1)) = if n ∈ st.order then some (V.bl true) else none) {u : Addr} {row : List Int} (s : Same (upd H N (.dK (putK kvs (.inl ((n : Int) + 1)) (.bl true)))) H') (hu : SqT K H' u (row.map V.int)) :
    NH P w K H0 (upd H' T (.lst (us.map V.ref ++ [V.ref u]))) T F N M (us ++ [u]) rows ⟨st.order ++ [n], st.rows ++ [row], st.firsts⟩ := by
  obtain ⟨nTN, nTM, nFN, nFM, nNM⟩ := h.ne
  obtain ⟨S, c, a2, b2, c2⟩ := h.eM
  have eT' := s T _ (by rw [upd_ne nTN]; exact h.eT)
  have hT' : TsL K H' us st.rows := (TsL.upd e (fun _ z => nomatch z) (fun _ _ z => nomatch z) h.hT).same s
  refine ⟨same_fresh (fun b o eb => s b o (by rw [upd_ne (ne_of_none eb h.N0)]; exact h.sm b o eb)) h.T0, h.T0, h.F0, h.N0, h.M0, h.TF, ?_, ?_, ?_, ⟨putK kvs (.inl ((n : Int) + 1)) (.bl true), ?_, ?_, fun m hm => ?_⟩, ⟨S, c, ?_, b2, c2⟩⟩
  · rw [upd_same, List.map_append]
    rfl
  · exact (hT'.snoc hu).updL eT'
  · rw [upd_ne h.TF.symm]
    exact s F _ (by rw [upd_ne nFN]; exact h.eF)
  · rw [upd_ne nTN.symm]
    exact s N _ upd_same
  · have := length_putK kvs (.inl ((n : Int) + 1)) (V.bl true)
    rw [List.length_append, List.length_singleton]
    omega
  · rw [valV_put]
    by_cases z : m = n
    · subst z
      rw [if_pos rfl, if_pos (List.mem_append_right _ (List.mem_singleton.mpr rfl))]
    · rw [if_neg (fun q => z (by have := Sum.inl.inj q; omega)), hv m hm]
      by_cases y : m ∈ st.order
      · rw [if_pos y, if_pos (List.mem_append_left _ y)]
      · rw [if_neg y, if_neg (fun q => by
          rcases List.mem_append.mp q with q | q
          · exact y q
          · exact z (List.mem_singleton.mp q))]
  · rw [upd_ne nTM.symm]
    exact s M _ (by rw [upd_ne nNM.symm]; exact a2)
end
/-- a net whose turns are tuples that are known to have no dict -/
def NetN (K : PySem.W.Frag) (H : Hp) (v : V) (rim : Nat) (rows : Rows) (qs : List Rat) : Prop := ∃ p t m ts as, v = .ref p ∧ NetAt K H p t m ts as rim rows qs ∧ ∀ (i : Nat) r row, ts[i]? = some r → rows[i]? = some row → SqN H r (row.map V.int)
theorem NetN.net {K : PySem.W.Frag} {H : Hp} {v : V} {rim : Nat} {rows : Rows} {qs : List Rat} (h : NetN K H v rim rows qs) : NetV K H v rim rows qs := by
  obtain ⟨p, t, m, ts, as, e, a, _⟩ := h
  exact ⟨p, t, m, ts, as, e, a⟩
theorem NetN.same {K : PySem.W.Frag} {H H' : Hp} {v : V} {rim : Nat} {rows : Rows} {qs : List Rat} (h : NetN K H v rim rows qs) (s : Same H H') : NetN K H' v rim rows qs := by
  obtain ⟨p, t, m, ts, as, e, a, b⟩ := h
  exact ⟨p, t, m, ts, as, e, a.same s, fun i r row x y => (b i r row x y).same s⟩
def spBegun (K : PySem.W.Frag) : Sp := fun vs H Q _ => ∃ (t : Addr) (d : Int) (row : List Int), vs = [.ref t, .int d] ∧ SqN H t (row.map V.int) ∧ d ∈ row ∧ row.length ≤ 1000 ∧ ∀ p H', Same H H' → SqT K H' p ((rot row d).map V.int) → Q (.ref p) H'
def spInOrder (K : PySem.W.Frag) : Sp := fun vs H Q _ => ∃ (v : V) (rim : Nat) (rows : Rows) (qs : List Rat) (E : Nat), vs = [v] ∧ NetN K H v rim rows qs ∧ WF rows E ∧ E ≤ 100 ∧ rows.length ≤ 1000 ∧ rim ≤ rows.length ∧
  ∀ p tl fl us H', Same H H' → SqT K H' p [.ref tl, .ref fl] → H' tl = some (.lst (us.map V.ref)) → TsL K H' us (numF rim rows).rows → H' fl = some (.lst ((numF rim rows).firsts.map V.int)) → Q (.ref p) H'
def spNumbered (K : PySem.W.Frag) : Sp := fun vs H Q _ => ∃ (v : V) (rim : Nat) (rows : Rows) (qs : List Rat) (E : Nat), vs = [v] ∧ NetN K H v rim rows qs ∧ WF rows E ∧ qs.length = E ∧ E ≤ 100 ∧ rows.length ≤ 1000 ∧ rim ≤ rows.length ∧
  ∀ v' H', Same H H' → NetV K H' v' rim (numRows rim rows) (numQs rim rows qs) → Q v' H'
def spNumMove (K : PySem.W.Frag) : Sp := fun vs H Q _ => ∃ (v : V) (q : Addr) (rim : Nat) (rows : Rows) (qs : List Rat) (E : Nat), vs = [v, .ref q] ∧ SqT K H q [.str "number"] ∧ NetN K H v rim rows qs ∧ WF rows E ∧ qs.length = E ∧ E ≤ 100 ∧ rows.length ≤ 1000 ∧ rim ≤ rows.length ∧
  ∀ v' H', Same H H' → NetV K H' v' rim (numRows rim rows) (numQs rim rows qs) → Q v' H'
/-- firsts are few -/
theorem firsts_le {rim E : Nat} {rows : Rows} {st : NSt} (hW : WF rows E) (h : NInv rim E rows st) : st.firsts.length ≤ 2 * E := by
  have := nodup_le _ _ h.fn (fun d hd => (h.fd d hd).2.2)
  rw [hW.len] at this
  exact this
/-- enumerate(a list) in a for loop -/
theorem g_forEL {K : PySem.W.Frag} {ta : TA} {g : TG} {tb : TS} {D : Ends} {σ : L2.St} {H : Hp} (h : ta σ H (rEnL K (forW g tb D σ))) : tFor (iEnL K ta) g tb D σ H := h
theorem for_en {K : PySem.W.Frag} {g : TG} {tb : TS} {D : Ends} {σ : L2.St} {H : Hp} {a : Addr} {xs : List V} (h : SqL K H a xs) (Pv : Nat → L2.St → Hp → Prop) (h0 : Pv 0 σ H) (hl : ∀ i σ H, Pv i σ H → SqL K H a xs)
    (hs : ∀ i x T σ H, xs[i]? = some x → Pv i σ H → H T = none → g (.ref T) σ (upd H T (.tup [.int (i : Nat), x])) fun σ2 H2 => tb { D with nx := Pv (i + 1), ct := Pv (i + 1), bk := D.nx } σ2 H2) (hd : ∀ σ H, Pv xs.length σ H → D.nx σ H) : rEnL K (forW g tb D σ) [.ref a] H := by
  refine ⟨a, xs, rfl, h, fun i m σ' H' => m = xs.length - i ∧ i ≤ xs.length ∧ Pv i σ' H', ⟨_, rfl, Nat.zero_le _, h0⟩, ?_⟩
  rintro i m σ' H' ⟨rfl, hi, p⟩
  have q := hl i σ' H' p
  rcases Nat.lt_or_eq_of_le hi with hlt | heq
  · refine .inr ⟨⟨xs, xs[i], q, List.getElem?_eq_getElem hlt⟩, Pv (i + 1), fun σ2 H2 p2 => ⟨xs.length - (i + 1), by omega, rfl, hlt, p2⟩, fun v H2 y => ?_⟩
    obtain ⟨T, x, rfl, hT, rfl, y⟩ := y
    exact hs i x T σ' _ (y xs q) p hT
  · subst heq
    exact .inl ⟨⟨xs, q, Nat.le_refl _⟩, hd σ' H' p⟩
/-- turns of turns: rows mapped, over a list of tuples -/
theorem tups_lcL {K : PySem.W.Frag} {σ : L2.St} {H : Hp} {vs : List Nat} {i₀ : Nat} {Q : VK} {te : TE} {t : Addr} {ts : List Addr} {rows : Rows} (f : List Int → List Int) (ht : SqL K H t (ts.map V.ref)) (hN : TsL K H ts rows) (hb : rows.length ≤ 100000) (hw : ∀ x, wipe ((wipe σ vs).set i₀ (some x)) vs = wipe σ vs)
    (hs : ∀ (i : Nat) r H' (Q2 : VK), rows[i]? = some (rows.getD i []) → Same H H' → SqT K H' r ((rows.getD i []).map V.int) → (∀ u H'', Same H' H'' → SqT K H'' u ((f (rows.getD i [])).map V.int) → Q2 (.ref u) H'') → te ((wipe σ vs).set i₀ (some (.ref r))) H' Q2)
    (q : ∀ l us H', Same H H' → H l = none → H' l = some (.lst (us.map V.ref)) → TsL K H' us (rows.map f) → Q (.ref l) H') : rItL K (lcW (gName i₀) tYes te vs σ Q) (.ref t) H := by
  refine g_lcLst ht (fun l i acc H' => Same H H' ∧ H' l = some (.lst acc) ∧ ∃ us : List Addr, acc = us.map V.ref ∧ TsL K H' us ((rows.take i).map f)) hw
    (fun l hl => ⟨up_same hl, upd_same, [], rfl, ⟨rfl, fun i r row z => by simp at z⟩⟩) (fun l i acc H' _ h => h.1.seq ht) ?_ ?_
  · rintro l i x acc H1 hl hx ⟨sm, el, us, rfl, hT⟩
    have hil : i < rows.length := by
      have := (List.getElem?_eq_some_iff.mp hx).1
      rw [List.length_map, hN.len] at this
      exact this
    have hri : rows[i]? = some (rows.getD i []) := by rw [List.getD_eq_getElem?_getD, List.getElem?_eq_getElem hil]; rfl
    rw [List.getElem?_map] at hx
    have hti := List.getElem?_eq_getElem (l := ts) (i := i) (by rw [hN.len]; exact hil)
    rw [hti] at hx
    cases hx
    have hr1 := Same.sqt sm (hN.row i _ _ hti hri)
    refine hs i _ H1 _ hri sm hr1 fun u H2 s2 hu => ?_
    have el2 := s2 _ _ el
    have e5 : (rows.take (i + 1)).map f = (rows.take i).map f ++ [f (rows.getD i [])] := by
      rw [List.take_succ, hri, List.map_append]
      rfl
    refine lcN_of el2 (by rw [List.length_map, hT.len, List.length_map, List.length_take]; omega) ⟨fun b o h => ?_, upd_same, us ++ [u], by rw [List.map_append]; rfl, ?_⟩
    · rw [upd_ne (ne_of_none h hl)]
      exact s2 _ _ (sm _ _ h)
    · rw [e5]
      exact ((hT.same s2).snoc hu).updL el2
  · rintro l acc H1 hl ⟨sm, el, us, rfl, hT⟩
    rw [List.length_map, hN.len, List.take_length] at hT
    exact q l us H1 sm hl el hT
/-- ints made of ints, over a tuple -/
theorem ints_lcTG {K : PySem.W.Frag} {σ : L2.St} {H : Hp} {vs : List Nat} {i₀ : Nat} {Q : VK} {te : TE} {a : Addr} {row : List Int} (f : Int → Int) (h : SqT K H a (row.map V.int)) (hb : row.length ≤ 100000) (hw : ∀ x, wipe ((wipe σ vs).set i₀ (some x)) vs = wipe σ vs)
    (hs : ∀ d H' (Q2 : VK), d ∈ row → Same H H' → (Q2 (.int (f d)) H') → te ((wipe σ vs).set i₀ (some (.int d))) H' Q2)
    (q : ∀ l H', Same H H' → H l = none → H' l = some (.lst ((row.map f).map V.int)) → Q (.ref l) H') : rItT K (lcW (gName i₀) tYes te vs σ Q) (.ref a) H := by
  refine g_lcTup h (fun l i acc H' => Same H H' ∧ H' l = some (.lst acc) ∧ acc = ((row.take i).map f).map V.int) hw (fun l hl => ⟨up_same hl, upd_same, rfl⟩) (fun l i acc H' _ h2 => Same.sqt h2.1 h) ?_ ?_
  · rintro l i x acc H1 hl hx ⟨sm, el, rfl⟩
    obtain ⟨d, hd, rfl⟩ := int_at hx
    refine hs d H1 _ (List.mem_of_getElem? hd) sm ?_
    refine lcN_of el (by rw [List.length_map, List.length_map, List.length_take]; omega) ⟨fun b o e => ?_, upd_same, ?_⟩
    · rw [upd_ne (ne_of_none e hl)]
      exact sm _ _ e
    · rw [List.take_succ, hd, List.map_append, List.map_append]
      rfl
  · rintro l acc H1 hl ⟨sm, el, rfl⟩
    rw [List.length_map, List.take_length] at el
    exact q l H1 sm hl el
end Rz

namespace Rz
open PySem PySem.Spec PyProof.Rows L2

theorem mark_old {fs : List Int} {d x : Int} (h : x ∈ fs ∨ twin x ∈ fs) (hd : d ∉ fs) (ht : twin d ∉ fs) : markD (fs ++ [d]) x = markD fs x := by
  have i1 : ∀ {y : Int}, y ∈ fs → (fs ++ [d]).idxOf y = fs.idxOf y := fun {y} hy => by rw [List.idxOf_append, if_pos hy]
  unfold markD
  by_cases hx : x ∈ fs
  · rw [if_pos hx, if_pos (List.mem_append_left _ hx), i1 hx]
  · have htx := h.resolve_left hx
    have hxd : x ≠ d := fun e => by
      subst e
      exact ht htx
    have hn : x ∉ fs ++ [d] := fun z => by
      rcases List.mem_append.mp z with z | z
      · exact hx z
      · exact hxd (List.mem_singleton.mp z)
    rw [if_neg hx, if_neg hn, i1 htx]
theorem mark_new {fs : List Int} {d : Int} (hd : d ∉ fs) : markD (fs ++ [d]) d = 2 * (fs.length : Int) := by
  unfold markD
  rw [if_pos (List.mem_append_right _ (List.mem_singleton.mpr rfl)), List.idxOf_append, if_neg hd, List.idxOf_cons_self, Nat.zero_add]
theorem mark_newT {fs : List Int} {d : Int} (hd : d ∉ fs) (ht : twin d ∉ fs) : markD (fs ++ [d]) (twin d) = 2 * (fs.length : Int) + 1 := by
  have hn : twin d ∉ fs ++ [d] := fun z => by
    rcases List.mem_append.mp z with z | z
    · exact ht z
    · exact twin_ne d (List.mem_singleton.mp z)
  unfold markD
  rw [if_neg hn, twin_twin, List.idxOf_append, if_neg hd, List.idxOf_cons_self, Nat.zero_add]
/-- a dict of the new numbers of the darts met so far -/
def NamedD (kvs : List (Key × V)) (fs : List Int) : Prop := ∀ x : Int, valV kvs (.inl x) = if x ∈ fs ∨ twin x ∈ fs then some (.int (markD fs x)) else none
theorem NamedD.nil : NamedD [] [] := fun x => by
  rw [if_neg (fun z => z.elim (fun z => nomatch z) (fun z => nomatch z))]
  rfl
theorem NamedD.step {kvs : List (Key × V)} {fs : List Int} {d : Int} (h : NamedD kvs fs) (hd : d ∉ fs) (ht : twin d ∉ fs) :
    NamedD (putK (putK kvs (.inl d) (.int (2 * (fs.length : Int)))) (.inl (twin d)) (.int (2 * (fs.length : Int) + 1))) (fs ++ [d]) := fun x => by
  rw [valV_put, valV_put]
  have i1 : ∀ y : Int, ((Sum.inl x : Key) = .inl y) ↔ x = y := fun y => ⟨fun z => Sum.inl.inj z, fun z => by rw [z]⟩
  by_cases e1 : x = twin d
  · subst e1
    rw [if_pos rfl, mark_newT hd ht, if_pos (.inr (by rw [twin_twin]; exact List.mem_append_right _ (List.mem_singleton.mpr rfl)))]
  · rw [if_neg (fun z => e1 ((i1 _).mp z))]
    by_cases e2 : x = d
    · subst e2
      rw [if_pos rfl, mark_new hd, if_pos (.inl (List.mem_append_right _ (List.mem_singleton.mpr rfl)))]
    · rw [if_neg (fun z => e2 ((i1 _).mp z)), h x]
      have e3 : twin x ≠ d := fun z => e1 (by rw [← z, twin_twin])
      have m1 : (x ∈ fs ++ [d] ∨ twin x ∈ fs ++ [d]) ↔ (x ∈ fs ∨ twin x ∈ fs) := by
        simp only [List.mem_append, List.mem_singleton, e2, e3, or_false]
      by_cases hm : x ∈ fs ∨ twin x ∈ fs
      · rw [if_pos hm, if_pos (m1.mpr hm), mark_old hm hd ht]
      · rw [if_neg hm, if_neg (fun z => hm (m1.mp z))]
/-- the firsts so far and the next one -/
theorem take_next {fs : List Int} {i : Nat} {d : Int} (nd : fs.Nodup) (ft : ∀ x ∈ fs, twin x ∉ fs) (h : fs[i]? = some d) : fs.take (i + 1) = fs.take i ++ [d] ∧ d ∉ fs.take i ∧ twin d ∉ fs.take i ∧ (fs.take i).length = i := by
  have hi := (List.getElem?_eq_some_iff.mp h).1
  refine ⟨by rw [List.take_succ, h]; rfl, fun z => ?_, fun z => ft d (List.mem_of_getElem? h) (List.mem_of_mem_take z), by rw [List.length_take]; omega⟩
  obtain ⟨j, hj⟩ := List.mem_iff_getElem?.mp z
  rw [List.getElem?_take] at hj
  split at hj
  · rename_i hji
    have := (List.getElem?_inj (List.getElem?_eq_some_iff.mp hj).1 nd).mp (hj.trans h.symm)
    omega
  · cases hj
/-- ratios by the ints of a list -/
theorem rats_lcI {K : PySem.W.Frag} {σ : L2.St} {H : Hp} {vs : List Nat} {i₀ : Nat} {Q : VK} {te : TE} {a : Addr} {fs : List Int} (g : Int → Rat) (h : SqL K H a (fs.map V.int)) (hb : fs.length ≤ 1000) (hw : ∀ x, wipe ((wipe σ vs).set i₀ (some x)) vs = wipe σ vs)
    (hs : ∀ d H' (Qk : VK), Same H H' → d ∈ fs → (∀ v H3, Same H' H3 → RatV K H3 v (g d) → Qk v H3) → te ((wipe σ vs).set i₀ (some (.int d))) H' Qk)
    (k : ∀ l ys H', Same H H' → H l = none → H' l = some (.lst ys) → Rats K H' ys (fs.map g) → Q (.ref l) H') : rItL K (lcW (gName i₀) tYes te vs σ Q) (.ref a) H := by
  refine g_lcLst h (fun l i acc H' => Same H H' ∧ H' l = some (.lst acc) ∧ Rats K H' acc ((fs.take i).map g)) hw (fun l hl => ⟨up_same hl, upd_same, Rats.nil⟩) (fun l i acc H' _ h2 => h2.1.seq h) ?_ ?_
  · rintro l i x acc H' hl0 hx ⟨sm, el, hacc⟩
    obtain ⟨d, hd, rfl⟩ := int_at hx
    have hi := (List.getElem?_eq_some_iff.mp hd).1
    refine hs d H' _ sm (List.mem_of_getElem? hd) fun v H3 s3 hv => ?_
    have el3 := s3 _ _ el
    refine lcN_of el3 (by rw [hacc.len, List.length_map, List.length_take]; omega) ⟨fun b o e => ?_, upd_same, ?_⟩
    · rw [upd_ne (ne_of_none e hl0)]
      exact s3 _ _ (sm _ _ e)
    · rw [List.take_succ, hd, List.map_append]
      exact ((hacc.same s3).snoc hv).kp Kp.upd el3
  · rintro l acc H' hl0 ⟨sm, el, hacc⟩
    rw [List.length_map, List.take_length] at hacc
    exact k l acc H' sm hl0 el hacc
/-- a dart's edge has its amount -/
theorem Rats.dart {K : PySem.W.Frag} {H : Hp} {xs : List V} {qs : List Rat} (h : Rats K H xs qs) {d : Int} (h0 : 0 ≤ d) (h1 : d < 2 * (qs.length : Int)) : ∃ x, xs[(d / 2).toNat]? = some x ∧ RatV K H x (qs.getD (d / 2).toNat 0) := by
  have hl : (d / 2).toNat < qs.length := by omega
  have hx := List.getElem?_eq_getElem (l := xs) (i := (d / 2).toNat) (by rw [h.len]; exact hl)
  exact ⟨_, hx, h.at_ _ _ _ hx (by rw [List.getD_eq_getElem?_getD, List.getElem?_eq_getElem hl]; rfl)⟩
def spNetN (K : PySem.W.Frag) : Sp := fun vs H Q _ => ∃ (S c : Addr) (R M : Nat), vs = [.ref S, .int (R : Int), .int (M : Int)] ∧ StAt H S c ∧ 1 ≤ R ∧ R ≤ 100 ∧ M ≤ 500 ∧
  ∀ v H' rim rows E qs, 1 ≤ rim → rim ≤ R → E ≤ M → Built rim E rows → qs.length = E → (∀ q ∈ qs, 0 < q ∧ Bd 5 q) → StAt H' S c → Kp S H H' → NetN K H' v rim rows qs → Q v H'
/-- an order of 0 .. n - 1 -/
def Perm (n : Nat) (es : List Nat) : Prop := es.Nodup ∧ es.length = n ∧ ∀ e, e ∈ es ↔ e < n
theorem ntS_appN {a b : List Nat} : ntS (a ++ b) = ntS a ++ ntS b := List.map_append ..
theorem ntS_ints {es : List Nat} : ntS es = (es.map fun n : Nat => (n : Int)).map V.int := by
  unfold ntS
  rw [List.map_map]
  rfl
theorem idx_cast : ∀ (es : List Nat) (i : Nat), (es.map fun n : Nat => (n : Int)).idxOf (i : Int) = es.idxOf i
  | [], _ => rfl
  | e :: es, i => by
    rw [List.map_cons]
    by_cases h : e = i
    · subst h
      rw [List.idxOf_cons_self, List.idxOf_cons_self]
    · have h1 : (((e : Nat) : Int) == (i : Int)) = false := beq_false_of_ne (by omega)
      have h2 : (e == i) = false := beq_false_of_ne h
      rw [List.idxOf_cons, List.idxOf_cons, idx_cast es i, h1, h2]
theorem mem_cast {es : List Nat} {i : Nat} : ((i : Nat) : Int) ∈ (es.map fun n : Nat => (n : Int)) ↔ i ∈ es := by
  constructor
  · intro h
    obtain ⟨j, hj, e⟩ := List.mem_map.mp h
    have : j = i := by omega
    exact this ▸ hj
  · exact fun h => List.mem_map.mpr ⟨i, h, rfl⟩
theorem Perm.step {n : Nat} {es : List Nat} (h : Perm n es) (i : Nat) : Perm (n + 1) (es.take i ++ n :: es.drop i) := by
  obtain ⟨h1, h2, h3⟩ := h
  have hp : (es.take i ++ n :: es.drop i).Perm (n :: es) := by
    have := List.perm_middle (a := n) (l₁ := es.take i) (l₂ := es.drop i)
    rw [List.take_append_drop] at this
    exact this
  refine ⟨hp.nodup_iff.mpr (List.nodup_cons.mpr ⟨fun z => Nat.lt_irrefl _ ((h3 n).mp z), h1⟩), by rw [hp.length_eq, List.length_cons, h2], fun e => ?_⟩
  rw [hp.mem_iff, List.mem_cons, h3 e]
  omega
theorem SqN.kp {H H' : Hp} {S p : Addr} {xs ys : List V} (h : SqN H p xs) (e : Kp S H H') (hS : H S = some (.lst ys)) : SqN H' p xs := by
  obtain ⟨o, a, z⟩ := h
  exact ⟨o, e _ _ (ne_of a hS (fun z => nomatch z)) a, z⟩
theorem NetN.kp {K : PySem.W.Frag} {H H' : Hp} {S : Addr} {v : V} {rim : Nat} {rows : Rows} {qs : List Rat} {ys : List V} (h : NetN K H v rim rows qs) (e : Kp S H H') (hS : H S = some (.lst ys)) : NetN K H' v rim rows qs := by
  obtain ⟨p, t, m, ts, as, e1, a, b⟩ := h
  exact ⟨p, t, m, ts, as, e1, a.kp e hS, fun i r row x y => (b i r row x y).kp e hS⟩
/-- the nodes of a mixed net -/
theorem Perm.nodes {rim n : Nat} {es : List Nat} (h : Perm (n - rim) es) (hr : rim ≤ n) : (List.range rim ++ es.map (rim + ·)).Nodup ∧ (∀ x, x ∈ List.range rim ++ es.map (rim + ·) ↔ x < n) ∧ (∀ i, i < rim → (List.range rim ++ es.map (rim + ·))[i]? = some i) ∧ (List.range rim ++ es.map (rim + ·)).length = n := by
  obtain ⟨h1, h2, h3⟩ := h
  refine ⟨?_, fun x => ?_, fun i hi => ?_, ?_⟩
  · rw [List.nodup_append]
    refine ⟨List.nodup_range, ?_, fun a ha b hb e => ?_⟩
    · exact List.pairwise_map.mpr (List.Pairwise.imp (fun {a b} hab e => hab (by omega)) h1)
    · obtain ⟨c, _, rfl⟩ := List.mem_map.mp hb
      have := List.mem_range.mp ha
      omega
  · rw [List.mem_append, List.mem_range, List.mem_map]
    constructor
    · rintro (z | ⟨a, ha, rfl⟩)
      · omega
      · have := (h3 a).mp ha
        omega
    · intro z
      by_cases y : x < rim
      · exact .inl y
      · exact .inr ⟨x - rim, (h3 _).mpr (by omega), by omega⟩
  · rw [List.getElem?_append_left (by rw [List.length_range]; exact hi), List.getElem?_range hi]
  · rw [List.length_append, List.length_range, List.length_map, h2]
    omega
def spLOrder (K : PySem.W.Frag) : Sp := fun vs H Q _ => ∃ (S c : Addr) (n : Nat), vs = [.ref S, .int (n : Int)] ∧ StAt H S c ∧ n ≤ 1000 ∧ ∀ l es H', Perm n es → StAt H' S c → Kp S H H' → H l = none → H' l = some (.lst (ntS es)) → Q (.ref l) H'
def spLMixed (K : PySem.W.Frag) : Sp := fun vs H Q _ => ∃ (S c : Addr) (v : V) (rim : Nat) (rows : Rows) (qs : List Rat) (E : Nat), vs = [.ref S, v] ∧ StAt H S c ∧ NetN K H v rim rows qs ∧ WF rows E ∧ qs.length = E ∧ E ≤ 100 ∧ rows.length ≤ 1000 ∧ rim ≤ rows.length ∧ (∀ i, rim ≤ i → i < rows.length → rows.getD i [] ≠ []) ∧
  ∀ v' H' rows' nodes es fl qs', Mixed rim E rows rows' nodes es fl → qs'.length = E → (∀ e, e < E → qs'.getD (es.getD e 0) 0 = qs.getD e 0) → StAt H' S c → Kp S H H' → NetN K H' v' rim rows' qs' → Q v' H'
end Rz

namespace Rz
open PySem PySem.Spec PyProof.Rows L2

theorem g_ninL {K : PySem.W.Frag} {H : Hp} {p : Addr} {Q : VK} {d : Int} {ns : List Int} (h : SqL K H p (ns.map V.int)) (q : Q (.bl (!decide (d ∈ ns))) H) : rIn K true (.int d) (.ref p) H Q :=
  ⟨p, _, rfl, .inl h, rfl, flat_ints ns, by rw [inV_ints]; exact q⟩
/-- places of the darts by nodes from 0 on -/
def HomeZ (kvs : List (Key × V)) (rows : Rows) (P : Nat × Nat → Prop) : Prop := ∀ d ∈ rows.flatten, P (atM rows d) → valV kvs (.inl d) = some (.int ((atM rows d).1 : Int))
theorem HomeZ.put {kvs : List (Key × V)} {rows : Rows} {k i : Nat} {row : List Int} {d : Int} (nd : rows.flatten.Nodup) (h1 : rows[k]? = some row) (h2 : row[i]? = some d) (h : HomeZ kvs rows fun q => q.1 < k ∨ q.1 = k ∧ q.2 < i) :
    HomeZ (putK kvs (.inl d) (.int (k : Int))) rows fun q => q.1 < k ∨ q.1 = k ∧ q.2 < i + 1 := fun y hy hp => by
  rw [valV_put]
  by_cases e : y = d
  · subst e
    rw [if_pos rfl, at_of nd h1 h2]
  · rw [if_neg (fun z => e (Sum.inl.inj z))]
    refine h y hy ?_
    rcases hp with hp | ⟨hp1, hp2⟩
    · exact .inl hp
    · refine .inr ⟨hp1, ?_⟩
      rcases Nat.lt_or_eq_of_le (Nat.le_of_lt_succ hp2) with z | z
      · exact z
      · obtain ⟨row', a, b⟩ := at_spec hy
        rw [hp1, h1] at a
        cases a
        rw [z, h2] at b
        exact absurd (Option.some.inj b).symm e
theorem HomeZ.row {kvs : List (Key × V)} {rows : Rows} {k : Nat} {row : List Int} (h1 : rows[k]? = some row) (h : HomeZ kvs rows fun q => q.1 < k ∨ q.1 = k ∧ q.2 < row.length) : HomeZ kvs rows fun q => q.1 < k + 1 := fun y hy hp => by
  refine h y hy ?_
  rcases Nat.lt_or_eq_of_le (Nat.le_of_lt_succ hp) with z | z
  · exact .inl z
  · obtain ⟨row', a, b⟩ := at_spec hy
    rw [z, h1] at a
    cases a
    exact .inr ⟨z, (List.getElem?_eq_some_iff.mp b).1⟩
/-- the law's state of numbers in the heap -/
structure LH (H0 H : Hp) (O Rw M F : Addr) (rs : List Addr) (st : NSt) : Prop where
  sm : Same H0 H
  O0 : H0 O = none
  R0 : H0 Rw = none
  M0 : H0 M = none
  F0 : H0 F = none
  OR : O ≠ Rw
  OF : O ≠ F
  RF : Rw ≠ F
  rn : ∀ r ∈ rs, r ≠ O ∧ r ≠ Rw ∧ r ≠ F
  eO : H O = some (.lst (ntS st.order))
  eR : H Rw = some (.lst (rs.map V.ref))
  len : rs.length = st.rows.length
  row : ∀ (i : Nat) r row, rs[i]? = some r → st.rows[i]? = some row → H r = some (.lst (row.map V.int))
  eM : ∃ kvs, H M = some (.dK kvs) ∧ kvs.length ≤ 2 * st.firsts.length ∧ NamedD kvs st.firsts
  eF : H F = some (.lst ((st.firsts.map (· / 2)).map V.int))
section
variable {H0 H H' : Hp} {O Rw M F : Addr} {rs : List Addr} {st : NSt}
theorem LH.same (h : LH H0 H O Rw M F rs st) (s : Same H H') : LH H0 H' O Rw M F rs st := by
  obtain ⟨kvs, a, b, c⟩ := h.eM
  exact ⟨h.sm.trans s, h.O0, h.R0, h.M0, h.F0, h.OR, h.OF, h.RF, h.rn, s _ _ h.eO, s _ _ h.eR, h.len, fun i r row x y => s _ _ (h.row i r row x y), ⟨kvs, s _ _ a, b, c⟩, s _ _ h.eF⟩
theorem LH.neM (h : LH H0 H O Rw M F rs st) : O ≠ M ∧ Rw ≠ M ∧ F ≠ M := by
  obtain ⟨kvs, a, _⟩ := h.eM
  exact ⟨ne_of h.eO a (fun z => nomatch z), ne_of h.eR a (fun z => nomatch z), ne_of h.eF a (fun z => nomatch z)⟩
theorem LH.first (h : LH H0 H O Rw M F rs st) {d : Int} {kvs : List (Key × V)} (e : H M = some (.dK kvs)) (hl : kvs.length ≤ 2 * st.firsts.length) (hN : NamedD kvs st.firsts) (hd : d ∉ st.firsts) (ht : twin d ∉ st.firsts) :
    LH H0 (upd (upd (upd H M (.dK (putK kvs (.inl d) (.int (2 * (st.firsts.length : Int)))))) M (.dK (putK (putK kvs (.inl d) (.int (2 * (st.firsts.length : Int)))) (.inl (twin d)) (.int (2 * (st.firsts.length : Int) + 1))))) F (.lst ((st.firsts.map (· / 2)).map V.int ++ [V.int (d / 2)]))) O Rw M F rs ⟨st.order, st.rows, st.firsts ++ [d]⟩ := by
  obtain ⟨n1, n2, n3⟩ := h.neM
  refine ⟨same_fresh (same_fresh (same_fresh h.sm h.M0) h.M0) h.F0, h.O0, h.R0, h.M0, h.F0, h.OR, h.OF, h.RF, h.rn, ?_, ?_, h.len, fun i r row a b => ?_, ⟨_, ?_, ?_, hN.step hd ht⟩, ?_⟩
  · rw [upd_ne h.OF, upd_ne n1, upd_ne n1]
    exact h.eO
  · rw [upd_ne h.RF, upd_ne n2, upd_ne n2]
    exact h.eR
  · have er := h.row i r row a b
    have hrM : r ≠ M := ne_of er e (fun z => nomatch z)
    rw [upd_ne (h.rn r (List.mem_of_getElem? a)).2.2, upd_ne hrM, upd_ne hrM]
    exact er
  · rw [upd_ne n3.symm, upd_same]
  · have h1 := length_putK kvs (.inl d) (V.int (2 * (st.firsts.length : Int)))
    have h2 := length_putK (putK kvs (.inl d) (V.int (2 * (st.firsts.length : Int)))) (.inl (twin d)) (V.int (2 * (st.firsts.length : Int) + 1))
    rw [List.length_append, List.length_singleton]
    omega
  · rw [upd_same, List.map_append, List.map_append]
    rfl
theorem LH.node (h : LH H0 H O Rw M F rs st) {n : Nat} {u : Addr} {row : List Int} (s : Same (upd H O (.lst (ntS st.order ++ [.int (n : Int)]))) H') (hu0 : upd H O (.lst (ntS st.order ++ [.int (n : Int)])) u = none) (hu : H' u = some (.lst (row.map V.int))) :
    LH H0 (upd H' Rw (.lst (rs.map V.ref ++ [V.ref u]))) O Rw M F (rs ++ [u]) ⟨st.order ++ [n], st.rows ++ [row], st.firsts⟩ := by
  obtain ⟨n1, n2, n3⟩ := h.neM
  obtain ⟨kvs, eM, b, c⟩ := h.eM
  have huO : u ≠ O := fun z => by
    rw [z, upd_same] at hu0
    cases hu0
  rw [upd_ne huO] at hu0
  have huR : u ≠ Rw := fun z => by
    rw [z, h.eR] at hu0
    cases hu0
  have huF : u ≠ F := fun z => by
    rw [z, h.eF] at hu0
    cases hu0
  have hk : ∀ {b : Addr} {o : HO}, b ≠ O → H b = some o → H' b = some o := fun hb e => s _ _ (by rw [upd_ne hb]; exact e)
  refine ⟨same_fresh (fun b o eb => s b o (by rw [upd_ne (ne_of_none eb h.O0)]; exact h.sm b o eb)) h.R0, h.O0, h.R0, h.M0, h.F0, h.OR, h.OF, h.RF, fun r hr => ?_, ?_, ?_, ?_, fun i r row' a b => ?_, ⟨kvs, ?_, b, c⟩, ?_⟩
  · rcases List.mem_append.mp hr with hr | hr
    · exact h.rn r hr
    · rw [List.mem_singleton.mp hr]
      exact ⟨huO, huR, huF⟩
  · rw [upd_ne h.OR, s _ _ upd_same, ntS_appN]
    rfl
  · rw [upd_same, List.map_append]
    rfl
  · rw [List.length_append, List.length_append, h.len]
    rfl
  · by_cases hj : i < rs.length
    · rw [List.getElem?_append_left hj] at a
      have hj2 : i < st.rows.length := by rw [← h.len]; exact hj
      have b' : (st.rows ++ [row])[i]? = some row' := b
      rw [List.getElem?_append_left hj2] at b'
      obtain ⟨m1, m2, m3⟩ := h.rn r (List.mem_of_getElem? a)
      rw [upd_ne m2]
      exact hk m1 (h.row i r row' a b')
    · have hil := (List.getElem?_eq_some_iff.mp a).1
      rw [List.length_append, List.length_singleton] at hil
      have hie : i = rs.length := by omega
      subst hie
      have b' : (st.rows ++ [row])[rs.length]? = some row' := b
      rw [List.getElem?_append_right (Nat.le_refl _), Nat.sub_self] at a
      rw [List.getElem?_append_right (by rw [h.len]; exact Nat.le_refl _), h.len, Nat.sub_self] at b'
      cases a
      cases b'
      rw [upd_ne huR]
      exact hu
  · rw [upd_ne n2.symm]
    exact hk n1.symm eM
  · rw [upd_ne h.RF.symm]
    exact hk h.OF.symm h.eF
end
/-- ints made of ints, over a list -/
theorem ints_lcLG {K : PySem.W.Frag} {σ : L2.St} {H : Hp} {vs : List Nat} {i₀ : Nat} {Q : VK} {te : TE} {a : Addr} {row : List Int} (f : Int → Int) (h : SqL K H a (row.map V.int)) (hb : row.length ≤ 100000) (hw : ∀ x, wipe ((wipe σ vs).set i₀ (some x)) vs = wipe σ vs)
    (hs : ∀ d H' (Q2 : VK), d ∈ row → Same H H' → (Q2 (.int (f d)) H') → te ((wipe σ vs).set i₀ (some (.int d))) H' Q2)
    (q : ∀ l H', Same H H' → H l = none → H' l = some (.lst ((row.map f).map V.int)) → Q (.ref l) H') : rItL K (lcW (gName i₀) tYes te vs σ Q) (.ref a) H := by
  refine g_lcLst h (fun l i acc H' => Same H H' ∧ H' l = some (.lst acc) ∧ acc = ((row.take i).map f).map V.int) hw (fun l hl => ⟨up_same hl, upd_same, rfl⟩) (fun l i acc H' _ h2 => h2.1.seq h) ?_ ?_
  · rintro l i x acc H1 hl hx ⟨sm, el, rfl⟩
    obtain ⟨d, hd, rfl⟩ := int_at hx
    refine hs d H1 _ (List.mem_of_getElem? hd) sm ?_
    refine lcN_of el (by rw [List.length_map, List.length_map, List.length_take]; omega) ⟨fun b o e => ?_, upd_same, ?_⟩
    · rw [upd_ne (ne_of_none e hl)]
      exact sm _ _ e
    · rw [List.take_succ, hd, List.map_append, List.map_append]
      rfl
  · rintro l acc H1 hl ⟨sm, el, rfl⟩
    rw [List.length_map, List.take_length] at el
    exact q l H1 sm hl el
def spLNumbered (K : PySem.W.Frag) : Sp := fun vs H Q _ => ∃ (v : V) (rim : Nat) (rows : Rows) (qs : List Rat) (E : Nat), vs = [v] ∧ NetV K H v rim rows qs ∧ WF rows E ∧ qs.length = E ∧ E ≤ 100 ∧ rows.length ≤ 1000 ∧ rim ≤ rows.length ∧
  ∀ v' H', Same H H' → NetN K H' v' rim (numRows rim rows) (numQs rim rows qs) → Q v' H'
theorem firsts_leE {rim E : Nat} {rows : Rows} {st : NSt} (hW : WF rows E) (h : NInv rim E rows st) : st.firsts.length ≤ E := by
  have := nodup_leN E (st.firsts.map fun d => (d / 2).toNat) ?_ ?_
  · rw [List.length_map] at this
    exact this
  · refine List.pairwise_map.mpr (List.Pairwise.imp_of_mem (fun {a b} ha hb hab e => ?_) h.fn)
    have h1 := (hW.mem _).mp (h.fd a ha).2.2
    have h2 := (hW.mem _).mp (h.fd b hb).2.2
    refine h.ft a ha ?_
    have : twin a = b := by
      unfold twin
      omega
    rw [this]
    exact hb
  · intro x hx
    obtain ⟨d, hd, rfl⟩ := List.mem_map.mp hx
    have h1 := (hW.mem _).mp (h.fd d hd).2.2
    omega
theorem wf_row {rows : Rows} {E : Nat} (hW : WF rows E) : ∀ row ∈ rows, row.length ≤ 2 * E := fun row hr => by
  have := (List.sublist_flatten_of_mem hr).length_le
  have := hW.len
  omega
theorem num_all {rim E : Nat} {rows : Rows} (hW : WF rows E) (hr : rim ≤ rows.length) (qs : List Rat) : WF (numRows rim rows) (numQs rim rows qs).length ∧ (numQs rim rows qs).length ≤ E ∧ (numRows rim rows).length ≤ rows.length ∧ rim ≤ (numRows rim rows).length := by
  obtain ⟨h1, _⟩ := num_inv hW hr
  have e : (numQs rim rows qs).length = (numF rim rows).firsts.length := by
    unfold numQs
    rw [List.length_map]
  have e2 : (numRows rim rows).length = (numF rim rows).order.length := by
    unfold numRows
    rw [List.length_map, h1.len]
  rw [e, e2]
  refine ⟨num_wf hW hr, firsts_leE hW h1, order_le h1, ?_⟩
  rcases Nat.eq_zero_or_pos rim with z | z
  · omega
  · have := (List.getElem?_eq_some_iff.mp (h1.rim_ (rim - 1) (by omega)).1).1
    omega
theorem nodes_len {N : Nat} {nodes : List Nat} (nn : nodes.Nodup) (nm : ∀ n, n ∈ nodes ↔ n < N) : nodes.length = N := by
  have b1 := nodup_leN N nodes nn fun x hx => (nm x).mp hx
  have b2 := nodup_leN nodes.length ((List.range N).map nodes.idxOf) (List.pairwise_map.mpr (List.Pairwise.imp_of_mem (fun {a b} ha hb hab e => by
    have h1 := (nm a).mpr (List.mem_range.mp ha)
    have h2 := (nm b).mpr (List.mem_range.mp hb)
    have e1 := List.getElem_idxOf (List.idxOf_lt_length_of_mem h1)
    have e2 := List.getElem_idxOf (List.idxOf_lt_length_of_mem h2)
    refine hab ?_
    rw [← e1, ← e2]
    simp only [e]) List.nodup_range)) fun x hx => by
      obtain ⟨y, hy, rfl⟩ := List.mem_map.mp hx
      exact List.idxOf_lt_length_of_mem ((nm y).mpr (List.mem_range.mp hy))
  rw [List.length_map, List.length_range] at b2
  omega
end Rz

namespace Rz

/-! ### elimination of nodes, one after another -/
def elimX (A : Nat → Nat → Rat) (x : Nat) (i j : Nat) : Rat := if i = x then A i j else A i j + (-(A i x / A x x)) * A x j
def JS (M : Nat → Nat → Rat) (es : List Nat) : Nat → Nat → Rat := es.foldl elimX M
theorem JS_nil {M : Nat → Nat → Rat} : JS M [] = M := rfl
theorem JS_snoc {M : Nat → Nat → Rat} {es : List Nat} {x : Nat} : JS M (es ++ [x]) = elimX (JS M es) x := by
  unfold JS
  rw [List.foldl_append]
  rfl
/-- the nodes taken have pivots -/
inductive Piv (n : Nat) (M : Nat → Nat → Rat) : List Nat → Prop
  | nil : Piv n M []
  | snoc {es : List Nat} {x : Nat} : Piv n M es → x < n → x ∉ es → JS M es x x ≠ 0 → Piv n M (es ++ [x])
structure Lap (n : Nat) (M : Nat → Nat → Rat) : Prop where
  sym : ∀ i j, i < n → j < n → M i j = M j i
  neg : ∀ i j, i < n → j < n → i ≠ j → M i j ≤ 0
  sum : ∀ i, i < n → sumN n (M i) = 0
section
variable {n : Nat} {M : Nat → Nat → Rat} {es : List Nat}
theorem Piv.nodup (h : Piv n M es) : es.Nodup ∧ ∀ e ∈ es, e < n := by
  induction h with
  | nil => exact ⟨List.nodup_nil, (fun e he => nomatch he)⟩
  | snoc _ hx hn _ ih =>
    refine ⟨?_, fun e he => ?_⟩
    · rw [List.nodup_append]
      refine ⟨ih.1, by simp, fun a ha b hb e => ?_⟩
      rw [List.mem_singleton.mp hb] at e
      exact hn (e ▸ ha)
    · rcases List.mem_append.mp he with z | z
      · exact ih.2 e z
      · rw [List.mem_singleton.mp z]
        exact hx
/-- each row is the row of its node and a mix of the rows of those taken -/
theorem Piv.comb (h : Piv n M es) : ∀ i, i < n → ∃ u : Nat → Rat, (∀ j, JS M es i j = sumN n fun k => u k * M k j) ∧ (∀ k, k ≠ i → k ∉ es → u k = 0) ∧ (i ∉ es → u i = 1) := by
  induction h with
  | nil =>
    intro i hi
    refine ⟨fun k => if k = i then 1 else 0, fun j => ?_, fun k hk _ => if_neg hk, fun _ => if_pos rfl⟩
    rw [sumN_one hi fun k _ hk => by simp only [if_neg hk]; grind, JS_nil]
    simp only [if_pos]
    grind
  | @snoc es x hp hx hn hpx ih =>
    intro i hi
    obtain ⟨u, u1, u2, u3⟩ := ih i hi
    obtain ⟨v, v1, v2, v3⟩ := ih x hx
    rw [JS_snoc]
    by_cases e : i = x
    · refine ⟨u, fun j => ?_, fun k hk hk2 => u2 k hk fun z => hk2 (List.mem_append_left _ z), fun z => u3 fun y => z (List.mem_append_left _ y)⟩
      unfold elimX
      rw [if_pos e]
      exact u1 j
    · refine ⟨fun k => u k + (-(JS M es i x / JS M es x x)) * v k, fun j => ?_, fun k hk hk2 => ?_, fun hi2 => ?_⟩
      · unfold elimX
        rw [if_neg e, u1 j, v1 j, ← sumN_add]
        exact sumN_congr fun k _ => by grind
      · have k1 : k ∉ es := fun z => hk2 (List.mem_append_left _ z)
        have k2 : k ≠ x := fun z => hk2 (List.mem_append_right _ (List.mem_singleton.mpr z))
        show u k + _ * v k = 0
        rw [u2 k hk k1, v2 k k2 k1]
        grind
      · have k1 : i ∉ es := fun z => hi2 (List.mem_append_left _ z)
        show u i + _ * v i = 1
        rw [u3 k1, v2 i e k1]
        grind
theorem Piv.zero (h : Piv n M es) : ∀ i e, i ≠ e → e ∈ es → JS M es i e = 0 := by
  induction h with
  | nil => exact fun i e _ he => nomatch he
  | @snoc es x hp hx hn hpx ih =>
    intro i e hie he
    rw [JS_snoc]
    unfold elimX
    rcases List.mem_append.mp he with z | z
    · have hex : x ≠ e := fun y => hn (y ▸ z)
      by_cases q : i = x
      · rw [if_pos q]
        exact ih i e hie z
      · rw [if_neg q, ih i e hie z, ih x e hex z]
        grind
    · have hex := List.mem_singleton.mp z
      subst hex
      rw [if_neg hie]
      grind
theorem Piv.sum (h : Piv n M es) (hL : Lap n M) : ∀ i, i < n → sumN n (JS M es i) = 0 := by
  induction h with
  | nil => exact hL.sum
  | @snoc es x hp hx hn hpx ih =>
    intro i hi
    rw [JS_snoc]
    by_cases e : i = x
    · rw [show elimX (JS M es) x i = JS M es i by funext j; unfold elimX; rw [if_pos e]]
      exact ih i hi
    · rw [show elimX (JS M es) x i = fun j => JS M es i j + (-(JS M es i x / JS M es x x)) * JS M es x j by funext j; unfold elimX; rw [if_neg e], sumN_add]
      have h1 : sumN n (fun j => JS M es i j) = 0 := ih i hi
      have h2 : sumN n (fun j => JS M es x j) = 0 := ih x hx
      rw [h1, h2]
      grind
theorem sumN_le {f : Nat → Rat} : ∀ {n i : Nat}, i < n → (∀ k, k < n → k ≠ i → f k ≤ 0) → sumN n f ≤ f i
  | 0, i, hi, _ => by omega
  | n + 1, i, hi, h => by
    rw [sumN]
    by_cases e : n = i
    · subst e
      have h2 : ∀ {m : Nat}, m ≤ n → sumN m f ≤ 0 := fun {m} => by
        induction m with
        | zero => intro _; rw [sumN]; grind
        | succ m ih2 =>
          intro hm
          have a := ih2 (by omega)
          have b := h m (by omega) (by omega)
          rw [sumN]
          grind
      have := h2 (Nat.le_refl n)
      grind
    · have a := sumN_le (n := n) (i := i) (by omega) fun k hk hki => h k (by omega) hki
      have b := h n (by omega) e
      grind
theorem sumN_neg {f : Nat → Rat} : ∀ {n : Nat}, (∀ k, k < n → f k ≤ 0) → sumN n f ≤ 0
  | 0, _ => by rw [sumN]; grind
  | n + 1, h => by
    have a := sumN_neg (n := n) fun k hk => h k (by omega)
    have b := h n (by omega)
    rw [sumN]
    grind
theorem sumN_all0 {f : Nat → Rat} {n : Nat} (h : ∀ k, k < n → f k ≤ 0) (hs : sumN n f = 0) : ∀ k, k < n → f k = 0 := fun k hk => by
  have a := sumN_le hk fun m hm _ => h m hm
  have b := h k hk
  grind
/-- what is left is a table of the same kind -/
theorem Piv.rest (h : Piv n M es) (hL : Lap n M) : (∀ i j, i < n → j < n → i ∉ es → j ∉ es → JS M es i j = JS M es j i) ∧ (∀ i j, i < n → j < n → i ∉ es → j ∉ es → i ≠ j → JS M es i j ≤ 0) := by
  induction h with
  | nil => exact ⟨fun i j hi hj _ _ => hL.sym i j hi hj, fun i j hi hj _ _ hij => hL.neg i j hi hj hij⟩
  | @snoc es x hp hx hn hpx ih =>
    obtain ⟨ih1, ih2⟩ := ih
    have off : ∀ {i : Nat}, i ∉ es ++ [x] → i ∉ es ∧ i ≠ x := fun hi => ⟨fun z => hi (List.mem_append_left _ z), fun z => hi (List.mem_append_right _ (List.mem_singleton.mpr z))⟩
    have hpos : 0 < JS M es x x := by
      have h1 := sumN_le (f := JS M es x) hx fun k hk hkx => by
        by_cases z : k ∈ es
        · rw [hp.zero x k (fun y => hkx y.symm) z]
          exact Rat.le_refl
        · exact ih2 x k hx hk hn z (fun y => hkx y.symm)
      rw [hp.sum hL x hx] at h1
      grind
    refine ⟨fun i j hi hj hi2 hj2 => ?_, fun i j hi hj hi2 hj2 hij => ?_⟩
    · obtain ⟨i1, i2⟩ := off hi2
      obtain ⟨j1, j2⟩ := off hj2
      rw [JS_snoc]
      unfold elimX
      rw [if_neg i2, if_neg j2, ih1 i j hi hj i1 j1, ih1 i x hi hx i1 hn, ih1 x j hx hj hn j1]
      grind
    · obtain ⟨i1, i2⟩ := off hi2
      obtain ⟨j1, j2⟩ := off hj2
      rw [JS_snoc]
      unfold elimX
      rw [if_neg i2]
      have a := ih2 i j hi hj i1 j1 hij
      have b := ih2 i x hi hx i1 hn i2
      have c := ih2 x j hx hj hn j1 (fun y => j2 y.symm)
      have d : 0 ≤ JS M es i x / JS M es x x * JS M es x j := by
        have e1 : JS M es i x / JS M es x x * JS M es x j = (-(JS M es i x)) * (-(JS M es x j)) * (JS M es x x)⁻¹ := by grind
        rw [e1]
        exact Rat.mul_nonneg (Rat.mul_nonneg (by grind) (by grind)) (Rat.le_of_lt (Rat.inv_pos.mpr hpos))
      grind
theorem Piv.pos (h : Piv n M es) (hL : Lap n M) {x : Nat} (hx : x < n) (hn : x ∉ es) : 0 ≤ JS M es x x ∧ (JS M es x x = 0 → ∀ j, j < n → JS M es x j = 0) := by
  obtain ⟨_, ih2⟩ := h.rest hL
  have hoff : ∀ k, k < n → k ≠ x → JS M es x k ≤ 0 := fun k hk hkx => by
    by_cases z : k ∈ es
    · rw [h.zero x k (fun y => hkx y.symm) z]
      exact Rat.le_refl
    · exact ih2 x k hx hk hn z (fun y => hkx y.symm)
  refine ⟨?_, fun h0 j hj => ?_⟩
  · have h1 := sumN_le (f := JS M es x) hx hoff
    rw [h.sum hL x hx] at h1
    exact h1
  · refine sumN_all0 (f := JS M es x) (fun k hk => ?_) (h.sum hL x hx) j hj
    by_cases z : k = x
    · rw [z, h0]
      exact Rat.le_refl
    · exact hoff k hk z

/-! ### the table that is left is the same one, whatever the order -/
theorem sumN_swap {f : Nat → Nat → Rat} {m : Nat} : ∀ {n : Nat}, sumN n (fun a => sumN m fun b => f a b) = sumN m fun b => sumN n fun a => f a b
  | 0 => (sumN_zero fun i _ => rfl).symm
  | n + 1 => by
    rw [sumN, sumN_swap (n := n)]
    have := sumN_add (n := m) (f := fun b => sumN n fun a => f a b) (g := fun b => f n b) (c := 1)
    rw [Rat.one_mul] at this
    rw [← this]
    exact sumN_congr fun b _ => by
      show (sumN n fun a => f a b) + 1 * f n b = (sumN n fun a => f a b) + f n b
      grind
theorem Piv.same {es' : List Nat} {K : Nat → Prop} (hL : Lap n M) (h : Piv n M es) (h' : Piv n M es') (hK : ∀ e ∈ es, ¬ K e) (hK' : ∀ e ∈ es', ¬ K e) (hd : ∀ i e, i < n → e < n → K i → ¬ K e → JS M es i e = 0) (hd' : ∀ i e, i < n → e < n → K i → ¬ K e → JS M es' i e = 0)
    {i j : Nat} (hi : i < n) (hj : j < n) (ki : K i) (kj : K j) : JS M es i j = JS M es' i j := by
  obtain ⟨u, u1, u2, u3⟩ := h.comb i hi
  obtain ⟨v, v1, v2, v3⟩ := h'.comb i hi
  obtain ⟨y, y1, y2, y3⟩ := h.comb j hj
  have nK : ∀ {k : Nat}, K k → k ∉ es := fun hk z => hK _ z hk
  have nK' : ∀ {k : Nat}, K k → k ∉ es' := fun hk z => hK' _ z hk
  obtain ⟨w, hw⟩ : ∃ w : Nat → Rat, w = fun k => u k + (-1) * v k := ⟨_, rfl⟩
  have w0 : ∀ k, K k → w k = 0 := fun k hk => by
    rw [hw]
    by_cases e : k = i
    · subst e
      show u k + (-1) * v k = 0
      rw [u3 (nK hk), v3 (nK' hk)]
      grind
    · show u k + (-1) * v k = 0
      rw [u2 k e (nK hk), v2 k e (nK' hk)]
      grind
  have hT : ∀ m, JS M es i m + (-1) * JS M es' i m = sumN n fun k => w k * M k m := fun m => by
    rw [u1 m, v1 m, ← sumN_add, hw]
    exact sumN_congr fun k _ => by grind
  have key : (sumN n fun k => w k * M k j) = sumN n fun m => (sumN n fun k => w k * M k m) * y m := by
    rw [sumN_one (n := n) (i := j) (f := fun m => (sumN n fun k => w k * M k m) * y m) hj fun m hm hmj => ?_]
    · rw [y3 (nK kj)]
      grind
    · by_cases q : K m
      · rw [y2 m hmj (nK q)]
        grind
      · rw [← hT m, hd i m hi hm ki q, hd' i m hi hm ki q]
        grind
  have z : (sumN n fun m => (sumN n fun k => w k * M k m) * y m) = 0 := by
    have e1 : (sumN n fun m => (sumN n fun k => w k * M k m) * y m) = sumN n fun m => sumN n fun k => w k * M k m * y m := sumN_congr fun m _ => by
      rw [show (sumN n fun k => w k * M k m) * y m = y m * sumN n fun k => w k * M k m by grind, ← sumN_mul]
      exact sumN_congr fun k _ => by grind
    rw [e1, sumN_swap]
    refine sumN_zero fun k hk => ?_
    have e2 : (sumN n fun m => w k * M k m * y m) = w k * JS M es j k := by
      rw [y1 k, ← sumN_mul]
      exact sumN_congr fun m hm => by
        rw [hL.sym k m hk hm]
        grind
    rw [e2]
    by_cases q : K k
    · rw [w0 k q]
      grind
    · rw [hd j k hj hk kj q]
      grind
  have := hT j
  rw [key, z] at this
  grind
end

/-! ### sizes -/
def pM (n : Nat) (σ : Nat → Nat) (A : Nat → Nat → Rat) : Mat := mkM n fun t => (List.range n).map fun s => A (σ t) (σ s)
section
variable {n : Nat} {M : Nat → Nat → Rat} {es : List Nat} {σ : Nat → Nat}
theorem pM_row {A : Nat → Nat → Rat} {t : Nat} (ht : t < n) : rw' (pM n σ A) t = (List.range n).map fun s => A (σ t) (σ s) := by
  unfold pM
  rw [rw_mkM ht]
theorem pM_ent {A : Nat → Nat → Rat} {t s : Nat} (ht : t < n) (hs : s < n) : ent (rw' (pM n σ A) t) s = A (σ t) (σ s) := by
  rw [pM_row ht]
  unfold ent
  rw [List.getD_eq_getElem?_getD, List.getElem?_map, List.getElem?_range hs]
  rfl
theorem pM_wide {A : Nat → Nat → Rat} : Wide n (pM n σ A) := fun k hk => by
  unfold pM at hk
  rw [mkM_len] at hk
  rw [pM_row hk, List.length_map, List.length_range]
theorem row_eq {a b : Row} {n : Nat} (ha : a.length = n) (hb : b.length = n) (h : ∀ j, j < n → ent a j = ent b j) : a = b := by
  refine List.ext_getElem (by rw [ha, hb]) fun j h1 h2 => ?_
  have := h j (by omega)
  unfold ent at this
  rw [List.getD_eq_getElem?_getD, List.getD_eq_getElem?_getD, List.getElem?_eq_getElem h1, List.getElem?_eq_getElem h2] at this
  exact this
theorem Piv.js (h : Piv n M es) : ∀ σ : Nat → Nat, (∀ t, t < n → σ t < n) → (∀ t s, t < n → s < n → σ t = σ s → t = s) → (∀ (t : Nat) x, es[t]? = some x → σ t = x) → ∃ U, Js n n (pM n σ M) U (pM n σ (JS M es)) es.length ∧ Wide n U := by
  induction h with
  | nil => exact fun σ _ _ _ => ⟨_, .start (by unfold pM; exact mkM_len), pM_wide⟩
  | @snoc es x hp hx hn hpx ih =>
    intro σ hs hinj he
    have hx1 : σ es.length = x := he es.length x (by rw [List.getElem?_append_right (Nat.le_refl _), Nat.sub_self]; rfl)
    obtain ⟨U, hJ, hU⟩ := ih σ hs hinj fun t y hy => he t y (by rw [List.getElem?_append_left (List.getElem?_eq_some_iff.mp hy).1]; exact hy)
    have hnd := (Piv.snoc hp hx hn hpx).nodup
    have hlen : es.length < n := by
      have := nodup_leN n (es ++ [x]) hnd.1 hnd.2
      rw [List.length_append, List.length_singleton] at this
      omega
    have hpiv : ent (rw' (pM n σ (JS M es)) es.length) es.length ≠ 0 := by
      rw [pM_ent hlen hlen, hx1]
      exact hpx
    have hc := hJ.clear pM_wide hU hlen hlen hpiv
    have e1 : clrJ (pM n σ (JS M es)) es.length = pM n σ (JS M (es ++ [x])) := by
      have hl0 : (pM n σ (JS M es)).length = n := by unfold pM; exact mkM_len
      refine mat_ext (by unfold clrJ; rw [mkM_len, hl0]; unfold pM; rw [mkM_len]) fun k hk => ?_
      unfold clrJ at hk ⊢
      rw [mkM_len, hl0] at hk
      rw [hl0, rw_mkM hk]
      have hlk : ∀ {A : Nat → Nat → Rat} {k : Nat}, k < n → (rw' (pM n σ A) k).length = n := fun hk => by rw [pM_row hk, List.length_map, List.length_range]
      by_cases e : k = es.length
      · rw [if_pos e]
        refine row_eq (hlk hk) (hlk hk) fun j hj => ?_
        rw [pM_ent hk hj, pM_ent hk hj, JS_snoc]
        unfold elimX
        rw [if_pos (by rw [e]; exact hx1)]
      · rw [if_neg e]
        refine row_eq (by rw [clr_len (by rw [hlk hk, hlk hlen])]; exact hlk hk) (hlk hk) fun j hj => ?_
        rw [ent_clr (by rw [hlk hk, hlk hlen]), pM_ent hk hj, pM_ent hk hlen, pM_ent hlen hlen, pM_ent hlen hj, pM_ent hk hj, JS_snoc, hx1]
        unfold elimX
        rw [if_neg fun z => e (hinj k es.length hk hlen (z.trans hx1.symm))]
    refine ⟨_, ?_, hU.clrG (by rw [hJ.g.lw]; exact hlen)⟩
    rw [← e1, List.length_append]
    exact hc
/-- an order of all nodes that begins with those taken -/
theorem order_of (nd : es.Nodup) (hl : ∀ e ∈ es, e < n) : ∃ σ : Nat → Nat, (∀ t, t < n → σ t < n) ∧ (∀ t s, t < n → s < n → σ t = σ s → t = s) ∧ (∀ (t : Nat) x, es[t]? = some x → σ t = x) ∧ ∀ x, x < n → ∃ t, t < n ∧ σ t = x := by
  obtain ⟨l, hl0⟩ : ∃ l, l = es ++ (List.range n).filter fun x => decide (x ∉ es) := ⟨_, rfl⟩
  have hm : ∀ x, x ∈ l ↔ x < n := fun x => by
    rw [hl0, List.mem_append, List.mem_filter, List.mem_range, decide_eq_true_eq]
    constructor
    · rintro (z | z)
      · exact hl x z
      · exact z.1
    · intro z
      by_cases y : x ∈ es
      · exact .inl y
      · exact .inr ⟨z, y⟩
  have hnd : l.Nodup := by
    rw [hl0, List.nodup_append]
    refine ⟨nd, List.nodup_range.filter _, fun a ha b hb e => ?_⟩
    have := (List.mem_filter.mp hb).2
    rw [decide_eq_true_eq, ← e] at this
    exact this ha
  have hlen := nodes_len hnd hm
  refine ⟨fun t => l.getD t 0, fun t ht => ?_, fun t s ht hs e => ?_, fun t x hx => ?_, fun x hx => ?_⟩
  · show l.getD t 0 < n
    rw [List.getD_eq_getElem?_getD, List.getElem?_eq_getElem (by omega)]
    exact (hm _).mp (List.getElem_mem _)
  · have e2 : l[t]? = l[s]? := by
      simp only [List.getD_eq_getElem?_getD] at e
      rw [List.getElem?_eq_getElem (by omega), List.getElem?_eq_getElem (by omega)] at e ⊢
      exact congrArg some e
    exact (List.getElem?_inj (by omega) hnd).mp e2
  · have ht := (List.getElem?_eq_some_iff.mp hx).1
    show l.getD t 0 = x
    rw [hl0, List.getD_eq_getElem?_getD, List.getElem?_append_left ht, hx]
    rfl
  · obtain ⟨t, ht⟩ := List.mem_iff_getElem?.mp ((hm x).mpr hx)
    refine ⟨t, by have := (List.getElem?_eq_some_iff.mp ht).1; omega, ?_⟩
    show l.getD t 0 = x
    rw [List.getD_eq_getElem?_getD, ht]
    rfl
/-- all entries stay small -/
theorem Piv.bd {L B k : Nat} (h : Piv n M es) (hS : ∀ i j, i < n → j < n → Sc L B (M i j)) (hL : 0 < L) (hB : 0 < B) (h1 : L ^ n < 2 ^ k) (h2 : fct n * B ^ n < 2 ^ k) {i j : Nat} (hi : i < n) (hj : j < n) : Bd (4 * k) (JS M es i j) := by
  obtain ⟨nd, hl⟩ := h.nodup
  obtain ⟨σ, s1, s2, s3, s4⟩ := order_of nd hl
  obtain ⟨U, hJ, _⟩ := h.js σ s1 s2 s3
  obtain ⟨t, ht, rfl⟩ := s4 i hi
  obtain ⟨s, hs, rfl⟩ := s4 j hj
  have hlen := nodup_leN n es nd hl
  have := hJ.bd (L := L) (B := B) (k := k) ⟨fun a b ha hb => by rw [pM_ent ha hb]; exact hS _ _ (s1 a ha) (s1 b hb), hL, hB, h1, h2⟩ ht hs hlen hlen
  rw [pM_ent ht hs] at this
  exact this
/-- those of the rows that are left -/
theorem Piv.bd2 {L B k : Nat} (h : Piv n M es) (hS : ∀ i j, i < n → j < n → Sc L B (M i j)) (hL : 0 < L) (hB : 0 < B) (h1 : L ^ n < 2 ^ k) (h2 : fct n * B ^ n < 2 ^ k) {i j : Nat} (hi : i < n) (hj : j < n) (he : i ∉ es) : Bd (k + k) (JS M es i j) := by
  obtain ⟨nd, hl⟩ := h.nodup
  obtain ⟨σ, s1, s2, s3, s4⟩ := order_of nd hl
  obtain ⟨U, hJ, _⟩ := h.js σ s1 s2 s3
  obtain ⟨t, ht, rfl⟩ := s4 i hi
  obtain ⟨s, hs, rfl⟩ := s4 j hj
  have hlen := nodup_leN n es nd hl
  have hte : es.length ≤ t := by
    rcases Nat.lt_or_ge t es.length with z | z
    · have := s3 t _ (List.getElem?_eq_getElem z)
      rw [this] at he
      exact absurd (List.getElem_mem z) he
    · exact z
  have := hJ.g.bd (L := L) (B := B) (k := k) ⟨fun a b ha hb => by rw [pM_ent ha hb]; exact hS _ _ (s1 a ha) (s1 b hb), hL, hB, h1, h2⟩ ht hs hlen
  rw [← hJ.low t hte ht, pM_ent ht hs] at this
  exact this
end
end Rz

namespace Rz
open PySem PySem.Spec PyProof.Rows L2
/-- the size of all that elimination meets -/
def SmallT (n : Nat) (M : Nat → Nat → Rat) : Prop := ∀ es, Piv n M es → ∀ i j, i < n → j < n → Bd 2960 (JS M es i j) ∧ (i ∉ es → Bd 1480 (JS M es i j))
/-- the nodes that the law takes out of the first ones -/
def esL (M : Nat → Nat → Rat) (kept : List Nat) : Nat → List Nat
  | 0 => []
  | a + 1 => if a ∉ kept ∧ JS M (esL M kept a) a a ≠ 0 then esL M kept a ++ [a] else esL M kept a
theorem esL_lt {M : Nat → Nat → Rat} {kept : List Nat} : ∀ a, ∀ e ∈ esL M kept a, e < a
  | 0, e, h => nomatch h
  | a + 1, e, h => by
    unfold esL at h
    split at h
    · rcases List.mem_append.mp h with z | z
      · have := esL_lt a e z
        omega
      · rw [List.mem_singleton.mp z]
        omega
    · have := esL_lt a e h
      omega
theorem esL_piv {n : Nat} {M : Nat → Nat → Rat} {kept : List Nat} : ∀ a, a ≤ n → Piv n M (esL M kept a)
  | 0, _ => .nil
  | a + 1, ha => by
    have ih := esL_piv (n := n) (M := M) (kept := kept) a (by omega)
    unfold esL
    split
    · rename_i h
      exact .snoc ih (show a < n by omega) (fun z => Nat.lt_irrefl _ (esL_lt a a z)) h.2
    · exact ih
def keptM (kept : List Nat) (A : Nat → Nat → Rat) : Mat := kept.map fun i => kept.map fun j => A i j
theorem mulB9 {i j : Int} {a b : Nat} (h1 : i.natAbs < 2 ^ a) (h2 : j.natAbs < 2 ^ b) (h : a + b ≤ 9000) : CMulB i j := ⟨a, b, h1, h2, by omega⟩
def spBin9 (K : PySem.W.Frag) (f : Rat → Rat → Rat) : Sp := fun vs H Q _ => ∃ (x y : V) (p q : Rat) (n m : Nat), vs = [x, y] ∧ RatV K H x p ∧ RatV K H y q ∧ Bd n p ∧ Bd m q ∧ n + m ≤ 9000 ∧ ∀ v H', Same H H' → RatV K H' v (f p q) → Q v H'
def spDiv9 (K : PySem.W.Frag) : Sp := fun vs H Q _ => ∃ (x y : V) (p q : Rat) (n m : Nat), vs = [x, y] ∧ RatV K H x p ∧ RatV K H y q ∧ Bd n p ∧ Bd m q ∧ n + m ≤ 9000 ∧ q ≠ 0 ∧ ∀ v H', Same H H' → RatV K H' v (p / q) → Q v H'
def spTabLeft (K : PySem.W.Frag) : Sp := fun vs H Q _ => ∃ (v : V) (q : Addr) (n : Nat) (M : Nat → Nat → Rat) (kept : List Nat), vs = [v, .ref q] ∧ MatV K H v (pM n id M) ∧ SqL K H q (ntS kept) ∧ n ≤ 100 ∧ kept.length ≤ 100 ∧ (∀ x ∈ kept, x < n) ∧ SmallT n M ∧
  ∀ v' H', Same H H' → TabV K H' v' (keptM kept (JS M (esL M kept n))) → Q v' H'
theorem pM_len {n : Nat} {σ : Nat → Nat} {A : Nat → Nat → Rat} : (pM n σ A).length = n := by unfold pM; exact mkM_len
theorem pM_wid {n : Nat} {σ : Nat → Nat} {A : Nat → Nat → Rat} {i : Nat} (hi : i < n) : (rw' (pM n σ A) i).length = n := by rw [pM_row hi, List.length_map, List.length_range]
theorem nin_cast {kept : List Nat} {a : Nat} : decide ((a : Int) ∈ kept.map fun n : Nat => (n : Int)) = decide (a ∈ kept) := by
  rw [decide_eq_decide]
  exact mem_cast
/-- the rows in the midst of the elimination of x -/
def midX (A : Nat → Nat → Rat) (x c i j : Nat) : Rat := if i < c then elimX A x i j else A i j
theorem midX_zero {A : Nat → Nat → Rat} {x : Nat} : midX A x 0 = A := by
  funext i j
  unfold midX
  rw [if_neg (Nat.not_lt_zero _)]
theorem midX_all {n : Nat} {A : Nat → Nat → Rat} {x : Nat} : pM n id (midX A x n) = pM n id (elimX A x) := by
  refine mat_ext (by rw [pM_len, pM_len]) fun i hi => ?_
  rw [pM_len] at hi
  refine row_eq (pM_wid hi) (pM_wid hi) fun j hj => ?_
  rw [pM_ent hi hj, pM_ent hi hj]
  unfold midX
  rw [if_pos (show id i < n from hi)]
/-- a row is put -/
theorem midX_put {n : Nat} {A : Nat → Nat → Rat} {x c : Nat} (hc : c < n) : (pM n id (midX A x c)).set c ((List.range n).map fun j => elimX A x c j) = pM n id (midX A x (c + 1)) := by
  refine mat_ext (by rw [List.length_set, pM_len, pM_len]) fun i hi => ?_
  rw [List.length_set, pM_len] at hi
  by_cases e : c = i
  · subst e
    rw [rw_set_eq (by rw [pM_len]; exact hc), pM_row hc]
    refine List.map_congr_left fun j _ => ?_
    show elimX A x c j = midX A x (c + 1) c j
    unfold midX
    rw [if_pos (Nat.lt_succ_self _)]
  · rw [rw_set_ne e, pM_row hi, pM_row hi]
    refine List.map_congr_left fun j _ => ?_
    show midX A x c i j = midX A x (c + 1) i j
    unfold midX
    by_cases z : i < c
    · rw [if_pos z, if_pos (by omega)]
    · rw [if_neg z, if_neg (by omega)]
theorem midX_skip {n : Nat} {A : Nat → Nat → Rat} {x c : Nat} (h : c = x ∨ A c x = 0) : pM n id (midX A x c) = pM n id (midX A x (c + 1)) := by
  refine mat_ext (by rw [pM_len, pM_len]) fun i hi => ?_
  rw [pM_len] at hi
  rw [pM_row hi, pM_row hi]
  refine List.map_congr_left fun j _ => ?_
  show midX A x c i j = midX A x (c + 1) i j
  unfold midX
  by_cases z : i < c
  · rw [if_pos z, if_pos (by omega)]
  · rw [if_neg z]
    by_cases y : i < c + 1
    · have e : i = c := by omega
      subst e
      rw [if_pos y]
      unfold elimX
      rcases h with h | h
      · rw [if_pos h]
      · split
        · rfl
        · rw [h]
          grind
    · rw [if_neg y]
/-- a list of tuples of ratios, by the kept ones -/
theorem tab_lcK {K : PySem.W.Frag} {σ : L2.St} {H : Hp} {vs : List Nat} {i₀ : Nat} {Q : VK} {te : TE} {a : Addr} {kept : List Nat} {A : Nat → Nat → Rat} (h : SqL K H a (ntS kept)) (hb : kept.length ≤ 1000) (hw : ∀ x, wipe ((wipe σ vs).set i₀ (some x)) vs = wipe σ vs)
    (hs : ∀ i H' (Qk : VK), Same H H' → i ∈ kept → (∀ v H3, Same H' H3 → TRowV K H3 v (kept.map fun j => A i j) → Qk v H3) → te ((wipe σ vs).set i₀ (some (.int (i : Int)))) H' Qk)
    (k : ∀ l us H', Same H H' → H l = none → H' l = some (.lst us) → TabL K H' us (keptM kept A) → Q (.ref l) H') : rItL K (lcW (gName i₀) tYes te vs σ Q) (.ref a) H := by
  refine g_lcLst h (fun l i acc H' => Same H H' ∧ H' l = some (.lst acc) ∧ acc.length = i ∧ ∀ (j : Nat) v, acc[j]? = some v → TRowV K H' v (kept.map fun b => A (kept.getD j 0) b)) hw (fun l hl => ⟨up_same hl, upd_same, rfl, fun j v z => by simp at z⟩) (fun l i acc H' _ h2 => h2.1.seq h) ?_ ?_
  · rintro l i x acc H' hl0 hx ⟨sm, el, hacc, ho⟩
    obtain ⟨m, hm, rfl⟩ := ntS_at hx
    have hil := (List.getElem?_eq_some_iff.mp hm).1
    refine hs m H' _ sm (List.mem_of_getElem? hm) fun v H3 s3 hv => ?_
    have el3 := s3 _ _ el
    refine lcN_of el3 (by omega) ⟨fun b o e => ?_, upd_same, by rw [List.length_append, hacc]; rfl, fun j w z => ?_⟩
    · rw [upd_ne (ne_of_none e hl0)]
      exact s3 _ _ (sm _ _ e)
    · refine TRowV.kp (S := l) (ys := acc) ?_ Kp.upd el3
      rcases at_snoc z with ⟨z1, z2⟩ | ⟨z1, rfl⟩
      · exact (ho j w z2).same s3
      · rw [z1, hacc, List.getD_eq_getElem?_getD, hm]
        exact hv
  · rintro l acc H' hl0 ⟨sm, el, hacc, ho⟩
    rw [ntS_len] at hacc
    refine k l acc H' sm hl0 el ⟨by unfold keptM; rw [List.length_map]; exact hacc, fun i v z => ?_⟩
    have hil := (List.getElem?_eq_some_iff.mp z).1
    have e1 : rw' (keptM kept A) i = kept.map fun b => A (kept.getD i 0) b := by
      unfold rw' keptM
      rw [List.getD_eq_getElem?_getD, List.getElem?_map, List.getD_eq_getElem?_getD, List.getElem?_eq_getElem (by omega)]
      rfl
    rw [e1]
    exact ho i v z
/-! ### the table of all nodes -/
def chi (a b i : Nat) : Rat := (if i = a then 1 else 0) - (if i = b then 1 else 0)
def edgeM (rows : Rows) (qs : List Rat) (e i j : Nat) : Rat := qs.getD e 0 * (chi (nodeOf rows (2 * (e : Int))) (nodeOf rows (2 * (e : Int) + 1)) i * chi (nodeOf rows (2 * (e : Int))) (nodeOf rows (2 * (e : Int) + 1)) j)
def lapK (rows : Rows) (qs : List Rat) (k i j : Nat) : Rat := sumN k fun e => edgeM rows qs e i j
def putF (A : Nat → Nat → Rat) (i j : Nat) (q : Rat) (a b : Nat) : Rat := if a = i ∧ b = j then q else A a b
theorem pM_put {n : Nat} {A : Nat → Nat → Rat} {i j : Nat} {q : Rat} (hi : i < n) (hj : j < n) : (pM n id A).set i ((rw' (pM n id A) i).set j q) = pM n id (putF A i j q) := by
  refine mat_ext (by rw [List.length_set, pM_len, pM_len]) fun a ha => ?_
  rw [List.length_set, pM_len] at ha
  by_cases e : i = a
  · subst e
    rw [rw_set_eq (by rw [pM_len]; exact ha)]
    refine row_eq (n := n) (by rw [List.length_set, pM_wid ha]) (pM_wid ha) fun b hb => ?_
    rw [pM_ent ha hb]
    unfold ent
    show _ = putF A i j q i b
    unfold putF
    by_cases e2 : j = b
    · subst e2
      rw [List.getD_eq_getElem?_getD, List.getElem?_set_self (by rw [pM_wid ha]; exact hb), if_pos ⟨rfl, rfl⟩]
      rfl
    · rw [List.getD_eq_getElem?_getD, List.getElem?_set_ne e2, if_neg fun z => e2 z.2.symm]
      have := pM_ent (σ := id) (A := A) ha hb
      unfold ent at this
      rw [List.getD_eq_getElem?_getD] at this
      exact this
  · rw [rw_set_ne e]
    refine row_eq (pM_wid ha) (pM_wid ha) fun b hb => ?_
    rw [pM_ent ha hb, pM_ent ha hb]
    unfold putF
    rw [if_neg fun z => e (show i = a from z.1.symm)]
/-- one edge is put in, in four steps -/
def stepE (A : Nat → Nat → Rat) (a b : Nat) (q : Rat) : Nat → Nat → Nat → Rat
  | 0 => A
  | 1 => putF (putF A a a (A a a + q)) a b (A a b - q)
  | _ => putF (putF (putF (putF A a a (A a a + q)) a b (A a b - q)) b b (A b b + q)) b a (A b a - q)
theorem stepE_all {A : Nat → Nat → Rat} {a b : Nat} {q : Rat} (h : a ≠ b) (i j : Nat) : stepE A a b q 2 i j = A i j + q * (chi a b i * chi a b j) := by
  show putF (putF (putF (putF A a a (A a a + q)) a b (A a b - q)) b b (A b b + q)) b a (A b a - q) i j = _
  unfold putF chi
  by_cases i1 : i = a
  · subst i1
    by_cases j1 : j = i
    · subst j1
      simp only [h, h.symm, and_true, true_and, and_false, false_and, if_true, if_false]
      grind
    · by_cases j2 : j = b
      · subst j2
        simp only [h, h.symm, and_true, true_and, and_false, false_and, if_true, if_false, j1]
        grind
      · simp only [h, h.symm, and_true, true_and, and_false, false_and, if_true, if_false, j1, j2]
        grind
  · by_cases i2 : i = b
    · subst i2
      by_cases j1 : j = a
      · subst j1
        simp only [h, h.symm, and_true, true_and, and_false, false_and, if_true, if_false, i1]
        grind
      · by_cases j2 : j = i
        · subst j2
          simp only [h, h.symm, and_true, true_and, and_false, false_and, if_true, if_false, i1]
          grind
        · simp only [h, h.symm, and_true, true_and, and_false, false_and, if_true, if_false, i1, j1, j2]
          grind
    · simp only [i1, i2, false_and, if_false]
      grind
theorem chi_cases {a b i : Nat} : chi a b i = 0 ∨ chi a b i = 1 ∨ chi a b i = -1 := by
  unfold chi
  split <;> split <;> grind
theorem edge_sc {rows : Rows} {qs : List Rat} {e i j : Nat} (h : Sc 12 72 (qs.getD e 0)) : Sc 12 72 (edgeM rows qs e i j) := by
  unfold edgeM
  obtain ⟨x, hx⟩ : ∃ x, x = chi (nodeOf rows (2 * (e : Int))) (nodeOf rows (2 * (e : Int) + 1)) i * chi (nodeOf rows (2 * (e : Int))) (nodeOf rows (2 * (e : Int) + 1)) j := ⟨_, rfl⟩
  have : x = 0 ∨ x = 1 ∨ x = -1 := by
    rcases chi_cases (a := nodeOf rows (2 * (e : Int))) (b := nodeOf rows (2 * (e : Int) + 1)) (i := i) with h1 | h1 | h1 <;> rcases chi_cases (a := nodeOf rows (2 * (e : Int))) (b := nodeOf rows (2 * (e : Int) + 1)) (i := j) with h2 | h2 | h2 <;> rw [hx, h1, h2] <;> grind
  rw [← hx]
  rcases this with z | z | z
  · rw [z, show qs.getD e 0 * 0 = 0 by grind]
    exact Sc.zero
  · rw [z, show qs.getD e 0 * 1 = qs.getD e 0 by grind]
    exact h
  · rw [z, show qs.getD e 0 * -1 = -qs.getD e 0 by grind]
    exact h.neg
theorem lap_sc {rows : Rows} {qs : List Rat} {k i j : Nat} (h : ∀ e, e < k → Sc 12 72 (qs.getD e 0)) : Sc 12 (k * 72) (lapK rows qs k i j) := sumN_sc fun e he => edge_sc (h e he)
theorem lapK_succ {rows : Rows} {qs : List Rat} {k i j : Nat} : lapK rows qs (k + 1) i j = lapK rows qs k i j + edgeM rows qs k i j := rfl
/-! ### rows that are written in place -/
structure BQ (K : PySem.W.Frag) (H : Hp) (R : Addr) (rs : List Addr) (m : Mat) : Prop where
  top : H R = some (.lst (rs.map V.ref))
  len : rs.length = m.length
  at_ : ∀ (i : Nat) r, rs[i]? = some r → ∃ xs, H r = some (.lst xs) ∧ Rats K H xs (rw' m i)
  nd : rs.Nodup
  nR : R ∉ rs
/-- all but these lists stays -/
structure Keep (rs : List Addr) (H H' : Hp) : Prop where
  k : ∀ b o, b ∉ rs → H b = some o → H' b = some o
  l : ∀ r ∈ rs, ∃ ys, H r = some (.lst ys)
section
variable {K : PySem.W.Frag} {H H' H2 : Hp} {R : Addr} {rs : List Addr} {m : Mat}
theorem BQ.same (h : BQ K H R rs m) (e : Same H H') : BQ K H' R rs m :=
  ⟨e _ _ h.top, h.len, fun i r z => let ⟨xs, a, b⟩ := h.at_ i r z; ⟨xs, e _ _ a, b.same e⟩, h.nd, h.nR⟩
theorem BQ.lists (h : BQ K H R rs m) : ∀ r ∈ rs, ∃ ys, H r = some (.lst ys) := fun r hr => by
  obtain ⟨j, hj⟩ := List.mem_iff_getElem?.mp hr
  obtain ⟨xs, a, _⟩ := h.at_ j r hj
  exact ⟨xs, a⟩
theorem BQ.get (h : BQ K H R rs m) {i : Nat} (hi : i < m.length) : ∃ r xs, (rs.map V.ref)[i]? = some (.ref r) ∧ rs[i]? = some r ∧ H r = some (.lst xs) ∧ Rats K H xs (rw' m i) := by
  have hx : i < rs.length := by rw [h.len]; exact hi
  obtain ⟨xs, a, b⟩ := h.at_ i _ (List.getElem?_eq_getElem hx)
  exact ⟨rs[i], xs, by rw [List.getElem?_map, List.getElem?_eq_getElem hx]; rfl, List.getElem?_eq_getElem hx, a, b⟩
theorem BQ.put (h : BQ K H R rs m) {i j : Nat} {r : Addr} {xs : List V} {v : V} {q : Rat} (hr : rs[i]? = some r) (hx : H r = some (.lst xs)) (hv : RatV K H v q) : BQ K (upd H r (.lst (xs.set j v))) R rs (m.set i ((rw' m i).set j q)) := by
  have hm := List.mem_of_getElem? hr
  have hRr : R ≠ r := fun z => h.nR (z ▸ hm)
  have hi : i < m.length := by
    rw [← h.len]
    exact (List.getElem?_eq_some_iff.mp hr).1
  refine ⟨by rw [upd_ne hRr]; exact h.top, by rw [List.length_set]; exact h.len, fun i' r' z => ?_, h.nd, h.nR⟩
  by_cases e : i = i'
  · subst e
    rw [hr] at z
    cases z
    obtain ⟨xs', a, b⟩ := h.at_ i r hr
    rw [hx] at a
    cases a
    refine ⟨_, upd_same, ?_⟩
    rw [rw_set_eq hi]
    exact (b.set hv).kp Kp.upd hx
  · obtain ⟨xs', a, b⟩ := h.at_ i' r' z
    have hne : r' ≠ r := by
      rintro rfl
      exact e (nd_ix h.nd hr z)
    refine ⟨xs', by rw [upd_ne hne]; exact a, ?_⟩
    rw [rw_set_ne e]
    exact b.kp Kp.upd hx
theorem BQ.v (h : BQ K H R rs m) : MatV K H (.ref R) m := ⟨R, rs.map V.ref, rfl, SqL.of h.top, by rw [List.length_map]; exact h.len, fun i v z => by
  rw [List.getElem?_map] at z
  cases hz : rs[i]? with
  | none =>
    rw [hz] at z
    cases z
  | some r =>
    rw [hz] at z
    cases z
    obtain ⟨xs, a, b⟩ := h.at_ i r hz
    exact ⟨r, xs, rfl, SqL.of a, b⟩⟩
theorem Keep.trans (h : Keep rs H H') (k : Keep rs H' H2) : Keep rs H H2 := ⟨fun b o hb e => k.k b o hb (h.k b o hb e), h.l⟩
theorem Keep.refl (h : ∀ r ∈ rs, ∃ ys, H r = some (.lst ys)) : Keep rs H H := ⟨fun _ _ _ e => e, h⟩
theorem Keep.same (h : Keep rs H H') (e : Same H' H2) : Keep rs H H2 := ⟨fun b o hb x => e _ _ (h.k b o hb x), h.l⟩
theorem Keep.put (h : Keep rs H H') {r : Addr} {o : HO} (hr : r ∈ rs) : Keep rs H (upd H' r o) := ⟨fun b x hb e => by
  have hbr : b ≠ r := fun z => hb (by rw [z]; exact hr)
  rw [upd_ne hbr]
  exact h.k b x hb e, h.l⟩
theorem Keep.sqt (h : Keep rs H H') {a : Addr} {xs : List V} (ht : SqT K H a xs) : SqT K H' a xs := by
  have ne : ∀ {o : HO}, H a = some o → (∀ ys, o ≠ .lst ys) → a ∉ rs := fun e n z => by
    obtain ⟨ys, y⟩ := h.l a z
    rw [e] at y
    exact n ys (Option.some.inj y)
  rcases ht with (t | ⟨u, t⟩) | t
  · exact .inl (.inl (h.k _ _ (ne t (fun _ z => nomatch z)) t))
  · exact .inl (.inr ⟨u, h.k _ _ (ne t (fun _ z => nomatch z)) t⟩)
  · exact .inr t
theorem Keep.rat (h : Keep rs H H') {v : V} {q : Rat} (hv : RatV K H v q) : RatV K H' v q := by
  obtain ⟨p, rfl, a⟩ := hv
  exact ⟨p, rfl, h.sqt a⟩
theorem Keep.back (h : Keep rs H H') {H0 : Hp} (s : Same H0 H) (hr : ∀ r ∈ rs, H0 r = none) : Same H0 H' := fun b o e => h.k b o (fun z => by
  rw [hr b z] at e
  cases e) (s _ _ e)
end
section
variable {K : PySem.W.Frag} {σ : L2.St} {H : Hp} {vs : List Nat} {i₀ : Nat} {Q : VK} {te : TE}
theorem rows_lcB {j : Int} {n : Nat} (m : Mat) (e : j = (n : Int)) (hm : m.length = n) (hb : n ≤ 1000) (hw : ∀ x, wipe ((wipe σ vs).set i₀ (some x)) vs = wipe σ vs)
    (hs : ∀ i H' (Q2 : VK), Same H H' → i < n → (∀ p xs H3, Same H' H3 → H' p = none → H3 p = some (.lst xs) → Rats K H3 xs (rw' m i) → Q2 (.ref p) H3) → te ((wipe σ vs).set i₀ (some (.int (i : Int)))) H' Q2)
    (k : ∀ l rs H', Same H H' → H l = none → (∀ r ∈ rs, H r = none) → BQ K H' l rs m → Q (.ref l) H') : rRng1 (lcW (gName i₀) tYes te vs σ Q) [.int j] H := by
  refine g_lcRng n e (by omega) (fun l i acc H' => Same H H' ∧ H' l = some (.lst acc) ∧ ∃ rs : List Addr, acc = rs.map V.ref ∧ rs.length = i ∧ rs.Nodup ∧ (∀ r ∈ rs, H r = none ∧ r ≠ l) ∧ ∀ (a : Nat) r, rs[a]? = some r → ∃ xs, H' r = some (.lst xs) ∧ Rats K H' xs (rw' m a)) hw (fun l hl => ⟨up_same hl, upd_same, [], rfl, rfl, List.nodup_nil, (fun r hr => nomatch hr), fun a r z => by simp at z⟩) ?_ ?_
  · rintro l i acc H1 hl hi ⟨sm, el, rs, rfl, hrs, hnd, hfr, hro⟩
    refine hs i H1 _ sm hi fun p xs H3 s3 hp0 hp hx => ?_
    have el3 := s3 _ _ el
    have hpl : p ≠ l := (ne_of_none el hp0).symm
    have hprs : p ∉ rs := fun z => by
      obtain ⟨a, ha⟩ := List.mem_iff_getElem?.mp z
      obtain ⟨ys, y1, _⟩ := hro a p ha
      rw [hp0] at y1
      cases y1
    refine lcN_of el3 (by rw [List.length_map]; omega) ⟨fun b o h => ?_, upd_same, rs ++ [p], by rw [List.map_append]; rfl, by rw [List.length_append, hrs]; rfl, ?_, fun r hr => ?_, fun a r z => ?_⟩
    · rw [upd_ne (ne_of_none h hl)]
      exact s3 _ _ (sm _ _ h)
    · rw [List.nodup_append]
      refine ⟨hnd, by simp, fun a ha b hb e => ?_⟩
      rw [List.mem_singleton.mp hb] at e
      exact hprs (e ▸ ha)
    · rcases List.mem_append.mp hr with hr | hr
      · exact hfr r hr
      · rw [List.mem_singleton.mp hr]
        exact ⟨sm.free hp0, hpl⟩
    · by_cases ha : a < rs.length
      · rw [List.getElem?_append_left ha] at z
        obtain ⟨ys, y1, y2⟩ := hro a r z
        refine ⟨ys, ?_, (y2.same s3).kp Kp.upd el3⟩
        rw [upd_ne (hfr r (List.mem_of_getElem? z)).2]
        exact s3 _ _ y1
      · have hal := (List.getElem?_eq_some_iff.mp z).1
        rw [List.length_append, List.length_singleton] at hal
        have hae : a = rs.length := by omega
        subst hae
        rw [List.getElem?_append_right (Nat.le_refl _), Nat.sub_self] at z
        cases z
        refine ⟨xs, by rw [upd_ne hpl]; exact hp, ?_⟩
        rw [hrs]
        exact hx.kp Kp.upd el3
  · rintro l acc H1 hl ⟨sm, el, rs, rfl, hrs, hnd, hfr, hro⟩
    exact k l rs H1 sm hl (fun r hr => (hfr r hr).1) ⟨el, by rw [hrs, hm], hro, hnd, fun z => (hfr l z).2 rfl⟩
end
def spBal (K : PySem.W.Frag) : Sp := fun vs H Q _ => ∃ (v : V) (rim : Nat) (rows : Rows) (qs : List Rat) (E : Nat), vs = [v] ∧ NetV K H v rim rows qs ∧ WF rows E ∧ qs.length = E ∧ E ≤ 100 ∧ rows.length ≤ 100 ∧ (∀ e, e < E → Sc 12 72 (qs.getD e 0)) ∧
  ∀ v' H', Same H H' → MatV K H' v' (pM rows.length id (lapK rows qs E)) → Q v' H'
end Rz

namespace Rz
open PySem PySem.Spec PyProof.Rows L2

theorem sum_dl {n a : Nat} (ha : a < n) : sumN n (fun j => if j = a then (1 : Rat) else 0) = 1 := by
  rw [sumN_one ha fun k _ hk => if_neg hk, if_pos rfl]
theorem sum_chi {n a b : Nat} (ha : a < n) (hb : b < n) : sumN n (chi a b) = 0 := by
  have e : sumN n (chi a b) = sumN n fun j => (if j = a then (1 : Rat) else 0) + (-1) * (if j = b then (1 : Rat) else 0) := sumN_congr fun j _ => by
    unfold chi
    grind
  rw [e, sumN_add, sum_dl ha, sum_dl hb]
  grind
theorem lap_lap {rows : Rows} {qs : List Rat} {E : Nat} (hW : WF rows E) (hp : ∀ e, e < E → 0 < qs.getD e 0) : Lap rows.length (lapK rows qs E) := by
  refine ⟨fun i j _ _ => ?_, fun i j _ _ hij => ?_, fun i hi => ?_⟩
  · exact sumN_congr fun e _ => by
      unfold edgeM
      grind
  · refine sumN_neg fun e he => ?_
    have hq := hp e he
    unfold edgeM
    obtain ⟨x, hx⟩ : ∃ x, x = chi (nodeOf rows (2 * (e : Int))) (nodeOf rows (2 * (e : Int) + 1)) i * chi (nodeOf rows (2 * (e : Int))) (nodeOf rows (2 * (e : Int) + 1)) j := ⟨_, rfl⟩
    have : x = 0 ∨ x = -1 := by
      rw [hx]
      generalize nodeOf rows (2 * (e : Int)) = a
      generalize nodeOf rows (2 * (e : Int) + 1) = b
      unfold chi
      by_cases h1 : i = a <;> by_cases h2 : i = b <;> by_cases h3 : j = a <;> by_cases h4 : j = b <;> simp only [h1, h2, h3, h4, if_true, if_false] <;> grind
    rw [← hx]
    rcases this with z | z <;> rw [z] <;> grind
  · have e1 : sumN rows.length (lapK rows qs E i) = sumN rows.length fun j => sumN E fun e => edgeM rows qs e i j := rfl
    rw [e1, sumN_swap]
    refine sumN_zero fun e he => ?_
    have hda : (2 * (e : Int)) ∈ rows.flatten := (hW.mem _).mpr (by omega)
    have hdb : (2 * (e : Int) + 1) ∈ rows.flatten := (hW.mem _).mpr (by omega)
    have e2 : (sumN rows.length fun j => edgeM rows qs e i j) = qs.getD e 0 * chi (nodeOf rows (2 * (e : Int))) (nodeOf rows (2 * (e : Int) + 1)) i * sumN rows.length (chi (nodeOf rows (2 * (e : Int))) (nodeOf rows (2 * (e : Int) + 1))) := by
      rw [← sumN_mul]
      exact sumN_congr fun j _ => by
        unfold edgeM
        grind
    have e3 : sumN rows.length (chi (nodeOf rows (2 * (e : Int))) (nodeOf rows (2 * (e : Int) + 1))) = 0 := sum_chi (at_lt hda) (at_lt hdb)
    rw [e2, e3]
    grind
theorem fct_le {m n : Nat} (h : m ≤ n) : fct m ≤ fct n := fct_mono h
theorem lap_small {rows : Rows} {qs : List Rat} {E : Nat} (hl : rows.length ≤ 47) (hE : E ≤ 40) (hs : ∀ e, e < E → Sc 12 72 (qs.getD e 0)) : SmallT rows.length (lapK rows qs E) := fun es hP i j hi hj => by
  have hS : ∀ i j, i < rows.length → j < rows.length → Sc 12 2880 (lapK rows qs E i j) := fun i j _ _ => (lap_sc hs).mono (by omega)
  have h1 : 12 ^ rows.length < 2 ^ 740 := Nat.lt_of_le_of_lt (Nat.pow_le_pow_right (by decide) hl) (by decide +kernel)
  have h2 : fct rows.length * 2880 ^ rows.length < 2 ^ 740 := Nat.lt_of_le_of_lt (Nat.mul_le_mul (fct_mono hl) (Nat.pow_le_pow_right (by decide) hl)) (by decide +kernel)
  exact ⟨hP.bd hS (by decide) (by decide) h1 h2 hi hj, fun he => hP.bd2 hS (by decide) (by decide) h1 h2 hi hj he⟩
/-- what is left aside has no row -/
theorem law_rest {n rim : Nat} {M : Nat → Nat → Rat} (hL : Lap n M) : ∀ a, a ≤ n → ∀ x, x < a → ¬ x < rim → x ∉ esL M (List.range rim) a → ∀ j, j < n → JS M (esL M (List.range rim) a) x j = 0
  | 0, _, x, hx, _, _ => absurd hx (Nat.not_lt_zero _)
  | a + 1, ha, x, hx, hxr, hxe => fun j hj => by
    have hP := esL_piv (n := n) (M := M) (kept := List.range rim) a (by omega)
    by_cases hc : a ∉ List.range rim ∧ JS M (esL M (List.range rim) a) a a ≠ 0
    · have e1 : esL M (List.range rim) (a + 1) = esL M (List.range rim) a ++ [a] := by
        show (if _ then _ else _) = _
        rw [if_pos hc]
      rw [e1] at hxe ⊢
      have hxa : x ≠ a := fun z => hxe (List.mem_append_right _ (List.mem_singleton.mpr z))
      have hxe2 : x ∉ esL M (List.range rim) a := fun z => hxe (List.mem_append_left _ z)
      have ih := law_rest hL a (by omega) x (by omega) hxr hxe2
      rw [JS_snoc]
      unfold elimX
      rw [if_neg hxa, ih j hj, ih a (by omega)]
      grind
    · have e1 : esL M (List.range rim) (a + 1) = esL M (List.range rim) a := by
        show (if _ then _ else _) = _
        rw [if_neg hc]
      rw [e1] at hxe ⊢
      by_cases hxa : x = a
      · subst hxa
        have h0 : JS M (esL M (List.range rim) x) x x = 0 := by
          by_cases y : JS M (esL M (List.range rim) x) x x = 0
          · exact y
          · exact absurd ⟨fun z => hxr (List.mem_range.mp z), y⟩ hc
        exact (hP.pos hL (show x < n by omega) hxe).2 h0 j hj
      · exact law_rest hL a (by omega) x (by omega) hxr hxe j hj
theorem esL_kept {M : Nat → Nat → Rat} {kept : List Nat} : ∀ a, ∀ e ∈ esL M kept a, e ∉ kept
  | 0, e, h => nomatch h
  | a + 1, e, h => by
    unfold esL at h
    split at h
    · rename_i hc
      rcases List.mem_append.mp h with z | z
      · exact esL_kept a e z
      · rw [List.mem_singleton.mp z]
        exact hc.1
    · exact esL_kept a e h
/-- an elimination that leaves nothing beside the rim -/
structure Whole (n rim : Nat) (M : Nat → Nat → Rat) (es : List Nat) : Prop where
  piv : Piv n M es
  out : ∀ e ∈ es, ¬ e < rim
  rest : ∀ x, x < n → ¬ x < rim → x ∉ es → ∀ j, j < n → JS M es x j = 0
theorem Whole.law {n rim : Nat} {M : Nat → Nat → Rat} (hL : Lap n M) : Whole n rim M (esL M (List.range rim) n) :=
  ⟨esL_piv n (Nat.le_refl _), fun e he z => esL_kept n e he (List.mem_range.mpr z), fun x hx hr he => law_rest hL n (Nat.le_refl _) x hx hr he⟩
theorem Whole.done {n rim : Nat} {M : Nat → Nat → Rat} {es : List Nat} (hL : Lap n M) (h : Whole n rim M es) : ∀ i e, i < n → e < n → i < rim → ¬ e < rim → JS M es i e = 0 := fun i e hi he hir her => by
  have hie : i ∉ es := fun z => h.out i z hir
  by_cases z : e ∈ es
  · exact h.piv.zero i e (fun y => her (y ▸ hir)) z
  · rw [(h.piv.rest hL).1 i e hi he hie z]
    exact h.rest e he her z i hi
/-- all of them leave the same table -/
theorem Whole.same {n rim : Nat} {M : Nat → Nat → Rat} {es es' : List Nat} (hL : Lap n M) (h : Whole n rim M es) (h' : Whole n rim M es') {i j : Nat} (hi : i < n) (hj : j < n) (ir : i < rim) (jr : j < rim) : JS M es i j = JS M es' i j :=
  Piv.same (K := fun x => x < rim) hL h.piv h'.piv h.out h'.out (fun i e hi he hir her => h.done hL i e hi he hir her) (fun i e hi he hir her => h'.done hL i e hi he hir her) hi hj ir jr
/-- what the law asks of the table -/
theorem Whole.facts {n rim : Nat} {M : Nat → Nat → Rat} {es : List Nat} (hL : Lap n M) (h : Whole n rim M es) (hr : rim ≤ n) : (∀ i j, i < rim → j < rim → JS M es i j = JS M es j i) ∧ (∀ i j, i < rim → j < rim → i ≠ j → JS M es i j ≤ 0) ∧ ∀ i, i < rim → sumN rim (JS M es i) = 0 := by
  have ne : ∀ {i : Nat}, i < rim → i ∉ es := fun hi z => h.out _ z hi
  refine ⟨fun i j hi hj => (h.piv.rest hL).1 i j (by omega) (by omega) (ne hi) (ne hj), fun i j hi hj hij => (h.piv.rest hL).2 i j (by omega) (by omega) (ne hi) (ne hj) hij, fun i hi => ?_⟩
  have h0 := h.piv.sum hL i (by omega)
  have hz : ∀ d, rim + d ≤ n → sumN (rim + d) (JS M es i) = sumN rim (JS M es i) := fun d => by
    induction d with
    | zero => intro _; rfl
    | succ d ih =>
      intro hd
      show sumN (rim + d) (JS M es i) + JS M es i (rim + d) = _
      rw [ih (by omega), h.done hL i (rim + d) (by omega) (by omega) hi (by omega)]
      grind
  have := hz (n - rim) (by omega)
  rw [show rim + (n - rim) = n by omega, h0] at this
  exact this.symm
/-! ### sums of a row stay small -/
/-- all of them are quotients by one D -/
structure Com (k : Nat) (D : Rat) (L B : Nat) : Prop where
  ne : D ≠ 0
  bd : Bd k D
  L0 : 0 < L
  hL : L < 2 ^ k
  hB : B < 2 ^ k
theorem Piv.common {n : Nat} {M : Nat → Nat → Rat} {es : List Nat} {L B k : Nat} (h : Piv n M es) (hS : ∀ i j, i < n → j < n → Sc L B (M i j)) (hL : 0 < L) (hB : 0 < B) (h1 : L ^ n < 2 ^ k) (h2 : fct n * B ^ n < 2 ^ k) {i : Nat} (hi : i < n) (he : i ∉ es) :
    ∃ D L' B', Com k D L' B' ∧ ∀ j, j < n → Sc L' B' (JS M es i j * D) := by
  obtain ⟨nd, hl⟩ := h.nodup
  obtain ⟨σ, s1, s2, s3, s4⟩ := order_of nd hl
  obtain ⟨U, hJ, _⟩ := h.js σ s1 s2 s3
  obtain ⟨t, ht, rfl⟩ := s4 i hi
  have hlen := nodup_leN n es nd hl
  have hte : es.length ≤ t := by
    rcases Nat.lt_or_ge t es.length with z | z
    · have := s3 t _ (List.getElem?_eq_getElem z)
      rw [this] at he
      exact absurd (List.getElem_mem z) he
    · exact z
  have hSm : Small n n L B k (pM n σ M) := ⟨fun a b ha hb => by rw [pM_ent ha hb]; exact hS _ _ (s1 a ha) (s1 b hb), hL, hB, h1, h2⟩
  have hn := hJ.g.leadNe (m := es.length) (Nat.le_refl _)
  have hb := hJ.g.leadBd hSm (m := es.length) (Nat.le_refl _) hlen hlen
  refine ⟨_, L ^ (es.length + 1), fct (es.length + 1) * B ^ (es.length + 1), ⟨hn, hb, Nat.pow_pos hL, Nat.lt_of_le_of_lt (Nat.pow_le_pow_right hL (by omega)) h1, Nat.lt_of_le_of_lt (Nat.mul_le_mul (fct_mono (by omega)) (Nat.pow_le_pow_right hB (by omega))) h2⟩, fun j hj => ?_⟩
  obtain ⟨s, hs, rfl⟩ := s4 j hj
  have e := hJ.g.entry (k := t) (j := s) (m := es.length) ht (by omega) hs hlen
  rw [← hJ.low t hte ht, pM_ent ht hs] at e
  rw [show JS M es (σ t) (σ s) * (prodN es.length fun t => ent (rw' U t) t) = (prodN es.length fun t => ent (rw' U t) t) * JS M es (σ t) (σ s) by grind, ← e]
  refine det_sc (L := L) (B := B) mkM_len fun a b ha hb => ?_
  rw [rw_mkM ha, ent_sel hb]
  exact hSm.sc _ _ (by split <;> omega) (by split <;> omega)
theorem Com.bd_of {k : Nat} {D : Rat} {L B c : Nat} (h : Com k D L B) {x : Rat} (hc : c ≤ 64) (hx : Sc L (c * B) (x * D)) : Bd (k + 6 + k) x := by
  have h1 : Bd (k + 6) (x * D) := hx.bd h.L0 (Nat.lt_of_lt_of_le h.hL (Nat.pow_le_pow_right (by decide) (by omega))) (by
    have : 2 ^ (k + 6) = 64 * 2 ^ k := by rw [Nat.pow_add]; omega
    rw [this]
    have h3 := h.hB
    have h4 : 0 < 2 ^ k := Nat.pow_pos (by decide)
    have h5 : c * B ≤ 64 * B := Nat.mul_le_mul_right _ hc
    omega)
  have := h1.div h.bd h.ne
  rw [show x * D / D = x by have := h.ne; grind] at this
  exact this
theorem Com.sumN {k : Nat} {D : Rat} {L B c : Nat} (h : Com k D L B) {f : Nat → Rat} (hc : c ≤ 64) (hf : ∀ j, j < c → Sc L B (f j * D)) : Bd (k + 6 + k) (sumN c f) := by
  refine h.bd_of hc ?_
  have e : Rz.sumN c f * D = Rz.sumN c fun j => f j * D := by
    rw [show Rz.sumN c f * D = D * Rz.sumN c f by grind, ← sumN_mul]
    exact sumN_congr fun j _ => by grind
  rw [e]
  exact sumN_sc hf
def spAmountS (K : PySem.W.Frag) : Sp := fun vs H Q _ => ∃ S c : Addr, vs = [.ref S] ∧ StAt H S c ∧ ∀ v H' q, StAt H' S c → Kp S H H' → RatV K H' v q → 0 < q → Sc 12 72 q → Q v H'
def spNetS (K : PySem.W.Frag) : Sp := fun vs H Q _ => ∃ (S c : Addr) (R M : Nat), vs = [.ref S, .int (R : Int), .int (M : Int)] ∧ StAt H S c ∧ 1 ≤ R ∧ R ≤ 100 ∧ M ≤ 500 ∧
  ∀ v H' rim rows E qs, 1 ≤ rim → rim ≤ R → E ≤ M → Built rim E rows → qs.length = E → (∀ q ∈ qs, 0 < q ∧ Sc 12 72 q) → StAt H' S c → Kp S H H' → NetV K H' v rim rows qs → Q v H'
/-- the law's table of a net -/
def spLTable (K : PySem.W.Frag) : Sp := fun vs H Q _ => ∃ (v : V) (rim : Nat) (rows : Rows) (qs : List Rat) (E : Nat), vs = [v] ∧ NetV K H v rim rows qs ∧ WF rows E ∧ qs.length = E ∧ E ≤ 40 ∧ rows.length ≤ 47 ∧ rim ≤ rows.length ∧ (∀ e, e < E → Sc 12 72 (qs.getD e 0)) ∧
  ∀ v' H', Same H H' → TabV K H' v' (keptM (List.range rim) (JS (lapK rows qs E) (esL (lapK rows qs E) (List.range rim) rows.length))) → Q v' H'
/-- tuples stay; the tables of code objects may grow -/
def TupS (K : PySem.W.Frag) (H H' : Hp) : Prop := ∀ a xs, SqT K H a xs → SqT K H' a xs
section
variable {K : PySem.W.Frag} {H H' H2 : Hp}
theorem TupS.of (h : Same H H') : TupS K H H' := fun _ _ t => Same.sqt h t
theorem TupS.trans (h : TupS K H H') (k : TupS K H' H2) : TupS K H H2 := fun a xs t => k a xs (h a xs t)
theorem TupS.rat (h : TupS K H H') {v : V} {q : Rat} (hv : RatV K H v q) : RatV K H' v q := let ⟨p, e, a⟩ := hv; ⟨p, e, h _ _ a⟩
theorem TupS.rats (h : TupS K H H') {xs : List V} {qs : List Rat} (hv : Rats K H xs qs) : Rats K H' xs qs := ⟨hv.len, fun i x q a b => h.rat (hv.at_ i x q a b)⟩
theorem TupS.tab (h : TupS K H H') {v : V} {m : Mat} (hv : TabV K H v m) : TabV K H' v m := by
  obtain ⟨p, us, e, a, b⟩ := hv
  refine ⟨p, us, e, h _ _ a, b.len, fun i v z => ?_⟩
  obtain ⟨p2, xs, e2, a2, b2⟩ := b.at_ i v z
  exact ⟨p2, xs, e2, h _ _ a2, h.rats b2⟩
theorem TupS.net (h : TupS K H H') {v : V} {rim : Nat} {rows : Rows} {qs : List Rat} (hv : NetV K H v rim rows qs) : NetV K H' v rim rows qs := by
  obtain ⟨p, t, m, ts, as, e, a⟩ := hv
  exact ⟨p, t, m, ts, as, e, h _ _ a.top, h _ _ a.turns, a.len, fun i r row x y => h _ _ (a.row i r row x y), h _ _ a.ams, h.rats a.rats⟩
theorem Eqv.tab {n : Nat} {x y : V} {m : Mat} (h : TabV K H x m) (k : TabV K H y m) (h1 : m.length < 1000000) (h2 : ∀ i, i < m.length → (rw' m i).length < 1000000) : Eqv K H (n + 4) x y := by
  obtain ⟨p, us, rfl, a, b⟩ := h
  obtain ⟨p', us', rfl, a', b'⟩ := k
  refine .tup a a' (by rw [b.len, b'.len]) (by rw [b'.len]; exact h1) fun i x y e1 e2 => ?_
  have hi : i < m.length := by
    rw [← b.len]
    exact (List.getElem?_eq_some_iff.mp e1).1
  obtain ⟨q, xs, rfl, c, d⟩ := b.at_ i x e1
  obtain ⟨q', xs', rfl, c', d'⟩ := b'.at_ i y e2
  refine .tup c c' (by rw [d.len, d'.len]) (by rw [d'.len]; exact h2 i hi) fun j x y f1 f2 => ?_
  have hj : j < (rw' m i).length := by
    rw [← d.len]
    exact (List.getElem?_eq_some_iff.mp f1).1
  exact Eqv.rat (d.at_ _ _ _ f1 (List.getElem?_eq_getElem hj)) (d'.at_ _ _ _ f2 (List.getElem?_eq_getElem hj))
end
theorem keptM_row {kept : List Nat} {A : Nat → Nat → Rat} {i : Nat} (hi : i < kept.length) : rw' (keptM kept A) i = kept.map fun b => A kept[i] b := by
  unfold rw' keptM
  rw [List.getD_eq_getElem?_getD, List.getElem?_map, List.getElem?_eq_getElem hi]
  rfl
theorem keptM_eq {rim : Nat} {A B : Nat → Nat → Rat} (h : ∀ i j, i < rim → j < rim → A i j = B i j) : keptM (List.range rim) A = keptM (List.range rim) B := by
  unfold keptM
  refine List.map_congr_left fun i hi => List.map_congr_left fun j hj => h i j (List.mem_range.mp hi) (List.mem_range.mp hj)
theorem tab_cell {K : PySem.W.Frag} {H : Hp} {v : V} {rim : Nat} {A : Nat → Nat → Rat} (h : TabV K H v (keptM (List.range rim) A)) : ∃ p us, v = .ref p ∧ SqT K H p us ∧ ∀ i j, i < rim → j < rim → ∃ q xs x, us[i]? = some (.ref q) ∧ SqT K H q xs ∧ xs[j]? = some x ∧ RatV K H x (A i j) := by
  obtain ⟨p, us, rfl, a, b⟩ := h
  have hml : (keptM (List.range rim) A).length = rim := by unfold keptM; rw [List.length_map, List.length_range]
  refine ⟨p, us, rfl, a, fun i j hi hj => ?_⟩
  have hul : i < us.length := by rw [b.len, hml]; exact hi
  have e0 := List.getElem?_eq_getElem hul
  obtain ⟨q, xs, e1, c, d⟩ := b.at_ i _ e0
  rw [e1] at e0
  have er : rw' (keptM (List.range rim) A) i = (List.range rim).map fun b => A i b := by
    rw [keptM_row (by rw [List.length_range]; exact hi), List.getElem_range]
  rw [er] at d
  have hxl : j < xs.length := by rw [d.len, List.length_map, List.length_range]; exact hj
  have f0 := List.getElem?_eq_getElem hxl
  exact ⟨q, xs, _, e0, c, f0, d.at_ _ _ _ f0 (by rw [List.getElem?_map, List.getElem?_range hj]; rfl)⟩
theorem num_npos {q : Rat} (h : q ≤ 0) : q.num ≤ 0 := by
  have h1 : 0 ≤ (-q).num := Rat.num_nonneg.mpr (by grind)
  rw [Rat.neg_num] at h1
  omega
def spTableOf (K : PySem.W.Frag) (I0 : Hp → Prop) : Sp := fun vs H Q _ => ∃ (v : V) (rim : Nat) (rows : Rows) (qs : List Rat) (E : Nat), vs = [v] ∧ NetV K H v rim rows qs ∧ WF rows E ∧ qs.length = E ∧ E ≤ 40 ∧ rows.length ≤ 47 ∧ rim ≤ rows.length ∧ (∀ e, e < E → 0 < qs.getD e 0) ∧ (∀ e, e < E → Sc 12 72 (qs.getD e 0)) ∧ I0 H ∧
  ∀ v' H' es, Whole rows.length rim (lapK rows qs E) es → TupS K H H' → I0 H' → TabV K H' v' (keptM (List.range rim) (JS (lapK rows qs E) es)) → Q v' H'
def spLawI (K : PySem.W.Frag) (I0 : Hp → Prop) : Sp := fun vs H Q _ => ∃ (a : Addr) (ns : List Int), vs = [.ref a] ∧ SqL K H a (ns.map V.int) ∧ ns.length ≤ 63 ∧ I0 H ∧ ∀ H', Q (.bl true) H'
end Rz

namespace Rz
open PySem PySem.Spec PyProof.Rows L2

/-! ### what the program does with a web, in numbers -/
section
variable {n : Nat} {M : Nat → Nat → Rat} {es : List Nat}
/-- a node is taken out: what is between two others -/
theorem Piv.between (h : Piv n M es) (hL : Lap n M) {x i j : Nat} (hx : x < n) (hi : i < n) (hxe : x ∉ es) (hie : i ∉ es) (hix : i ≠ x) (h0 : JS M es x x ≠ 0) :
    -(JS M (es ++ [x]) i j) = -(JS M es i j) + (-(JS M es x i)) * (-(JS M es x j)) / JS M es x x := by
  rw [JS_snoc]
  unfold elimX
  rw [if_neg hix, (h.rest hL).1 i x hi hx hie hxe]
  grind
/-- a sum over the keys of a dict -/
theorem sum_keys {n : Nat} {f : Nat → Rat} : ∀ (ks : List Nat), ks.Nodup → (∀ k ∈ ks, k < n) → (ks.map f).foldr (· + ·) 0 = sumN n fun k => if k ∈ ks then f k else 0
  | [], _, _ => (sumN_zero fun k _ => if_neg (fun z => nomatch z)).symm
  | a :: ks, hn, hl => by
    obtain ⟨h1, h2⟩ := List.nodup_cons.mp hn
    have ih := sum_keys (f := f) ks h2 fun k hk => hl k (List.mem_cons_of_mem _ hk)
    have e : (sumN n fun k => if k ∈ a :: ks then f k else 0) = sumN n fun k => (if k ∈ ks then f k else 0) + f a * (if k = a then (1 : Rat) else 0) := sumN_congr fun k _ => by
      by_cases e1 : k = a
      · subst e1
        rw [if_pos List.mem_cons_self, if_neg h1, if_pos rfl]
        grind
      · by_cases e2 : k ∈ ks
        · rw [if_pos (List.mem_cons_of_mem _ e2), if_pos e2, if_neg e1]
          grind
        · rw [if_neg (fun z => (List.mem_cons.mp z).elim e1 e2), if_neg e2, if_neg e1]
          grind
    rw [e, sumN_add, sum_dl (hl a List.mem_cons_self), List.map_cons, List.foldr_cons, ih]
    grind
/-- all that a node's neighbours have is what the node has itself -/
theorem Piv.around (h : Piv n M es) (hL : Lap n M) {x : Nat} (hx : x < n) {ks : List Nat} (hn : ks.Nodup) (hk : ∀ k ∈ ks, k < n ∧ k ≠ x) (hz : ∀ k, k < n → k ≠ x → k ∉ ks → JS M es x k = 0) :
    (ks.map fun k => -(JS M es x k)).foldr (· + ·) 0 = JS M es x x := by
  rw [sum_keys (n := n) ks hn fun k hk2 => (hk k hk2).1]
  have h0 := h.sum hL x hx
  have e : sumN n (JS M es x) = sumN n fun k => (-1) * (if k ∈ ks then -(JS M es x k) else 0) + JS M es x x * (if k = x then (1 : Rat) else 0) := sumN_congr fun k hkn => by
    by_cases e1 : k = x
    · subst e1
      rw [if_neg fun z => (hk k z).2 rfl, if_pos rfl]
      grind
    · rw [if_neg e1]
      by_cases e2 : k ∈ ks
      · rw [if_pos e2]
        grind
      · rw [if_neg e2, hz k hkn e1 e2]
        grind
  rw [e, sumN_add, sum_dl hx, sumN_mul] at h0
  grind
end
/-- the nodes that the program has taken out: es with what they had, zs without neighbours -/
structure Taken (n : Nat) (M : Nat → Nat → Rat) (es zs : List Nat) : Prop where
  piv : Piv n M es
  zn : ∀ z ∈ zs, z < n ∧ z ∉ es
  zr : ∀ z ∈ zs, ∀ j, j < n → JS M es z j = 0
theorem Taken.nil {n : Nat} {M : Nat → Nat → Rat} : Taken n M [] [] := ⟨.nil, (fun z h => nomatch h), (fun z h => nomatch h)⟩
/-- one more, with neighbours -/
theorem Taken.out {n : Nat} {M : Nat → Nat → Rat} {es zs : List Nat} {x : Nat} (h : Taken n M es zs) (hx : x < n) (he : x ∉ es) (hz : x ∉ zs) (h0 : JS M es x x ≠ 0) : Taken n M (es ++ [x]) zs := by
  refine ⟨.snoc h.piv hx he h0, fun z hz2 => ⟨(h.zn z hz2).1, fun y => ?_⟩, fun z hz2 j hj => ?_⟩
  · rcases List.mem_append.mp y with y | y
    · exact (h.zn z hz2).2 y
    · exact hz (List.mem_singleton.mp y ▸ hz2)
  · have hzx : z ≠ x := fun y => hz (y ▸ hz2)
    rw [JS_snoc]
    unfold elimX
    rw [if_neg hzx, h.zr z hz2 j hj, h.zr z hz2 x hx]
    grind
/-- one more, without neighbours -/
theorem Taken.lone {n : Nat} {M : Nat → Nat → Rat} {es zs : List Nat} {x : Nat} (hL : Lap n M) (h : Taken n M es zs) (hx : x < n) (he : x ∉ es) (h0 : JS M es x x = 0) : Taken n M es (zs ++ [x]) := by
  refine ⟨h.piv, fun z hz => ?_, fun z hz j hj => ?_⟩
  · rcases List.mem_append.mp hz with y | y
    · exact h.zn z y
    · rw [List.mem_singleton.mp y]
      exact ⟨hx, he⟩
  · rcases List.mem_append.mp hz with y | y
    · exact h.zr z y j hj
    · rw [List.mem_singleton.mp y]
      exact (h.piv.pos hL hx he).2 h0 j hj
/-- all beside the rim are taken out -/
theorem Taken.whole {n rim : Nat} {M : Nat → Nat → Rat} {es zs : List Nat} (h : Taken n M es zs) (hr : ∀ e ∈ es, ¬ e < rim) (ha : ∀ x, x < n → ¬ x < rim → x ∈ es ∨ x ∈ zs) : Whole n rim M es :=
  ⟨h.piv, hr, fun x hx hxr he j hj => h.zr x ((ha x hx hxr).resolve_left he) j hj⟩
/-- the program's total, all partial sums small -/
def spTotalC (K : PySem.W.Frag) : Sp := fun vs H Q _ => ∃ (a : Addr) (xs : List V) (qs : List Rat) (b : Nat), vs = [.ref a] ∧ SqL K H a xs ∧ Rats K H xs qs ∧ (∀ q ∈ qs, Bd b q) ∧ (∀ c, c ≤ qs.length → Bd b (sumR (qs.take c))) ∧ b + b ≤ 8000 ∧
  ∀ v H', Same H H' → RatV K H' v (sumR qs) → Q v H'
theorem foldl_foldr : ∀ (qs : List Rat) (a : Rat), qs.foldl (fun a b => a + b) a = a + qs.foldr (· + ·) 0
  | [], a => by
    show a = a + 0
    grind
  | q :: qs, a => by
    rw [List.foldl_cons, foldl_foldr qs (a + q), List.foldr_cons]
    grind
theorem sumR_foldr (qs : List Rat) : sumR qs = qs.foldr (· + ·) 0 := by
  unfold sumR
  rw [foldl_foldr]
  grind
/-- the partial sums of a row's values are small -/
theorem Com.total {k : Nat} {D : Rat} {L B : Nat} (h : Com k D L B) {qs : List Rat} (hl : qs.length ≤ 64) (hq : ∀ q ∈ qs, Sc L B (q * D)) : ∀ c, c ≤ qs.length → Bd (k + 6 + k) (sumR (qs.take c)) := fun c hc => by
  have key : ∀ rs : List Rat, (∀ q ∈ rs, Sc L B (q * D)) → Sc L (rs.length * B) (rs.foldr (· + ·) 0 * D) := fun rs => by
    induction rs with
    | nil =>
      intro _
      show Sc L (0 * B) (0 * D)
      rw [Rat.zero_mul]
      exact Sc.zero
    | cons q rs ih =>
      intro hr
      have a := hr q List.mem_cons_self
      have b := ih fun q hq => hr q (List.mem_cons_of_mem _ hq)
      rw [List.foldr_cons, List.length_cons, Rat.add_mul]
      exact (a.add b).mono (by rw [Nat.add_mul, Nat.one_mul]; omega)
  rw [sumR_foldr]
  refine h.bd_of (c := (qs.take c).length) (by rw [List.length_take]; omega) ?_
  exact key _ fun q hq2 => hq q (List.mem_of_mem_take hq2)
end Rz

set_option maxHeartbeats 4000000
/-! RzMin: min(list, key=lambda x: ..), the answer is one of the list's items. -/
namespace Rz
open PySem PySem.Spec PyProof.Rows L2 LamX

/-! ### a lambda with one parameter -/
structure LamP (x : Str) (sc lsc : Scope) : Prop where
  kd : lsc.kind = .function
  nco : lsc.isCoroutine = false
  ngen : lsc.isGenerator = false
  nocell : ∀ y ∈ lsc.names, y.2 ≠ .cell
  only : ∀ y ∈ lsc.names, y.2 = .local → y.1 = x
  par : lsc.names.lookup x = some .local
  fr : ∀ y ∈ lsc.names, y.2 = .free → sc.names.lookup y.1 = some .cell ∨ sc.names.lookup y.1 = some .free
def lamPB (x : Str) (sc lsc : Scope) : Bool :=
  decide (lsc.kind = .function) && !lsc.isCoroutine && !lsc.isGenerator && decide (lsc.names.lookup x = some .local) && lsc.names.all fun y => !decide (y.2 = .cell) && (!decide (y.2 = .local) || decide (y.1 = x)) && (!decide (y.2 = .free) || decide (sc.names.lookup y.1 = some .cell) || decide (sc.names.lookup y.1 = some .free))
theorem lamP_by {x : Str} {sc lsc : Scope} (h : lamPB x sc lsc = true) : LamP x sc lsc := by
  unfold lamPB at h
  simp only [Bool.and_eq_true, Bool.or_eq_true, Bool.not_eq_true', decide_eq_true_eq, decide_eq_false_iff_not, List.all_eq_true] at h
  obtain ⟨⟨⟨⟨h1, h2⟩, h3⟩, h4⟩, h5⟩ := h
  refine ⟨h1, h2, h3, fun y hy => (h5 y hy).1.1, fun y hy e => (h5 y hy).1.2.resolve_left fun z => z e, h4, fun y hy e => ?_⟩
  rcases (h5 y hy).2 with (z | z) | z
  · exact absurd e z
  · exact .inl z
  · exact .inr z
theorem LamP.has {x : Str} {X : Cx} {lsc : Scope} (L : LamP x X.env.scope lsc) (ok : X.Ok) : ∀ y ∈ lsc.names, y.2 = .free → ∃ c, X.env.cells.lookup y.1 = some c := fun y hy e =>
  (L.fr y hy e).elim (fun k => ok.has _ (.inl k)) fun k => ok.has _ (.inr k)
theorem LamP.notfree {x : Str} {sc lsc : Scope} (L : LamP x sc lsc) : lsc.names.lookup x ≠ some .free := fun z => by
  rw [L.par] at z
  exact nomatch z
section
variable {X : Cx} {pins : List (Addr × Obj)} {σ : L2.St} {H : Hp} {s : Shared}
theorem clo_mem {L : List (Str × NameKind)} {cells : List (Str × Addr)} {y : Str} {c : Addr} (hf : ∀ z ∈ L, z.2 = .free → ∃ c, cells.lookup z.1 = some c) (e : (cloFrom cells L []).lookup y = some c) : cells.lookup y = some c := by
  rcases cloFrom_mem (PySem.mem_of_lookup e) with hm | ⟨h1, h2⟩
  · exact absurd hm List.not_mem_nil
  · obtain ⟨c1, hc⟩ := hf _ h1 rfl
    simp only at hc h2
    rw [hc] at h2
    rw [hc, h2]
    rfl
theorem clo_has {L : List (Str × NameKind)} {cells : List (Str × Addr)} {y : Str} (hl : L.lookup y = some .free) : ∃ c, (cloFrom cells L []).lookup y = some c := by
  have hy : (y, NameKind.free) ∈ L := PySem.mem_of_lookup hl
  exact mem_lookup (cloFrom_has (cells := cells) (acc := []) hy)
theorem lamp_start {x : Str} {j : Nat} {u : Value} {v : V} {A : Around} {outer : List Env} {E : XK} {lsc : Scope} {f c' : Addr} {h₁ : Heap} {tk : Nat} (I : Inv X pins σ H s) (L : LamP x X.env.scope lsc) (e0 : Env0 X.prog X.w X.K X.mg X.base A outer s H) (hd : A.handled = none)
    (hns : h₁.Ns s.heap.objs.size fun y => ([(x, u)] : List (Str × Value)).reverse.lookup y) (kp : ∀ b o, s.heap.get? b = some o → h₁.get? b = some o)
    (nd : X.N.Nodup) (hj : X.N[j]? = some x) (rv : RelV v u) :
    Inv (lamCx X A outer s H E lsc f c') [] (σ.set j (some v)) H { s with heap := h₁, toks := tk } := by
  have hfree := L.has I.ok
  have down : ∀ {y c}, (cloFrom X.env.cells lsc.names []).lookup y = some c → X.env.cells.lookup y = some c := fun e => clo_mem hfree e
  have noA : ∀ b : Addr, b ∉ (lamCx X A outer s H E lsc f c').ex := fun b => List.not_mem_nil
  have ce : ∀ {c : Addr} {v : Option Value}, s.heap.IsCell c v → h₁.IsCell c v := fun ⟨o, ho, hd⟩ => ⟨o, kp _ _ ho, hd⟩
  have a1 : Cx.Ok (lamCx X A outer s H E lsc f c') := {
    mod := e0.mod
    kind := L.kd
    glob := rfl
    blt := rfl
    above := Nat.le_refl _
    inj := fun y z c e1 e2 => I.ok.inj y z c (down e1) (down e2)
    has := fun y hy => by
      have hy : lsc.names.lookup y = some .cell ∨ lsc.names.lookup y = some .free := hy
      rcases hy with hy | hy
      · exact absurd rfl (L.nocell _ (PySem.mem_of_lookup hy))
      · exact clo_has hy
    cab := fun y c z _ => by
      have z : false = true := z
      exact nomatch z
    hd := fun _ => hd
    frames := Around.frames_deeper e0.frames
    stk := .inr ⟨rfl, rfl⟩
    exf := fun b z => absurd z (noA b)
    bs := e0.bs
    bsz := e0.bsz
    noex := fun b _ _ => noA b
    exfs := fun b z => absurd z (noA b)
    funs := e0.funs
    frf := e0.frf }
  refine { ok := a1, os := rfl, bare := e0.bare, base := Un.kept kp, loc := ⟨_, hns, fun i y v' e1 e2 e3 => ?_⟩, cell := fun y c e => ?_, free := e0.hok.fresh (Nat.le_refl _), freeC := fun y c e => I.freeC y c (down e), pin := fun q hq => absurd (show q ∈ ([] : List (Addr × Obj)) ++ [] from hq) (by simp), hok := e0.hok.kept kp, len := ?_ }
  · have e1 : X.N[i]? = some y := e1
    have e3 : Vis lsc y := e3
    rcases e3 with k | k | k
    · have ey : y = x := L.only _ (PySem.mem_of_lookup k) rfl
      subst ey
      have eij : i = j := by
        obtain ⟨hi, e1'⟩ := List.getElem?_eq_some_iff.mp e1
        obtain ⟨hj', e2'⟩ := List.getElem?_eq_some_iff.mp hj
        exact (List.getElem?_inj hi nd).mp (e1.trans hj.symm)
      subst eij
      have hi : i < σ.length := by
        rw [I.len]
        exact (List.getElem?_eq_some_iff.mp e1).1
      rw [List.getElem?_set_self hi] at e2
      cases e2
      exact ⟨u, rv, .inl ⟨k, by simp [List.lookup]⟩⟩
    · exact absurd rfl (L.nocell _ (PySem.mem_of_lookup k))
    · have ne : j ≠ i := fun z => by
        rw [z, e1] at hj
        cases hj
        exact L.notfree k
      rw [List.getElem?_set_ne ne] at e2
      obtain ⟨m, hn, hl⟩ := I.loc
      have hvis : Vis X.env.scope y := (L.fr _ (PySem.mem_of_lookup k) rfl).elim (fun k => .inr (.inl k)) fun k => .inr (.inr k)
      obtain ⟨w', r, q⟩ := hl i y v' e1 e2 hvis
      obtain ⟨c2, h2⟩ := clo_has (cells := X.env.cells) k
      refine ⟨w', r, .inr ⟨.inr k, c2, h2, ?_⟩⟩
      have c1 := down h2
      rcases q with ⟨k', _⟩ | ⟨_, c3, e', z⟩
      · have k' : X.env.scope.names.lookup y = some .local := k'
        rcases L.fr _ (PySem.mem_of_lookup k) rfl with k2 | k2
        · exact absurd (k'.symm.trans k2) (by simp)
        · exact absurd (k'.symm.trans k2) (by simp)
      · rw [c1] at e'
        cases e'
        exact ce z
  · obtain ⟨w', z⟩ := I.cell y c (down e)
    exact ⟨w', ce z⟩
  · rw [List.length_set]
    exact I.len

/-- the lambda at f, called from within a built-in -/
theorem lamp_call {x : Str} {j kk : Nat} {u : Value} {v : V} {A : Around} {lsc : Scope} {f c' : Addr} {params : Arguments} {body : Expr} {pm ctv : Value} {tb : TE} {Q : VK} (I : Inv X pins σ H s) (L : LamP x X.env.scope lsc) (hr : Room (kk + 1) A) (hA : A.frames = some X.stack)
    (of : s.heap.get? f = some (PySem.W.kla_obj "<lambda>" (X.env.qual ++ "<lambda>") params body lsc (cloFrom X.env.cells lsc.names []) pm c' ctv)) (hco : H c' = some (CodeO c' (X.env.qual ++ "<lambda>")))
    (hbind : ∀ cl, bindArgs (PySem.W.kla_fn "<lambda>" (X.env.qual ++ "<lambda>") params body lsc cl pm (.ref c') ctv) ⟨[u], []⟩ = pure [(x, u)])
    (nd : X.N.Nodup) (hj : X.N[j]? = some x) (rv : RelV v u)
    (hbody : ∀ (A : Around) (outer : List Env) (s : Shared), Room kk (A.deeper (lamEnv X lsc s.heap.objs.size f c')) → PE (lamCx X A outer s H C8.E0 lsc f c') body tb) (ht : tb (σ.set j (some v)) H Q) :
    codeAny (model X.prog X.w) A (.call (.ref f) ⟨[u], []⟩) (CR (L2.CX X.prog X.w) X.stack X.prog X.w H s Q C8.E0) s := by
  obtain ⟨⟨oc, vs, t, hoc, hdc, hvc⟩, _, _⟩ := I.hok c' _ hco
  have e := I.env0
  have e0 : Env0 X.prog X.w X.K X.mg X.base A X.stack s H := ⟨hA, e.mod, e.bs, e.bsz, e.funs, e.frf, e.hok, e.bare⟩
  refine PySem.W.kla_callFunE hr.depth of rfl L.nco L.ngen rfl ⟨c', oc, vs, t, rfl, hoc, hdc, hvc⟩ ?_
  rw [hbind]
  refine wpAny_pure (wpAny_newFunctionEnv L.nocell (fun y hy => ?_) (fun h₁ hns hsb => ⟨I.nolimit.fresh _ hsb, ?_⟩) L.kd)
  · rw [List.mem_singleton.mp hy]
    exact L.par
  have kp : ∀ b o, s.heap.get? b = some o → h₁.get? b = some o := fun b o e => hsb.extBut b o (Nat.ne_of_lt (Heap.lt_size e)) (Heap.get?_push_of_some _ e)
  have J := lamp_start (x := x) (j := j) (u := u) (v := v) (E := C8.E0) (f := f) (c' := c') (h₁ := h₁) (tk := s.toks + [(x, u)].length) I L e0 hr.hd hns kp nd hj rv
  refine PySem.W.kla_codeExpr (wpAny_mono ((hbody _ _ s (hr.deeper _)).run [] _ _ H Q J ht) (fun v s' hq => ?_) fun e s' hq => hq)
  obtain ⟨w', H', J', rv', q⟩ := hq
  exact ⟨w', H', J'.os, J'.bare, J'.base, J'.hok, rv', q⟩

/-! ### the walk of min over a list -/
theorem fp_fr {b : Addr} (I : Inv X pins σ H s) (h : FpOk X pins H b) : b ∉ frs X.stack := fun hb => (List.mem_cons.mp (I.stkSub b hb)).elim h.2.1 h.2.2.1
theorem fp_turn {b : Addr} {h' : Heap} (h : FpOk X pins H b) (I : Inv X pins σ H s) (k : ∀ c o, c ≠ b → s.heap.get? c = some o → h'.get? c = some o) : Inv X pins σ H { s with heap := h' } :=
  I.turned (t' := s.toks) k h.1 h.2.1 h.2.2.2.1 h.2.2.2.2.1 h.2.2.2.2.2
/-- what a call of the key leaves -/
def KeyEnd (X : Cx) (pins : List (Addr × Obj)) (σ : L2.St) (H : Hp) (s : Shared) (x : Value) (s' : Shared) : Prop :=
  Inv X pins σ H s' ∧ (∀ b o, H b = none → b ∉ frs X.stack → s.heap.get? b = some o → s'.heap.get? b = some o) ∧ ∃ n t, x = .int n t
def KeyTurn (X : Cx) (pins : List (Addr × Obj)) (σ : L2.St) (H : Hp) (A : Around) (f : Addr) (fo : Obj) (xs : List V) : Prop :=
  ∀ (u : Value) (v : V) (s : Shared), v ∈ xs → RelV v u → Inv X pins σ H s → s.heap.get? f = some fo → wpAny (model X.prog X.w) A (call (.ref f) [u]) (KeyEnd X pins σ H s) (fun _ _ => False) s
theorem min_name : (toString "min" ++ toString ".loop" : String) = "min.loop" := by decide
theorem min_loop {A : Around} {l I S f : Addr} {fo : Obj} {xs : List V} {R : Result → Shared → Prop} (hh : A.handled = none) (hl : H l = some (.lst xs)) (fI : FpOk X pins H I) (fS : FpOk X pins H S) (nf : H f = none) (nff : ∀ s, Inv X pins σ H s → f ∉ frs X.stack)
    (lI : l ≠ I) (lS : l ≠ S) (SI : S ≠ I) (gI : f ≠ I) (gS : f ≠ S) (turn : KeyTurn X pins σ H A.in1 f fo xs) (hR : ∀ u v s', v ∈ xs → RelV v u → Inv X pins σ H s' → R (.ok (.ret u)) s') :
    ∀ (r j : Nat) (s : Shared) (vb : Value) (xb : V) (kb : Int) (tb : Tok) (c : Nat), xs.length - (j + 1) = r → j + 1 ≤ xs.length → Inv X pins σ H s → s.heap.get? f = some fo → s.heap.get? S = some (seqObj "list" #[vb, .int kb tb] c) → s.heap.IsListIter I l (j + 1) →
      xb ∈ xs → RelV xb vb → codeAny (model X.prog X.w) A (.builtin "min.loop" ⟨[.ref I, .ref f, .ref S], []⟩) R s := by
  intro r
  induction r with
  | zero =>
    intro j s vb xb kb tb c hr hj Iv hf hS hit hx rx
    obtain ⟨its, rv, pl, _⟩ := Iv.list (SqL.of hl)
    have hsz : its.toArray.size = j + 1 := by
      rw [List.size_toArray, ← rv.length]
      omega
    refine codeAny_builtin PySem.F.entry_min_loop (Eq.mpr (by rw [Around.under_plainId PySem.F.plain_min_loop _]) (?_ : wpAny _ A.in1 _ _ _ s))
    refine wpAny_bind (m := seqItems? (.ref S)) (wpAny_seqItems hS rfl ?_)
    refine wpAny_bind (m := tryCatch (pyNext (.ref I)) _) (wpAny_tryCatch (wpAny_pyNext_list_end (A := A.in1) hh hit pl.isList (by simp [← List.size_toArray, hsz]) fun h' hk => ?_))
    have hS' := hk S _ SI hS
    have I1 : Inv X pins σ H { s with heap := h' } := fp_turn fI Iv fun c o hc e => hk c o hc e
    have sb := Heap.SameBut.update h' S (Obj.mapSeq fun _ => (#[] : Array Value))
    have I2 : Inv X pins σ H { s with heap := h'.update S (Obj.mapSeq fun _ => (#[] : Array Value)) } := fp_turn (s := { s with heap := h' }) fS I1 fun c o hc e => sb.extBut c o hc e
    refine wpAny_bind (m := updateSeq S fun _ => #[]) (wpAny_updateSeq hS' rfl (wpAny_bind (wpAny_letGo (wpAny_pure ?_))))
    exact hR vb xb _ hx rx I2
  | succ r ih =>
    intro j s vb xb kb tb c hr hj Iv hf hS hit hx rx
    obtain ⟨its, rv, pl, _⟩ := Iv.list (SqL.of hl)
    have hlt : j + 1 < xs.length := by omega
    obtain ⟨u, hu, ru⟩ := rv.get (List.getElem?_eq_getElem hlt)
    refine codeAny_builtin PySem.F.entry_min_loop (Eq.mpr (by rw [Around.under_plainId PySem.F.plain_min_loop _]) (?_ : wpAny _ A.in1 _ _ _ s))
    refine wpAny_bind (m := seqItems? (.ref S)) (wpAny_seqItems hS rfl ?_)
    refine wpAny_bind (m := tryCatch (pyNext (.ref I)) _) (wpAny_tryCatch (wpAny_pyNext_list_item (x := u) hit pl.isList (by simpa using hu) fun h1 hit1 hs1 => ?_))
    have I1 : Inv X pins σ H { s with heap := h1 } := fp_turn fI Iv fun c o hc e => hs1.extBut c o hc e
    refine wpAny_bind (m := tryCatch (holding [u] (call (.ref f) [u])) _) (wpAny_tryCatch (wpAny_holding (wpAny_mono (turn u _ _ (List.getElem_mem hlt) ru I1 (hs1.extBut f _ gI hf)) (fun x s2 he => ?_) fun _ _ hF => hF.elim)))
    obtain ⟨I2, kp, n, t, rfl⟩ := he
    have hS2 := kp S _ fS.1 (fp_fr I1 fS) (hs1.extBut S _ SI hS)
    have hf2 := kp f _ nf (nff _ I1) (hs1.extBut f _ gI hf)
    have hit2 : s2.heap.IsListIter I l (j + 1 + 1) := by
      obtain ⟨o, ho, h2, h3⟩ := hit1
      exact ⟨o, kp I _ fI.1 (fp_fr I1 fI) ho, h2, h3⟩
    refine wpAny_bind (m := tryCatch (holding [u, .int n t] (richCompare .Lt (.int n t) (.int kb tb) >>= _)) _) (wpAny_tryCatch (wpAny_holding (wpAny_bind (richCompare_gives (op := .Lt) (typeIs_int _ n t) (typeIs_int _ kb tb) PySem.F.slot_int_lt PySem.F.entry_int_lt (PySem.F.args_int_lt_2 _ _) (gives_int_lt n kb t tb) (fun x => nomatch x) ?_))))
    refine wpAny_bind (wpAny_holding (wpAny_truthy_bool (wpAny_bind (wpAny_letGo (wpAny_pure ?_)))))
    by_cases hb : n < kb
    · simp only [hb, decide_true, if_true]
      have sb := Heap.SameBut.update s2.heap S (Obj.mapSeq fun _ => #[u, .int n t])
      have e2 := get?_update_seq hS2 fun _ => #[u, .int n t]
      have I3 : Inv X pins σ H { s2 with heap := s2.heap.update S (Obj.mapSeq fun _ => #[u, .int n t]) } := fp_turn fS I2 fun c o hc e => sb.extBut c o hc e
      refine wpAny_bind (wpAny_updateSeq hS2 rfl (wpAny_bind (wpAny_letGo ?_)))
      rw [min_name]
      exact wpAny_pure ⟨plainId_quiet PySem.F.plain_min_loop _, ih (j + 1) _ u _ n t _ (by omega) hlt I3 (sb.extBut f _ gS hf2) e2 (hit2.extBut sb.extBut (Ne.symm SI)) (List.getElem_mem hlt) ru⟩
    · simp only [hb, decide_false, Bool.false_eq_true, if_false]
      refine wpAny_bind (wpAny_letGo ?_)
      rw [min_name]
      exact wpAny_pure ⟨plainId_quiet PySem.F.plain_min_loop _, ih (j + 1) _ vb xb kb tb c (by omega) hlt I2 hf2 hS2 hit2 hx rx⟩

theorem min_run {A : Around} {l f : Addr} {fo : Obj} {xs : List V} {Q : Value → Shared → Prop} {E : Value → Shared → Prop} (hh : A.handled = none) (Iv : Inv X pins σ H s) (hl : H l = some (.lst xs)) (hne : xs ≠ []) (nf : H f = none) (nff : ∀ s, Inv X pins σ H s → f ∉ frs X.stack) (hf : s.heap.get? f = some fo)
    (turn : KeyTurn X pins σ H A.in1 f fo xs) (hQ : ∀ u v s', v ∈ xs → RelV v u → Inv X pins σ H s' → Q u s') :
    wpAny (model X.prog X.w) A (call (.builtin "min") [.ref l] [(Str.ofString "key", .ref f)]) Q E s := by
  obtain ⟨its, rv, pl, _⟩ := Iv.list (SqL.of hl)
  have hls := pl.isList
  obtain ⟨ol, hol, _⟩ := id hls
  have hll : l < s.heap.objs.size := Heap.lt_size hol
  have hlen : 0 < xs.length := List.length_pos_iff.mpr hne
  obtain ⟨u, hu, ru⟩ := rv.get (List.getElem?_eq_getElem hlen)
  have nS : (s.heap.push { cls := .type "list_iterator", data := .fields #[.ref l, .int 0 0] }).objs.size = s.heap.objs.size + 1 := Heap.size_push ..
  have hfl := Heap.lt_size hf
  refine kmk_tree PySem.F.kind_min PySem.F.plain_min PySem.F.entry_min (kmk_min_key _ _) ?_
  refine wpAny_bind (m := Builtin.Builtins.bindParams "min" ["key", "default"] 0 ⟨[], [(Str.ofString "key", .ref f)]⟩) (wpAny_of_eq (show _ = pure [some (.ref f), none] from rfl) (wpAny_bind (wpAny_pure (wpAny_bind (wpAny_pyIter_list hls (wpAny_bind (wpAny_newList ?_ (Nat.zero_le _))))))))
  rw [min_name]
  refine wpAny_pure ⟨plainId_quiet PySem.F.plain_min_loop _, ?_⟩
  have k1 : ∀ b o, s.heap.get? b = some o → ((s.heap.push { cls := .type "list_iterator", data := .fields #[.ref l, .int 0 0] }).push (seqObj "list" #[] 0)).get? b = some o := fun b o e => Heap.get?_push_of_some _ (Heap.get?_push_of_some _ e)
  have I1 : Inv X pins σ H { s with heap := (s.heap.push { cls := .type "list_iterator", data := .fields #[.ref l, .int 0 0] }).push (seqObj "list" #[] 0) } := Iv.kept (t' := s.toks) k1
  have fI : FpOk X pins H s.heap.objs.size := Iv.fpOk (Nat.le_refl _) (Iv.hok.fresh (Nat.le_refl _))
  have fS : FpOk X pins H (s.heap.objs.size + 1) := Iv.fpOk (Nat.le_succ _) (Iv.hok.fresh (Nat.le_succ _))
  have SI : s.heap.objs.size + 1 ≠ s.heap.objs.size := Nat.succ_ne_self _
  have oI : ((s.heap.push { cls := .type "list_iterator", data := .fields #[.ref l, .int 0 0] }).push (seqObj "list" #[] 0)).get? s.heap.objs.size = some { cls := .type "list_iterator", data := .fields #[.ref l, .int 0 0] } := Heap.get?_push_of_some _ (Heap.get?_push_size _ rfl)
  have oS : ((s.heap.push { cls := .type "list_iterator", data := .fields #[.ref l, .int 0 0] }).push (seqObj "list" #[] 0)).get? (s.heap.objs.size + 1) = some (seqObj "list" #[] 0) := by
    rw [← nS]
    exact Heap.get?_push_size _ rfl
  rw [nS]
  refine codeAny_builtin PySem.F.entry_min_loop (Eq.mpr (by rw [Around.under_plainId PySem.F.plain_min_loop _]) (?_ : wpAny _ A.in1 _ _ _ _))
  refine wpAny_bind (m := seqItems? (.ref (s.heap.objs.size + 1))) (wpAny_seqItems oS rfl ?_)
  obtain ⟨its', rv', pl', _⟩ := I1.list (SqL.of hl)
  obtain ⟨u, hu, ru⟩ := rv'.get (List.getElem?_eq_getElem hlen)
  refine wpAny_bind (m := tryCatch (pyNext (.ref s.heap.objs.size)) _) (wpAny_tryCatch (wpAny_pyNext_list_item (x := u) ⟨_, oI, rfl, rfl⟩ pl'.isList (by simpa using hu) fun h1 hit1 hs1 => ?_))
  have I2 : Inv X pins σ H { s with heap := h1 } := fp_turn (s := { s with heap := (s.heap.push { cls := .type "list_iterator", data := .fields #[.ref l, .int 0 0] }).push (seqObj "list" #[] 0) }) fI I1 fun c o hc e => hs1.extBut c o hc e
  have gI : f ≠ s.heap.objs.size := Nat.ne_of_lt hfl
  have gS : f ≠ s.heap.objs.size + 1 := Nat.ne_of_lt (Nat.lt_succ_of_lt hfl)
  refine wpAny_bind (m := tryCatch (holding [u] (call (.ref f) [u])) _) (wpAny_tryCatch (wpAny_holding (wpAny_mono (turn u _ _ (List.getElem_mem hlen) ru I2 (hs1.extBut f _ gI (k1 _ _ hf))) (fun x s2 he => ?_) fun _ _ hF => hF.elim)))
  obtain ⟨I3, kp, n, t, rfl⟩ := he
  have hS2 := kp _ _ fS.1 (fp_fr I2 fS) (hs1.extBut _ _ SI oS)
  have hf2 := kp f _ nf (nff _ I2) (hs1.extBut f _ gI (k1 _ _ hf))
  have hit2 : s2.heap.IsListIter s.heap.objs.size l 1 := by
    obtain ⟨o, ho, h2, h3⟩ := hit1
    exact ⟨o, kp _ _ fI.1 (fp_fr I2 fI) ho, h2, h3⟩
  have sb := Heap.SameBut.update s2.heap (s.heap.objs.size + 1) (Obj.mapSeq fun _ => #[u, .int n t])
  have e2 := get?_update_seq hS2 fun _ => #[u, .int n t]
  have I4 : Inv X pins σ H { s2 with heap := s2.heap.update (s.heap.objs.size + 1) (Obj.mapSeq fun _ => #[u, .int n t]) } := fp_turn fS I3 fun c o hc e => sb.extBut c o hc e
  refine wpAny_bind (m := updateSeq (s.heap.objs.size + 1) fun _ => #[u, .int n t]) (wpAny_updateSeq hS2 rfl ?_)
  rw [min_name]
  exact wpAny_pure ⟨plainId_quiet PySem.F.plain_min_loop _, min_loop hh hl fI fS nf nff (Nat.ne_of_lt hll) (Nat.ne_of_lt (Nat.lt_succ_of_lt hll)) SI gI gS turn hQ _ 0 _ u _ n t _ rfl hlen I4 (sb.extBut f _ gS hf2) e2 (hit2.extBut sb.extBut (Ne.symm SI)) (List.getElem_mem hlen) ru⟩

/-! ### the expression -/
/-- min(e, key=lambda x: body); j: the slot that stands for x -/
def tMinKey (T : List (Addr × Str)) (j : Nat) (ta : TA) (tb : TE) : TE := fun σ H Q => ta σ H fun vs H1 => ∃ a xs, vs = [.ref a] ∧ H1 a = some (.lst xs) ∧ xs ≠ [] ∧ Tabs T H1 ∧
  ∀ H2, ExtN H1 H2 → Tabs T H2 → (∀ y ∈ xs, tb (σ.set j (some y)) H2 fun v H3 => H3 = H2 ∧ ∃ n, v = .int n) ∧ ∀ y ∈ xs, Q y H2
theorem pe_minKey {T : List (Addr × Str)} {x : Str} {j kk : Nat} {c P : Addr} {e : Expr} {params : Arguments} {body : Expr} {lsc : Scope} {ta : TA} {tb : TE} {p lpos kpos pos : Pos} (hc : X.calm = true) (hg : Gl X "min") (hm : X.mg "min" = none) (hr : Room (kk + 3) X.A) (ha : PA X [e] ta)
    (TB : TabB X.base X.mg c P) (hcode : X.env.code = .ref c) (hmT : (P, X.env.qual ++ "<lambda>") ∈ T) (hu : ∀ p ∈ T, p.1 = P → p.2 = X.env.qual ++ "<lambda>") (L : LamP x X.env.scope lsc) (hdef : defaultsOf params X.env = ([], []))
    (hbind : ∀ (q : Str) (cl : List (Str × Addr)) (pm cv ctv u : Value), bindArgs (PySem.W.kla_fn "<lambda>" q params body lsc cl pm cv ctv) ⟨[u], []⟩ = pure [(x, u)]) (nd : X.N.Nodup) (hj : X.N[j]? = some x)
    (hbody : ∀ (A : Around) (outer : List Env) (s : Shared) (H : Hp) (f c' : Addr), Room kk (A.deeper (lamEnv X lsc s.heap.objs.size f c')) → PE (lamCx X A outer s H C8.E0 lsc f c') body tb)
    (hs : backTo pos (starEach [e] X.env) = (false, eval e X.env) :: backTo pos (starEach [] X.env) := by rfl) (hpl : (backTo pos (starEach [e] X.env)).any (·.1) = false := by rfl) :
    PE X (.Call (.Name "min" p) [e] [⟨some "key", .Lambda params body lsc lpos, kpos⟩] pos) (tMinKey T j ta tb) := by
  refine ⟨fun pins s σ H Q I h => ?_⟩
  refine wpAny_Call_Name_kw (ld_blt I hg hm (u := .builtin "min") (by first | rfl | decide +kernel) ?_ (by first | decide +kernel | decide) (by first | decide +kernel | decide))
  refine PyProof.Rows.callWith_kw (thn (ha.run pos pins s σ H _ I h) fun us s1 ⟨vs, H1, I1, r1, q1⟩ => ?_) hs hpl
  obtain ⟨a, xs, rfl, hl, hne, hT, q⟩ := q1
  obtain rfl := Vals.ref1 r1
  show wpAny _ _ (evalAll ((do let v ← eval (.Lambda params body lsc lpos) X.env; standAt pos; pure v) :: [])) _ _ s1
  refine wpAny_evalAll_cons (wpAny_bind (lam_make2 I1 TB hcode hmT hu hT hdef (L.has I1.ok) fun f c' pm ctv H2 s2 I2 eN T2 hf nf nff hco => wpAny_bind (wpAny_standAt (wpAny_pure ?_))))
  refine wpAny_evalAll_nil ?_
  obtain ⟨qb, qq⟩ := q H2 eN T2
  have hl2 : H2 a = some (.lst xs) := eN _ _ hl fun ps z => nomatch z
  refine min_run (I.ok.hd hc) I2 hl2 hne nf (fun _ _ => nff) hf (fun u v s3 hv rv I3 hf3 => ?_) fun u v s3 hv rv I3 => ⟨v, H2, I3, rv, qq v hv⟩
  have rc := lamp_call (A := X.A.in1) (kk := kk) (tb := tb) (Q := fun v H3 => H3 = H2 ∧ ∃ n, v = .int n) I3 L (hr.in1.mono (by omega)) I3.ok.frames hf3 hco (fun cl => hbind _ _ _ _ _ _) nd hj rv (fun A outer s hr => hbody A outer s H2 f c' hr) (qb v hv)
  refine wpAny_call (codeAny_mono rc fun r s4 hq => ?_)
  cases r with
  | error e =>
    obtain ⟨_, _, _, _, _, _, _, _, _, _, _, _, z⟩ := hq
    exact z
  | ok fl =>
    cases fl with
    | next => exact False.elim hq
    | brk => exact False.elim hq
    | cont => exact False.elim hq
    | ret v4 =>
      obtain ⟨v', H', os, bare, un, hok, rv', eH, n, ev⟩ := (show CE X.stack X.prog X.w H2 _ _ v4 s4 from hq)
      subst ev
      obtain ⟨t, rfl⟩ := rv'
      have I4 := I3.call' os un hok bare (fun b y => absurd y List.not_mem_nil)
      rw [eH] at I4
      exact ⟨I4, fun b o nb fb e => un.keep b o e nb fb List.not_mem_nil, n, t, rfl⟩
/-- a def whose code object is known -/
theorem fun_okC {P : Program} {w : World} {K : PySem.W.Frag} {mg : Str → Option Value} {base : Heap} {x qual : Str} {st : Stmt} {f : Addr} {fd : FuncData} {N ps : List Str} {k : Nat} {sp : Sp} (F : Fun K x qual st f fd) (S : FnScope N ps (defScope st)) (len : ∀ vs H Q E, sp vs H Q E → vs.length = ps.length)
    (hbody : ∀ (A : Around) (outer : List Env) (s : Shared) (H : Hp) (vs : List V) (Q : VK) (E : XK), Room k (A.deeper (envOfC qual (defScope st) s.heap.objs.size f fd.code)) → sp vs H Q E →
      ∃ t, PSs (cxOf CX0 P w K mg base N qual (defScope st) f fd.code A outer s H E).nox (defBody st) t ∧ t { nx := fun _ H' => Q .non H', rt := Q } (start N vs) H) : FnOk P w K mg base CX0 (k + 1) f fd ps sp := by
  obtain ⟨oc, od, kV, doc, pm, an, cdv, ct, osl, rfl, lk, hcd⟩ := F.ex
  refine fn_of lk hcd S len fun A outer s H vs Q E hr hsp => ?_
  obtain ⟨t, h, q⟩ := hbody A outer s H vs Q E hr hsp
  exact ⟨t, h.nox, q⟩
end
/-- the end of a law with one table of code objects: that of the def nm -/
def tabFree (p : Addr × Obj) : Bool := match p.2.cls, p.2.data with
  | .none, .fields _ => false
  | _, _ => true
theorem lookup_mem {P : Addr} {o : Obj} : ∀ l : List (Addr × Obj), l.lookup P = some o → (P, o) ∈ l
  | [], h => nomatch h
  | (a, b) :: l, h => by
    rw [List.lookup_cons] at h
    by_cases e : P = a
    · subst e
      simp only [beq_self_eq_true] at h
      cases h
      exact List.mem_cons_self
    · rw [beq_false_of_ne e] at h
      exact List.mem_cons_of_mem _ (lookup_mem l h)
theorem tab_none {K : PySem.W.Frag} {h : Heap} {P : Addr} (hK : K.In h) (ha : K.all tabFree = true) (hP : h.get? P = some { cls := .none, data := .fields #[] }) : K.lookup P = none := by
  cases e : K.lookup P with
  | none => rfl
  | some o =>
    have e1 := hK P o e
    rw [hP] at e1
    cases e1
    have := List.all_eq_true.mp ha _ (lookup_mem K e)
    exact absurd this (by simp [tabFree])
theorem walk_T {l : PySem.W.OpenLaw} {n k : Nat} {q : Program} {loose : List Str} {XP : (Str → Option Value) → Heap → Prop} {YP : World → Heap → Prop} {d : DefRec} {K : Params → PySem.W.Frag} {x nm : Str} {sp : PySem.W.Frag → Addr → Sp}
    (hn : l.most = some n) (hn2 : n ≤ sizeLine) (hdf : d.params.defaults = []) (hr : Room k callerA) (hY : ∀ (w : World) (h : Heap), YP w h → (K w.params).In h) (hfr : ∀ P, (K P).all tabFree = true) (hrec : (recsOf q).any (fun d' => decide (d'.name = nm)) = true)
    (F : ∀ (w : World) (mg : Str → Option Value) (fa : Addr) (h : Heap), (K w.params).In h → h.Ns mainGlobals mg → mg d.name = some (.ref fa) → ∀ (c P : Addr), (∀ (a : Addr) (o : Obj) (fd : FuncData), mg nm = some (.ref a) → h.get? a = some o → o.data = .func fd → fd.code = .ref c) →
      ∃ fd : FuncData, (∀ (s : Shared) (u : Value), BindsTo s fd ⟨[u], []⟩ [(x, u)]) ∧ ∀ base : Heap, (K w.params).In base → base.Ns mainGlobals mg → TabB base mg c P → FnOk l.prog w (K w.params) mg base CX0 k fa fd [x] (sp (K w.params) P))
    (hsp : ∀ (K : PySem.W.Frag) (P : Addr) (H : Hp) (a : Addr) (ns : List Int), ns.length ≤ n → H P = some (.tbl #[]) → SqL K H a (ns.map V.int) → sp K P [.ref a] H (fun v _ => v = .bl true) fun _ _ _ => False) :
    PySem.W.WalkO q loose XP YP l.row.toRowW d [] (fun f vs => PySem.call f vs) := by
  refine Att.attach_callB hn hdf fun w s₀ s₁ mg mb fa o pm cd doc a vs ns G Y ho hd hcd hmg hobj hints hlen hbits hg => ?_
  have KX := hY w _ Y
  obtain ⟨d', hd', e'⟩ := List.any_eq_true.mp hrec
  obtain rfl := of_decide_eq_true e'
  obtain ⟨a', o', fd', c, P, t1, t2, t3, t4, t5, t6⟩ := G.T.tab d' hd'
  have hP : s₁.heap.get? P = some { cls := .none, data := .fields #[] } := t6.2
  obtain ⟨fd, hb, hF⟩ := F w mg fa _ KX G.T.g hmg c P fun a2 o2 fd2 u1 u2 u3 => by
    rw [t1] at u1
    cases u1
    rw [t2] at u2
    cases u2
    rw [t3] at u3
    cases u3
    exact t4
  refine law_callTs (cs := [(c, P)]) (CX := CX0) KX G.T.g G.T.b G.T.builtins G.T.nolimit hg (fun p hp => ?_) (fun p hp => ?_) (fun p hp => ?_) G.T.bmain hobj hints (Nat.le_trans hlen hn2) hr (fun base h1 h2 h3 => hF base h1 h2 (h3 (c, P) (List.mem_singleton.mpr rfl))) hb (fun H hH hS => hsp _ P H a ns hlen (hH (c, P) (List.mem_singleton.mpr rfl)) hS) fun H e s' z => z
  · rw [List.mem_singleton.mp hp]
    exact hP
  · rw [List.mem_singleton.mp hp]
    exact tab_none KX (hfr _) hP
  · rw [List.mem_singleton.mp hp]
    exact PySem.W.CodeHd.of t5 t6
end Rz

set_option maxHeartbeats 4000000
/-! RzZip: zip of a list and a tuple; list(d.values()); a dict's keys walked. -/
namespace Rz
open PySem PySem.Spec PyProof.Rows L2

/-! ### zip(a list, a tuple) -/
def ItzM (K : PySem.W.Frag) (a b : Addr) : It :=
  ⟨fun i H => ∃ (xs ys : List V) (x y : V), SqL K H a xs ∧ SqT K H b ys ∧ xs[i]? = some x ∧ ys[i]? = some y,
    fun i H v H' => ∃ T x y, v = .ref T ∧ H T = none ∧ H' = upd H T (.tup [x, y]) ∧ (∀ xs, SqL K H a xs → xs[i]? = some x) ∧ ∀ ys, SqT K H b ys → ys[i]? = some y,
    fun i H => ∃ xs ys : List V, SqL K H a xs ∧ SqT K H b ys ∧ xs.length = i ∧ ys.length = i⟩
theorem turn_zipM {P : Program} {w : World} {K : PySem.W.Frag} {elts : List Expr} {kk : Nat} {tpos : Pos} {a b z TI TO i1 i2 : Addr} (S : ZipSep2 z TI TO i1 i2 [i1, a] [i2, b]) :
    Turn P w K (.Tuple elts kk tpos) (ItzM K a b) [z, TI, TO, i1, i2] z (fun i h => IsZip h z TI TO .none ∧ IsTupOf2 h TI (.ref i1) (.ref i2) ∧ (∃ x y, IsTupOf2 h TO x y) ∧ h.IsListIter i1 a i ∧ h.IsTupleIter i2 b i) where
  mem := by simp
  obj := fun i h st c hc => by
    obtain ⟨hz, hTI, ⟨x, y, hTO⟩, ⟨o1, e1, _, d1⟩, ⟨o2, e2, _, d2⟩⟩ := st
    simp only [List.mem_cons, List.not_mem_nil, or_false] at hc
    rcases hc with rfl | rfl | rfl | rfl | rfl
    · exact ⟨_, hz, fun v q => nomatch q⟩
    · exact ⟨_, hTI, fun v q => nomatch q⟩
    · exact ⟨_, hTO, fun v q => nomatch q⟩
    · exact ⟨o1, e1, fun v q => nomatch d1.symm.trans q⟩
    · exact ⟨o2, e2, fun v q => nomatch d2.symm.trans q⟩
  keep := fun i h h' ⟨hz, hTI, ⟨x, y, hTO⟩, h1, h2⟩ k =>
    ⟨k z (by simp) _ hz, k TI (by simp) _ hTI, ⟨x, y, k TO (by simp) _ hTO⟩, h1.at fun o q => k i1 (by simp) o q, h2.at fun o q => k i2 (by simp) o q⟩
  item := by
    rintro X rfl rfl rfl hc i pins s σ H E I hf ⟨hz, hTI, ⟨x0, y0, hTO⟩, h1, h2⟩ ⟨xs, ys, x, y, hqx, hqy, hx, hy⟩
    obtain ⟨its, rv, p, _⟩ := I.list hqx
    obtain ⟨its2, rv2, p2, _⟩ := I.tuple hqy
    obtain ⟨u, hu, ru⟩ := rv.get hx
    obtain ⟨u2, hu2, ru2⟩ := rv2.get hy
    have hzl : z < s.heap.objs.size := Heap.lt_size hz
    have hh : X.A.in1.handled = none := I.ok.hd hc
    have ai1 : a ≠ i1 := fun q => by
      obtain ⟨o, ho, hc1, _⟩ := p.isList
      obtain ⟨o1, ho1, hc2, _⟩ := h1
      rw [q, ho1] at ho
      cases ho
      rw [hc2] at hc1
      exact absurd (Value.type.inj hc1) (by decide)
    have bi2 : b ≠ i2 := fun q => by
      obtain ⟨o, ho, hc1, _⟩ := (show s.heap.IsTuple b its2.toArray from p2)
      obtain ⟨o1, ho1, hc2, _⟩ := h2
      rw [q, ho1] at ho
      cases ho
      rw [hc2] at hc1
      exact absurd (Value.type.inj hc1) (by decide)
    refine wpAny_pyNext_zipD2_item S (Draws.list hh i1 a ai1 its.toArray) (Draws.tuple hh i2 b bi2 its2.toArray) hz hTI hTO ⟨h1, p.isList⟩ ⟨h2, p2⟩ (by have := (List.getElem?_eq_some_iff.mp hu).1; simpa using this) (by have := (List.getElem?_eq_some_iff.mp hu2).1; simpa using this) fun x1 x2 h' tk y1 y2 z' TO' st1 st2 hT hsz hk => ?_
    obtain rfl : u = x1 := Option.some.inj (hu.symm.trans (by simpa using y1))
    obtain rfl : u2 = x2 := Option.some.inj (hu2.symm.trans (by simpa using y2))
    refine ⟨_, rfl, wpAny_letOwnedTupleGo_zip (s := { s with heap := h', toks := tk }) z' fun h'' z'' sb => ?_⟩
    have new : ObjOk X.prog X.w (upd H s.heap.objs.size (.tup [x, y])) h'' s.heap.objs.size (.tup [x, y]) :=
      ⟨by show 2 ≤ sizeLine; decide, [u, u2], .cons ru (.cons ru2 .nil), ⟨_, (sb.2 _ (Nat.ne_of_gt hzl)).trans hT, rfl, _, rfl⟩⟩
    have I1 : Inv X pins σ (upd H s.heap.objs.size (.tup [x, y])) { s with heap := h'', toks := tk } :=
      I.turnedNew (t' := tk) (ch := [z, TI, TO, i1, i2]) (fun c o hb q => (sb.2 c (fun q' => hb (by simp [q']))).trans (hk c o (fun q' => hb (by simp [q'])) (fun q' => hb (by simp [q'])) (fun q' => hb (by simp [q'])) (fun q' => hb (by simp [q'])) q)) hf (Nat.le_refl _) new
    refine ⟨.ref s.heap.objs.size, _, I1, rfl, ⟨_, x, y, rfl, I.hok.fresh (Nat.le_refl _), rfl, fun l hl => I.list_inj hl hqx ▸ hx, fun l hl => I.tuple_inj hl hqy ▸ hy⟩, ⟨z'', ?_, ⟨u, u2, ?_⟩, ?_, ?_⟩, fun c hcm => ?_⟩
    · exact (sb.2 _ S.TIz).trans (hk _ _ S.TIz S.TITO S.TIi1 S.TIi2 hTI)
    · exact (sb.2 _ S.TOz).trans TO'
    · exact st1.1.at fun o q => (sb.2 _ S.zi1.symm).trans q
    · exact st2.1.at fun o q => (sb.2 _ S.zi2.symm).trans q
    · have hlt : c < s.heap.objs.size := by
        simp only [List.mem_cons, List.not_mem_nil, or_false] at hcm
        rcases hcm with rfl | rfl | rfl | rfl | rfl
        · exact hzl
        · exact Heap.lt_size hTI
        · exact Heap.lt_size hTO
        · exact let ⟨_, e1, _⟩ := h1; Heap.lt_size e1
        · exact let ⟨_, e2, _⟩ := h2; Heap.lt_size e2
      rw [upd_ne (Nat.ne_of_lt hlt)]
      exact (hf c hcm).1
  done := by
    rintro X rfl rfl rfl hc i pins s σ H E I hf ⟨hz, hTI, ⟨x0, y0, hTO⟩, h1, h2⟩ ⟨xs, ys, hqx, hqy, l1, l2⟩
    obtain ⟨its, rv, p, _⟩ := I.list hqx
    obtain ⟨its2, rv2, p2, _⟩ := I.tuple hqy
    have m1 := rv.length
    have m2 := rv2.length
    have hh : X.A.in1.handled = none := I.ok.hd hc
    have ai1 : a ≠ i1 := fun q => by
      obtain ⟨o, ho, hc1, _⟩ := p.isList
      obtain ⟨o1, ho1, hc2, _⟩ := h1
      rw [q, ho1] at ho
      cases ho
      rw [hc2] at hc1
      exact absurd (Value.type.inj hc1) (by decide)
    have bi2 : b ≠ i2 := fun q => by
      obtain ⟨o, ho, hc1, _⟩ := (show s.heap.IsTuple b its2.toArray from p2)
      obtain ⟨o1, ho1, hc2, _⟩ := h2
      rw [q, ho1] at ho
      cases ho
      rw [hc2] at hc1
      exact absurd (Value.type.inj hc1) (by decide)
    refine wpAny_pyNext_zipD2_end S (Draws.list hh i1 a ai1 its.toArray) (Draws.tuple hh i2 b bi2 its2.toArray) hz hTI hTO ⟨h1, p.isList⟩ ⟨h2, p2⟩ (by simp; omega) (by simp; omega) (.inl (by simp; omega)) fun h' tk hk => ⟨rfl, I.turnedL (t' := tk) (ch := [z, TI, TO, i1, i2]) (fun c o hb q =>
      hk c o (fun q' => hb (by simp [q'])) (fun q' => hb (by simp [q'])) (fun q' => hb (by simp [q'])) (fun q' => hb (by simp [q'])) q) hf⟩
  self := fun A i s Q E st h => wpAny_pyIter_zip st.1 h
theorem apart5 (n a b : Nat) (ha : a < n) (hb : b < n) : ZipSep2 (n + 4) (n + 2) (n + 3) n (n + 1) [n, a] [n + 1, b] := by
  have k : ∀ i j : Nat, i ≠ j → n + i ≠ n + j := fun i j h z => h (Nat.add_left_cancel z)
  have ka : ∀ i : Nat, n + i ≠ a := fun i z => by rw [← z] at ha; exact absurd ha (Nat.not_lt.mpr (Nat.le_add_right _ _))
  have kb : ∀ i : Nat, n + i ≠ b := fun i z => by rw [← z] at hb; exact absurd hb (Nat.not_lt.mpr (Nat.le_add_right _ _))
  have no : ∀ {x y u : Nat}, x ≠ y → x ≠ u → x ∉ [y, u] := fun h1 h2 z => (List.mem_cons.mp z).elim h1 fun z => h2 (List.mem_singleton.mp z)
  exact ⟨k 2 4 (by decide), k 3 4 (by decide), k 2 3 (by decide), k 2 0 (by decide), List.mem_cons_self, no (k 4 0 (by decide)) (ka 4), no (k 3 0 (by decide)) (ka 3), k 2 1 (by decide), List.mem_cons_self, no (k 4 1 (by decide)) (kb 4), no (k 3 1 (by decide)) (kb 3), no (k 0 1 (by decide)) (kb 0), no (k 1 0 (by decide)) (ka 1)⟩
def iZipM (K : PySem.W.Frag) (ta : TA) : TI := fun σ H R => ta σ H fun vs H1 => ∃ a b xs ys, vs = [.ref a, .ref b] ∧ SqL K H1 a xs ∧ SqT K H1 b ys ∧ R (ItzM K a b) H1
theorem pi_zipM {X : Cx} {K : PySem.W.Frag} {e e2 : Expr} {ta : TA} {p pos tpos : Pos} {elts : List Expr} {kk : Nat} (hKK : X.K = K) (hg : Gl X "zip") (hm : X.mg "zip" = none) (ha : PA X [e, e2] ta)
    (hs : starEach [e, e2] X.env = (false, eval e X.env) :: starEach [e2] X.env := by rfl) (hpl : (backTo pos (starEach [e2] X.env)).any (·.1) = false := by rfl) :
    PI X (.Tuple elts kk tpos) (.Call (.Name "zip" p) [e, e2] [] pos) (iZipM K ta) := by
  subst hKK
  refine ⟨fun pins s σ H R I h => ?_⟩
  refine Call_ (ld_blt I hg hm PyProof.Rows.boot_zip (PyProof.Rows.callWith_type1 (thn (ha.run pos pins s σ H _ I h) fun us s1 ⟨vs, H1, I1, r1, q1⟩ => ?_) hs hpl))
  obtain ⟨a, b, xs, ys, rfl, hqx, hqy, q⟩ := q1
  cases r1 with
  | cons r rr =>
    cases rr with
    | cons r' rr =>
      cases rr
      cases r
      cases r'
      obtain ⟨its, rv, p1, _⟩ := I1.list hqx
      obtain ⟨its2, rv2, p2, _⟩ := I1.tuple hqy
      obtain ⟨o1, ho1, _⟩ := id p1.isList
      obtain ⟨o2, ho2, _⟩ := id (show s1.heap.IsTuple b its2.toArray from p2)
      have la := Heap.lt_size ho1
      have lb := Heap.lt_size ho2
      refine zip_begins2 (begins_list a its.toArray) (begins_tuple b its2.toArray) p1.isList p2 fun h' e1 e2 e3 e4 e5 e6 e7 => wpAny_pyIter_zip e1 ?_
      have I2 : Inv X pins σ H1 { s1 with heap := h' } := I1.kept (t' := s1.toks) e7
      refine ⟨s1.heap.objs.size + 4, [s1.heap.objs.size + 4, s1.heap.objs.size + 2, s1.heap.objs.size + 3, s1.heap.objs.size, s1.heap.objs.size + 1], _, _, H1, rfl, I2, turn_zipM ?_, ⟨e1, e2, ⟨_, _, e3⟩, ⟨_, e4, rfl, rfl⟩, ⟨_, e5, rfl, rfl⟩⟩, fun c hcm => ?_, q⟩
      · exact apart5 _ _ _ la lb
      · have hle : s1.heap.objs.size ≤ c := by
          simp only [List.mem_cons, List.not_mem_nil, or_false] at hcm
          rcases hcm with rfl | rfl | rfl | rfl | rfl
          · exact Nat.le_add_right _ _
          · exact Nat.le_add_right _ _
          · exact Nat.le_add_right _ _
          · exact Nat.le_refl _
          · exact Nat.le_add_right _ _
        exact I1.fpOk hle (I1.hok.fresh hle)
end Rz

set_option maxHeartbeats 4000000
/-! RzKeys: list(d.values()); a dict's keys walked in comprehensions, under a lock. -/
namespace Rz
open PySem PySem.Spec PyProof.Rows L2

/-! ### list(d.values()) -/
theorem kv_vals {κ : Type} {kvs : List (κ × V)} {vs : List (κ × Value)} (r : KV kvs vs) : Vals (kvs.map (·.2)) (vs.map (·.2)) := by
  unfold KV at r
  induction r with
  | nil => exact .nil
  | cons r _ ih => exact .cons r.2 ih
def tListVals (td : TE) : TE := fun σ H Q => td σ H fun x H1 => ∃ a kvs, x = V.ref a ∧ H1 a = some (.dK kvs) ∧ ∀ q, H1 q = none → Q (.ref q) (upd H1 q (.lst (kvs.map (·.2))))
theorem pe_listVals {X : Cx} {o : Expr} {td : TE} {p pos apos mpos : Pos} (hc : X.calm = true) (hg : Gl X "list") (hm : X.mg "list" = none) (hd : PE X o td) (hbase : attributeBase o "values" X.env (eval o X.env) = eval o X.env := by rfl) (hline : (apos.endLine == mpos.line) = true := by rfl)
    (he : starEach [Expr.Call (.Attribute o "values" apos) [] [] mpos] X.env = (false, eval (Expr.Call (.Attribute o "values" apos) [] [] mpos) X.env) :: starEach [] X.env := by rfl) :
    PE X (.Call (.Name "list" p) [.Call (.Attribute o "values" apos) [] [] mpos] [] pos) (tListVals td) := by
  refine ⟨fun pins s σ H Q I h => ?_⟩
  refine wpAny_Call_Name_kw (ld_blt I hg hm PyProof.Rows.boot_list ?_ (by first | decide +kernel | decide) (by first | decide +kernel | decide))
  refine PyProof.Rows.callWith_type1 ?_ he rfl
  rw [he]
  show wpAny _ _ (spliced ((false, eval (Expr.Call (.Attribute o "values" apos) [] [] mpos) X.env) :: backTo pos (starEach [] X.env))) _ _ s
  refine Calls.spliced_cons (wpAny_Call_method0_late hbase hline (thn (hd.run pins s σ H _ I h) fun v s1 ⟨x, H1, I1, r1, a, kvs, ex, ha, q⟩ => ?_))
  subst ex
  obtain rfl : v = Value.ref a := r1
  obtain ⟨hlen, hsys, vs, rel, dof⟩ := dk_of I1.hok ha
  obtain ⟨ep, dat⟩ := dof.dictAt
  obtain ⟨ob, es, ho, ex, hdat, hko, hpr, hnd⟩ := id dat
  refine ⟨"dict", "dict.values", F.plainAttrs_dict, F.slot_dict_values, F.type_dict_values, ⟨ob, ho, ex.1⟩, fun b e => ?_, Calls.callWith_builtin rfl (PySem.evalArgs_none ?_)⟩
  · cases e
    exact ⟨ob, ho, ex.2.1⟩
  refine call_meetsIn F.slot_dict_values ⟨ob, ho, ex.1⟩ F.entry_dict_values (F.args_dict_values_1 _) (meets_dict_values (mixKind X.prog X.w) a hsys) ⟨⟨vs, dof⟩, ?_⟩
  refine Calls.spliced_nil ?_
  have k1 : ∀ b u, s1.heap.get? b = some u → (s1.heap.push { cls := .type "dict_values", data := .fields #[.ref a] }).get? b = some u := fun b u e => Heap.get?_push_of_some _ e
  have I2 : Inv X pins σ H1 { s1 with heap := s1.heap.push { cls := .type "dict_values", data := .fields #[.ref a] } } := I1.kept (t' := s1.toks) k1
  have hl : kvs.length = vs.length := Paired.length rel
  refine PySem.W.kdl_call (PySem.W.kdl_values (knd := mixKind X.prog X.w) (kvs := vs) (ep := ep)) (I.ok.hd hc) ⟨⟨_, Heap.get?_push_size _ rfl, rfl, rfl⟩, dat.keep k1⟩ (by rw [← hl]; exact hlen) fun h' tk acc' c' hkeep hS hacc => ?_
  have fr := I2.hok.fresh (Nat.le_refl _)
  refine ⟨.ref _, upd H1 _ (.lst (kvs.map (·.2))), I2.laid hkeep (Nat.le_refl _) ⟨?_, acc'.toList, c', ?_, ?_⟩, rfl, q _ fr⟩
  · rw [List.length_map]
    exact hlen
  · have e : acc'.toList = vs.map (·.2) := PySem.W.kdl_vals_eq acc'.toList (by rw [Array.length_toList]; exact hacc.1) fun j v e => hacc.2 j v (by rw [← Array.getElem?_toList]; exact e)
    rw [e]
    exact kv_vals rel
  · rw [Array.toArray_toList]
    exact hS

theorem g_listVals {td : TE} {σ : L2.St} {H : Hp} {Q : VK} (h : td σ H fun x H1 => ∃ a kvs, x = V.ref a ∧ H1 a = some (.dK kvs) ∧ ∀ q, H1 q = none → Q (.ref q) (upd H1 q (.lst (kvs.map (·.2))))) : tListVals td σ H Q := h
theorem g_gc {t : TG} {u : TGs} {v : V} {r : List V} {σ : L2.St} {H : Hp} {Q : L2.St → Hp → Prop} (h : t v σ H fun σ' H' => u r σ' H' Q) : gCons t u (v :: r) σ H Q := ⟨v, r, rfl, h⟩
theorem g_gn {σ : L2.St} {H : Hp} {Q : L2.St → Hp → Prop} (h : Q σ H) : gNil [] σ H Q := ⟨rfl, h⟩
/-! ### under a lock -/
section
variable {K : PySem.W.Frag} {σ : L2.St} {H : Hp} {g : TG} {tt : TT} {tk tv te tl td : TE} {ta : TA} {vs : List Nat} {Q : VK}
theorem g_lockE {t : TE} {d : Addr} {kvs : List (Key × V)} (hd : H d = some (.dK kvs)) (h : ∀ od, t σ (upd H d (.frz od (.dK kvs))) fun v H' => H' d = some (.frz od (.dK kvs)) ∧ Q v (upd H' d (.dK kvs))) : tLockE t σ H Q :=
  ⟨d, .dK kvs, hd, True.intro, h⟩
theorem g_lockS {t : TS} {D : Ends} {d : Addr} {kvs : List (Key × V)} (hd : H d = some (.dK kvs)) (h : ∀ od, t ⟨fun σ' H' => H' d = some (.frz od (.dK kvs)) ∧ D.nx σ' (upd H' d (.dK kvs)), fun v H' => H' d = some (.frz od (.dK kvs)) ∧ D.rt v (upd H' d (.dK kvs)), fun σ' H' => H' d = some (.frz od (.dK kvs)) ∧ D.bk σ' (upd H' d (.dK kvs)), fun σ' H' => H' d = some (.frz od (.dK kvs)) ∧ D.ct σ' (upd H' d (.dK kvs))⟩ σ (upd H d (.frz od (.dK kvs)))) : tLock t D σ H :=
  ⟨d, .dK kvs, hd, True.intro, h⟩
/-- a dict's keys walked: by what stands at the dict -/
def rKeys (R : It → Hp → Prop) : VK := fun x H1 => ∃ d o, x = .ref d ∧ ((∃ kvs, H1 d = some (.frz o (.dK kvs)) ∧ R (Itk d o kvs) H1) ∨ ∃ kvs, H1 d = some (.frz o (.dT kvs)) ∧ R (Itkt d o kvs) H1)
theorem rKeys_of {R : It → Hp → Prop} {d : Addr} {o : Obj} {kvs : List (Key × V)} (h : H d = some (.frz o (.dK kvs))) (q : R (Itk d o kvs) H) : rKeys R (.ref d) H := ⟨d, o, rfl, .inl ⟨kvs, h, q⟩⟩
theorem g_lcK (h : td σ H (rKeys (lcW g tt te vs σ Q))) : tLc (iKeys td) g tt te vs σ H Q := h
theorem g_dcK (h : td σ H (rKeys (dcW g tt tk tv vs σ Q))) : tDc (iKeys td) g tt tk tv vs σ H Q := h
theorem lc_keys {d : Addr} {o : Obj} {kvs : List (Key × V)} {i₀ : Nat} (hd : H d = some (.frz o (.dK kvs))) (Pv : Addr → Nat → List V → Hp → Prop) (hw : ∀ x, wipe ((wipe σ vs).set i₀ (some x)) vs = wipe σ vs) (h0 : ∀ D, H D = none → Pv D 0 [] (upd H D (.lst [])))
    (hf : ∀ D i acc H', H D = none → Pv D i acc H' → H' d = some (.frz o (.dK kvs)))
    (hs : ∀ D (i : Nat) k v acc H', H D = none → kvs[i]? = some (k, v) → Pv D i acc H' → tt ((wipe σ vs).set i₀ (some (kV k))) H' fun b H3 => if b = true then te ((wipe σ vs).set i₀ (some (kV k))) H3 fun y H4 => ∃ a2, H4 D = some (.lst a2) ∧ a2.length < sizeLine ∧ ∃ a3, Pv D (i + 1) a3 (upd H4 D (.lst (a2 ++ [y]))) else ∃ a3, Pv D (i + 1) a3 H3)
    (he : ∀ D acc H', H D = none → Pv D kvs.length acc H' → Q (.ref D) H') : lcW (gName i₀) tt te vs σ Q (Itk d o kvs) H := by
  intro D hD
  refine ⟨fun i m H' => m = kvs.length - i ∧ i ≤ kvs.length ∧ ∃ acc, Pv D i acc H', ⟨_, rfl, Nat.zero_le _, [], h0 D hD⟩, ?_⟩
  rintro i m H' ⟨rfl, hi, acc, p⟩
  have hd' := hf D i acc H' hD p
  by_cases hlt : i < kvs.length
  · refine .inr ⟨⟨hd', hlt⟩, fun H2 => ∃ a3, Pv D (i + 1) a3 H2, fun H2 p' => ⟨kvs.length - (i + 1), by omega, rfl, hlt, p'⟩, fun x H2 y => ?_⟩
    obtain ⟨rfl, k, v, e1, rfl⟩ := y
    exact ⟨hw _, hs D i k v acc _ hD e1 p⟩
  · have e : i = kvs.length := by omega
    subst e
    exact .inl ⟨⟨hd', Nat.le_refl _⟩, he D acc H' hD p⟩
theorem dc_keys {d : Addr} {o : Obj} {kvs : List (Key × V)} {i₀ : Nat} (hd : H d = some (.frz o (.dK kvs))) (Pv : Addr → Nat → List (Key × V) → Hp → Prop) (hw : ∀ x, wipe ((wipe σ vs).set i₀ (some x)) vs = wipe σ vs) (h0 : ∀ D, H D = none → Pv D 0 [] (upd H D (.dK [])))
    (hf : ∀ D i acc H', H D = none → Pv D i acc H' → H' d = some (.frz o (.dK kvs)))
    (hs : ∀ D (i : Nat) k v acc H', H D = none → kvs[i]? = some (k, v) → Pv D i acc H' → tt ((wipe σ vs).set i₀ (some (kV k))) H' fun b H3 => if b = true then tk ((wipe σ vs).set i₀ (some (kV k))) H3 fun y H4 => tv ((wipe σ vs).set i₀ (some (kV k))) H4 (dcN (Pv D) D i y) else ∃ a3, Pv D (i + 1) a3 H3)
    (he : ∀ D acc H', H D = none → Pv D kvs.length acc H' → Q (.ref D) H') : dcW (gName i₀) tt tk tv vs σ Q (Itk d o kvs) H := by
  intro D hD
  refine ⟨fun i m H' => m = kvs.length - i ∧ i ≤ kvs.length ∧ ∃ acc, Pv D i acc H', ⟨_, rfl, Nat.zero_le _, [], h0 D hD⟩, ?_⟩
  rintro i m H' ⟨rfl, hi, acc, p⟩
  have hd' := hf D i acc H' hD p
  by_cases hlt : i < kvs.length
  · refine .inr ⟨⟨hd', hlt⟩, fun H2 => ∃ a3, Pv D (i + 1) a3 H2, fun H2 p' => ⟨kvs.length - (i + 1), by omega, rfl, hlt, p'⟩, fun x H2 y => ?_⟩
    obtain ⟨rfl, k, v, e1, rfl⟩ := y
    exact ⟨hw _, hs D i k v acc _ hD e1 p⟩
  · have e : i = kvs.length := by omega
    subst e
    exact .inl ⟨⟨hd', Nat.le_refl _⟩, he D acc H' hD p⟩
/-- dict from a list of keys -/
theorem dc_list {a : Addr} {xs : List V} {i₀ : Nat} (ha : SqL K H a xs) (Pv : Addr → Nat → List (Key × V) → Hp → Prop) (hw : ∀ x, wipe ((wipe σ vs).set i₀ (some x)) vs = wipe σ vs) (h0 : ∀ D, H D = none → Pv D 0 [] (upd H D (.dK [])))
    (hf : ∀ D i acc H', H D = none → Pv D i acc H' → SqL K H' a xs)
    (hs : ∀ D (i : Nat) x acc H', H D = none → xs[i]? = some x → Pv D i acc H' → tt ((wipe σ vs).set i₀ (some x)) H' fun b H3 => if b = true then tk ((wipe σ vs).set i₀ (some x)) H3 fun y H4 => tv ((wipe σ vs).set i₀ (some x)) H4 (dcN (Pv D) D i y) else ∃ a3, Pv D (i + 1) a3 H3)
    (he : ∀ D acc H', H D = none → Pv D xs.length acc H' → Q (.ref D) H') : rItL K (dcW (gName i₀) tt tk tv vs σ Q) (.ref a) H := by
  refine ⟨a, rfl, ⟨xs, ha⟩, fun D hD => ⟨fun i m H' => m = xs.length - i ∧ i ≤ xs.length ∧ ∃ acc, Pv D i acc H', ⟨_, rfl, Nat.zero_le _, [], h0 D hD⟩, ?_⟩⟩
  rintro i m H' ⟨rfl, hi, acc, p⟩
  have ha' := hf D i acc H' hD p
  by_cases hlt : i < xs.length
  · refine .inr ⟨⟨xs, xs[i], ha', List.getElem?_eq_getElem hlt⟩, fun H2 => ∃ a3, Pv D (i + 1) a3 H2, fun H2 p' => ⟨xs.length - (i + 1), by omega, rfl, hlt, p'⟩, fun x H2 y => ?_⟩
    obtain ⟨rfl, e1⟩ := y
    exact ⟨hw _, hs D i x acc _ hD (e1 xs ha') p⟩
  · have e : i = xs.length := by omega
    subst e
    exact .inl ⟨⟨xs, ha', Nat.le_refl _⟩, he D acc H' hD p⟩
theorem dc_listY {a : Addr} {xs : List V} {i₀ : Nat} (ha : SqL K H a xs) (Pv : Addr → Nat → List (Key × V) → Hp → Prop) (hw : ∀ x, wipe ((wipe σ vs).set i₀ (some x)) vs = wipe σ vs) (h0 : ∀ D, H D = none → Pv D 0 [] (upd H D (.dK [])))
    (hf : ∀ D i acc H', H D = none → Pv D i acc H' → SqL K H' a xs)
    (hs : ∀ D (i : Nat) x acc H', H D = none → xs[i]? = some x → Pv D i acc H' → tk ((wipe σ vs).set i₀ (some x)) H' fun y H4 => tv ((wipe σ vs).set i₀ (some x)) H4 (dcN (Pv D) D i y))
    (he : ∀ D acc H', H D = none → Pv D xs.length acc H' → Q (.ref D) H') : rItL K (dcW (gName i₀) tYes tk tv vs σ Q) (.ref a) H :=
  dc_list ha Pv hw h0 hf (fun D i x acc H' h1 h2 h3 => hs D i x acc H' h1 h2 h3) he
theorem g_dnewK (h : ∀ p, H p = none → Q (.ref p) (upd H p (.dK []))) : tDNewK σ H Q := h
end
end Rz

set_option maxHeartbeats 4000000
namespace CbR
open PySem PySem.Spec PyProof.Rows

/-! ### facts of the type -/
theorem owner_cb : Manifest.owners.lookup (String.ofList ['s', 'n', 'o', 'i', 't', 'a', 'n', 'i', 'b', 'm', 'o', 'c', '.', 's', 'l', 'o', 'o', 't', 'r', 'e', 't', 'i'].reverse) = some Manifest.sig_itertools_combinations := by kernel_rfl
theorem slot_cb_next : Slot "itertools.combinations" "__next__" "itertools.combinations.__next__" :=
  .of (owner := "itertools.combinations") (n := "__next__") (by rw [typeLookup_type, builtinLookup_eq_fast]; kernel_rfl) (by decide +kernel) (by decide +kernel) (by decide +kernel)
    (by first | exact .inl (by decide +kernel) | exact .inr (by decide +kernel)) (by rw [isSubtype_type]; kernel_rfl)
theorem entry_cb_next : entryFor table "itertools.combinations.__next__" = some Builtin.«itertools.combinations.__next__» := entryFor_of_tree (by kernel_rfl)
theorem args_cb_next (a : Value) : argsOk "itertools.combinations.__next__" ⟨[a], []⟩ := by
  unfold argsOk; rw [signature?_of (id := "itertools.combinations.__next__") (n := ['_', '_', 't', 'x', 'e', 'n', '_', '_']) (o := ['s', 'n', 'o', 'i', 't', 'a', 'n', 'i', 'b', 'm', 'o', 'c', '.', 's', 'l', 'o', 'o', 't', 'r', 'e', 't', 'i']) (by kernel_rfl) owner_cb]; kernel_rfl
theorem slot_cb_iter : Slot "itertools.combinations" "__iter__" "itertools.combinations.__iter__" :=
  .of (owner := "itertools.combinations") (n := "__iter__") (by rw [typeLookup_type, builtinLookup_eq_fast]; kernel_rfl) (by decide +kernel) (by decide +kernel) (by decide +kernel)
    (by first | exact .inl (by decide +kernel) | exact .inr (by decide +kernel)) (by rw [isSubtype_type]; kernel_rfl)
theorem args_cb_iter (a : Value) : argsOk "itertools.combinations.__iter__" ⟨[a], []⟩ := by
  unfold argsOk; rw [signature?_of (id := "itertools.combinations.__iter__") (n := ['_', '_', 'r', 'e', 't', 'i', '_', '_']) (o := ['s', 'n', 'o', 'i', 't', 'a', 'n', 'i', 'b', 'm', 'o', 'c', '.', 's', 'l', 'o', 'o', 't', 'r', 'e', 't', 'i']) (by kernel_rfl) owner_cb]; kernel_rfl
theorem entry_cb_iter : entryFor table "itertools.combinations.__iter__" = some Builtin.«dict_keyiterator.__iter__» :=
  entryFor_alias (id' := "dict_keyiterator.__iter__") (by kernel_rfl) (by first | rfl | decide +kernel | (unfold String.splitOn; simp +decide [String.splitOnAux])) (by decide +kernel) (by kernel_rfl)
theorem slot_cb_init : Slot "itertools.combinations" "__init__" "object.__init__" :=
  .of (owner := "object") (n := "__init__") (by rw [typeLookup_type, builtinLookup_eq_fast]; kernel_rfl) (by decide +kernel) (by decide +kernel) (by decide +kernel)
    (by first | exact .inl (by decide +kernel) | exact .inr (by decide +kernel)) (by rw [isSubtype_type]; kernel_rfl)
theorem mro_cb : mroOf (.type "itertools.combinations") = pure [.type "itertools.combinations", .type "object"] := by rw [mroOf_type]; kernel_rfl
theorem lookup_cb_new : typeLookup (.type "itertools.combinations") "__new__" = pure (some (.builtin "itertools.combinations.__new__")) := by rw [typeLookup_type, builtinLookup_eq_fast]; kernel_rfl
theorem sub_cb : isSubtype (.type "itertools.combinations") (.type "itertools.combinations") = pure true := by rw [isSubtype_type]; kernel_rfl
theorem called_cb : TypeCalled "itertools.combinations" "itertools.combinations.__new__" "object.__init__" :=
  ⟨by decide +kernel, by decide +kernel, ⟨_, _, mro_cb⟩, madeBy_type mro_cb lookup_cb_new (by decide +kernel), by decide +kernel, sub_cb, slot_cb_init⟩
theorem typeCall_cb (a b : Value) : checkTypeCall "itertools.combinations" ⟨[a, b], []⟩ = pure () := by kernel_rfl
theorem newCall_cb (a b : Value) : checkBuiltinCall "itertools.combinations.__new__" ⟨[.type "itertools.combinations", a, b], []⟩ = pure () := by kernel_rfl
theorem entry_cb_new : entryFor table "itertools.combinations.__new__" = some Builtin.«itertools.combinations.__new__» := entryFor_of_tree (by kernel_rfl)

/-! ### the object -/
def nextC (n : Nat) (indices : List Nat) : Option (List Nat) :=
  match (List.range indices.length).reverse.find? fun i => indices.getD i 0 != i + n - indices.length with
  | none => none
  | some i => some (indices.take i ++ (List.range (indices.length - i)).map (indices.getD i 0 + 1 + ·))
/-- the i-th choice of r out of n places -/
def seqC (n r : Nat) : Nat → Option (List Nat)
  | 0 => if r > n then none else some (List.range r)
  | i + 1 => (seqC n r i).bind (nextC n)
def cbF (P st cur : Value) (idx : List Nat) : Array Value := #[P, st, cur] ++ (idx.map fun (n : Nat) => rawInt n).toArray
def IsCb (h : Heap) (c P : Addr) (st : Int) (cur : Value) (idx : List Nat) : Prop := ∃ o, h.get? c = some o ∧ o.cls = .type "itertools.combinations" ∧ o.data = .fields (cbF (.ref P) (rawInt st) cur idx)
theorem IsCb.at {h h' : Heap} {c P : Addr} {st : Int} {cur : Value} {idx : List Nat} (x : IsCb h c P st cur idx) (e : ∀ o, h.get? c = some o → h'.get? c = some o) : IsCb h' c P st cur idx := let ⟨o, ho, r⟩ := x; ⟨o, e _ ho, r⟩
section
variable {prog : Program} {w : World} {A : Around} {E : Value → Shared → Prop} {s : Shared}
theorem IsCb.typeIs {c P : Addr} {st : Int} {cur : Value} {idx : List Nat} (x : IsCb s.heap c P st cur idx) : s.TypeIs (.ref c) "itertools.combinations" := let ⟨o, ho, hc, _⟩ := x; ⟨o, ho, hc⟩
theorem cbF_size {P st cur : Value} {idx : List Nat} : (cbF P st cur idx).size = 3 + idx.length := by unfold cbF; simp; omega
theorem cb_pool {P st cur : Value} {idx : List Nat} : (cbF P st cur idx)[0]? = some P := by unfold cbF; simp
theorem cb_st {P st cur : Value} {idx : List Nat} : (cbF P st cur idx)[1]? = some st := by unfold cbF; simp
theorem cb_cur {P st cur : Value} {idx : List Nat} : (cbF P st cur idx)[2]? = some cur := by unfold cbF; simp
theorem cb_set1 {P st st' cur : Value} {idx : List Nat} : (cbF P st cur idx).setIfInBounds 1 st' = cbF P st' cur idx := by
  apply Array.ext'
  unfold cbF
  simp
theorem cb_set2 {P st cur cur' : Value} {idx : List Nat} : (cbF P st cur idx).setIfInBounds 2 cur' = cbF P st cur' idx := by
  apply Array.ext'
  unfold cbF
  simp
theorem cb_idx {P st cur : Value} {idx : List Nat} {f : Value → Nat} (hf : ∀ n : Nat, f (rawInt (n : Int)) = n) : ((cbF P st cur idx).toList.drop 3).map f = idx := by
  unfold cbF
  rw [show (#[P, st, cur] ++ (idx.map fun (n : Nat) => rawInt n).toArray).toList.drop 3 = idx.map fun (n : Nat) => rawInt n by simp, List.map_map]
  conv => rhs; rw [← List.map_id idx]
  exact List.map_congr_left fun n _ => hf n
theorem cb_put {P st cur : Value} {idx idx' : List Nat} : (cbF P st cur idx).extract 0 3 ++ (idx'.map fun (n : Nat) => rawInt n).toArray = cbF P st cur idx' := by
  apply Array.ext'
  unfold cbF
  simp

/-! ### handing out -/
theorem cb_hand {M : Model} {c P : Addr} {st : Int} {cur : Value} {idx : List Nat} {us : List Value} {cp : Nat} {op : Obj} {Q : Fin → Shared → Prop} (hcb : IsCb s.heap c P st cur idx) (hP : s.heap.get? P = some op) (hPd : op.data = .seq us.toArray cp) (hlen : idx.length ≤ sizeLine)
    (hQ : ∀ h', IsCb h' c P st (.ref s.heap.objs.size) idx → h'.get? s.heap.objs.size = some { cls := .type "tuple", data := .seq (idx.map fun i => us.toArray.getD i .none).toArray } → (∀ b o, b ≠ c → s.heap.get? b = some o → h'.get? b = some o) → Q (.done (.ret (.ref s.heap.objs.size))) { s with heap := h' }) :
    wpAny M A (do let result ← (do let items ← Builtin.Itertools.itPoolItems (.ref P); newTuple (idx.map fun i => items.getD i .none)); let before ← field (.ref c) 2; setField (.ref c) 2 result; letGo [before] [result]; ret result) Q E s := by
  obtain ⟨o, ho, hc, hd⟩ := id hcb
  have hcl : c < s.heap.objs.size := Heap.lt_size ho
  refine wpAny_bind ?_
  refine wpAny_bind ?_
  unfold Builtin.Itertools.itPoolItems
  refine wpAny_bind (wpAny_seqItems hP hPd ?_)
  refine wpAny_pure ?_
  refine wpAny_newTuple ?_ (by rw [List.length_map]; exact hlen)
  have ho2 : (s.heap.push { cls := .type "tuple", data := .seq (idx.map fun i => us.toArray.getD i .none).toArray }).get? c = some o := Heap.get?_push_of_some _ ho
  refine wpAny_bind (wpAny_field (s := { s with heap := s.heap.push { cls := .type "tuple", data := .seq (idx.map fun i => us.toArray.getD i .none).toArray } }) ho2 hd cb_cur ?_)
  refine wpAny_bind (wpAny_setField (s := { s with heap := s.heap.push { cls := .type "tuple", data := .seq (idx.map fun i => us.toArray.getD i .none).toArray } }) ho2 hd (by rw [cbF_size]; omega) ?_)
  refine wpAny_bind (wpAny_letGo ?_)
  refine wpAny_pure (hQ _ ?_ ?_ ?_)
  · exact ⟨_, Heap.get?_update_self _ ho2 (Obj.isFreed_of_fields (Obj.data_mapFields hd _)), (Obj.cls_mapFields ..).trans hc, by rw [Obj.data_mapFields hd, cb_set2]⟩
  · exact (Heap.get?_update_other _ _ (Nat.ne_of_lt hcl)).trans (Heap.get?_push_size _ rfl)
  · exact fun b ob hb e => (Heap.get?_update_other _ _ (Ne.symm hb)).trans (Heap.get?_push_of_some _ e)

/-! ### __next__ -/
theorem cb_nums {M : Model} {c P : Addr} {st : Int} {cur : Value} {idx : List Nat} {Q : List Nat → Shared → Prop} (hcb : IsCb s.heap c P st cur idx) (h : Q idx s) : wpAny M A (Builtin.Itertools.itNumbersFrom (.ref c) 3) Q E s := by
  obtain ⟨o, ho, hc, hd⟩ := hcb
  unfold Builtin.Itertools.itNumbersFrom
  refine wpAny_bind (wpAny_load ho ?_)
  rw [hd]
  refine wpAny_pure ?_
  rw [cb_idx fun n => rfl]
  exact h
theorem cb_int {M : Model} {c P : Addr} {st : Int} {cur : Value} {idx : List Nat} {Q : Int → Shared → Prop} (hcb : IsCb s.heap c P st cur idx) (h : Q st s) : wpAny M A (Builtin.Itertools.itIntField (.ref c) 1) Q E s := by
  obtain ⟨o, ho, hc, hd⟩ := hcb
  unfold Builtin.Itertools.itIntField
  refine wpAny_bind (wpAny_field ho hd cb_st ?_)
  exact wpAny_pure h
theorem cb_next0 {c P : Addr} {cur : Value} {idx : List Nat} {us : List Value} {cp : Nat} {op : Obj} {Q : Option Value → Shared → Prop} (hcb : IsCb s.heap c P 0 cur idx) (hP : s.heap.get? P = some op) (hPd : op.data = .seq us.toArray cp) (hlen : idx.length ≤ sizeLine) (hcP : P ≠ c)
    (hQ : ∀ h', IsCb h' c P 1 (.ref s.heap.objs.size) idx → h'.get? s.heap.objs.size = some { cls := .type "tuple", data := .seq (idx.map fun i => us.toArray.getD i .none).toArray } → (∀ b o, b ≠ c → s.heap.get? b = some o → h'.get? b = some o) → Q (some (.ref s.heap.objs.size)) { s with heap := h' }) :
    wpAny (model prog w) A (pyNext (.ref c)) Q E s := by
  obtain ⟨o, ho, hc, hd⟩ := id hcb
  unfold pyNext
  refine wpAny_bind (wpAny_attempt (wpAny_callSpecial?_slot (name := Str.ofString "__next__") hcb.typeIs slot_cb_next
    (wpAny_call_entry slot_cb_next hcb.typeIs entry_cb_next ?_ (args_cb_next _))))
  unfold Builtin.«itertools.combinations.__next__»
  wp_delta
  refine wpAny_bind (wpAny_of_eq (a := (Value.ref c, [])) rfl ?_)
  try dsimp only
  refine wpAny_bind (wpAny_field ho hd cb_pool ?_)
  refine wpAny_bind (cb_nums hcb ?_)
  refine wpAny_bind (cb_int hcb ?_)
  try dsimp only
  refine wpAny_bind (wpAny_setField ho hd (by rw [cbF_size]; omega) ?_)
  have ho2 := Heap.get?_update_self (Obj.mapFields (·.setIfInBounds 1 (rawInt 1))) ho (Obj.isFreed_of_fields (Obj.data_mapFields hd _))
  have hcb2 : IsCb (s.heap.update c (Obj.mapFields (·.setIfInBounds 1 (rawInt 1)))) c P 1 cur idx := ⟨_, ho2, (Obj.cls_mapFields ..).trans hc, by rw [Obj.data_mapFields hd, cb_set1]⟩
  have hsz : (s.heap.update c (Obj.mapFields (·.setIfInBounds 1 (rawInt 1)))).objs.size = s.heap.objs.size := by simp [Heap.update]
  refine wpAny_mono (cb_hand (s := { s with heap := s.heap.update c (Obj.mapFields (·.setIfInBounds 1 (rawInt 1))) }) (Q := fun f s' => f = .done (.ret (.ref s.heap.objs.size)) ∧ Q (some (.ref s.heap.objs.size)) s') hcb2 ((Heap.get?_update_other _ _ (Ne.symm hcP)).trans hP) hPd hlen fun h' a1 a2 a3 => ?_) (fun f s' h => ?_) (fun e s' h => h)
  · simp only [hsz] at a1 a2
    refine ⟨by simp only [hsz], ?_⟩
    simp only [hsz]
    exact hQ h' a1 a2 fun b ob hb e => a3 b ob hb ((Heap.get?_update_other _ _ (Ne.symm hb)).trans e)
  · obtain ⟨rfl, h⟩ := h
    exact ⟨_, rfl, wpAny_pure h⟩
theorem cb_next1 {c P : Addr} {cur : Value} {idx idx' : List Nat} {us : List Value} {cp : Nat} {op : Obj} {Q : Option Value → Shared → Prop} (hcb : IsCb s.heap c P 1 cur idx) (hP : s.heap.get? P = some op) (hPd : op.data = .seq us.toArray cp) (hlen : idx'.length ≤ sizeLine) (hcP : P ≠ c) (hst : nextC us.length idx = some idx')
    (hQ : ∀ h', IsCb h' c P 1 (.ref s.heap.objs.size) idx' → h'.get? s.heap.objs.size = some { cls := .type "tuple", data := .seq (idx'.map fun i => us.toArray.getD i .none).toArray } → (∀ b o, b ≠ c → s.heap.get? b = some o → h'.get? b = some o) → Q (some (.ref s.heap.objs.size)) { s with heap := h' }) :
    wpAny (model prog w) A (pyNext (.ref c)) Q E s := by
  obtain ⟨o, ho, hc, hd⟩ := id hcb
  unfold pyNext
  refine wpAny_bind (wpAny_attempt (wpAny_callSpecial?_slot (name := Str.ofString "__next__") hcb.typeIs slot_cb_next
    (wpAny_call_entry slot_cb_next hcb.typeIs entry_cb_next ?_ (args_cb_next _))))
  unfold Builtin.«itertools.combinations.__next__»
  wp_delta
  refine wpAny_bind (wpAny_of_eq (a := (Value.ref c, [])) rfl ?_)
  try dsimp only
  refine wpAny_bind (wpAny_field ho hd cb_pool ?_)
  refine wpAny_bind (cb_nums hcb ?_)
  refine wpAny_bind (cb_int hcb ?_)
  try dsimp only
  refine wpAny_bind ?_
  unfold Builtin.Itertools.itPoolItems
  refine wpAny_bind (wpAny_seqItems hP hPd ?_)
  refine wpAny_pure ?_
  have hst2 : nextC us.toArray.size idx = some idx' := by rw [List.size_toArray]; exact hst
  unfold nextC at hst2
  split
  · rename_i next hn
    have e : next = idx' := by
      have := hn.symm.trans hst2
      cases this
      rfl
    subst e
    refine wpAny_bind ?_
    unfold Builtin.Itertools.itSetNumbersFrom
    refine wpAny_updateFields ho hd ?_ (by rw [cb_put, cbF_size]; omega)
    have ho2 := Heap.get?_update_self (Obj.mapFields (fun fs => fs.extract 0 3 ++ (next.map fun (n : Nat) => rawInt n).toArray)) ho (Obj.isFreed_of_fields (Obj.data_mapFields hd _))
    have hcb2 : IsCb (s.heap.update c (Obj.mapFields (fun fs => fs.extract 0 3 ++ (next.map fun (n : Nat) => rawInt n).toArray))) c P 1 cur next := ⟨_, ho2, (Obj.cls_mapFields ..).trans hc, by rw [Obj.data_mapFields hd, cb_put]⟩
    have hsz : (s.heap.update c (Obj.mapFields (fun fs => fs.extract 0 3 ++ (next.map fun (n : Nat) => rawInt n).toArray))).objs.size = s.heap.objs.size := by simp [Heap.update]
    refine wpAny_mono (cb_hand (s := { s with heap := s.heap.update c (Obj.mapFields (fun fs => fs.extract 0 3 ++ (next.map fun (n : Nat) => rawInt n).toArray)) }) (Q := fun f s' => f = .done (.ret (.ref s.heap.objs.size)) ∧ Q (some (.ref s.heap.objs.size)) s') hcb2 ((Heap.get?_update_other _ _ (Ne.symm hcP)).trans hP) hPd hlen fun h' a1 a2 a3 => ?_) (fun f s' h => ?_) (fun e s' h => h)
    · simp only [hsz] at a1 a2
      refine ⟨by simp only [hsz], ?_⟩
      simp only [hsz]
      exact hQ h' a1 a2 fun b ob hb e => a3 b ob hb ((Heap.get?_update_other _ _ (Ne.symm hb)).trans e)
    · obtain ⟨rfl, h⟩ := h
      exact ⟨_, rfl, wpAny_pure h⟩
  · rename_i hn
    have := hn.symm.trans hst2
    cases this
theorem cb_stop {M : Model} (hM : M = model prog w) (hh : A.handled = none) {Q : Fin → Shared → Prop} {E2 : Value → Shared → Prop} (hQ : ∀ (h' : Heap) e, (∀ b o, s.heap.get? b = some o → h'.get? b = some o) → (∃ o, h'.get? e = some o ∧ o.cls = .type "StopIteration") → E2 (.ref e) { s with heap := h' }) :
    wpAny M A (Builtin.Itertools.itStop : Sem Fin) Q E2 s := by
  subst hM
  unfold Builtin.Itertools.itStop
  refine wpAny_bind ?_
  simp only [newExc, newTuple]
  refine wpAny_bind (wpAny_newObj_type ?_ (by size_fits))
  refine wpAny_bind (m := firstArgMember _ _) (wpAny_of_eq (a := Value.none) (by first | rfl | (simp only [firstArgMember]; rfl)) ?_)
  refine wpAny_newObj_type ?_ (by size_fits)
  simp only [raiseNew]
  refine wpAny_bind (wpAny_handled ?_)
  rw [hh]
  refine wpAny_bind (wpAny_pure (wpAny_throw (hQ _ _ (fun b o e => Heap.get?_push_of_some _ (Heap.get?_push_of_some _ e)) ⟨_, Heap.get?_push_size _ rfl, rfl⟩)))
theorem cb_end1 {c P : Addr} {cur : Value} {idx : List Nat} {us : List Value} {cp : Nat} {op : Obj} {Q : Option Value → Shared → Prop} (hh : A.handled = none) (hcb : IsCb s.heap c P 1 cur idx) (hP : s.heap.get? P = some op) (hPd : op.data = .seq us.toArray cp) (hst : nextC us.length idx = none)
    (hQ : ∀ h', Heap.ExtBut c s.heap h' → Q none { s with heap := h' }) : wpAny (model prog w) A (pyNext (.ref c)) Q E s := by
  obtain ⟨o, ho, hc, hd⟩ := id hcb
  unfold pyNext
  refine wpAny_bind (wpAny_attempt (wpAny_callSpecial?_slot (name := Str.ofString "__next__") hcb.typeIs slot_cb_next
    (wpAny_call_entry slot_cb_next hcb.typeIs entry_cb_next ?_ (args_cb_next _))))
  unfold Builtin.«itertools.combinations.__next__»
  wp_delta
  refine wpAny_bind (wpAny_of_eq (a := (Value.ref c, [])) rfl ?_)
  try dsimp only
  refine wpAny_bind (wpAny_field ho hd cb_pool ?_)
  refine wpAny_bind (cb_nums hcb ?_)
  refine wpAny_bind (cb_int hcb ?_)
  try dsimp only
  refine wpAny_bind ?_
  unfold Builtin.Itertools.itPoolItems
  refine wpAny_bind (wpAny_seqItems hP hPd ?_)
  refine wpAny_pure ?_
  have hst2 : nextC us.toArray.size idx = none := by rw [List.size_toArray]; exact hst
  unfold nextC at hst2
  split
  · rename_i next hn
    have := hn.symm.trans hst2
    cases this
  · refine wpAny_bind (wpAny_setField ho hd (by rw [cbF_size]; omega) ?_)
    refine cb_stop (prog := prog) (w := w) (A := A.in1) rfl hh fun h' e hk he => ?_
    obtain ⟨oe, h1, h2⟩ := he
    refine wpAny_bind (wpAny_isInstance (T := "StopIteration") (b := true) ⟨_, h1, h2⟩ isSubtype_stop ?_)
    exact wpAny_pure (hQ _ fun b ob hb e => hk _ _ ((Heap.get?_update_other _ _ (Ne.symm hb)).trans e))
theorem cb_end2 {c P : Addr} {cur : Value} {idx : List Nat} {Q : Option Value → Shared → Prop} (hh : A.handled = none) (hcb : IsCb s.heap c P 2 cur idx)
    (hQ : ∀ h', Heap.ExtBut c s.heap h' → Q none { s with heap := h' }) : wpAny (model prog w) A (pyNext (.ref c)) Q E s := by
  obtain ⟨o, ho, hc, hd⟩ := id hcb
  unfold pyNext
  refine wpAny_bind (wpAny_attempt (wpAny_callSpecial?_slot (name := Str.ofString "__next__") hcb.typeIs slot_cb_next
    (wpAny_call_entry slot_cb_next hcb.typeIs entry_cb_next ?_ (args_cb_next _))))
  unfold Builtin.«itertools.combinations.__next__»
  wp_delta
  refine wpAny_bind (wpAny_of_eq (a := (Value.ref c, [])) rfl ?_)
  try dsimp only
  refine wpAny_bind (wpAny_field ho hd cb_pool ?_)
  refine wpAny_bind (cb_nums hcb ?_)
  refine wpAny_bind (cb_int hcb ?_)
  try dsimp only
  refine wpAny_bind (wpAny_rule ?_)
  refine cb_stop (prog := prog) (w := w) (A := A.in1) rfl hh fun h' e hk he => ?_
  obtain ⟨oe, h1, h2⟩ := he
  refine wpAny_bind (wpAny_isInstance (T := "StopIteration") (b := true) ⟨_, h1, h2⟩ isSubtype_stop ?_)
  exact wpAny_pure (hQ _ fun b ob hb e => hk _ _ e)
theorem cb_iter {c P : Addr} {st : Int} {cur : Value} {idx : List Nat} {Q : Value → Shared → Prop} (hcb : IsCb s.heap c P st cur idx) (h : Q (.ref c) s) : wpAny (model prog w) A (pyIter (.ref c)) Q E s := by
  refine wpAny_pyIter_slot hcb.typeIs slot_cb_iter (wpAny_call_entry slot_cb_iter hcb.typeIs entry_cb_iter ?_ (args_cb_iter _))
  show wpAny _ _ (ret (.ref c)) _ _ s
  exact wpAny_pure ⟨_, rfl, "itertools.combinations", _, hcb.typeIs, slot_cb_next.lookup, h⟩
end
end CbR

set_option maxHeartbeats 4000000
namespace CbR
open PySem PySem.Spec PyProof.Rows
theorem class_cb (a b : Value) : Builtin.Itertools.itClassAndRest "combinations" ⟨[.type "itertools.combinations", a, b], []⟩ = pure (.type "itertools.combinations", [a, b]) := by
  unfold Builtin.Itertools.itClassAndRest
  have e : ("itertools." ++ "combinations" : String) = "itertools.combinations" := by decide +kernel
  simp only [e, isType, sub_cb, pure_bind, Bool.not_true, Bool.false_eq_true, if_false]
theorem bind_cb (a b : Value) : Builtin.Itertools.itBindNamed "combinations" ["iterable", "r"] 2 2 [a, b] [] = pure [some a, some b] := by
  kernel_rfl
theorem hasDict_cb : typeHasDict (.type "itertools.combinations") = false := by first | rfl | decide +kernel | kernel_rfl
section
variable {prog : Program} {w : World} {A : Around} {E : Value → Shared → Prop} {s : Shared}
theorem ssize_cb {M : Model} {k : Nat} {t : Tok} {Q : Int → Shared → Prop} (hk : k ≤ 1000000) (h : Q (k : Int) s) : wpAny M A (Builtin.Itertools.itSsizeArg (.int (k : Int) t)) Q E s := by
  unfold Builtin.Itertools.itSsizeArg
  refine wpAny_bind (wpAny_of_eq (a := (k : Int)) rfl ?_)
  have e : (decide ((k : Int) < -(2 ^ 63 : Int)) || decide ((k : Int) ≥ 2 ^ 63)) = false := by
    rw [Bool.or_eq_false_iff]
    exact ⟨decide_eq_false (by omega), decide_eq_false (by omega)⟩
  first
  | rw [if_neg (by rw [e]; decide)]
  | skip
  first
  | exact wpAny_pure h
  | exact wpAny_bind (wpAny_pure (wpAny_pure h))
abbrev cbT (h : Heap) (items : List Value) : Heap := h.push { cls := .type "tuple", data := .seq items.toArray }
abbrev cbO (h : Heap) (items : List Value) (k : Nat) : Heap := (cbT h items).push { cls := .type "itertools.combinations", data := .fields (cbF (.ref h.objs.size) (rawInt (if k > items.length then 2 else 0)) .none (List.range k)) }
theorem new_cb {x : Value} {k : Nat} {t : Tok} (hk : k ≤ 1000) : MeetsIn prog w (Builtin.«itertools.combinations.__new__» ⟨[.type "itertools.combinations", x, .int (k : Int) t], []⟩)
    (fun A R s => wpAny (model prog w) A.in1 (collect x) (fun items s1 => items.length ≤ 1000000 ∧ R (.ok (.ret (.ref (cbT s1.heap items).objs.size))) { s1 with heap := cbO s1.heap items k }) (fun e s1 => R (.error e) s1) s) :=
  .of_wp fun A R s h => by
    unfold Builtin.«itertools.combinations.__new__»
    refine wpAny_bind ?_
    wp_delta
    refine wpAny_bind (wpAny_of_eq (class_cb _ _) ?_)
    try dsimp only
    refine wpAny_bind (wpAny_of_eq (bind_cb _ _) ?_)
    try dsimp only
    refine wpAny_bind (ssize_cb (by omega) ?_)
    refine wpAny_bind (wpAny_mono h (fun items s1 hR => ?_) fun _ _ z => z)
    obtain ⟨hl, hR⟩ := hR
    first
    | rw [if_neg (show ¬ ((k : Int) < 0) by omega)]
    | skip
    have e2 : Builtin.Itertools.itTooMany (k : Int) = false := decide_eq_false (by omega)
    simp only [e2, Bool.false_eq_true, if_false]
    refine wpAny_bind (wpAny_newTuple ?_ (by have := sizeLine_eq; omega))
    refine wpAny_pure ?_
    try dsimp only
    refine wpAny_bind ?_
    unfold Builtin.Itertools.itNewRecord
    simp only [hasDict_cb, Bool.not_false, if_true]
    rw [Int.toNat_natCast]
    have e3 : ([.ref s1.heap.objs.size, rawInt (if k > items.length then 2 else 0), .none] ++ (List.range k).map fun (i : Nat) => rawInt i).toArray = cbF (.ref s1.heap.objs.size) (rawInt (if k > items.length then 2 else 0)) .none (List.range k) := by
      unfold cbF
      apply Array.ext'
      simp
    rw [e3]
    refine wpAny_newObj_type ?_ (by show _ ≤ _; rw [cbF_size, List.length_range]; have := sizeLine_eq; omega)
    first
    | exact wpAny_pure (wpAny_pure ⟨_, rfl, hR⟩)
    | exact wpAny_pure ⟨_, rfl, hR⟩
theorem call_cb {x : Value} {k : Nat} {t : Tok} {Q : Value → Shared → Prop} (hk : k ≤ 1000)
    (hx : wpAny (model prog w) A.in1.in1 (collect x) (fun items s1 => items.length ≤ 1000000 ∧ ∀ h', IsCb h' (s1.heap.objs.size + 1) s1.heap.objs.size (if k > items.length then 2 else 0) .none (List.range k) → h'.get? s1.heap.objs.size = some { cls := .type "tuple", data := .seq items.toArray } → h'.objs.size = s1.heap.objs.size + 2 →
      (∀ c o, s1.heap.get? c = some o → h'.get? c = some o) → Q (.ref (s1.heap.objs.size + 1)) { s1 with heap := h' }) E s) :
    wpAny (model prog w) A (call (.type "itertools.combinations") [x, .int (k : Int) t]) Q E s := by
  refine callType_newIn called_cb (by decide) (typeCall_cb _ _) (newCall_cb _ _) (fun obj => F.args_object_init_3 obj _ _) entry_cb_new (new_cb hk) ?_
  show wpAny (model prog w) A.in1.in1 (collect x) _ _ _
  refine wpAny_mono hx (fun items s1 h => ⟨h.1, ?_⟩) fun _ _ z => z
  have z : (cbT s1.heap items).objs.size = s1.heap.objs.size + 1 := Heap.size_push ..
  have z2 : (cbO s1.heap items k).objs.size = s1.heap.objs.size + 2 := by rw [Heap.size_push, z]
  have gm : (cbO s1.heap items k).get? (cbT s1.heap items).objs.size = some { cls := .type "itertools.combinations", data := .fields (cbF (.ref s1.heap.objs.size) (rawInt (if k > items.length then 2 else 0)) .none (List.range k)) } := Heap.get?_push_size _ rfl
  have gT : (cbO s1.heap items k).get? s1.heap.objs.size = some { cls := .type "tuple", data := .seq items.toArray } := Heap.get?_push_of_some _ (Heap.get?_push_size _ rfl)
  have gm' : IsCb (cbO s1.heap items k) (s1.heap.objs.size + 1) s1.heap.objs.size (if k > items.length then 2 else 0) .none (List.range k) := by
    rw [z] at gm
    exact ⟨_, gm, rfl, rfl⟩
  have hq := h.2 _ gm' gT z2 fun c o e => Heap.get?_push_of_some _ (Heap.get?_push_of_some _ e)
  have hq' : Q (.ref (cbT s1.heap items).objs.size) { s1 with heap := cbO s1.heap items k } := by rw [z]; exact hq
  show _ ∧ _
  exact ⟨⟨_, gm, rfl⟩, hq'⟩
end
end CbR

set_option maxHeartbeats 4000000
namespace Rz
open PySem PySem.Spec PyProof.Rows L2 CbR

/-! ### the choices of r out of n places -/
theorem nextC_len {n : Nat} {idx idx' : List Nat} (h : nextC n idx = some idx') : idx'.length = idx.length := by
  unfold nextC at h
  cases e : (List.range idx.length).reverse.find? (fun i => idx.getD i 0 != i + n - idx.length) with
  | none =>
    rw [e] at h
    cases h
  | some i =>
    rw [e] at h
    cases h
    have hm := List.mem_of_find?_eq_some e
    rw [List.mem_reverse, List.mem_range] at hm
    rw [List.length_append, List.length_take, List.length_map, List.length_range]
    omega
theorem seqC_len {n r : Nat} : ∀ {i : Nat} {idx : List Nat}, seqC n r i = some idx → idx.length = r
  | 0, idx, h => by
    unfold seqC at h
    split at h
    · cases h
    · cases h
      exact List.length_range
  | i + 1, idx, h => by
    unfold seqC at h
    cases e : seqC n r i with
    | none =>
      rw [e] at h
      cases h
    | some j =>
      rw [e] at h
      rw [nextC_len h]
      exact seqC_len e
def StC (n r : Nat) : Nat → Int → List Nat → Prop
  | 0, st, idx => idx = List.range r ∧ st = if r > n then 2 else 0
  | i + 1, st, idx => st = 1 ∧ seqC n r i = some idx
/-- the choices of r out of xs, in new tuples -/
def ItC (xs : List V) (r : Nat) : It :=
  ⟨fun i _ => ∃ idx, seqC xs.length r i = some idx,
    fun i H v H' => ∃ T idx, v = .ref T ∧ H T = none ∧ seqC xs.length r i = some idx ∧ H' = upd H T (.tup (idx.map fun j => xs.getD j .non)),
    fun i _ => seqC xs.length r i = none⟩
theorem vals_pick {xs : List V} {us : List Value} (h : Vals xs us) : ∀ idx : List Nat, Vals (idx.map fun j => xs.getD j .non) (idx.map fun j => us.toArray.getD j .none)
  | [] => .nil
  | j :: idx => by
    refine .cons ?_ (vals_pick h idx)
    show L2.RelV (xs.getD j .non) (us.toArray.getD j .none)
    by_cases hj : j < xs.length
    · obtain ⟨u, hu, ru⟩ := h.get (List.getElem?_eq_getElem hj)
      have e : us.toArray.getD j .none = u := by simp [hu]
      rw [e, List.getD_eq_getElem?_getD, List.getElem?_eq_getElem hj]
      exact ru
    · have hl := h.length
      have e : us.toArray.getD j .none = .none := by
        have : us[j]? = none := List.getElem?_eq_none (by omega)
        simp [this]
      rw [e, List.getD_eq_getElem?_getD, List.getElem?_eq_none (by omega)]
      first | rfl | exact rfl | trivial
theorem turn_cb {P : Program} {w : World} {K : PySem.W.Frag} {tg : Expr} {c Pl : Addr} {xs : List V} {us : List Value} {r : Nat} (hne : Pl ≠ c) (hv : Vals xs us) (hr : r ≤ 1000) :
    Turn P w K tg (ItC xs r) [c, Pl] c (fun i h => (∃ st cur idx, IsCb h c Pl st cur idx ∧ StC us.length r i st idx) ∧ h.get? Pl = some { cls := .type "tuple", data := .seq us.toArray }) where
  mem := by simp
  obj := fun i h st b hb => by
    obtain ⟨⟨_, _, _, ⟨o, ho, hc, hd⟩, _⟩, hP⟩ := st
    have e : b = c ∨ b = Pl := by simpa using hb
    rcases e with rfl | rfl
    · exact ⟨o, ho, fun v z => by rw [hd] at z; cases z⟩
    · exact ⟨_, hP, fun v z => nomatch z⟩
  keep := fun i h h' st k => by
    obtain ⟨⟨a, b, d, hcb, hs⟩, hP⟩ := st
    exact ⟨⟨a, b, d, hcb.at (k c (by simp)), hs⟩, k Pl (by simp) _ hP⟩
  item := by
    intro X hPP hw hK hc i pins s σ H E I hf st hg
    subst hPP hw hK
    obtain ⟨⟨st, cur, idx, hcb, hs⟩, hP⟩ := st
    obtain ⟨idx', hidx⟩ := hg
    rw [hv.length] at hidx
    have hl' := seqC_len hidx
    have hline : idx'.length ≤ sizeLine := by
      have := sizeLine_eq
      omega
    have fin : ∀ h', IsCb h' c Pl 1 (.ref s.heap.objs.size) idx' → h'.get? s.heap.objs.size = some { cls := .type "tuple", data := .seq (idx'.map fun i => us.toArray.getD i .none).toArray } → (∀ b o, b ≠ c → s.heap.get? b = some o → h'.get? b = some o) →
        ∃ u, some (Value.ref s.heap.objs.size) = some u ∧ wpAny (model X.prog X.w) X.A (letOwnedTupleGo tg (.ref c) u) (fun _ s2 => ∃ x H', Inv X pins σ H' s2 ∧ RelV x u ∧ (ItC xs r).yld i H x H' ∧ ((∃ st cur idx, IsCb s2.heap c Pl st cur idx ∧ StC us.length r (i + 1) st idx) ∧ s2.heap.get? Pl = some { cls := .type "tuple", data := .seq us.toArray }) ∧ ∀ b ∈ [c, Pl], H' b = none) E { s with heap := h' } := by
      intro h' h1 h2 h3
      have new : ObjOk X.prog X.w (upd H s.heap.objs.size (.tup (idx'.map fun j => xs.getD j .non))) h' s.heap.objs.size (.tup (idx'.map fun j => xs.getD j .non)) :=
        ⟨by rw [List.length_map]; exact hline, _, vals_pick hv idx', ⟨_, h2, rfl, _, rfl⟩⟩
      have I1 : Inv X pins σ (upd H s.heap.objs.size (.tup (idx'.map fun j => xs.getD j .non))) { s with heap := h' } :=
        I.turnedNew (t' := s.toks) (ch := [c, Pl]) (fun b o hb q => h3 b o (fun z => hb (by simp [z])) q) hf (Nat.le_refl _) new
      obtain ⟨o, ho, hcc, hd⟩ := id h1
      refine ⟨_, rfl, go_of (s := { s with heap := h' }) ho hcc hd (by decide) ⟨.ref s.heap.objs.size, _, I1, rfl, ⟨_, idx', rfl, I.hok.fresh (Nat.le_refl _), by rw [hv.length]; exact hidx, rfl⟩, ⟨⟨1, _, idx', h1, rfl, hidx⟩, h3 _ _ hne hP⟩, fun b hb => ?_⟩⟩
      have hlt : b < s.heap.objs.size := by
        have e' : b = c ∨ b = Pl := by simpa using hb
        rcases e' with q | q
        · obtain ⟨o0, ho0, _⟩ := hcb
          rw [q]
          exact Heap.lt_size ho0
        · rw [q]
          exact Heap.lt_size hP
      rw [upd_ne (Nat.ne_of_lt hlt)]
      exact (hf b hb).1
    cases i with
    | zero =>
      obtain ⟨rfl, rfl⟩ := hs
      unfold seqC at hidx
      by_cases hrn : r > us.length
      · rw [if_pos hrn] at hidx
        cases hidx
      · rw [if_neg hrn] at hidx hcb
        cases hidx
        exact cb_next0 hcb hP rfl hline hne fin
    | succ i =>
      obtain ⟨rfl, hs⟩ := hs
      have hn : nextC us.length idx = some idx' := by
        unfold seqC at hidx
        rw [hs] at hidx
        exact hidx
      exact cb_next1 hcb hP rfl hline hne hn fin
  done := by
    intro X hPP hw hK hc i pins s σ H E I hf st hg
    subst hPP hw hK
    obtain ⟨⟨st, cur, idx, hcb, hs⟩, hP⟩ := st
    have hg2 : seqC us.length r i = none := by
      rw [← hv.length]
      exact hg
    obtain ⟨f0, f1, f2, f3, f4, f5⟩ := hf c (by simp)
    have fin : ∀ h', Heap.ExtBut c s.heap h' → (none : Option Value) = none ∧ Inv X pins σ H { s with heap := h' } := fun h' hx => ⟨rfl, I.turned (t' := s.toks) (fun b o hb e => hx b o hb e) f0 f1 f3 f4 f5⟩
    cases i with
    | zero =>
      obtain ⟨rfl, rfl⟩ := hs
      unfold seqC at hg2
      by_cases hrn : r > us.length
      · rw [if_pos hrn] at hcb
        exact cb_end2 (I.ok.hd hc) hcb fin
      · rw [if_neg hrn] at hg2
        cases hg2
    | succ i =>
      obtain ⟨rfl, hs⟩ := hs
      have hn : nextC us.length idx = none := by
        unfold seqC at hg2
        rw [hs] at hg2
        exact hg2
      exact cb_end1 (I.ok.hd hc) hcb hP rfl hn fin
  self := fun A i s Q E st h => by
    obtain ⟨⟨_, _, _, hcb, _⟩, _⟩ := st
    exact cb_iter hcb h

/-! ### for .. in combinations(xs, r) -/
def iCombL (K : PySem.W.Frag) (ta : TA) : TI := fun σ H R => ta σ H fun vs H1 => ∃ (a : Addr) (xs : List V) (r : Nat), vs = [.ref a, .int (r : Int)] ∧ SqL K H1 a xs ∧ xs.length ≤ 1000000 ∧ r ≤ 1000 ∧ R (ItC xs r) H1
theorem pie_cb {X : Cx} {tg : Expr} {pins : List (Addr × Obj)} {σ : L2.St} {H : Hp} {s1 : Shared} {R : It → Hp → Prop} {xs : List V} {us : List Value} {r : Nat} {h' : Heap} (I : Inv X pins σ H s1) (hv : Vals xs us) (hr : r ≤ 1000) (q : R (ItC xs r) H)
    (h1 : IsCb h' (s1.heap.objs.size + 1) s1.heap.objs.size (if r > us.length then 2 else 0) .none (List.range r)) (h2 : h'.get? s1.heap.objs.size = some { cls := .type "tuple", data := .seq us.toArray }) (h3 : ∀ c o, s1.heap.get? c = some o → h'.get? c = some o) :
    wpAny (model X.prog X.w) X.A (pyIter (.ref (s1.heap.objs.size + 1))) (PIE X pins σ tg R) X.xe { s1 with heap := h' } := by
  refine cb_iter (s := { s1 with heap := h' }) h1 ?_
  have I2 : Inv X pins σ H { s1 with heap := h' } := I.kept (t' := s1.toks) h3
  refine ⟨s1.heap.objs.size + 1, [s1.heap.objs.size + 1, s1.heap.objs.size], _, ItC xs r, H, rfl, I2, turn_cb (us := us) (Nat.ne_of_lt (Nat.lt_succ_self _)) hv hr, ⟨⟨_, _, _, h1, rfl, rfl⟩, h2⟩, fun b hb => ?_, q⟩
  have e' : b = s1.heap.objs.size + 1 ∨ b = s1.heap.objs.size := by simpa using hb
  have hle : s1.heap.objs.size ≤ b := by
    rcases e' with z | z
    · rw [z]; exact Nat.le_add_right _ _
    · rw [z]; exact Nat.le_refl _
  exact I.fpOk hle (I.hok.fresh hle)
section
variable {X : Cx} {tg : Expr}
theorem pi_combL {K : PySem.W.Frag} {e e2 : Expr} {ta : TA} {p pos : Pos} (hKK : X.K = K) (hc : X.calm = true) (hg : Gl X "combinations") (hm : X.mg "combinations" = some (.type "itertools.combinations")) (ha : PA X [e, e2] ta)
    (hs : starEach [e, e2] X.env = (false, eval e X.env) :: starEach [e2] X.env := by rfl) (hpl : (backTo pos (starEach [e2] X.env)).any (·.1) = false := by rfl) :
    PI X tg (.Call (.Name "combinations" p) [e, e2] [] pos) (iCombL K ta) := by
  subst hKK
  refine ⟨fun pins s σ H R I h => ?_⟩
  refine wpAny_Call_Name_kw (ld_glob I hg hm ?_)
  refine PyProof.Rows.callWith_type1 (thn (ha.run pos pins s σ H _ I h) fun us s1 ⟨vs, H1, I1, r1, q1⟩ => ?_) hs hpl
  obtain ⟨a, xs, r, ex, hq, hl, hr, q⟩ := q1
  subst ex
  cases r1 with
  | cons r1 rr =>
    cases rr with
    | cons r2 rr =>
      cases rr
      cases r1
      obtain ⟨t, rfl⟩ := r2
      obtain ⟨its, rv, p1, _⟩ := I1.list hq
      have hil := rv.length
      refine call_cb hr ?_
      refine collect_list p1.isList ?_ (by have := sizeLine_eq; omega)
      refine ⟨by omega, fun h' c1 c2 c3 c4 => ?_⟩
      have I2 := I1.kept (t' := s1.toks) (h' := (s1.heap.push (seqObj "list" #[] 0)).update s1.heap.objs.size (Obj.mapSeq (· ++ its.toArray))) fun b o e => (Heap.get?_update_other _ _ (Ne.symm (Nat.ne_of_lt (Heap.lt_size e)))).trans (Heap.get?_push_of_some _ e)
      exact pie_cb I2 rv hr q c1 c2 c4
/-- a range as a thing of its own, laid just now -/
def PRgF (X : Cx) (e : Expr) (t : L2.St → Hp → (Int → Int → Hp → Prop) → Prop) : Prop :=
  ∀ (pins : List (Addr × Obj)) (s : Shared) (σ : L2.St) (H : Hp) (Q : Int → Int → Hp → Prop), Inv X pins σ H s → t σ H Q →
    wpAny (model X.prog X.w) X.A (eval e X.env) (fun x s' => ∃ r a b t u v H', x = .ref r ∧ IsRange s'.heap r a b 1 t u v ∧ FpOk X pins H' r ∧ Inv X pins σ H' s' ∧ Q a b H') X.xe s
theorem prgF {H : Hp} {pins : List (Addr × Obj)} {σ : L2.St} {s : Shared} {o : Obj} (I : Inv X pins σ H s) : FpOk X pins H s.heap.objs.size := I.fpOk (Nat.le_refl _) (I.hok.fresh (Nat.le_refl _))
theorem prgF_1 {a : Expr} {ta : TE} {p pos : Pos} (hg : Gl X "range") (hm : X.mg "range" = none) (ha : PE X a ta) (na : starEach [a] X.env = (false, eval a X.env) :: starEach [] X.env := by rfl) : PRgF X (.Call (.Name "range" p) [a] [] pos) (tRg1 ta) := by
  intro pins s σ H Q I h
  refine Call_ (ld_blt I hg hm boot_range (PyProof.Rows.callWith_type1 (one_arg ha I h (fun v s2 x H2 I2 r q => ?_) na) na))
  obtain ⟨n, rfl, q⟩ := q
  obtain ⟨t, rfl⟩ := r
  exact call_range_1 ⟨_, 0, n, _, _, _, H2, rfl, IsRange.new _ _ _ _ _ _ _, I2.fpOk (Nat.le_refl _) (I2.hok.fresh (Nat.le_refl _)), I2.kept fun b u e => Heap.get?_push_of_some _ e, q⟩
theorem prgF_2 {a b : Expr} {ta tb : TE} {p pos : Pos} (hg : Gl X "range") (hm : X.mg "range" = none) (ha : PE X a ta) (hb : PE X b tb) (na : starEach [a, b] X.env = (false, eval a X.env) :: starEach [b] X.env := by rfl)
    (nb : starEach [b] X.env = (false, eval b X.env) :: starEach [] X.env := by rfl) (hp : (backTo pos (starEach [b] X.env)).any (·.1) = false := by rfl) : PRgF X (.Call (.Name "range" p) [a, b] [] pos) (tRg2 ta tb) := by
  intro pins s σ H Q I h
  refine Call_ (ld_blt I hg hm boot_range (PyProof.Rows.callWith_type1 (args_cons (thn (ha.run pins s σ H _ I h) fun v s1 ⟨x, H1, I1, r1, q1⟩ => one_arg hb I1 q1 (fun u s2 y H2 I2 r2 q => ?_) nb) na) na hp))
  obtain ⟨i, j, rfl, rfl, q⟩ := q
  obtain ⟨t, rfl⟩ := r1
  obtain ⟨t', rfl⟩ := r2
  exact call_range_2 ⟨_, i, j, _, _, _, H2, rfl, IsRange.new _ _ _ _ _ _ _, I2.fpOk (Nat.le_refl _) (I2.hok.fresh (Nat.le_refl _)), I2.kept fun b u e => Heap.get?_push_of_some _ e, q⟩
theorem vals_range {a : Int} : ∀ (n : Nat) (us : List Value), us.length = n → (∀ (i : Nat) u, us[i]? = some u → ∃ t, u = .int (a + (i : Int)) t) → Vals ((List.range n).map fun (i : Nat) => V.int (a + (i : Int))) us := by
  intro n
  induction n with
  | zero =>
    intro us hl _
    have : us = [] := List.eq_nil_of_length_eq_zero hl
    subst this
    exact .nil
  | succ n ih =>
    intro us hl h
    obtain ⟨us', u, rfl⟩ : ∃ us' u, us = us' ++ [u] := by
      have hne : us ≠ [] := fun z => by rw [z] at hl; cases hl
      exact ⟨us.dropLast, us.getLast hne, (List.dropLast_concat_getLast hne).symm⟩
    rw [List.length_append] at hl
    have hl' : us'.length = n := by
      have : [u].length = 1 := rfl
      omega
    rw [List.range_succ, List.map_append]
    have h1 := ih us' hl' fun i v e => h i v (by rw [List.getElem?_append_left (List.getElem?_eq_some_iff.mp e).1]; exact e)
    obtain ⟨t, rfl⟩ := h n u (by rw [List.getElem?_append_right (by omega), hl', Nat.sub_self]; rfl)
    have key : ∀ {xs : List V} {vs : List Value}, Vals xs vs → Vals (xs ++ [V.int (a + (n : Int))]) (vs ++ [Value.int (a + (n : Int)) t]) := by
      intro xs vs hv
      induction hv with
      | nil => exact .cons ⟨t, rfl⟩ .nil
      | cons r _ ih => exact .cons r ih
    exact key h1
/-- combinations(range(..), r) -/
def iCombR (tr : L2.St → Hp → (Int → Int → Hp → Prop) → Prop) (tb : TE) : TI := fun σ H R => tr σ H fun a b H1 => tb σ H1 fun y H2 => ∃ (n r : Nat), y = .int (r : Int) ∧ -(2 ^ 62) ≤ a ∧ a < 2 ^ 62 ∧ -(2 ^ 62) ≤ b ∧ b < 2 ^ 62 ∧ (b - a).toNat = n ∧ n ≤ 1000000 ∧ r ≤ 1000 ∧ R (ItC ((List.range n).map fun (i : Nat) => V.int (a + (i : Int))) r) H2
theorem pi_combR {e e2 : Expr} {tr : L2.St → Hp → (Int → Int → Hp → Prop) → Prop} {tb : TE} {p pos : Pos} (hc : X.calm = true) (hg : Gl X "combinations") (hm : X.mg "combinations" = some (.type "itertools.combinations")) (he : PRgF X e tr) (hb : PE X e2 tb)
    (hs : starEach [e, e2] X.env = (false, eval e X.env) :: starEach [e2] X.env := by rfl) (nb : starEach [e2] X.env = (false, eval e2 X.env) :: starEach [] X.env := by rfl) (hpl : (backTo pos (starEach [e2] X.env)).any (·.1) = false := by rfl) :
    PI X tg (.Call (.Name "combinations" p) [e, e2] [] pos) (iCombR tr tb) := by
  refine ⟨fun pins s σ H R I h => ?_⟩
  refine wpAny_Call_Name_kw (ld_glob I hg hm ?_)
  refine PyProof.Rows.callWith_type1 (args_cons (thn (he pins s σ H _ I h) fun u s1 hx => ?_) hs) hs hpl
  obtain ⟨r, a, b, t, u1, v1, H1, rfl, hr, hF, I1, q1⟩ := hx
  have I1p := I1.pinned (fp := [r]) (fun b hb => by rw [List.mem_singleton.mp hb]; exact hF) (fun b hb => by
    rw [List.mem_singleton.mp hb]
    exact ⟨_, hr, fun v z => nomatch z⟩)
  refine args_cons (thn (hb.run _ s1 σ H1 _ I1p q1) fun u2 s2 hx2 => args_nil ?_) nb
  obtain ⟨y, H2, I2, r2, q2⟩ := hx2
  obtain ⟨n, k, rfl, a0, a1, b0, b1, hn, hl, hk, q⟩ := q2
  obtain ⟨t2, rfl⟩ := r2
  have hr2 : IsRange s2.heap r a b 1 t u1 v1 := by
    have hm2 : (r, ({ cls := .type "range", dict := none, data := .fields #[.int a t, .int b u1, .int 1 v1], slots := #[] } : Obj)) ∈ X.pn ++ (pins ++ pinsAt [r] s1.heap) := by
      refine List.mem_append_right _ (List.mem_append_right _ ?_)
      unfold pinsAt
      simp only [List.filterMap_cons, List.filterMap_nil]
      rw [show s1.heap.get? r = _ from hr]
      exact List.mem_singleton.mpr rfl
    exact (I2.pin _ hm2).1
  have I3 := I2.unpinned
  have hsm := small_one a0 a1 b0 b1
  refine call_cb hk ?_
  refine collect_range (I3.ok.hd hc) hr2 hsm (n := n) ?_ (by omega) fun h' tk acc hkeep hit => ?_
  · rw [rangeSize_nat a b, hn]
  · have hal : acc.toList.length = n := by
      rw [Array.length_toList]
      exact hit.1
    refine ⟨by omega, fun h2 c1 c2 c3 c4 => ?_⟩
    have hv : Vals ((List.range n).map fun (i : Nat) => V.int (a + (i : Int))) acc.toList := vals_range n acc.toList hal fun i u e => by
      obtain ⟨t, ht⟩ := hit.2 i u (by simpa using e)
      refine ⟨t, ?_⟩
      rw [ht]
      congr 1
      omega
    have I4 := I3.kept (t' := tk) (h' := h') hkeep
    exact pie_cb I4 hv hk q c1 c2 c4
end
end Rz

set_option maxHeartbeats 4000000
/-! RzNode: webs on the heap: a dict of dicts of ratios. κ: a node's key. -/
namespace Rz
open PySem PySem.Spec PyProof.Rows L2 LamX

section
variable {K : PySem.W.Frag} {H H' H2 : Hp}
theorem ext_of (h : Same H H') : ExtN H H' := fun b o e _ => h b o e
theorem ext_sqt (h : ExtN H H') {a : Addr} {xs : List V} (t : SqT K H a xs) : SqT K H' a xs := by
  rcases t with (t | ⟨o, t⟩) | t
  · exact .inl (.inl (h _ _ t fun ps z => nomatch z))
  · exact .inl (.inr ⟨o, h _ _ t fun ps z => nomatch z⟩)
  · exact .inr t
theorem ext_sql (h : ExtN H H') {a : Addr} {xs : List V} (t : SqL K H a xs) : SqL K H' a xs := by
  rcases t with (t | ⟨o, t⟩) | t
  · exact .inl (.inl (h _ _ t fun ps z => nomatch z))
  · exact .inl (.inr ⟨o, h _ _ t fun ps z => nomatch z⟩)
  · exact .inr t
theorem ext_tups (h : ExtN H H') : TupS K H H' := fun _ _ t => ext_sqt h t
theorem ext_dk (h : ExtN H H') {a : Addr} {kvs : List (Key × V)} (e : H a = some (.dK kvs)) : H' a = some (.dK kvs) := h _ _ e fun ps z => nomatch z
/-- what was locked is free again -/
theorem same_lock {d : Addr} {u : HO} {o : Obj} (h0 : H d = some u) (s : Same (upd H d (.frz o u)) H') : H' d = some (.frz o u) ∧ Same H (upd H' d u) := by
  refine ⟨s _ _ upd_same, fun b x e => ?_⟩
  by_cases hb : b = d
  · subst hb
    rw [h0] at e
    rw [upd_same]
    exact e
  · rw [upd_ne hb]
    exact s _ _ (by rw [upd_ne hb]; exact e)
/-- ratios are read under a lock -/
theorem lock_rat {d : Addr} {kvs : List (Key × V)} {o : Obj} (h0 : H d = some (.dK kvs)) {v : V} {q : Rat} (r : RatV K H v q) : RatV K (upd H d (.frz o (.dK kvs))) v q := by
  obtain ⟨p, rfl, t⟩ := r
  refine ⟨p, rfl, ?_⟩
  have ne : ∀ {u}, H p = some u → (∀ kvs, u ≠ .dK kvs) → p ≠ d := fun e n z => by
    rw [z, h0] at e
    exact n _ (Option.some.inj e).symm
  rcases t with (t | ⟨o2, t⟩) | t
  · exact .inl (.inl (by rw [upd_ne (ne t fun _ z => nomatch z)]; exact t))
  · exact .inl (.inr ⟨o2, by rw [upd_ne (ne t fun _ z => nomatch z)]; exact t⟩)
  · exact .inr t
end

/-! ### one node's dict -/
structure RowW (K : PySem.W.Frag) (H : Hp) (κ : Nat → Key) (kvs : List (Key × V)) (ks : List Nat) (g : Nat → Rat) : Prop where
  len : kvs.length = ks.length
  at_ : ∀ (t : Nat) k, ks[t]? = some k → ∃ v, kvs[t]? = some (κ k, v) ∧ RatV K H v (g k)
section
variable {K : PySem.W.Frag} {H H' : Hp} {κ : Nat → Key} {kvs : List (Key × V)} {ks : List Nat} {g : Nat → Rat}
theorem RowW.tup (r : RowW K H κ kvs ks g) (h : TupS K H H') : RowW K H' κ kvs ks g := ⟨r.len, fun t k e => let ⟨v, a, b⟩ := r.at_ t k e; ⟨v, a, h.rat b⟩⟩
theorem RowW.ext (r : RowW K H κ kvs ks g) (h : ExtN H H') : RowW K H' κ kvs ks g := r.tup (ext_tups h)
theorem RowW.nil : RowW K H κ [] [] g := ⟨rfl, fun t k e => by simp at e⟩
theorem RowW.keys (r : RowW K H κ kvs ks g) : kvs.map (fun kv => kV kv.1) = ks.map fun k => kV (κ k) := by
  refine List.ext_getElem (by rw [List.length_map, List.length_map, r.len]) fun t h1 h2 => ?_
  rw [List.length_map] at h2
  obtain ⟨v, e, _⟩ := r.at_ t _ (List.getElem?_eq_getElem h2)
  rw [List.length_map] at h1
  rw [List.getElem?_eq_getElem h1] at e
  rw [List.getElem_map, List.getElem_map, Option.some.inj e]
theorem RowW.rats (r : RowW K H κ kvs ks g) : Rats K H (kvs.map (·.2)) (ks.map g) := by
  refine ⟨by rw [List.length_map, List.length_map, r.len], fun t x q e1 e2 => ?_⟩
  rw [List.getElem?_map] at e1 e2
  cases e : ks[t]? with
  | none => rw [e] at e2; simp at e2
  | some k =>
    obtain ⟨v, e3, h⟩ := r.at_ t k e
    rw [e3] at e1
    rw [e] at e2
    cases e1
    cases e2
    exact h
theorem RowW.get (hκ : ∀ i j, κ i = κ j → i = j) (r : RowW K H κ kvs ks g) {k : Nat} (hk : k ∈ ks) : ∃ v, valV kvs (κ k) = some v ∧ RatV K H v (g k) := by
  cases e : kvs.find? fun kv => decide (kv.1 = κ k) with
  | none =>
    obtain ⟨t, ht, rfl⟩ := List.mem_iff_getElem.mp hk
    obtain ⟨v, e3, h⟩ := r.at_ t _ (List.getElem?_eq_getElem ht)
    have := List.find?_eq_none.mp e _ (List.mem_of_getElem? e3)
    simp at this
  | some p =>
    obtain ⟨t, ht, hp⟩ := List.mem_iff_getElem.mp (List.mem_of_find?_eq_some e)
    have hpk : p.1 = κ k := by
      have z := List.find?_some e
      simpa using z
    have ht2 : t < ks.length := by rw [← r.len]; exact ht
    obtain ⟨v, e3, h⟩ := r.at_ t _ (List.getElem?_eq_getElem ht2)
    rw [List.getElem?_eq_getElem ht, hp] at e3
    have e4 := Option.some.inj e3
    rw [e4] at hpk
    have e5 := hκ _ _ hpk
    refine ⟨v, ?_, by rw [← e5]; exact h⟩
    unfold valV
    rw [e, e4]
    rfl
theorem RowW.none (hκ : ∀ i j, κ i = κ j → i = j) (r : RowW K H κ kvs ks g) {k : Nat} (hk : k ∉ ks) : valV kvs (κ k) = none := by
  unfold valV
  rw [Option.map_eq_none_iff, List.find?_eq_none]
  intro p hp z
  obtain ⟨t, ht, hpt⟩ := List.mem_iff_getElem.mp hp
  have ht2 : t < ks.length := by rw [← r.len]; exact ht
  obtain ⟨v, e3, h⟩ := r.at_ t _ (List.getElem?_eq_getElem ht2)
  rw [List.getElem?_eq_getElem ht, hpt] at e3
  have e4 := Option.some.inj e3
  have z2 := of_decide_eq_true z
  rw [e4] at z2
  exact hk (hκ _ _ z2 ▸ List.getElem_mem ht2)
theorem RowW.put (hκ : ∀ i j, κ i = κ j → i = j) (r : RowW K H κ kvs ks g) {k : Nat} {v : V} {q : Rat} (hv : RatV K H v q) : RowW K H κ (putK kvs (κ k) v) (if k ∈ ks then ks else ks ++ [k]) (fun j => if j = k then q else g j) := by
  by_cases hk : k ∈ ks
  · obtain ⟨w, hw, _⟩ := r.get hκ hk
    have e : putK kvs (κ k) v = kvs.map fun kv => if kv.1 = κ k then (kv.1, v) else kv := by
      unfold putK
      rw [if_pos (by rw [valV_any, hw]; rfl)]
    rw [if_pos hk, e]
    refine ⟨by rw [List.length_map, r.len], fun t j ht => ?_⟩
    obtain ⟨u, e3, h⟩ := r.at_ t j ht
    rw [List.getElem?_map, e3]
    by_cases hj : j = k
    · subst hj
      exact ⟨v, by simp, by simp only [if_true]; exact hv⟩
    · refine ⟨u, ?_, by simp only [if_neg hj]; exact h⟩
      rw [Option.map_some, if_neg fun z => hj (hκ _ _ z)]
  · rw [if_neg hk, putK_new v (r.none hκ hk)]
    refine ⟨by rw [List.length_append, List.length_append, r.len]; rfl, fun t j ht => ?_⟩
    by_cases hlt : t < ks.length
    · rw [List.getElem?_append_left hlt] at ht
      obtain ⟨u, e3, h⟩ := r.at_ t j ht
      have hj : j ≠ k := fun z => hk (z ▸ List.mem_of_getElem? ht)
      exact ⟨u, by rw [List.getElem?_append_left (by rw [r.len]; exact hlt)]; exact e3, by simp only [if_neg hj]; exact h⟩
    · have et : t = ks.length := by
        have := (List.getElem?_eq_some_iff.mp ht).1
        rw [List.length_append, List.length_singleton] at this
        omega
      subst et
      rw [List.getElem?_append_right (Nat.le_refl _), Nat.sub_self] at ht
      cases ht
      exact ⟨v, by rw [List.getElem?_append_right (by rw [r.len]; exact Nat.le_refl _), r.len, Nat.sub_self]; rfl, by simp only [if_true]; exact hv⟩
/-- a row without one of its keys -/
theorem RowW.filt (r : RowW K H κ kvs ks g) {v : V} {k : Nat} (hv : RatV K H v (g k)) : RowW K H κ (kvs ++ [(κ k, v)]) (ks ++ [k]) g := by
  refine ⟨by rw [List.length_append, List.length_append, r.len]; rfl, fun t j ht => ?_⟩
  by_cases hlt : t < ks.length
  · rw [List.getElem?_append_left hlt] at ht
    obtain ⟨u, e3, h⟩ := r.at_ t j ht
    exact ⟨u, by rw [List.getElem?_append_left (by rw [r.len]; exact hlt)]; exact e3, h⟩
  · have et : t = ks.length := by
      have := (List.getElem?_eq_some_iff.mp ht).1
      rw [List.length_append, List.length_singleton] at this
      omega
    subst et
    rw [List.getElem?_append_right (Nat.le_refl _), Nat.sub_self] at ht
    cases ht
    exact ⟨v, by rw [List.getElem?_append_right (by rw [r.len]; exact Nat.le_refl _), r.len, Nat.sub_self]; rfl, hv⟩
/-- a dict of what f gives -/
def mapD (κ : Nat → Key) (D : Nat → Addr) (ns : List Nat) : List (Key × V) := ns.map fun j => (κ j, V.ref (D j))
theorem mapD_get (hκ : ∀ i j, κ i = κ j → i = j) {D : Nat → Addr} : ∀ {ns : List Nat} {j : Nat}, j ∈ ns → valV (mapD κ D ns) (κ j) = some (.ref (D j))
  | a :: ns, j, h => by
    show valV ((κ a, V.ref (D a)) :: mapD κ D ns) (κ j) = _
    by_cases e : a = j
    · subst e
      exact valV_pos rfl
    · rw [valV_neg fun z => e (hκ _ _ z)]
      exact mapD_get hκ ((List.mem_cons.mp h).resolve_left fun z => e z.symm)
theorem mapD_none (hκ : ∀ i j, κ i = κ j → i = j) {D : Nat → Addr} : ∀ {ns : List Nat} {j : Nat}, j ∉ ns → valV (mapD κ D ns) (κ j) = none
  | [], j, h => rfl
  | a :: ns, j, h => by
    show valV ((κ a, V.ref (D a)) :: mapD κ D ns) (κ j) = _
    rw [valV_neg (p := (κ a, V.ref (D a))) (k := κ j) fun (z : κ a = κ j) => h (hκ _ _ z ▸ List.mem_cons_self)]
    exact mapD_none hκ fun z => h (List.mem_cons_of_mem _ z)
theorem mapD_keys {D : Nat → Addr} {ns : List Nat} : (mapD κ D ns).map (fun kv => kV kv.1) = ns.map fun j => kV (κ j) := by
  unfold mapD
  rw [List.map_map]
  rfl
theorem mapD_len {D : Nat → Addr} {ns : List Nat} : (mapD κ D ns).length = ns.length := List.length_map _
theorem mapD_at {D : Nat → Addr} {ns : List Nat} {i : Nat} {k : Key} {v : V} (h : (mapD κ D ns)[i]? = some (k, v)) : ∃ j, ns[i]? = some j ∧ k = κ j ∧ v = .ref (D j) := by
  unfold mapD at h
  rw [List.getElem?_map] at h
  cases e : ns[i]? with
  | none => rw [e] at h; cases h
  | some j => rw [e] at h; cases h; exact ⟨j, rfl, rfl, rfl⟩
end

/-! ### a web -/
structure WebV (K : PySem.W.Frag) (H : Hp) (κ : Nat → Key) (W : Addr) (ns : List Nat) (D : Nat → Addr) (kss : Nat → List Nat) (g : Nat → Nat → Rat) : Prop where
  top : H W = some (.dK (mapD κ D ns))
  nd : ns.Nodup
  neW : ∀ j ∈ ns, D j ≠ W
  inj : ∀ i ∈ ns, ∀ j ∈ ns, D i = D j → i = j
  row : ∀ j ∈ ns, ∃ kvs, H (D j) = some (.dK kvs) ∧ RowW K H κ kvs (kss j) (g j)
/-- who is joined with whom -/
structure Nb (ns : List Nat) (kss : Nat → List Nat) (g : Nat → Nat → Rat) : Prop where
  nd : ∀ j ∈ ns, (kss j).Nodup
  sub : ∀ j ∈ ns, ∀ k ∈ kss j, k ∈ ns ∧ k ≠ j
  iff : ∀ j ∈ ns, ∀ k ∈ ns, k ≠ j → (k ∈ kss j ↔ g j k ≠ 0)
def setJ (g : Nat → Nat → Rat) (a b : Nat) (q : Rat) : Nat → Nat → Rat := fun j k => if (j = a ∧ k = b) ∨ (j = b ∧ k = a) then q else g j k
def addK (kss : Nat → List Nat) (a b : Nat) : Nat → List Nat := fun j => if j = a then (if b ∈ kss a then kss a else kss a ++ [b]) else kss j
section
variable {K : PySem.W.Frag} {H H' : Hp} {κ : Nat → Key} {W : Addr} {ns : List Nat} {D : Nat → Addr} {kss : Nat → List Nat} {g g' : Nat → Nat → Rat}
theorem WebV.ext (w : WebV K H κ W ns D kss g) (h : ExtN H H') : WebV K H' κ W ns D kss g :=
  ⟨ext_dk h w.top, w.nd, w.neW, w.inj, fun j hj => let ⟨kvs, a, b⟩ := w.row j hj; ⟨kvs, ext_dk h a, b.ext h⟩⟩
theorem WebV.congr (w : WebV K H κ W ns D kss g) (h : ∀ j ∈ ns, ∀ k ∈ kss j, g j k = g' j k) : WebV K H κ W ns D kss g' :=
  ⟨w.top, w.nd, w.neW, w.inj, fun j hj => let ⟨kvs, a, b⟩ := w.row j hj; ⟨kvs, a, b.len, fun t k e => let ⟨v, c, d⟩ := b.at_ t k e; ⟨v, c, h j hj k (List.mem_of_getElem? e) ▸ d⟩⟩⟩
/-- one entry written -/
theorem WebV.put1 (hκ : ∀ i j, κ i = κ j → i = j) (w : WebV K H κ W ns D kss g) {a b : Nat} {kvs : List (Key × V)} {v : V} {q : Rat} (ha : a ∈ ns) (hk : H (D a) = some (.dK kvs)) (hv : RatV K H v q) :
    WebV K (upd H (D a) (.dK (putK kvs (κ b) v))) κ W ns D (addK kss a b) (fun j k => if j = a ∧ k = b then q else g j k) := by
  have tup : TupS K H (upd H (D a) (.dK (putK kvs (κ b) v))) := fun c xs t => by
    have ne : ∀ {u}, H c = some u → (∀ kvs, u ≠ .dK kvs) → c ≠ D a := fun e n z => by
      rw [z, hk] at e
      exact n _ (Option.some.inj e).symm
    rcases t with (t | ⟨o2, t⟩) | t
    · exact .inl (.inl (by rw [upd_ne (ne t fun _ z => nomatch z)]; exact t))
    · exact .inl (.inr ⟨o2, by rw [upd_ne (ne t fun _ z => nomatch z)]; exact t⟩)
    · exact .inr t
  refine ⟨by rw [upd_ne (w.neW a ha).symm]; exact w.top, w.nd, w.neW, w.inj, fun j hj => ?_⟩
  by_cases e : j = a
  · subst e
    obtain ⟨kvs', e1, r⟩ := w.row j hj
    rw [hk] at e1
    cases e1
    refine ⟨_, upd_same, ?_⟩
    have r2 := (r.put hκ (k := b) hv).tup tup
    unfold addK
    rw [if_pos rfl]
    simp only [true_and]
    exact r2
  · obtain ⟨kvs', e1, r⟩ := w.row j hj
    refine ⟨kvs', by rw [upd_ne fun z => e (w.inj j hj a ha z)]; exact e1, ?_⟩
    have r2 := r.tup tup
    unfold addK
    rw [if_neg e]
    simp only [e, false_and, if_false]
    exact r2
theorem dict_tups {c : Addr} {kvs kvs' : List (Key × V)} (hk : H c = some (.dK kvs)) : TupS K H (upd H c (.dK kvs')) := fun a xs t => by
  have ne : ∀ {u}, H a = some u → (∀ kvs, u ≠ .dK kvs) → a ≠ c := fun e n z => by
    rw [z, hk] at e
    exact n _ (Option.some.inj e).symm
  rcases t with (t | ⟨o2, t⟩) | t
  · exact .inl (.inl (by rw [upd_ne (ne t fun _ z => nomatch z)]; exact t))
  · exact .inl (.inr ⟨o2, by rw [upd_ne (ne t fun _ z => nomatch z)]; exact t⟩)
  · exact .inr t
/-- a joint written, on both sides -/
theorem WebV.put2 (hκ : ∀ i j, κ i = κ j → i = j) (w : WebV K H κ W ns D kss g) {a b : Nat} {kvs kvs2 : List (Key × V)} {v : V} {q : Rat} (ha : a ∈ ns) (hb : b ∈ ns) (hab : a ≠ b) (hk : H (D a) = some (.dK kvs)) (hk2 : H (D b) = some (.dK kvs2)) (hv : RatV K H v q) :
    WebV K (upd (upd H (D a) (.dK (putK kvs (κ b) v))) (D b) (.dK (putK kvs2 (κ a) v))) κ W ns D (addK (addK kss a b) b a) (setJ g a b q) := by
  have hne : D b ≠ D a := fun z => hab (w.inj b hb a ha z).symm
  have w1 := w.put1 hκ (b := b) ha hk hv
  have w2 := w1.put1 hκ (b := a) hb (kvs := kvs2) (by rw [upd_ne hne]; exact hk2) ((dict_tups (K := K) hk).rat hv)
  refine w2.congr fun j _ k _ => ?_
  unfold setJ
  by_cases e1 : j = b ∧ k = a
  · rw [if_pos e1, if_pos (.inr e1)]
  · rw [if_neg e1]
    by_cases e2 : j = a ∧ k = b
    · rw [if_pos e2, if_pos (.inl e2)]
    · rw [if_neg e2, if_neg fun z => z.elim e2 e1]
theorem mem_addK {a b j k : Nat} : k ∈ addK kss a b j ↔ k ∈ kss j ∨ (j = a ∧ k = b) := by
  unfold addK
  by_cases e : j = a
  · subst e
    rw [if_pos rfl]
    by_cases h : b ∈ kss j
    · rw [if_pos h]
      exact ⟨.inl, fun z => z.elim id fun z => z.2 ▸ h⟩
    · rw [if_neg h, List.mem_append, List.mem_singleton]
      exact ⟨fun z => z.imp id fun z => ⟨rfl, z⟩, fun z => z.imp id fun z => z.2⟩
  · rw [if_neg e]
    exact ⟨.inl, fun z => z.elim id fun z => absurd z.1 e⟩
theorem addK_nd {a b j : Nat} (h : (kss j).Nodup) : (addK kss a b j).Nodup := by
  unfold addK
  by_cases e : j = a
  · subst e
    rw [if_pos rfl]
    by_cases h2 : b ∈ kss j
    · rw [if_pos h2]
      exact h
    · rw [if_neg h2, List.nodup_append]
      exact ⟨h, by simp, fun x hx y hy z => h2 (by rw [← List.mem_singleton.mp hy, ← z]; exact hx)⟩
  · rw [if_neg e]
    exact h
theorem Nb.put2 (n : Nb ns kss g) {a b : Nat} {q : Rat} (ha : a ∈ ns) (hb : b ∈ ns) (hab : a ≠ b) (hq : q ≠ 0) : Nb ns (addK (addK kss a b) b a) (setJ g a b q) := by
  refine ⟨fun j hj => addK_nd (addK_nd (n.nd j hj)), fun j hj k hk => ?_, fun j hj k hk hkj => ?_⟩
  · rw [mem_addK, mem_addK] at hk
    rcases hk with (hk | ⟨rfl, rfl⟩) | ⟨rfl, rfl⟩
    · exact n.sub j hj k hk
    · exact ⟨hb, fun z => hab z.symm⟩
    · exact ⟨ha, hab⟩
  · rw [mem_addK, mem_addK, n.iff j hj k hk hkj]
    unfold setJ
    by_cases e : (j = a ∧ k = b) ∨ (j = b ∧ k = a)
    · rw [if_pos e]
      exact ⟨fun _ => hq, fun _ => e.elim (fun e => .inl (.inr e)) .inr⟩
    · rw [if_neg e]
      exact ⟨fun z => z.elim (fun z => z.elim id fun z => absurd (.inl z) e) fun z => absurd (.inr z) e, fun z => .inl (.inl z)⟩
theorem Nb.congr (n : Nb ns kss g) (h : ∀ j ∈ ns, ∀ k ∈ ns, k ≠ j → g j k = g' j k) : Nb ns kss g' :=
  ⟨n.nd, n.sub, fun j hj k hk hkj => by rw [← h j hj k hk hkj]; exact n.iff j hj k hk hkj⟩
/-- one more node, at a new place -/
theorem WebV.snoc (w : WebV K H κ W ns D kss g) {a : Nat} {A : Addr} {kvs : List (Key × V)} (ha : a ∉ ns) (hA : H A = some (.dK kvs)) (hAW : A ≠ W) (hn : ∀ j ∈ ns, D j ≠ A) (r : RowW K H κ kvs (kss a) (g a)) :
    WebV K (upd H W (.dK (mapD κ D ns ++ [(κ a, .ref A)]))) κ W (ns ++ [a]) (fun j => if j = a then A else D j) kss g := by
  have hD : ∀ j ∈ ns, (if j = a then A else D j) = D j := fun j hj => if_neg fun (z : j = a) => ha (z ▸ hj)
  have tup := dict_tups (K := K) (kvs' := mapD κ D ns ++ [(κ a, .ref A)]) w.top
  refine ⟨?_, ?_, fun j hj => ?_, fun i hi j hj e => ?_, fun j hj => ?_⟩
  · rw [upd_same]
    unfold mapD
    rw [List.map_append]
    congr 3
    · exact List.map_congr_left fun j hj => by
        show (κ j, V.ref (D j)) = (κ j, V.ref (if j = a then A else D j))
        rw [hD j hj]
    · show _ = [(κ a, V.ref (if a = a then A else D a))]
      rw [if_pos rfl]
  · rw [List.nodup_append]
    exact ⟨w.nd, by simp, fun x hx y hy z => ha (by rw [← List.mem_singleton.mp hy, ← z]; exact hx)⟩
  · rcases List.mem_append.mp hj with hj | hj
    · rw [hD j hj]
      exact w.neW j hj
    · rw [List.mem_singleton.mp hj, if_pos rfl]
      exact hAW
  · rcases List.mem_append.mp hi with hi | hi <;> rcases List.mem_append.mp hj with hj | hj
    · rw [hD i hi, hD j hj] at e
      exact w.inj i hi j hj e
    · rw [List.mem_singleton.mp hj, if_pos rfl, hD i hi] at e
      exact absurd e (hn i hi)
    · rw [List.mem_singleton.mp hi, if_pos rfl, hD j hj] at e
      exact absurd e.symm (hn j hj)
    · rw [List.mem_singleton.mp hi, List.mem_singleton.mp hj]
  · rcases List.mem_append.mp hj with hj | hj
    · obtain ⟨kv, e1, r1⟩ := w.row j hj
      rw [hD j hj]
      exact ⟨kv, by rw [upd_ne (w.neW j hj)]; exact e1, r1.tup tup⟩
    · rw [List.mem_singleton.mp hj, if_pos rfl]
      exact ⟨kvs, by rw [upd_ne hAW]; exact hA, r.tup tup⟩
end
end Rz

set_option maxHeartbeats 4000000
/-! RzNode2: what the functions on webs promise. -/
namespace Rz
open PySem PySem.Spec PyProof.Rows L2 LamX

theorem kV_inj {a b : Key} (h : kV a = kV b) : a = b := by
  cases a with
  | inl i => cases b with
    | inl j => cases h; rfl
    | inr y => cases h
  | inr x => cases b with
    | inl j => cases h
    | inr y => cases h; rfl
theorem kV_scal (a b : Key) : scal (kV a) (kV b) = true := by
  cases a <;> cases b <;> rfl
theorem kV_flat (a : Key) : flatV (kV a) = true := by cases a <;> rfl
section
variable {K : PySem.W.Frag} {H H' : Hp} {κ : Nat → Key} {Q : VK}
theorem kV_dec (hκ : ∀ i j, κ i = κ j → i = j) (i j : Nat) : decide (kV (κ i) = kV (κ j)) = decide (i = j) := decide_eq_decide.mpr ⟨fun z => hκ _ _ (kV_inj z), fun z => by rw [z]⟩
theorem eqV_kV (a b : Key) : eqV (kV a) (kV b) = decide (a = b) := by
  cases a with
  | inl i => cases b with
    | inl j =>
      show (i == j) = _
      by_cases e : i = j
      · subst e; simp
      · rw [beq_false_of_ne e, decide_eq_false fun z => e (by cases z; rfl)]
    | inr y => exact (decide_eq_false (by simp)).symm
  | inr x => cases b with
    | inl j => exact (decide_eq_false (by simp)).symm
    | inr y =>
      show (x == y) = _
      by_cases e : x = y
      · subst e; simp
      · rw [beq_false_of_ne e, decide_eq_false fun z => e (by cases z; rfl)]
theorem inV_keys (hκ : ∀ i j, κ i = κ j → i = j) (x : Nat) (ks : List Nat) : inV (kV (κ x)) (ks.map fun j => kV (κ j)) = decide (x ∈ ks) := by
  unfold inV
  induction ks with
  | nil => rfl
  | cons k ks ih =>
    rw [List.map_cons, List.any_cons, ih, eqV_kV]
    by_cases e : x = k
    · subst e
      simp
    · rw [decide_eq_false fun z => e (hκ _ _ z).symm]
      simp [e]
theorem flat_keys (ks : List Nat) : (ks.map fun j => kV (κ j)).all flatV = true := by
  rw [List.all_map, List.all_eq_true]
  exact fun k _ => kV_flat _
theorem g_ninKeys (hκ : ∀ i j, κ i = κ j → i = j) {p : Addr} {x : Nat} {ks : List Nat} (h : SqL K H p (ks.map fun j => kV (κ j))) (q : Q (.bl (!decide (x ∈ ks))) H) : rIn K true (kV (κ x)) (.ref p) H Q :=
  ⟨p, _, rfl, .inl h, kV_flat _, flat_keys _, by rw [inV_keys hκ]; exact q⟩
theorem g_neKey (hκ : ∀ i j, κ i = κ j → i = j) {i j : Nat} (q : Q (.bl (!decide (i = j))) H) : rNe (kV (κ i)) (kV (κ j)) H Q := ⟨kV_scal _ _, by rw [kV_dec hκ]; exact q⟩
theorem g_eqKey (hκ : ∀ i j, κ i = κ j → i = j) {i j : Nat} (q : Q (.bl (decide (i = j))) H) : rEq (kV (κ i)) (kV (κ j)) H Q := ⟨kV_scal _ _, by rw [kV_dec hκ]; exact q⟩
theorem g_dgetK {a : Addr} {kvs : List (Key × V)} {k : Key} {v : V} (h : Rd H a (.dK kvs)) (e : valV kvs k = some v) (q : Q v H) : rDG (.ref a) (kV k) H Q := ⟨a, v, rfl, .inl ⟨kvs, k, h, rfl, e.symm⟩, q⟩
theorem g_lenD {a : Addr} {kvs : List (Key × V)} (h : H a = some (.dK kvs)) (q : Q (.int kvs.length) H) : (fun xs H (Q : VK) => ∃ a kvs, xs = [V.ref a] ∧ H a = some (.dK kvs) ∧ Q (.int kvs.length) H) [V.ref a] H Q := ⟨a, kvs, rfl, h, q⟩
theorem g_minKey {T : List (Addr × Str)} {j : Nat} {ta : TA} {tb : TE} {σ : L2.St} (h : ta σ H fun vs H1 => ∃ a xs, vs = [.ref a] ∧ H1 a = some (.lst xs) ∧ xs ≠ [] ∧ Tabs T H1 ∧ ∀ H2, ExtN H1 H2 → Tabs T H2 → (∀ y ∈ xs, tb (σ.set j (some y)) H2 fun v H3 => H3 = H2 ∧ ∃ n, v = .int n) ∧ ∀ y ∈ xs, Q y H2) : tMinKey T j ta tb σ H Q := h
theorem upd_lst {H0 H1 : Hp} {D : Addr} {u : HO} (hD : H0 D = none) (h : Same H0 H1) : Same H0 (upd H1 D u) := fun b o e => by
  rw [upd_ne (ne_of_none e hD)]
  exact h b o e
theorem lock_sql {d a : Addr} {kvs : List (Key × V)} {o : Obj} {xs : List V} (h0 : H d = some (.dK kvs)) (t : SqL K H a xs) : SqL K (upd H d (.frz o (.dK kvs))) a xs := by
  have ne : ∀ {u}, H a = some u → (∀ kvs, u ≠ .dK kvs) → a ≠ d := fun e n z => by
    rw [z, h0] at e
    exact n _ (Option.some.inj e).symm
  rcases t with (t | ⟨o2, t⟩) | t
  · exact .inl (.inl (by rw [upd_ne (ne t fun _ z => nomatch z)]; exact t))
  · exact .inl (.inr ⟨o2, by rw [upd_ne (ne t fun _ z => nomatch z)]; exact t⟩)
  · exact .inr t
theorem take_filt {p : Nat → Bool} {ns : List Nat} {i j : Nat} (e : ns[i]? = some j) : (ns.take (i + 1)).filter p = if p j = true then (ns.take i).filter p ++ [j] else (ns.take i).filter p := by
  rw [List.take_add_one, e, List.filter_append]
  show _ ++ List.filter p [j] = _
  rw [List.filter_cons]
  split
  · rfl
  · rw [List.filter_nil, List.append_nil]
end
def tbT (P0 : Addr) : List (Addr × Str) := [(P0, "least_joined.<locals>.<lambda>")]
/-- a node outside of kept -/
def spLeast (K : PySem.W.Frag) (P0 : Addr) : Sp := fun vs H Q _ => ∃ (κ : Nat → Key) (W lk : Addr) (ns kept : List Nat) (D : Nat → Addr) (kss : Nat → List Nat) (g : Nat → Nat → Rat), vs = [.ref W, .ref lk] ∧ (∀ i j, κ i = κ j → i = j) ∧ WebV K H κ W ns D kss g ∧ SqL K H lk (kept.map fun j => kV (κ j)) ∧ (∃ x ∈ ns, x ∉ kept) ∧ ns.length ≤ 1000 ∧ Tabs (tbT P0) H ∧
  ∀ x H', x ∈ ns → x ∉ kept → ExtN H H' → Tabs (tbT P0) H' → Q (kV (κ x)) H'
/-- all that is left is small -/
structure Sml (n : Nat) (M : Nat → Nat → Rat) : Prop where
  le : n ≤ 47
  lap : Lap n M
  bd : ∀ es, Piv n M es → ∀ i j, i < n → j < n → i ∉ es → Bd 1480 (JS M es i j)
  com : ∀ es, Piv n M es → ∀ i, i < n → i ∉ es → ∃ D L B, Com 740 D L B ∧ ∀ j, j < n → Sc L B (JS M es i j * D)
/-- a web from which es and zs were taken -/
structure WebJ (K : PySem.W.Frag) (H : Hp) (κ : Nat → Key) (n : Nat) (M : Nat → Nat → Rat) (W : Addr) (ns : List Nat) (D : Nat → Addr) (kss : Nat → List Nat) (es zs : List Nat) : Prop where
  web : WebV K H κ W ns D kss (fun j k => -JS M es j k)
  nb : Nb ns kss (fun j k => -JS M es j k)
  tk : Taken n M es zs
  inn : ∀ j ∈ ns, j < n ∧ j ∉ es ∧ j ∉ zs
  all : ∀ j, j < n → j ∈ ns ∨ j ∈ es ∨ j ∈ zs
theorem WebJ.ext {K : PySem.W.Frag} {H H' : Hp} {κ : Nat → Key} {n : Nat} {M : Nat → Nat → Rat} {W : Addr} {ns : List Nat} {D : Nat → Addr} {kss : Nat → List Nat} {es zs : List Nat} (h : WebJ K H κ n M W ns D kss es zs) (e : ExtN H H') : WebJ K H' κ n M W ns D kss es zs :=
  ⟨h.web.ext e, h.nb, h.tk, h.inn, h.all⟩
/-- the web without x -/
def spWithout (K : PySem.W.Frag) : Sp := fun vs H Q _ => ∃ (κ : Nat → Key) (n : Nat) (M : Nat → Nat → Rat) (W : Addr) (ns : List Nat) (D : Nat → Addr) (kss : Nat → List Nat) (es zs : List Nat) (x : Nat), vs = [.ref W, kV (κ x)] ∧ (∀ i j, κ i = κ j → i = j) ∧ WebJ K H κ n M W ns D kss es zs ∧ Sml n M ∧ x ∈ ns ∧
  ∀ W' D' kss' es' zs' H', Same H H' → WebJ K H' κ n M W' (ns.filter fun j => decide (j ≠ x)) D' kss' es' zs' → (es' = es ++ [x] ∧ zs' = zs ∨ es' = es ∧ zs' = zs ++ [x]) → Q (.ref W') H'
section
variable {n : Nat} {M : Nat → Nat → Rat} {es zs : List Nat}
theorem nodup_sub : ∀ (a b : List Nat), a.Nodup → (∀ x ∈ a, x ∈ b) → a.length ≤ b.length
  | [], b, _, _ => Nat.zero_le _
  | x :: a, b, hn, hs => by
    obtain ⟨h1, h2⟩ := List.nodup_cons.mp hn
    have hx := hs x List.mem_cons_self
    have ih := nodup_sub a (b.erase x) h2 fun y hy => (List.mem_erase_of_ne fun (z : y = x) => h1 (z ▸ hy)).mpr (hs y (List.mem_cons_of_mem _ hy))
    rw [List.length_erase_of_mem hx] at ih
    have := List.length_pos_of_mem hx
    rw [List.length_cons]
    omega
theorem out_of {ns kept : List Nat} (nd : ns.Nodup) (h : kept.length < ns.length) : ∃ x ∈ ns, x ∉ kept := by
  by_cases e : ∃ x ∈ ns, x ∉ kept
  · exact e
  · have : ∀ x ∈ ns, x ∈ kept := fun x hx => by
      by_cases z : x ∈ kept
      · exact z
      · exact absurd ⟨x, hx, z⟩ e
    have := nodup_sub ns kept nd this
    omega
/-- x has no neighbours left: its pivot is 0 -/
theorem Piv.lone0 (h : Piv n M es) (hL : Lap n M) {x : Nat} (hx : x < n) (hxe : x ∉ es) (h0 : ∀ k, k < n → k ≠ x → JS M es x k = 0) : JS M es x x = 0 := by
  rw [← h.around hL hx (ks := []) List.nodup_nil (fun k z => nomatch z) fun k hk hkx _ => h0 k hk hkx]
  rfl
/-- what is between j and k once x is out, pair by pair -/
def shareJ (M : Nat → Nat → Rat) (es : List Nat) (x j k : Nat) : Rat := (-JS M es x j) * (-JS M es x k) / JS M es x x
theorem share_pos (h : Piv n M es) (hL : Lap n M) {x j k : Nat} (hx : x < n) (hj : j < n) (hk : k < n) (hxe : x ∉ es) (hje : j ∉ es) (hke : k ∉ es) (hjx : j ≠ x) (hkx : k ≠ x) (h1 : JS M es x j ≠ 0) (h2 : JS M es x k ≠ 0) (h0 : JS M es x x ≠ 0) : 0 < shareJ M es x j k := by
  have a := (h.rest hL).2 x j hx hj hxe hje (fun z => hjx z.symm)
  have b := (h.rest hL).2 x k hx hk hxe hke (fun z => hkx z.symm)
  have c := (h.pos hL hx hxe).1
  have c0 : 0 < JS M es x x := by grind
  have a0 : 0 < -JS M es x j := by grind
  have b0 : 0 < -JS M es x k := by grind
  unfold shareJ
  rw [Rat.div_def]
  exact Rat.mul_pos (Rat.mul_pos a0 b0) (Rat.inv_pos.mpr c0)
end
end Rz

set_option maxHeartbeats 4000000
/-! RzNode3: a loop over all pairs; a web without a node. -/
namespace Rz
open PySem PySem.Spec PyProof.Rows L2 LamX CbR

/-! ### for one, other in combinations(xs, 2) -/
theorem next2 (n a b : Nat) : nextC n [a, b] = if b = 1 + n - 2 then (if a = 0 + n - 2 then none else some [a + 1, a + 2]) else some [a, b + 1] := by
  unfold nextC
  by_cases hb : b = 1 + n - 2
  · by_cases ha : a = 0 + n - 2
    · simp [List.range, List.range.loop, hb, ha]
    · have ha' : a ≠ n - 2 := by omega
      simp [List.range, List.range.loop, hb, ha, ha']
  · simp [List.range, List.range.loop, hb]
def bef (a b : Nat) : Nat → Nat → Prop := fun p q => p < a ∨ (p = a ∧ q < b)
section
variable {σ : L2.St} {H : Hp} {g : TG} {tb : TS} {D : Ends} {xs : List V}
theorem g_forCb {K : PySem.W.Frag} {ta : TA} (h : ta σ H fun vs H1 => ∃ (a : Addr) (xs : List V) (r : Nat), vs = [.ref a, .int (r : Int)] ∧ SqL K H1 a xs ∧ xs.length ≤ 1000000 ∧ r ≤ 1000 ∧ forW g tb D σ (ItC xs r) H1) : tFor (iCombL K ta) g tb D σ H := h
theorem for_pairs (Iv : (Nat → Nat → Prop) → L2.St → Hp → Prop) (h0 : Iv (fun _ _ => False) σ H) (hcg : ∀ P P' σ H, (∀ p q, p < q → q < xs.length → (P p q ↔ P' p q)) → Iv P σ H → Iv P' σ H)
    (hs : ∀ (a b : Nat) P σ' H' T, a < b → b < xs.length → ¬ P a b → Iv P σ' H' → H' T = none → g (.ref T) σ' (upd H' T (.tup [xs.getD a .non, xs.getD b .non])) fun σ2 H2 => tb { D with nx := Iv (fun p q => P p q ∨ (p = a ∧ q = b)), ct := Iv (fun p q => P p q ∨ (p = a ∧ q = b)), bk := D.nx } σ2 H2)
    (hd : ∀ P σ' H', (∀ p q, p < q → q < xs.length → P p q) → Iv P σ' H' → D.nx σ' H') : forW g tb D σ (ItC xs 2) H := by
  refine ⟨fun i m σ' H' => (∃ a b, seqC xs.length 2 i = some [a, b] ∧ a < b ∧ b < xs.length ∧ m = (xs.length - a) * (xs.length + 1) + (xs.length - b) ∧ Iv (bef a b) σ' H') ∨ (seqC xs.length 2 i = none ∧ ∃ P, (∀ p q, p < q → q < xs.length → P p q) ∧ Iv P σ' H'), ?_, ?_⟩
  · by_cases hn : 2 > xs.length
    · exact ⟨0, .inr ⟨by unfold seqC; rw [if_pos hn], _, (fun p q h1 h2 => by omega), h0⟩⟩
    · refine ⟨_, .inl ⟨0, 1, by unfold seqC; rw [if_neg hn]; rfl, by omega, by omega, rfl, hcg _ _ _ _ (fun p q h1 h2 => ?_) h0⟩⟩
      refine ⟨False.elim, fun (h : p < 0 ∨ (p = 0 ∧ q < 1)) => ?_⟩
      omega
  · rintro i m σ' H' (⟨a, b, e, hab, hbn, rfl, hI⟩ | ⟨e, P, hP, hI⟩)
    · refine .inr ⟨⟨_, e⟩, Iv (fun p q => bef a b p q ∨ (p = a ∧ q = b)), fun σ2 H2 h2 => ?_, ?_⟩
      · have e2 : seqC xs.length 2 (i + 1) = nextC xs.length [a, b] := by
          show (seqC xs.length 2 i).bind _ = _
          rw [e]
          rfl
        rw [next2] at e2
        have key : (xs.length - a) * (xs.length + 1) = (xs.length - a - 1) * (xs.length + 1) + (xs.length + 1) := by
          rw [← Nat.succ_mul]
          congr 1
          omega
        by_cases c1 : b = 1 + xs.length - 2
        · by_cases c2 : a = 0 + xs.length - 2
          · rw [if_pos c1, if_pos c2] at e2
            refine ⟨0, by omega, .inr ⟨e2, _, fun p q h3 h4 => ?_, h2⟩⟩
            unfold bef
            omega
          · rw [if_pos c1, if_neg c2] at e2
            have e3 : (xs.length - (a + 1)) = xs.length - a - 1 := by omega
            refine ⟨(xs.length - (a + 1)) * (xs.length + 1) + (xs.length - (a + 2)), by rw [key, e3]; omega, .inl ⟨_, _, e2, by omega, by omega, rfl, hcg _ _ _ _ (fun p q h3 h4 => ?_) h2⟩⟩
            unfold bef
            omega
        · rw [if_neg c1] at e2
          refine ⟨(xs.length - a) * (xs.length + 1) + (xs.length - (b + 1)), by omega, .inl ⟨_, _, e2, by omega, by omega, rfl, hcg _ _ _ _ (fun p q h3 h4 => ?_) h2⟩⟩
          unfold bef
          omega
      · rintro x H2 ⟨T, idx, rfl, hT, e3, rfl⟩
        rw [e] at e3
        cases e3
        exact hs a b _ σ' H' T hab hbn (by unfold bef; omega) hI hT
    · exact .inl ⟨e, hd P σ' H' hP hI⟩
end

/-! ### pairs of neighbours -/
def PJ (ks : List Nat) (P : Nat → Nat → Prop) (j k : Nat) : Prop := ∃ p q, p < q ∧ q < ks.length ∧ P p q ∧ ((ks[p]? = some j ∧ ks[q]? = some k) ∨ (ks[p]? = some k ∧ ks[q]? = some j))
noncomputable def partJ (M : Nat → Nat → Rat) (es : List Nat) (x : Nat) (P : Nat → Nat → Prop) (j k : Nat) : Rat := -JS M es j k + @ite _ (P j k) (Classical.propDecidable _) (shareJ M es x j k) 0
theorem part_t {M : Nat → Nat → Rat} {es : List Nat} {x j k : Nat} {P : Nat → Nat → Prop} (h : P j k) : partJ M es x P j k = -JS M es j k + shareJ M es x j k := by unfold partJ; rw [if_pos h]
theorem part_f {M : Nat → Nat → Rat} {es : List Nat} {x j k : Nat} {P : Nat → Nat → Prop} (h : ¬ P j k) : partJ M es x P j k = -JS M es j k := by
  unfold partJ
  rw [if_neg h]
  grind
theorem part_congr {M : Nat → Nat → Rat} {es : List Nat} {x j k : Nat} {P P' : Nat → Nat → Prop} (h : P j k ↔ P' j k) : partJ M es x P j k = partJ M es x P' j k := by
  by_cases e : P j k
  · rw [part_t e, part_t (h.mp e)]
  · rw [part_f e, part_f fun z => e (h.mpr z)]
theorem PJ.congr {ks : List Nat} {P P' : Nat → Nat → Prop} (h : ∀ p q, p < q → q < ks.length → (P p q ↔ P' p q)) (j k : Nat) : PJ ks P j k ↔ PJ ks P' j k :=
  ⟨fun ⟨p, q, a, b, c, d⟩ => ⟨p, q, a, b, (h p q a b).mp c, d⟩, fun ⟨p, q, a, b, c, d⟩ => ⟨p, q, a, b, (h p q a b).mpr c, d⟩⟩
theorem PJ.mem {ks : List Nat} {P : Nat → Nat → Prop} {j k : Nat} (h : PJ ks P j k) : j ∈ ks ∧ k ∈ ks := by
  obtain ⟨p, q, a, b, c, d⟩ := h
  rcases d with ⟨d1, d2⟩ | ⟨d1, d2⟩
  · exact ⟨List.mem_of_getElem? d1, List.mem_of_getElem? d2⟩
  · exact ⟨List.mem_of_getElem? d2, List.mem_of_getElem? d1⟩
theorem PJ.off {ks : List Nat} {P : Nat → Nat → Prop} {a b ja jb : Nat} (nd : ks.Nodup) (hab : a < b) (ea : ks[a]? = some ja) (eb : ks[b]? = some jb) (hP : ¬ P a b) : ¬ PJ ks P ja jb := by
  rintro ⟨p, q, h1, h2, h3, h4⟩
  have un : ∀ {i j v : Nat}, ks[i]? = some v → ks[j]? = some v → i = j := fun {i j v} e1 e2 => (List.getElem?_inj (List.getElem?_eq_some_iff.mp e1).1 nd).mp (e1.trans e2.symm)
  rcases h4 with ⟨d1, d2⟩ | ⟨d1, d2⟩
  · rw [un d1 ea, un d2 eb] at h3
    exact hP h3
  · have := un d1 eb
    have := un d2 ea
    omega
theorem PJ.add {ks : List Nat} {P : Nat → Nat → Prop} {a b ja jb j k : Nat} (nd : ks.Nodup) (hab : a < b) (ea : ks[a]? = some ja) (eb : ks[b]? = some jb) : PJ ks (fun p q => P p q ∨ (p = a ∧ q = b)) j k ↔ (PJ ks P j k ∨ ((j = ja ∧ k = jb) ∨ (j = jb ∧ k = ja))) := by
  constructor
  · rintro ⟨p, q, h1, h2, h3, h4⟩
    rcases h3 with h3 | ⟨rfl, rfl⟩
    · exact .inl ⟨p, q, h1, h2, h3, h4⟩
    · rw [ea, eb] at h4
      rcases h4 with ⟨d1, d2⟩ | ⟨d1, d2⟩
      · exact .inr (.inl ⟨(Option.some.inj d1).symm, (Option.some.inj d2).symm⟩)
      · exact .inr (.inr ⟨(Option.some.inj d2).symm, (Option.some.inj d1).symm⟩)
  · rintro (⟨p, q, h1, h2, h3, h4⟩ | h)
    · exact ⟨p, q, h1, h2, .inl h3, h4⟩
    · refine ⟨a, b, hab, (List.getElem?_eq_some_iff.mp eb).1, .inr ⟨rfl, rfl⟩, ?_⟩
      rcases h with ⟨rfl, rfl⟩ | ⟨rfl, rfl⟩
      · exact .inl ⟨ea, eb⟩
      · exact .inr ⟨ea, eb⟩
theorem PJ.all {ks : List Nat} {P : Nat → Nat → Prop} {j k : Nat} (hP : ∀ p q, p < q → q < ks.length → P p q) (hj : j ∈ ks) (hk : k ∈ ks) (hjk : j ≠ k) : PJ ks P j k := by
  obtain ⟨p, hp, rfl⟩ := List.mem_iff_getElem.mp hj
  obtain ⟨q, hq, rfl⟩ := List.mem_iff_getElem.mp hk
  rcases Nat.lt_trichotomy p q with h | h | h
  · exact ⟨p, q, h, hq, hP p q h hq, .inl ⟨List.getElem?_eq_getElem hp, List.getElem?_eq_getElem hq⟩⟩
  · subst h
    exact absurd rfl hjk
  · exact ⟨q, p, h, hp, hP q p h hp, .inr ⟨List.getElem?_eq_getElem hq, List.getElem?_eq_getElem hp⟩⟩

/-! ### more about webs on the heap -/
section
variable {K : PySem.W.Frag} {H H' : Hp} {κ : Nat → Key} {W : Addr} {ns : List Nat} {D : Nat → Addr} {kss : Nat → List Nat} {g g' : Nat → Nat → Rat}
theorem WebV.nil (h : H W = some (.dK [])) : WebV K H κ W [] D kss g := ⟨h, List.nodup_nil, (fun j z => nomatch z), (fun i z => nomatch z), (fun j z => nomatch z)⟩
theorem lock_tups {d : Addr} {kvs : List (Key × V)} {o : Obj} (h0 : H d = some (.dK kvs)) : TupS K H (upd H d (.frz o (.dK kvs))) := fun a xs t => by
  have ne : ∀ {u}, H a = some u → (∀ kvs, u ≠ .dK kvs) → a ≠ d := fun e n z => by
    rw [z, h0] at e
    exact n _ (Option.some.inj e).symm
  rcases t with (t | ⟨o2, t⟩) | t
  · exact .inl (.inl (by rw [upd_ne (ne t fun _ z => nomatch z)]; exact t))
  · exact .inl (.inr ⟨o2, by rw [upd_ne (ne t fun _ z => nomatch z)]; exact t⟩)
  · exact .inr t
theorem unlock_tups {d : Addr} {kvs : List (Key × V)} {o : Obj} (h0 : H d = some (.frz o (.dK kvs))) : TupS K H (upd H d (.dK kvs)) := fun a xs t => by
  rcases t with (t | ⟨o2, t⟩) | t
  · exact .inl (.inl (by rw [upd_ne fun z => by rw [z, h0] at t; exact nomatch t]; exact t))
  · exact .inl (.inr ⟨o2, by rw [upd_ne fun z => by rw [z, h0] at t; exact nomatch t]; exact t⟩)
  · exact .inr t
theorem unlock_dk {d b : Addr} {kvs kv : List (Key × V)} {o : Obj} (h0 : H d = some (.frz o (.dK kvs))) (e : H b = some (.dK kv)) : upd H d (.dK kvs) b = some (.dK kv) := by
  rw [upd_ne fun z => by rw [z, h0] at e; exact nomatch e]
  exact e
theorem WebV.unlock (w : WebV K H κ W ns D kss g) {d : Addr} {kvs : List (Key × V)} {o : Obj} (h0 : H d = some (.frz o (.dK kvs))) : WebV K (upd H d (.dK kvs)) κ W ns D kss g :=
  ⟨unlock_dk h0 w.top, w.nd, w.neW, w.inj, fun j hj => let ⟨kv, a, b⟩ := w.row j hj; ⟨kv, unlock_dk h0 a, b.tup (unlock_tups h0)⟩⟩
theorem RowW.at2 {kvs : List (Key × V)} {ks : List Nat} {f : Nat → Rat} (r : RowW K H κ kvs ks f) {t : Nat} {key : Key} {v : V} (e : kvs[t]? = some (key, v)) : ∃ k, ks[t]? = some k ∧ key = κ k ∧ RatV K H v (f k) := by
  have ht : t < ks.length := by rw [← r.len]; exact (List.getElem?_eq_some_iff.mp e).1
  obtain ⟨v', e2, h⟩ := r.at_ t _ (List.getElem?_eq_getElem ht)
  rw [e2] at e
  cases e
  exact ⟨_, List.getElem?_eq_getElem ht, rfl, h⟩
end
end Rz

set_option maxHeartbeats 4000000
/-! RzNode4: a web without a node, in numbers. -/
namespace Rz
open PySem PySem.Spec PyProof.Rows L2 LamX
section
variable {K : PySem.W.Frag} {H H' : Hp} {κ : Nat → Key} {n : Nat} {M : Nat → Nat → Rat} {W R : Addr} {ns : List Nat} {D D' : Nat → Addr} {kss kss' : Nat → List Nat} {es zs : List Nat} {x : Nat}
theorem WebJ.ks (hJ : WebJ K H κ n M W ns D kss es zs) (hx : x ∈ ns) : (kss x).Nodup ∧ (∀ k ∈ kss x, k < n ∧ k ≠ x ∧ k ∈ ns ∧ k ∉ es ∧ JS M es x k ≠ 0) := by
  refine ⟨hJ.nb.nd x hx, fun k hk => ?_⟩
  obtain ⟨h1, h2⟩ := hJ.nb.sub x hx k hk
  obtain ⟨h3, h4, _⟩ := hJ.inn k h1
  have h5 := (hJ.nb.iff x hx k h1 h2).mp hk
  exact ⟨h3, h2, h1, h4, fun z => h5 (by show -JS M es x k = 0; rw [z]; rfl)⟩
theorem WebJ.off (hJ : WebJ K H κ n M W ns D kss es zs) (hL : Lap n M) (hx : x ∈ ns) {k : Nat} (hk : k < n) (hkx : k ≠ x) (hn : k ∉ kss x) : JS M es x k = 0 := by
  obtain ⟨hxn, hxe, _⟩ := hJ.inn x hx
  rcases hJ.all k hk with z | z | z
  · have := mt (hJ.nb.iff x hx k z hkx).mpr hn
    have e : -JS M es x k = 0 := by
      by_cases y : -JS M es x k = 0
      · exact y
      · exact absurd y this
    grind
  · exact hJ.tk.piv.zero x k (fun y => hkx y.symm) z
  · rw [(hJ.tk.piv.rest hL).1 x k hxn hk hxe (hJ.tk.zn k z).2]
    exact hJ.tk.zr k z x hxn
theorem WebJ.nsl (hJ : WebJ K H κ n M W ns D kss es zs) (hS : Sml n M) : ns.length ≤ 47 := Nat.le_trans (nodup_leN n ns hJ.web.nd fun j hj => (hJ.inn j hj).1) hS.le
theorem WebJ.ksl (hJ : WebJ K H κ n M W ns D kss es zs) (hS : Sml n M) (hx : x ∈ ns) : (kss x).length ≤ 47 := Nat.le_trans (nodup_leN n _ (hJ.ks hx).1 fun j hj => ((hJ.ks hx).2 j hj).1) hS.le
/-- all that is around x -/
theorem WebJ.sums (hJ : WebJ K H κ n M W ns D kss es zs) (hS : Sml n M) (hx : x ∈ ns) : (∀ q ∈ (kss x).map fun k => -JS M es x k, Bd 1486 q) ∧ (∀ c, c ≤ ((kss x).map fun k => -JS M es x k).length → Bd 1486 (sumR (((kss x).map fun k => -JS M es x k).take c))) ∧ sumR ((kss x).map fun k => -JS M es x k) = JS M es x x := by
  obtain ⟨hxn, hxe, _⟩ := hJ.inn x hx
  obtain ⟨nd, hk⟩ := hJ.ks hx
  refine ⟨fun q hq => ?_, ?_, ?_⟩
  · obtain ⟨k, hk2, rfl⟩ := List.mem_map.mp hq
    exact ((hS.bd es hJ.tk.piv x k hxn (hk k hk2).1 hxe).neg).mono (by decide)
  · obtain ⟨Dd, L, B, hC, hc⟩ := hS.com es hJ.tk.piv x hxn hxe
    refine hC.total (by rw [List.length_map]; have := hJ.ksl hS hx; omega) fun q hq => ?_
    obtain ⟨k, hk2, rfl⟩ := List.mem_map.mp hq
    have := (hc k (hk k hk2).1).neg
    rw [show -JS M es x k * Dd = -(JS M es x k * Dd) by grind]
    exact this
  · rw [sumR_foldr]
    exact hJ.tk.piv.around hS.lap hxn nd (fun k hk2 => ⟨(hk k hk2).1, (hk k hk2).2.1⟩) fun k h1 h2 h3 => hJ.off hS.lap hx h1 h2 h3
/-- a pair of neighbours is joined -/
theorem WebJ.joint (hJ : WebJ K H κ n M W ns D kss es zs) (hS : Sml n M) (hx : x ∈ ns) {P : Nat → Nat → Prop} {a b ja jb : Nat} (hab : a < b) (ea : (kss x)[a]? = some ja) (eb : (kss x)[b]? = some jb) (hP : ¬ P a b) :
    ja ≠ jb ∧ JS M es x x ≠ 0 ∧ partJ M es x (PJ (kss x) P) ja jb = -JS M es ja jb ∧ Bd 1480 (-JS M es ja jb) ∧ Bd 1480 (-JS M es x ja) ∧ Bd 1480 (-JS M es x jb) ∧ Bd 1480 (JS M es x x) ∧ -JS M es ja jb + shareJ M es x ja jb ≠ 0 ∧
      ∀ j k, setJ (partJ M es x (PJ (kss x) P)) ja jb (-JS M es ja jb + shareJ M es x ja jb) j k = partJ M es x (PJ (kss x) fun p q => P p q ∨ (p = a ∧ q = b)) j k := by
  obtain ⟨hxn, hxe, _⟩ := hJ.inn x hx
  obtain ⟨nd, hk⟩ := hJ.ks hx
  obtain ⟨a1, a2, a3, a4, a5⟩ := hk ja (List.mem_of_getElem? ea)
  obtain ⟨b1, b2, b3, b4, b5⟩ := hk jb (List.mem_of_getElem? eb)
  have hne : ja ≠ jb := fun z => by
    have := (List.getElem?_inj (List.getElem?_eq_some_iff.mp ea).1 nd).mp (ea.trans (z ▸ eb.symm))
    omega
  have hp := hJ.tk.piv
  have h0 : JS M es x x ≠ 0 := fun z => a5 ((hp.pos hS.lap hxn hxe).2 z ja a1)
  have hsh := share_pos hp hS.lap hxn a1 b1 hxe a4 b4 a2 b2 a5 b5 h0
  have hneg := (hp.rest hS.lap).2 ja jb a1 b1 a4 b4 hne
  have hsym := (hp.rest hS.lap).1 ja jb a1 b1 a4 b4
  have hss : shareJ M es x ja jb = shareJ M es x jb ja := by
    unfold shareJ
    rw [Rat.mul_comm (-JS M es x ja)]
  have bd := fun i j hi hj he => (hS.bd es hp i j hi hj he)
  refine ⟨hne, h0, part_f (PJ.off nd hab ea eb hP), (bd ja jb a1 b1 a4).neg, (bd x ja hxn a1 hxe).neg, (bd x jb hxn b1 hxe).neg, bd x x hxn hxn hxe, fun z => ?_, fun j k => ?_⟩
  · grind
  · unfold setJ
    by_cases e : (j = ja ∧ k = jb) ∨ (j = jb ∧ k = ja)
    · rw [if_pos e, part_t ((PJ.add nd hab ea eb).mpr (.inr e))]
      rcases e with ⟨rfl, rfl⟩ | ⟨rfl, rfl⟩
      · rfl
      · rw [hsym, hss]
    · rw [if_neg e]
      exact part_congr ⟨fun z => (PJ.add nd hab ea eb).mpr (.inl z), fun z => ((PJ.add nd hab ea eb).mp z).resolve_right e⟩
/-- all pairs are joined: x is out -/
theorem WebJ.done (hJ : WebJ K H κ n M W ns D kss es zs) (hS : Sml n M) (hx : x ∈ ns) {P : Nat → Nat → Prop} (hP : ∀ p q, p < q → q < (kss x).length → P p q) (w : WebV K H' κ R (ns.filter fun j => decide (j ≠ x)) D' kss' (partJ M es x (PJ (kss x) P))) (nb : Nb (ns.filter fun j => decide (j ≠ x)) kss' (partJ M es x (PJ (kss x) P))) :
    ∃ es' zs', WebJ K H' κ n M R (ns.filter fun j => decide (j ≠ x)) D' kss' es' zs' ∧ (es' = es ++ [x] ∧ zs' = zs ∨ es' = es ∧ zs' = zs ++ [x]) := by
  obtain ⟨hxn, hxe, hxz⟩ := hJ.inn x hx
  obtain ⟨nd, hk⟩ := hJ.ks hx
  have hp := hJ.tk.piv
  have hf : ∀ {j}, j ∈ ns.filter (fun j => decide (j ≠ x)) → j ∈ ns ∧ j ≠ x := fun hj => ⟨(List.mem_filter.mp hj).1, of_decide_eq_true (List.mem_filter.mp hj).2⟩
  have hfi : ∀ {j}, j ∈ ns → j ≠ x → j ∈ ns.filter (fun j => decide (j ≠ x)) := fun h1 h2 => List.mem_filter.mpr ⟨h1, decide_eq_true h2⟩
  by_cases h0 : JS M es x x = 0
  · have hks : kss x = [] := List.eq_nil_iff_forall_not_mem.mpr fun k hk2 => (hk k hk2).2.2.2.2 ((hp.pos hS.lap hxn hxe).2 h0 k (hk k hk2).1)
    have eg : ∀ j k, partJ M es x (PJ (kss x) P) j k = -JS M es j k := fun j k => part_f fun z => by
      have := z.mem.1
      rw [hks] at this
      exact nomatch this
    refine ⟨es, zs ++ [x], ⟨w.congr fun j _ k _ => eg j k, nb.congr fun j _ k _ _ => eg j k, hJ.tk.lone hS.lap hxn hxe h0, fun j hj => ?_, fun j hj => ?_⟩, .inr ⟨rfl, rfl⟩⟩
    · obtain ⟨h1, h2⟩ := hf hj
      obtain ⟨h3, h4, h5⟩ := hJ.inn j h1
      exact ⟨h3, h4, fun z => (List.mem_append.mp z).elim h5 fun z => h2 (List.mem_singleton.mp z)⟩
    · by_cases e : j = x
      · exact .inr (.inr (List.mem_append_right _ (List.mem_singleton.mpr e)))
      · rcases hJ.all j hj with z | z | z
        · exact .inl (hfi z e)
        · exact .inr (.inl z)
        · exact .inr (.inr (List.mem_append_left _ z))
  · have eg : ∀ j ∈ ns.filter (fun j => decide (j ≠ x)), ∀ k ∈ ns.filter (fun j => decide (j ≠ x)), k ≠ j → partJ M es x (PJ (kss x) P) j k = -JS M (es ++ [x]) j k := fun j hj k hk2 hkj => by
      obtain ⟨j1, j2⟩ := hf hj
      obtain ⟨k1, k2⟩ := hf hk2
      obtain ⟨j3, j4, _⟩ := hJ.inn j j1
      obtain ⟨k3, k4, _⟩ := hJ.inn k k1
      rw [hp.between hS.lap hxn j3 hxe j4 j2 h0]
      by_cases m1 : j ∈ kss x
      · by_cases m2 : k ∈ kss x
        · rw [part_t (PJ.all hP m1 m2 fun z => hkj z.symm)]
          rfl
        · rw [part_f fun z => m2 z.mem.2, hJ.off hS.lap hx k3 k2 m2]
          grind
      · rw [part_f fun z => m1 z.mem.1, hJ.off hS.lap hx j3 j2 m1]
        grind
    refine ⟨es ++ [x], zs, ⟨w.congr fun j hj k hk2 => eg j hj k (nb.sub j hj k hk2).1 (nb.sub j hj k hk2).2, nb.congr eg, hJ.tk.out hxn hxe hxz h0, fun j hj => ?_, fun j hj => ?_⟩, .inl ⟨rfl, rfl⟩⟩
    · obtain ⟨h1, h2⟩ := hf hj
      obtain ⟨h3, h4, h5⟩ := hJ.inn j h1
      exact ⟨h3, fun z => (List.mem_append.mp z).elim h4 fun z => h2 (List.mem_singleton.mp z), h5⟩
    · by_cases e : j = x
      · exact .inr (.inl (List.mem_append_right _ (List.mem_singleton.mpr e)))
      · rcases hJ.all j hj with z | z | z
        · exact .inl (hfi z e)
        · exact .inr (.inl (List.mem_append_left _ z))
        · exact .inr (.inr z)
end
end Rz

set_option maxHeartbeats 4000000
/-! RzNode5: what thinned, table_in and entry promise. -/
namespace Rz
open PySem PySem.Spec PyProof.Rows L2 LamX
section
variable {K : PySem.W.Frag} {H H' H2 : Hp} {κ : Nat → Key} {n : Nat} {M : Nat → Nat → Rat} {W R S : Addr} {ns : List Nat} {D : Nat → Addr} {kss : Nat → List Nat} {es zs : List Nat} {g : Nat → Nat → Rat} {ys : List V}
/-! ### a list is written, all else is kept -/
theorem kp_tups (h : H S = some (.lst ys)) (k : Kp S H H') : TupS K H H' := fun a xs t => by
  rcases t with (t | ⟨o2, t⟩) | t
  · exact .inl (.inl (k _ _ (fun z => by rw [z, h] at t; exact nomatch t) t))
  · exact .inl (.inr ⟨o2, k _ _ (fun z => by rw [z, h] at t; exact nomatch t) t⟩)
  · exact .inr t
theorem kp_dk (h : H S = some (.lst ys)) (k : Kp S H H') {a : Addr} {kvs : List (Key × V)} (e : H a = some (.dK kvs)) : H' a = some (.dK kvs) := k _ _ (fun z => by rw [z, h] at e; exact nomatch e) e
theorem kp_sql (h : H S = some (.lst ys)) (k : Kp S H H') {a : Addr} {xs : List V} (ha : a ≠ S) (t : SqL K H a xs) : SqL K H' a xs := by
  rcases t with (t | ⟨o2, t⟩) | t
  · exact .inl (.inl (k _ _ ha t))
  · exact .inl (.inr ⟨o2, k _ _ ha t⟩)
  · exact .inr t
theorem kp_tabs {T : List (Addr × Str)} (h : H S = some (.lst ys)) (k : Kp S H H') (t : Tabs T H) : Tabs T H' := fun p hp => by
  obtain ⟨ps, h1, h2, h3⟩ := t p hp
  refine ⟨ps, k _ _ (fun z => by rw [z, h] at h1; exact nomatch h1) h1, h2, fun pos cv hc => ?_⟩
  obtain ⟨c, e1, e2⟩ := h3 pos cv hc
  refine ⟨c, e1, k _ _ (fun z => ?_) e2⟩
  rw [z, h] at e2
  unfold CodeO at e2
  exact nomatch e2
theorem kp_upd {u : HO} : Kp S H (upd H S u) := fun b o n e => by rw [upd_ne n]; exact e
theorem RowW.kp {kvs : List (Key × V)} {ks : List Nat} {f : Nat → Rat} (r : RowW K H κ kvs ks f) (h : H S = some (.lst ys)) (k : Kp S H H') : RowW K H' κ kvs ks f := r.tup (kp_tups h k)
theorem WebV.kp (w : WebV K H κ W ns D kss g) (h : H S = some (.lst ys)) (k : Kp S H H') : WebV K H' κ W ns D kss g :=
  ⟨kp_dk h k w.top, w.nd, w.neW, w.inj, fun j hj => let ⟨kvs, a, b⟩ := w.row j hj; ⟨kvs, kp_dk h k a, b.kp h k⟩⟩
theorem WebJ.kp (w : WebJ K H κ n M W ns D kss es zs) (h : H S = some (.lst ys)) (k : Kp S H H') : WebJ K H' κ n M W ns D kss es zs := ⟨w.web.kp h k, w.nb, w.tk, w.inn, w.all⟩
theorem ext_fresh {u : HO} (hS : H S = none) (h : ExtN H H') : ExtN H (upd H' S u) := fun b o e no => by
  rw [upd_ne (ne_of_none e hS)]
  exact h b o e no
end
/-- all but kept are taken out -/
def spThin (K : PySem.W.Frag) (P0 : Addr) : Sp := fun vs H Q _ => ∃ (κ : Nat → Key) (n : Nat) (M : Nat → Nat → Rat) (W lk : Addr) (ns kept : List Nat) (D : Nat → Addr) (kss : Nat → List Nat) (es zs : List Nat), vs = [.ref W, .ref lk] ∧ (∀ i j, κ i = κ j → i = j) ∧ WebJ K H κ n M W ns D kss es zs ∧ Sml n M ∧
  SqL K H lk (kept.map fun j => kV (κ j)) ∧ (∀ j ∈ kept, j ∈ ns) ∧ kept.Nodup ∧ (∀ e ∈ es, e ∉ kept) ∧ (∀ e ∈ zs, e ∉ kept) ∧ Tabs (tbT P0) H ∧
  ∀ p ls W' ns' D' kss' es' zs' H', ExtN H H' → Tabs (tbT P0) H' → SqT K H' p [.ref ls, .ref W'] → WebJ K H' κ n M W' ns' D' kss' es' zs' → (∀ j ∈ ns', j ∈ kept) → (∀ j ∈ kept, j ∈ ns') → (∀ e ∈ es', e ∉ kept) → (∀ e ∈ zs', e ∉ kept) → Q (.ref p) H'
/-- what a node's dict says of a table's cell -/
def cellQ (ks : List Nat) (f : Nat → Rat) (i j : Nat) : Rat := if i = j then sumR (ks.map f) else if j ∈ ks then -f j else 0
def spEntry (K : PySem.W.Frag) : Sp := fun vs H Q _ => ∃ (κ : Nat → Key) (A : Addr) (i j : Nat) (kvs : List (Key × V)) (ks : List Nat) (f : Nat → Rat), vs = [.ref A, kV (κ i), kV (κ j)] ∧ (∀ i j, κ i = κ j → i = j) ∧ H A = some (.dK kvs) ∧ RowW K H κ kvs ks f ∧ (∀ q ∈ ks.map f, Bd 1486 q) ∧ (∀ c, c ≤ (ks.map f).length → Bd 1486 (sumR ((ks.map f).take c))) ∧
  ∀ v H', Same H H' → RatV K H' v (cellQ ks f i j) → Q v H'
def spTableIn (K : PySem.W.Frag) (P0 : Addr) : Sp := fun vs H Q _ => ∃ (κ : Nat → Key) (n : Nat) (M : Nat → Nat → Rat) (W lk : Addr) (ns kept : List Nat) (D : Nat → Addr) (kss : Nat → List Nat) (es zs : List Nat), vs = [.ref W, .ref lk] ∧ (∀ i j, κ i = κ j → i = j) ∧ WebJ K H κ n M W ns D kss es zs ∧ Sml n M ∧
  SqL K H lk (kept.map fun j => kV (κ j)) ∧ (∀ j ∈ kept, j ∈ ns) ∧ kept.Nodup ∧ (∀ e ∈ es, e ∉ kept) ∧ (∀ e ∈ zs, e ∉ kept) ∧ Tabs (tbT P0) H ∧
  ∀ v es' zs' H', ExtN H H' → Tabs (tbT P0) H' → Taken n M es' zs' → (∀ e ∈ es', e ∉ kept) → (∀ e ∈ zs', e ∉ kept) → (∀ j, j < n → j ∈ kept ∨ j ∈ es' ∨ j ∈ zs') → TabV K H' v (keptM kept (JS M es')) → Q v H'
section
variable {K : PySem.W.Frag} {H H' : Hp} {κ : Nat → Key} {n : Nat} {M : Nat → Nat → Rat} {W : Addr} {ns : List Nat} {D : Nat → Addr} {kss : Nat → List Nat} {es zs : List Nat}
/-- a cell is the table's -/
theorem WebJ.cell (hJ : WebJ K H κ n M W ns D kss es zs) (hS : Sml n M) {i j : Nat} (hi : i ∈ ns) (hj : j ∈ ns) : cellQ (kss i) (fun k => -JS M es i k) i j = JS M es i j := by
  unfold cellQ
  by_cases e : i = j
  · subst e
    rw [if_pos rfl]
    exact (hJ.sums hS hi).2.2
  · rw [if_neg e]
    by_cases m : j ∈ kss i
    · rw [if_pos m]
      grind
    · rw [if_neg m]
      exact (hJ.off hS.lap hi (hJ.inn j hj).1 (fun z => e z.symm) m).symm
theorem key_at {ks : List Nat} {i : Nat} {x : V} (h : (ks.map fun j => kV (κ j))[i]? = some x) : ∃ j, ks[i]? = some j ∧ x = kV (κ j) := by
  rw [List.getElem?_map] at h
  cases e : ks[i]? with
  | none => rw [e] at h; cases h
  | some j => rw [e] at h; cases h; exact ⟨j, rfl, rfl⟩
end
section
variable {K : PySem.W.Frag} {σ : L2.St} {H : Hp} {κ : Nat → Key} {vs : List Nat} {i₀ : Nat} {Q : VK} {te : TE} {a : Addr}
/-- a list of ratios, one a key -/
theorem row_lcKK {ks : List Nat} {f : Nat → Rat} (h : SqL K H a (ks.map fun j => kV (κ j))) (hb : ks.length ≤ 1000) (hw : ∀ x, wipe ((wipe σ vs).set i₀ (some x)) vs = wipe σ vs)
    (hs : ∀ j H' (Qk : VK), Same H H' → j ∈ ks → (∀ v H3, Same H' H3 → RatV K H3 v (f j) → Qk v H3) → te ((wipe σ vs).set i₀ (some (kV (κ j)))) H' Qk)
    (k : ∀ l us H', Same H H' → H l = none → H' l = some (.lst us) → Rats K H' us (ks.map f) → Q (.ref l) H') : rItL K (lcW (gName i₀) tYes te vs σ Q) (.ref a) H := by
  refine g_lcLst h (fun l i acc H' => Same H H' ∧ H' l = some (.lst acc) ∧ Rats K H' acc ((ks.take i).map f)) hw (fun l hl => ⟨up_same hl, upd_same, Rats.nil⟩) (fun l i acc H' _ h2 => ext_sql (ext_of h2.1) h) ?_ ?_
  · rintro l i x acc H' hl0 hx ⟨sm, el, hr⟩
    obtain ⟨m, hm, rfl⟩ := key_at hx
    have hil := (List.getElem?_eq_some_iff.mp hm).1
    refine hs m H' _ sm (List.mem_of_getElem? hm) fun v H3 s3 hv => ?_
    have el3 := s3 _ _ el
    have hal : acc.length = i := by rw [hr.len, List.length_map, List.length_take]; omega
    have kt := kp_tups (K := K) el3 (kp_upd (u := .lst (acc ++ [v])))
    refine lcN_of el3 (by omega) ⟨upd_lst hl0 (sm.trans s3), upd_same, ?_⟩
    have hr3 := kt.rats (hr.same s3)
    have hv3 := kt.rat hv
    have et : (ks.take (i + 1)).map f = (ks.take i).map f ++ [f m] := by rw [List.take_add_one, hm, List.map_append]; rfl
    rw [et]
    refine ⟨by rw [List.length_append, List.length_append, hr3.len]; rfl, fun t x q e1 e2 => ?_⟩
    by_cases hlt : t < acc.length
    · rw [List.getElem?_append_left hlt] at e1
      rw [List.getElem?_append_left (by rw [← hr3.len]; exact hlt)] at e2
      exact hr3.at_ t x q e1 e2
    · have et : t = acc.length := by
        have := (List.getElem?_eq_some_iff.mp e1).1
        rw [List.length_append, List.length_singleton] at this
        omega
      subst et
      rw [List.getElem?_append_right (Nat.le_refl _), Nat.sub_self] at e1
      rw [hr3.len, List.getElem?_append_right (Nat.le_refl _), Nat.sub_self] at e2
      cases e1
      cases e2
      exact hv3
  · rintro l acc H' hl0 ⟨sm, el, hr⟩
    rw [List.length_map, List.take_length] at hr
    exact k l acc H' sm hl0 el hr
theorem tab_lcKK {kept : List Nat} {A : Nat → Nat → Rat} (h : SqL K H a (kept.map fun j => kV (κ j))) (hb : kept.length ≤ 1000) (hw : ∀ x, wipe ((wipe σ vs).set i₀ (some x)) vs = wipe σ vs)
    (hs : ∀ i H' (Qk : VK), Same H H' → i ∈ kept → (∀ v H3, Same H' H3 → TRowV K H3 v (kept.map fun j => A i j) → Qk v H3) → te ((wipe σ vs).set i₀ (some (kV (κ i)))) H' Qk)
    (k : ∀ l us H', Same H H' → H l = none → H' l = some (.lst us) → TabL K H' us (keptM kept A) → Q (.ref l) H') : rItL K (lcW (gName i₀) tYes te vs σ Q) (.ref a) H := by
  refine g_lcLst h (fun l i acc H' => Same H H' ∧ H' l = some (.lst acc) ∧ acc.length = i ∧ ∀ (j : Nat) v, acc[j]? = some v → TRowV K H' v (kept.map fun b => A (kept.getD j 0) b)) hw (fun l hl => ⟨up_same hl, upd_same, rfl, fun j v z => by simp at z⟩) (fun l i acc H' _ h2 => ext_sql (ext_of h2.1) h) ?_ ?_
  · rintro l i x acc H' hl0 hx ⟨sm, el, hacc, ho⟩
    obtain ⟨m, hm, rfl⟩ := key_at hx
    refine hs m H' _ sm (List.mem_of_getElem? hm) fun v H3 s3 hv => ?_
    have el3 := s3 _ _ el
    have hil := (List.getElem?_eq_some_iff.mp hm).1
    have kt := kp_tups (K := K) el3 (kp_upd (u := .lst (acc ++ [v])))
    have tr : ∀ {u : V} {r0 : Row}, TRowV K H3 u r0 → TRowV K (upd H3 l (.lst (acc ++ [v]))) u r0 := fun ⟨p, xs, e1, e2, e3⟩ => ⟨p, xs, e1, kt _ _ e2, kt.rats e3⟩
    refine lcN_of el3 (by omega) ⟨upd_lst hl0 (sm.trans s3), upd_same, by rw [List.length_append, hacc]; rfl, fun j w z => ?_⟩
    rcases at_snoc z with ⟨h1, h2⟩ | ⟨h1, rfl⟩
    · exact tr ((ho j w h2).same s3)
    · rw [h1, hacc]
      have e : kept.getD i 0 = m := by rw [List.getD_eq_getElem?_getD, hm]; rfl
      rw [e]
      exact tr hv
  · rintro l acc H' hl0 ⟨sm, el, hacc, ho⟩
    rw [List.length_map] at hacc
    refine k l acc H' sm hl0 el ⟨by unfold keptM; rw [List.length_map, hacc], fun i v z => ?_⟩
    have hi : i < kept.length := by rw [← hacc]; exact (List.getElem?_eq_some_iff.mp z).1
    have := ho i v z
    rw [List.getD_eq_getElem?_getD, List.getElem?_eq_getElem hi] at this
    rw [keptM_row hi]
    exact this
end
end Rz

set_option maxHeartbeats 4000000
/-! RzNode6: a web from a list of joints. -/
namespace Rz
open PySem PySem.Spec PyProof.Rows L2 LamX
abbrev Joint := Nat × Nat × Rat
def jstep (g : Nat → Nat → Rat) (e : Joint) : Nat → Nat → Rat := if e.1 = e.2.1 then g else setJ g e.1 e.2.1 (g e.1 e.2.1 + e.2.2)
def jfold (js : List Joint) : Nat → Nat → Rat := js.foldl jstep fun _ _ => 0
theorem jfold_snoc {js : List Joint} {e : Joint} : jfold (js ++ [e]) = jstep (jfold js) e := by
  unfold jfold
  rw [List.foldl_append]
  rfl
theorem jfold_take {js : List Joint} {i : Nat} {e : Joint} (h : js[i]? = some e) : jfold (js.take (i + 1)) = jstep (jfold (js.take i)) e := by
  rw [List.take_add_one, h]
  exact jfold_snoc
theorem jfold_nn : ∀ (js : List Joint) (g : Nat → Nat → Rat), (∀ e ∈ js, 0 < e.2.2) → (∀ j k, 0 ≤ g j k) → ∀ j k, 0 ≤ js.foldl jstep g j k
  | [], g, _, hg => hg
  | e :: js, g, h, hg => jfold_nn js (jstep g e) (fun x hx => h x (List.mem_cons_of_mem _ hx)) fun j k => by
    have h0 := h e List.mem_cons_self
    unfold jstep
    split
    · exact hg j k
    · unfold setJ
      split
      · have := hg e.1 e.2.1
        grind
      · exact hg j k
theorem jfold_pos {js : List Joint} {i : Nat} (h : ∀ e ∈ js, 0 < e.2.2) (j k : Nat) : 0 ≤ jfold (js.take i) j k := jfold_nn _ _ (fun e he => h e (List.mem_of_mem_take he)) (fun _ _ => Rat.le_refl) j k
/-- the joints as the program has them -/
structure JsL (K : PySem.W.Frag) (H : Hp) (κ : Nat → Key) (ts : List Addr) (js : List Joint) : Prop where
  len : ts.length = js.length
  at_ : ∀ (e : Nat) t a b q, ts[e]? = some t → js[e]? = some (a, b, q) → ∃ v, SqT K H t [kV (κ a), kV (κ b), v] ∧ RatV K H v q
theorem JsL.same {K : PySem.W.Frag} {H H' : Hp} {κ : Nat → Key} {ts : List Addr} {js : List Joint} (h : JsL K H κ ts js) (s : Same H H') : JsL K H' κ ts js := ⟨h.len, fun e t a b q x y => let ⟨v, c, d⟩ := h.at_ e t a b q x y; ⟨v, Same.sqt s c, d.same s⟩⟩
def spWebFrom (K : PySem.W.Frag) : Sp := fun vs H Q _ => ∃ (κ : Nat → Key) (ns : List Nat) (ln lj : Addr) (ts : List Addr) (js : List Joint), vs = [.ref ln, .ref lj] ∧ (∀ i j, κ i = κ j → i = j) ∧ SqL K H ln (ns.map fun j => kV (κ j)) ∧ ns.length ≤ 1000 ∧ SqL K H lj (ts.map V.ref) ∧ JsL K H κ ts js ∧
  (∀ e ∈ js, e.1 ∈ ns ∧ e.2.1 ∈ ns ∧ 0 < e.2.2 ∧ Bd 3000 e.2.2) ∧ (∀ c, c ≤ js.length → ∀ j ∈ ns, ∀ k ∈ ns, Bd 3000 (jfold (js.take c) j k)) ∧
  ∀ W ns' D kss H', Same H H' → WebV K H' κ W ns' D kss (jfold js) → Nb ns' kss (jfold js) → (∀ j, j ∈ ns' ↔ j ∈ ns) → Q (.ref W) H'
section
variable {K : PySem.W.Frag} {H H' : Hp} {κ : Nat → Key} {W : Addr} {ns : List Nat} {D : Nat → Addr} {kss : Nat → List Nat} {g : Nat → Nat → Rat}
theorem mapD_put (hκ : ∀ i j, κ i = κ j → i = j) {j : Nat} (hj : j ∈ ns) (A : Addr) : putK (mapD κ D ns) (κ j) (.ref A) = mapD κ (fun k => if k = j then A else D k) ns := by
  unfold putK
  rw [if_pos (by rw [valV_any, mapD_get hκ hj]; rfl)]
  unfold mapD
  rw [List.map_map]
  refine List.map_congr_left fun k hk => ?_
  show (if κ k = κ j then (κ k, V.ref A) else (κ k, V.ref (D k))) = (κ k, V.ref (if k = j then A else D k))
  by_cases e : k = j
  · rw [if_pos (by rw [e]), if_pos e]
  · rw [if_neg fun z => e (hκ _ _ z), if_neg e]
theorem WebV.again (w : WebV K H κ W ns D kss g) {a : Nat} {A : Addr} {kvs : List (Key × V)} (ha : a ∈ ns) (hA : H A = some (.dK kvs)) (hAW : A ≠ W) (hn : ∀ j ∈ ns, D j ≠ A) (r : RowW K H κ kvs (kss a) (g a)) :
    WebV K (upd H W (.dK (mapD κ (fun k => if k = a then A else D k) ns))) κ W ns (fun j => if j = a then A else D j) kss g := by
  have tup := dict_tups (K := K) (kvs' := mapD κ (fun k => if k = a then A else D k) ns) w.top
  refine ⟨upd_same, w.nd, fun j hj => ?_, fun i hi j hj e => ?_, fun j hj => ?_⟩
  · show (if j = a then A else D j) ≠ W
    split
    · exact hAW
    · exact w.neW j hj
  · have e : (if i = a then A else D i) = (if j = a then A else D j) := e
    by_cases ei : i = a <;> by_cases ej : j = a
    · rw [ei, ej]
    · rw [if_pos ei, if_neg ej] at e
      exact absurd e.symm (hn j hj)
    · rw [if_neg ei, if_pos ej] at e
      exact absurd e (hn i hi)
    · rw [if_neg ei, if_neg ej] at e
      exact w.inj i hi j hj e
  · show ∃ kvs, upd H W _ (if j = a then A else D j) = some (.dK kvs) ∧ _
    by_cases e : j = a
    · subst e
      rw [if_pos rfl]
      exact ⟨kvs, by rw [upd_ne hAW]; exact hA, r.tup tup⟩
    · obtain ⟨kv, e1, r1⟩ := w.row j hj
      rw [if_neg e]
      exact ⟨kv, by rw [upd_ne (w.neW j hj)]; exact e1, r1.tup tup⟩
end
section
variable {K : PySem.W.Frag} {σ : L2.St} {H : Hp} {g : TG} {te : TE} {tt : TT} {ta : TA} {vs : List Nat} {Q : VK}
theorem g_lcZM (h : ta σ H fun vs1 H1 => ∃ a b xs ys, vs1 = [.ref a, .ref b] ∧ SqL K H1 a xs ∧ SqT K H1 b ys ∧ lcW g tt te vs σ Q (ItzM K a b) H1) : tLc (iZipM K ta) g tt te vs σ H Q := h
theorem lc_zipM {a b : Addr} {xs ys : List V} (hl : xs.length = ys.length) (Pv : Addr → Nat → List V → Hp → Prop) (h0 : ∀ D, H D = none → Pv D 0 [] (upd H D (.lst [])))
    (hf : ∀ D i acc H', H D = none → Pv D i acc H' → SqL K H' a xs ∧ SqT K H' b ys)
    (hs : ∀ D (i : Nat) x y acc H' T, H D = none → xs[i]? = some x → ys[i]? = some y → Pv D i acc H' → H' T = none → g (.ref T) (wipe σ vs) (upd H' T (.tup [x, y])) fun σ2 H2 => wipe σ2 vs = wipe σ vs ∧ te σ2 H2 fun y H4 => ∃ a2, H4 D = some (.lst a2) ∧ a2.length < sizeLine ∧ ∃ a3, Pv D (i + 1) a3 (upd H4 D (.lst (a2 ++ [y]))))
    (he : ∀ D acc H', H D = none → Pv D xs.length acc H' → Q (.ref D) H') : lcW g tYes te vs σ Q (ItzM K a b) H := by
  intro D hD
  refine ⟨fun i m H' => m = xs.length - i ∧ i ≤ xs.length ∧ ∃ acc, Pv D i acc H', ⟨_, rfl, Nat.zero_le _, [], h0 D hD⟩, ?_⟩
  rintro i m H' ⟨rfl, hi, acc, p⟩
  obtain ⟨qa, qb⟩ := hf D i acc H' hD p
  by_cases hlt : i < xs.length
  · have e1 := List.getElem?_eq_getElem hlt
    have e2 := List.getElem?_eq_getElem (show i < ys.length by omega)
    refine .inr ⟨⟨xs, ys, _, _, qa, qb, e1, e2⟩, fun H2 => ∃ a3, Pv D (i + 1) a3 H2, fun H2 p' => ⟨xs.length - (i + 1), by omega, rfl, hlt, p'⟩, fun v H2 y => ?_⟩
    obtain ⟨T, x, y, rfl, hT, rfl, f1, f2⟩ := y
    exact hs D i x y acc H' T hD (f1 xs qa) (f2 ys qb) p hT
  · have e : i = xs.length := by omega
    subst e
    exact .inl ⟨⟨xs, ys, qa, qb, rfl, hl.symm⟩, he D acc H' hD p⟩
end
/-! ### the joints of a net -/
def kI (j : Nat) : Key := .inl ((j : Int) + 1)
theorem kI_inj : ∀ i j, kI i = kI j → i = j := fun i j h => by
  unfold kI at h
  have := Sum.inl.inj h
  omega
def netJs (rows : Rows) (qs : List Rat) (E : Nat) : List Joint := (List.range E).map fun (e : Nat) => (nodeOf rows (2 * (e : Int)), nodeOf rows (2 * (e : Int) + 1), qs.getD e 0)
theorem netJs_len {rows : Rows} {qs : List Rat} {E : Nat} : (netJs rows qs E).length = E := by unfold netJs; rw [List.length_map, List.length_range]
theorem netJs_take {rows : Rows} {qs : List Rat} {E c : Nat} (h : c ≤ E) : (netJs rows qs E).take c = netJs rows qs c := by
  unfold netJs
  rw [← List.map_take, List.take_range, Nat.min_eq_left h]
theorem netJs_at {rows : Rows} {qs : List Rat} {E e a b : Nat} {q : Rat} (h : (netJs rows qs E)[e]? = some (a, b, q)) : e < E ∧ a = nodeOf rows (2 * (e : Int)) ∧ b = nodeOf rows (2 * (e : Int) + 1) ∧ q = qs.getD e 0 := by
  have he : e < E := by
    have := (List.getElem?_eq_some_iff.mp h).1
    rw [netJs_len] at this
    exact this
  unfold netJs at h
  rw [List.getElem?_map, List.getElem?_range he] at h
  cases h
  exact ⟨he, rfl, rfl, rfl⟩
/-- their sums are the table off the diagonal -/
theorem netJs_lap {rows : Rows} {qs : List Rat} {j k : Nat} (hjk : j ≠ k) : ∀ c, jfold (netJs rows qs c) j k = -lapK rows qs c j k
  | 0 => by
    show (0 : Rat) = -sumN 0 fun e => edgeM rows qs e j k
    rw [sumN]
    grind
  | c + 1 => by
    have e1 : netJs rows qs (c + 1) = netJs rows qs c ++ [(nodeOf rows (2 * (c : Int)), nodeOf rows (2 * (c : Int) + 1), qs.getD c 0)] := by
      unfold netJs
      rw [List.range_succ, List.map_append]
      rfl
    have ih := netJs_lap hjk c (rows := rows) (qs := qs)
    rw [e1, jfold_snoc]
    show jstep _ _ j k = -(sumN (c + 1) fun e => edgeM rows qs e j k)
    rw [sumN]
    have e2 : lapK rows qs c j k = sumN c fun e => edgeM rows qs e j k := rfl
    rw [e2] at ih
    unfold jstep
    simp only
    obtain ⟨a, ha⟩ : ∃ a, a = nodeOf rows (2 * (c : Int)) := ⟨_, rfl⟩
    obtain ⟨b, hb⟩ : ∃ b, b = nodeOf rows (2 * (c : Int) + 1) := ⟨_, rfl⟩
    have e3 : edgeM rows qs c j k = qs.getD c 0 * (chi a b j * chi a b k) := by
      unfold edgeM
      rw [← ha, ← hb]
    have ihs := netJs_lap (fun z => hjk z.symm) c (rows := rows) (qs := qs) (j := k) (k := j)
    have sy : lapK rows qs c k j = sumN c fun e => edgeM rows qs e j k := sumN_congr fun e _ => by
      unfold edgeM
      grind
    rw [sy] at ihs
    rw [e3, ← ha, ← hb]
    unfold chi
    by_cases hab : a = b
    · rw [if_pos hab, ih, hab]
      grind
    · rw [if_neg hab]
      unfold setJ
      have c1 : ∀ x y : Nat, x ≠ y → ((if x = x then (1 : Rat) else 0) - if x = y then 1 else 0) = 1 := fun x y h => by
        rw [if_pos rfl, if_neg h]
        grind
      have c2 : ∀ x y : Nat, x ≠ y → ((if y = x then (1 : Rat) else 0) - if y = y then 1 else 0) = -1 := fun x y h => by
        rw [if_pos rfl, if_neg fun z => h z.symm]
        grind
      by_cases h1 : j = a ∧ k = b
      · rw [if_pos (.inl h1), ← h1.1, ← h1.2, ih, c1 j k hjk, c2 j k hjk]
        grind
      · by_cases h2 : j = b ∧ k = a
        · rw [if_pos (.inr h2), ← h2.1, ← h2.2, ihs, c2 k j (fun z => hjk z.symm), c1 k j (fun z => hjk z.symm)]
          grind
        · rw [if_neg (fun z => z.elim h1 h2), ih]
          have : ((if j = a then (1 : Rat) else 0) - if j = b then 1 else 0) * ((if k = a then 1 else 0) - if k = b then 1 else 0) = 0 := by
            by_cases p1 : j = a
            · have p2 : j ≠ b := fun z => hab (p1.symm.trans z)
              have p3 : k ≠ a := fun z => hjk (p1.trans z.symm)
              have p4 : k ≠ b := fun z => h1 ⟨p1, z⟩
              rw [if_pos p1, if_neg p2, if_neg p3, if_neg p4]
              grind
            · by_cases p2 : j = b
              · have p3 : k ≠ b := fun z => hjk (p2.trans z.symm)
                have p4 : k ≠ a := fun z => h2 ⟨p2, z⟩
                rw [if_neg p1, if_pos p2, if_neg p4, if_neg p3]
                grind
              · rw [if_neg p1, if_neg p2]
                grind
          rw [this]
          grind
theorem edge_scB {rows : Rows} {qs : List Rat} {B e i j : Nat} (h : Sc 12 B (qs.getD e 0)) : Sc 12 B (edgeM rows qs e i j) := by
  unfold edgeM
  obtain ⟨x, hx⟩ : ∃ x, x = chi (nodeOf rows (2 * (e : Int))) (nodeOf rows (2 * (e : Int) + 1)) i * chi (nodeOf rows (2 * (e : Int))) (nodeOf rows (2 * (e : Int) + 1)) j := ⟨_, rfl⟩
  have : x = 0 ∨ x = 1 ∨ x = -1 := by
    rw [hx]
    unfold chi
    by_cases e1 : i = nodeOf rows (2 * (e : Int)) <;> by_cases e2 : i = nodeOf rows (2 * (e : Int) + 1) <;> by_cases e3 : j = nodeOf rows (2 * (e : Int)) <;> by_cases e4 : j = nodeOf rows (2 * (e : Int) + 1) <;> simp only [e1, e2, e3, e4, if_true, if_false] <;> grind
  rw [← hx]
  rcases this with rfl | rfl | rfl
  · rw [Rat.mul_zero]
    exact Sc.zero
  · rw [Rat.mul_one]
    exact h
  · rw [show qs.getD e 0 * -1 = -qs.getD e 0 by grind]
    exact h.neg
theorem lap_scB {rows : Rows} {qs : List Rat} {B k i j : Nat} (h : ∀ e, e < k → Sc 12 B (qs.getD e 0)) : Sc 12 (k * B) (lapK rows qs k i j) := sumN_sc fun e he => edge_scB (h e he)
def spWebOf (K : PySem.W.Frag) : Sp := fun vs H Q _ => ∃ (v : V) (rim : Nat) (rows : Rows) (qs : List Rat) (E B : Nat), vs = [v] ∧ NetV K H v rim rows qs ∧ WF rows E ∧ qs.length = E ∧ E ≤ 40 ∧ E * B ≤ 2880 ∧ rows.length ≤ 47 ∧ (∀ e, e < E → 0 < qs.getD e 0) ∧ (∀ e, e < E → Sc 12 B (qs.getD e 0)) ∧
  ∀ W ns D kss H', Same H H' → WebJ K H' kI rows.length (lapK rows qs E) W ns D kss [] [] → (∀ j, j ∈ ns ↔ j < rows.length) → Q (.ref W) H'
theorem sml_net {rows : Rows} {qs : List Rat} {E B : Nat} (hW : WF rows E) (hB : E * B ≤ 2880) (hl : rows.length ≤ 47) (hp : ∀ e, e < E → 0 < qs.getD e 0) (hsc : ∀ e, e < E → Sc 12 B (qs.getD e 0)) : Sml rows.length (lapK rows qs E) := by
  have hS : ∀ i j, i < rows.length → j < rows.length → Sc 12 2880 (lapK rows qs E i j) := fun i j _ _ => (lap_scB hsc).mono hB
  have h1 : 12 ^ rows.length < 2 ^ 740 := Nat.lt_of_le_of_lt (Nat.pow_le_pow_right (by decide) hl) (by decide +kernel)
  have h2 : fct rows.length * 2880 ^ rows.length < 2 ^ 740 := Nat.lt_of_le_of_lt (Nat.mul_le_mul (fct_mono hl) (Nat.pow_le_pow_right (by decide) hl)) (by decide +kernel)
  exact ⟨hl, lap_lap hW hp, fun es hP i j hi hj he => hP.bd2 hS (by decide) (by decide) h1 h2 hi hj he, fun es hP i hi he => hP.common hS (by decide) (by decide) h1 h2 hi he⟩
theorem jfold_diag : ∀ (js : List Joint) (g : Nat → Nat → Rat), (∀ j, g j j = 0) → ∀ j, js.foldl jstep g j j = 0
  | [], g, hg => hg
  | e :: js, g, hg => jfold_diag js (jstep g e) fun j => by
    unfold jstep
    by_cases h : e.1 = e.2.1
    · rw [if_pos h]
      exact hg j
    · rw [if_neg h]
      unfold setJ
      rw [if_neg fun z => z.elim (fun z => h (z.1.symm.trans z.2)) fun z => h (z.2.symm.trans z.1)]
      exact hg j
theorem netJs_bd {rows : Rows} {qs : List Rat} {E B c j k : Nat} (hE : E * B ≤ 2880) (hc : c ≤ E) (hsc : ∀ e, e < E → Sc 12 B (qs.getD e 0)) : Bd 3000 (jfold ((netJs rows qs E).take c) j k) := by
  rw [netJs_take hc]
  by_cases h : j = k
  · subst h
    have : jfold (netJs rows qs c) j j = 0 := jfold_diag _ _ (fun _ => rfl) j
    rw [this]
    exact Bd.zero.mono (by decide)
  · rw [netJs_lap h]
    have h1 := ((lap_scB (rows := rows) (i := j) (j := k) fun e he => hsc e (show e < E by omega)).mono (Nat.le_trans (Nat.mul_le_mul_right _ hc) hE)).neg
    exact (h1.bd (k := 12) (by decide) (by decide) (by decide)).mono (by decide)
theorem keysI (n : Nat) : rgV 1 ((n : Int) + 1) = (List.range n).map fun j => kV (kI j) := by
  unfold rgV
  rw [show ((n : Int) + 1 - 1).toNat = n by omega]
  refine List.map_congr_left fun i _ => ?_
  show V.int (1 + (i : Int)) = V.int ((i : Int) + 1)
  rw [Int.add_comm]
def spTableOfE (K : PySem.W.Frag) (P0 : Addr) : Sp := fun vs H Q _ => ∃ (v : V) (rim : Nat) (rows : Rows) (qs : List Rat) (E : Nat), vs = [v] ∧ NetV K H v rim rows qs ∧ WF rows E ∧ qs.length = E ∧ E ≤ 40 ∧ rows.length ≤ 47 ∧ rim ≤ rows.length ∧ (∀ e, e < E → 0 < qs.getD e 0) ∧ (∀ e, e < E → Sc 12 72 (qs.getD e 0)) ∧ Tabs (tbT P0) H ∧
  ∀ v' H' es, Whole rows.length rim (lapK rows qs E) es → ExtN H H' → Tabs (tbT P0) H' → TabV K H' v' (keptM (List.range rim) (JS (lapK rows qs E) es)) → Q v' H'
end Rz

set_option maxHeartbeats 4000000
/-! RzRes: eliminations that keep a list of nodes; resistances. -/
namespace Rz
open PySem PySem.Spec PyProof.Rows L2 LamX

/-- an elimination that leaves nothing beside kept -/
structure KeptE (n : Nat) (M : Nat → Nat → Rat) (kept es : List Nat) : Prop where
  piv : Piv n M es
  out : ∀ e ∈ es, e ∉ kept
  rest : ∀ x, x < n → x ∉ kept → x ∉ es → ∀ j, j < n → JS M es x j = 0
section
variable {n : Nat} {M : Nat → Nat → Rat} {kept es es' zs : List Nat}
theorem keptE_rest (hL : Lap n M) : ∀ a, a ≤ n → ∀ x, x < a → x ∉ kept → x ∉ esL M kept a → ∀ j, j < n → JS M (esL M kept a) x j = 0
  | 0, _, x, hx, _, _ => absurd hx (Nat.not_lt_zero _)
  | a + 1, ha, x, hx, hxr, hxe => fun j hj => by
    have hP := esL_piv (n := n) (M := M) (kept := kept) a (by omega)
    by_cases hc : a ∉ kept ∧ JS M (esL M kept a) a a ≠ 0
    · have e1 : esL M kept (a + 1) = esL M kept a ++ [a] := if_pos hc
      rw [e1] at hxe ⊢
      have hxa : x ≠ a := fun z => hxe (List.mem_append_right _ (List.mem_singleton.mpr z))
      have ih := keptE_rest hL a (by omega) x (by omega) hxr fun z => hxe (List.mem_append_left _ z)
      rw [JS_snoc]
      unfold elimX
      rw [if_neg hxa, ih j hj, ih a (by omega)]
      grind
    · have e1 : esL M kept (a + 1) = esL M kept a := if_neg hc
      rw [e1] at hxe ⊢
      by_cases hxa : x = a
      · subst hxa
        have h0 : JS M (esL M kept x) x x = 0 := by
          by_cases y : JS M (esL M kept x) x x = 0
          · exact y
          · exact absurd ⟨hxr, y⟩ hc
        exact (hP.pos hL (show x < n by omega) hxe).2 h0 j hj
      · exact keptE_rest hL a (by omega) x (by omega) hxr hxe j hj
theorem KeptE.law (hL : Lap n M) : KeptE n M kept (esL M kept n) := ⟨esL_piv n (Nat.le_refl _), fun e he => esL_kept n e he, fun x hx hk he => keptE_rest hL n (Nat.le_refl _) x hx hk he⟩
theorem KeptE.of (h : Taken n M es zs) (h1 : ∀ e ∈ es, e ∉ kept) (h2 : ∀ j, j < n → j ∈ kept ∨ j ∈ es ∨ j ∈ zs) : KeptE n M kept es :=
  ⟨h.piv, h1, fun x hx hk he => h.zr x (((h2 x hx).resolve_left hk).resolve_left he)⟩
theorem KeptE.done (hL : Lap n M) (h : KeptE n M kept es) : ∀ i e, i < n → e < n → i ∈ kept → e ∉ kept → JS M es i e = 0 := fun i e hi he hk hek => by
  have hie : i ∉ es := fun z => h.out i z hk
  by_cases z : e ∈ es
  · exact h.piv.zero i e (fun y => hek (y ▸ hk)) z
  · rw [(h.piv.rest hL).1 i e hi he hie z]
    exact h.rest e he hek z i hi
theorem KeptE.same (hL : Lap n M) (h : KeptE n M kept es) (h' : KeptE n M kept es') {i j : Nat} (hi : i < n) (hj : j < n) (ki : i ∈ kept) (kj : j ∈ kept) : JS M es i j = JS M es' i j :=
  Piv.same (K := fun x => x ∈ kept) hL h.piv h'.piv h.out h'.out (fun i e hi he a b => h.done hL i e hi he a b) (fun i e hi he a b => h'.done hL i e hi he a b) hi hj ki kj
theorem KeptE.perm {kept' : List Nat} (h : KeptE n M kept es) (e : ∀ x, x ∈ kept' ↔ x ∈ kept) : KeptE n M kept' es := ⟨h.piv, fun x hx z => h.out x hx ((e x).mp z), fun x hx hk he => h.rest x hx (fun z => hk ((e x).mpr z)) he⟩
theorem KeptE.ne (h : KeptE n M kept es) {i : Nat} (hi : i ∈ kept) : i ∉ es := fun z => h.out i z hi
theorem KeptE.sym (hL : Lap n M) (h : KeptE n M kept es) {i j : Nat} (hi : i < n) (hj : j < n) (ki : i ∈ kept) (kj : j ∈ kept) : JS M es i j = JS M es j i := (h.piv.rest hL).1 i j hi hj (h.ne ki) (h.ne kj)
theorem KeptE.neg (hL : Lap n M) (h : KeptE n M kept es) {i j : Nat} (hi : i < n) (hj : j < n) (ki : i ∈ kept) (kj : j ∈ kept) (hij : i ≠ j) : 0 ≤ -JS M es i j := by
  have := (h.piv.rest hL).2 i j hi hj (h.ne ki) (h.ne kj) hij
  grind
/-- a row over the kept nodes sums up to 0 -/
theorem KeptE.row (hL : Lap n M) (h : KeptE n M kept es) (hn : kept.Nodup) (hk : ∀ k ∈ kept, k < n) {i : Nat} (hi : i ∈ kept) : (kept.map fun k => JS M es i k).foldr (· + ·) 0 = 0 := by
  rw [sum_keys (n := n) kept hn hk]
  refine Eq.trans (sumN_congr fun k hkn => ?_) (h.piv.sum hL i (hk i hi))
  by_cases e : k ∈ kept
  · rw [if_pos e]
  · rw [if_neg e]
    exact (h.done hL i k (hk i hi) hkn hi e).symm
/-- one of the kept nodes is taken out too -/
theorem KeptE.drop (hL : Lap n M) {c : Nat} (h : KeptE n M (c :: kept) es) (hc : c < n) (hck : c ∉ kept) : ∃ es2, KeptE n M kept es2 ∧ ∀ i j, i < n → j < n → i ∈ kept → j ∈ kept → -JS M es2 i j = -JS M es i j + if JS M es c c = 0 then 0 else (-JS M es c i) * (-JS M es c j) / JS M es c c := by
  have hce := h.ne (List.mem_cons_self (a := c))
  by_cases h0 : JS M es c c = 0
  · refine ⟨es, ⟨h.piv, fun e he z => h.out e he (List.mem_cons_of_mem _ z), fun x hx hk he j hj => ?_⟩, fun i j _ _ _ _ => by rw [if_pos h0]; grind⟩
    by_cases e : x = c
    · subst e
      exact (h.piv.pos hL hc hce).2 h0 j hj
    · exact h.rest x hx (fun z => (List.mem_cons.mp z).elim e hk) he j hj
  · refine ⟨es ++ [c], ⟨.snoc h.piv hc hce h0, fun e he z => ?_, fun x hx hk he j hj => ?_⟩, fun i j hi hj ki kj => ?_⟩
    · rcases List.mem_append.mp he with y | y
      · exact h.out e y (List.mem_cons_of_mem _ z)
      · exact hck (List.mem_singleton.mp y ▸ z)
    · have hxc : x ≠ c := fun z => he (List.mem_append_right _ (List.mem_singleton.mpr z))
      have hr := h.rest x hx (fun z => (List.mem_cons.mp z).elim hxc hk) fun z => he (List.mem_append_left _ z)
      rw [JS_snoc]
      unfold elimX
      rw [if_neg hxc, hr j hj, hr c hc]
      grind
    · rw [if_neg h0]
      exact h.piv.between hL hc hi hce (h.ne (List.mem_cons_of_mem _ ki)) (fun z => hck (z ▸ ki)) h0
end

/-! ### three nodes -/
section
variable {n : Nat} {M : Nat → Nat → Rat} {a b c : Nat} {es3 es : List Nat}
/-- what is between a and b, out of three -/
theorem pair_of (hL : Lap n M) (h3 : KeptE n M [c, a, b] es3) (h : KeptE n M [a, b] es) (ha : a < n) (hb : b < n) (hc : c < n) (hab : a ≠ b) (hca : c ≠ a) (hcb : c ≠ b) :
    -JS M es a b = -JS M es3 a b + if -JS M es3 c a + -JS M es3 c b = 0 then 0 else (-JS M es3 c a) * (-JS M es3 c b) / (-JS M es3 c a + -JS M es3 c b) := by
  have hck : c ∉ [a, b] := by simp [hca, hcb]
  obtain ⟨es2, h2, e2⟩ := h3.drop hL hc hck
  have ka : a ∈ [a, b] := List.mem_cons_self
  have kb : b ∈ [a, b] := List.mem_cons_of_mem _ List.mem_cons_self
  rw [h.same hL h2 ha hb ka kb, e2 a b ha hb ka kb]
  have hr := h3.row hL (by simp [hca, hcb, hab]) (fun k hk => by simp at hk; rcases hk with rfl | rfl | rfl <;> assumption) (i := c) List.mem_cons_self
  have hr2 : JS M es3 c c + (JS M es3 c a + (JS M es3 c b + 0)) = 0 := hr
  have ed : JS M es3 c c = -JS M es3 c a + -JS M es3 c b := by grind
  rw [ed]
end
/-- the sum of two resistances is not below the third -/
theorem tri_ineq {x y z : Rat} (hx : 0 ≤ x) (hy : 0 ≤ y) (hz : 0 ≤ z) (gab gbc gac : Rat) (e1 : gab = x + if z + y = 0 then 0 else z * y / (z + y)) (e2 : gbc = y + if x + z = 0 then 0 else x * z / (x + z)) (e3 : gac = z + if x + y = 0 then 0 else x * y / (x + y)) (h1 : gab ≠ 0) (h2 : gbc ≠ 0) :
    gac ≠ 0 ∧ 0 ≤ 1 / gab + 1 / gbc - 1 / gac := by
  have nn : ∀ {p q : Rat}, 0 ≤ p → 0 ≤ q → p + q = 0 → p = 0 ∧ q = 0 := fun hp hq h => by
    constructor <;> grind
  have pos : ∀ {p q : Rat}, 0 ≤ p → 0 ≤ q → p + q ≠ 0 → 0 < p + q := fun hp hq h => by grind
  obtain ⟨S, hS⟩ : ∃ S, S = x * y + y * z + z * x := ⟨_, rfl⟩
  have xy : 0 ≤ x * y := Rat.mul_nonneg hx hy
  have yz : 0 ≤ y * z := Rat.mul_nonneg hy hz
  have zx : 0 ≤ z * x := Rat.mul_nonneg hz hx
  have hS0 : S ≠ 0 := fun s0 => by
    have p1 : x * y = 0 := by grind
    have p2 : y * z = 0 := by grind
    have p3 : z * x = 0 := by grind
    have q1 : z * y = 0 := by grind
    have q2 : x * z = 0 := by grind
    have g1 : gab = x := by
      rw [e1, q1]
      split <;> grind
    have g2 : gbc = y := by
      rw [e2, q2]
      split <;> grind
    rw [g1] at h1
    rw [g2] at h2
    rcases Rat.mul_eq_zero.mp p1 with w | w
    · exact h1 w
    · exact h2 w
  have nz : ∀ {p q : Rat}, 0 ≤ p → 0 ≤ q → p + q = 0 → p = 0 ∧ q = 0 := nn
  have k1 : z + y ≠ 0 := fun h => by
    obtain ⟨a, b⟩ := nn hz hy h
    exact hS0 (by rw [hS, a, b]; grind)
  have k2 : x + z ≠ 0 := fun h => by
    obtain ⟨a, b⟩ := nn hx hz h
    exact hS0 (by rw [hS, a, b]; grind)
  have k3 : x + y ≠ 0 := fun h => by
    obtain ⟨a, b⟩ := nn hx hy h
    exact hS0 (by rw [hS, a, b]; grind)
  rw [if_neg k1] at e1
  rw [if_neg k2] at e2
  rw [if_neg k3] at e3
  have f1 : gab = S / (z + y) := by rw [e1, hS]; grind
  have f2 : gbc = S / (x + z) := by rw [e2, hS]; grind
  have f3 : gac = S / (x + y) := by rw [e3, hS]; grind
  have iv : ∀ p : Rat, p ≠ 0 → 1 / (S / p) = p / S := fun p hp => by grind
  refine ⟨fun w => ?_, ?_⟩
  · rw [f3] at w
    have : S = 0 := by grind
    exact hS0 this
  · rw [f1, f2, f3, iv _ k1, iv _ k2, iv _ k3]
    have e : (z + y) / S + (x + z) / S - (x + y) / S = 2 * z / S := by grind
    have hSp : 0 < S := by grind
    rw [e, Rat.div_def]
    exact Rat.mul_nonneg (by grind) (Rat.le_of_lt (Rat.inv_pos.mpr hSp))

/-! ### energy -/
def quad (n : Nat) (M : Nat → Nat → Rat) (d : Nat → Rat) : Rat := sumN n fun i => d i * sumN n fun j => M i j * d j
section
variable {n : Nat} {M M' : Nat → Nat → Rat} {a b : Nat} {es es' : List Nat}
theorem sumN_sub {n : Nat} {f g : Nat → Rat} : sumN n (fun i => f i + g i) = sumN n f + sumN n g := by
  have := sumN_add (n := n) (f := f) (g := g) (c := 1)
  rw [Rat.one_mul] at this
  rw [← this]
  exact sumN_congr fun i _ => by rw [Rat.one_mul]
theorem quad_swap {d f : Nat → Rat} : (sumN n fun i => d i * sumN n fun j => M i j * f j) = sumN n fun j => (sumN n fun i => d i * M i j) * f j := by
  have e1 : (sumN n fun i => d i * sumN n fun j => M i j * f j) = sumN n fun i => sumN n fun j => d i * M i j * f j := sumN_congr fun i _ => by
    rw [← sumN_mul]
    exact sumN_congr fun j _ => by grind
  rw [e1, sumN_swap]
  refine sumN_congr fun j _ => ?_
  rw [show (sumN n fun i => d i * M i j) * f j = f j * sumN n fun i => d i * M i j by grind, ← sumN_mul]
  exact sumN_congr fun i _ => by grind
/-- the least energy between a and b is the table's -/
theorem KeptE.energy (hL : Lap n M) (h : KeptE n M [a, b] es) (ha : a < n) (hb : b < n) (hab : a ≠ b) (hP : ∀ d, 0 ≤ quad n M d) : ∃ u : Nat → Rat, u a = 1 ∧ u b = 0 ∧ quad n M u = -JS M es a b ∧ ∀ y : Nat → Rat, y a = 1 → y b = 0 → -JS M es a b ≤ quad n M y := by
  have ka : a ∈ [a, b] := List.mem_cons_self
  have kb : b ∈ [a, b] := List.mem_cons_of_mem _ List.mem_cons_self
  obtain ⟨u, u1, u2, u3⟩ := h.piv.comb a ha
  have hua := u3 (h.ne ka)
  have hub := u2 b (fun z => hab z.symm) (h.ne kb)
  have hr : JS M es a a + (JS M es a b + 0) = 0 := h.row hL (by simp [hab]) (fun k hk => by simp at hk; rcases hk with rfl | rfl <;> assumption) ka
  have hz : ∀ j, j < n → j ≠ a → j ≠ b → JS M es a j = 0 := fun j hj h1 h2 => h.done hL a j ha hj ka (by simp [h1, h2])
  have one : ∀ f : Nat → Rat, f a = 1 → f b = 0 → (sumN n fun j => JS M es a j * f j) = -JS M es a b := fun f h1 h2 => by
    rw [sumN_one ha fun k hk hka => ?_]
    · rw [h1]
      grind
    · by_cases e : k = b
      · rw [e, h2]
        grind
      · rw [hz k hk hka e]
        grind
  have sw : ∀ f : Nat → Rat, (sumN n fun i => u i * sumN n fun j => M i j * f j) = sumN n fun j => JS M es a j * f j := fun f => by
    rw [quad_swap]
    exact sumN_congr fun j _ => by rw [u1]
  refine ⟨u, hua, hub, ?_, fun y y1 y2 => ?_⟩
  · show (sumN n fun i => u i * sumN n fun j => M i j * u j) = _
    rw [sw, one u hua hub]
  · have e : quad n M (fun i => y i + (-1) * u i) = quad n M y + JS M es a b := by
      have s1 : (sumN n fun i => u i * sumN n fun j => M i j * y j) = -JS M es a b := by rw [sw, one y y1 y2]
      have s2 : (sumN n fun i => u i * sumN n fun j => M i j * u j) = -JS M es a b := by rw [sw, one u hua hub]
      have s3 : (sumN n fun i => y i * sumN n fun j => M i j * u j) = sumN n fun i => u i * sumN n fun j => M i j * y j := by
        rw [quad_swap]
        refine sumN_congr fun j hj => ?_
        rw [Rat.mul_comm]
        congr 1
        exact sumN_congr fun i hi => by rw [hL.sym i j hi hj, Rat.mul_comm]
      unfold quad
      have e1 : ∀ i, (sumN n fun j => M i j * (y j + (-1) * u j)) = (sumN n fun j => M i j * y j) + (-1) * sumN n fun j => M i j * u j := fun i => by
        rw [← sumN_add]
        exact sumN_congr fun j _ => by grind
      have e2 : (sumN n fun i => (y i + (-1) * u i) * sumN n fun j => M i j * (y j + (-1) * u j)) = ((sumN n fun i => y i * sumN n fun j => M i j * y j) + (-1) * sumN n fun i => y i * sumN n fun j => M i j * u j) + (-1) * ((sumN n fun i => u i * sumN n fun j => M i j * y j) + (-1) * sumN n fun i => u i * sumN n fun j => M i j * u j) := by
        rw [← sumN_add, ← sumN_add, ← sumN_add]
        refine sumN_congr fun i _ => ?_
        rw [e1]
        grind
      rw [e2, s3, s1, s2]
      grind
    have := hP fun i => y i + (-1) * u i
    rw [e] at this
    grind
/-- more between two nodes, more between all -/
theorem KeptE.mono (hL : Lap n M) (hL' : Lap n M') (h : KeptE n M [a, b] es) (h' : KeptE n M' [a, b] es') (ha : a < n) (hb : b < n) (hab : a ≠ b) (hP : ∀ d, 0 ≤ quad n M d) (hP' : ∀ d, 0 ≤ quad n M' d) (hm : ∀ d, quad n M d ≤ quad n M' d) : -JS M es a b ≤ -JS M' es' a b := by
  obtain ⟨u, u1, u2, u3, u4⟩ := h'.energy hL' ha hb hab hP'
  obtain ⟨_, _, _, _, v4⟩ := h.energy hL ha hb hab hP
  have h1 := v4 u u1 u2
  have h2 := hm u
  rw [u3] at h2
  exact Rat.le_trans h1 h2
end
/-- the energy of a net, edge by edge -/
theorem quad_lap {rows : Rows} {qs : List Rat} {d : Nat → Rat} : ∀ (E : Nat), (∀ e : Nat, e < E → nodeOf rows (2 * (e : Int)) < rows.length ∧ nodeOf rows (2 * (e : Int) + 1) < rows.length) → quad rows.length (lapK rows qs E) d = sumN E fun (e : Nat) => qs.getD e 0 * ((d (nodeOf rows (2 * (e : Int))) - d (nodeOf rows (2 * (e : Int) + 1))) * (d (nodeOf rows (2 * (e : Int))) - d (nodeOf rows (2 * (e : Int) + 1))))
  | 0, _ => by
    rw [sumN]
    unfold quad
    refine sumN_zero fun i _ => ?_
    rw [sumN_zero fun j _ => ?_]
    · grind
    · show (0 : Rat) * d j = 0
      grind
  | E + 1, hn => by
    have ih := quad_lap E (fun e he => hn e (by omega)) (d := d) (qs := qs)
    rw [sumN, ← ih]
    obtain ⟨a, ha⟩ : ∃ a, a = nodeOf rows (2 * (E : Int)) := ⟨_, rfl⟩
    obtain ⟨b, hb⟩ : ∃ b, b = nodeOf rows (2 * (E : Int) + 1) := ⟨_, rfl⟩
    obtain ⟨h1, h2⟩ := hn E (by omega)
    rw [← ha] at h1
    rw [← hb] at h2
    rw [← ha, ← hb]
    have chs : (sumN rows.length fun j => chi a b j * d j) = d a - d b := by
      have e : (sumN rows.length fun j => chi a b j * d j) = sumN rows.length fun j => d a * (if j = a then (1 : Rat) else 0) + (-(d b)) * (if j = b then (1 : Rat) else 0) := sumN_congr fun j _ => by
        unfold chi
        by_cases e1 : j = a
        · by_cases e2 : j = b
          · rw [if_pos e1, if_pos e2, e1, ← e2, e1]
            grind
          · rw [if_pos e1, if_neg e2, e1]
            grind
        · by_cases e2 : j = b
          · rw [if_neg e1, if_pos e2, e2]
            grind
          · rw [if_neg e1, if_neg e2]
            grind
      rw [e, sumN_add, sumN_mul, sum_dl h1, sum_dl h2]
      grind
    unfold quad
    have e1 : ∀ i, (sumN rows.length fun j => lapK rows qs (E + 1) i j * d j) = (sumN rows.length fun j => lapK rows qs E i j * d j) + (qs.getD E 0 * chi a b i) * (d a - d b) := fun i => by
      rw [← chs, ← sumN_add]
      refine sumN_congr fun j _ => ?_
      rw [lapK_succ]
      unfold edgeM
      rw [← ha, ← hb]
      grind
    have e2 : (sumN rows.length fun i => d i * sumN rows.length fun j => lapK rows qs (E + 1) i j * d j) = sumN rows.length fun i => d i * (sumN rows.length fun j => lapK rows qs E i j * d j) + (qs.getD E 0 * (d a - d b)) * (chi a b i * d i) := sumN_congr fun i _ => by
      rw [e1]
      grind
    rw [e2, sumN_add, chs]
    grind
end Rz

set_option maxHeartbeats 4000000
/-! RzRes2: resistances, what is promised. -/
namespace Rz
open PySem PySem.Spec PyProof.Rows L2 LamX
/-- the resistance between two nodes: none where no current goes -/
def ResO (n : Nat) (M : Nat → Nat → Rat) (a b : Nat) (o : Option Rat) : Prop := (a = b ∧ o = some 0) ∨ (a ≠ b ∧ ∃ es, KeptE n M [a, b] es ∧ o = if JS M es a b = 0 then none else some (1 / -JS M es a b))
section
variable {n : Nat} {M M' : Nat → Nat → Rat} {a b c : Nat} {o o' : Option Rat} {p q : Rat}
theorem ResO.uniq (hL : Lap n M) (ha : a < n) (hb : b < n) (h : ResO n M a b o) (h' : ResO n M a b o') : o = o' := by
  rcases h with ⟨e, h⟩ | ⟨e, es, k, h⟩ <;> rcases h' with ⟨e', h'⟩ | ⟨e', es', k', h'⟩
  · rw [h, h']
  · exact absurd e e'
  · exact absurd e' e
  · rw [h, h', k.same hL k' ha hb List.mem_cons_self (List.mem_cons_of_mem _ List.mem_cons_self)]
theorem ResO.symm (hL : Lap n M) (ha : a < n) (hb : b < n) (h : ResO n M a b o) : ResO n M b a o := by
  rcases h with ⟨e, h⟩ | ⟨e, es, k, h⟩
  · exact .inl ⟨e.symm, h⟩
  · refine .inr ⟨fun z => e z.symm, es, k.perm fun x => by simp [or_comm], ?_⟩
    rw [h, k.sym hL ha hb List.mem_cons_self (List.mem_cons_of_mem _ List.mem_cons_self)]
theorem res_some (h : ResO n M a b (some p)) : (a = b ∧ p = 0) ∨ (a ≠ b ∧ ∃ es, KeptE n M [a, b] es ∧ JS M es a b ≠ 0 ∧ p = 1 / -JS M es a b) := by
  rcases h with ⟨e, h⟩ | ⟨e, es, k, h⟩
  · exact .inl ⟨e, Option.some.inj h⟩
  · refine .inr ⟨e, es, k, ?_⟩
    by_cases z : JS M es a b = 0
    · rw [if_pos z] at h
      cases h
    · rw [if_neg z] at h
      exact ⟨z, Option.some.inj h⟩
theorem ResO.nn (hL : Lap n M) (ha : a < n) (hb : b < n) (h : ResO n M a b (some p)) : 0 ≤ p := by
  rcases res_some h with ⟨_, rfl⟩ | ⟨e, es, k, z, rfl⟩
  · exact Rat.le_refl
  · have := k.neg hL ha hb List.mem_cons_self (List.mem_cons_of_mem _ List.mem_cons_self) e
    have h0 : 0 < -JS M es a b := by grind
    rw [Rat.div_def, Rat.one_mul]
    exact Rat.le_of_lt (Rat.inv_pos.mpr h0)
theorem ResO.tri (hL : Lap n M) (ha : a < n) (hb : b < n) (hc : c < n) (h1 : ResO n M a b (some p)) (h2 : ResO n M b c (some q)) (h3 : ResO n M a c o) : ∃ r, o = some r ∧ 0 ≤ p + q - r := by
  have n1 := h1.nn hL ha hb
  have n2 := h2.nn hL hb hc
  rcases res_some h1 with ⟨e1, p0⟩ | ⟨e1, es1, k1, z1, p1⟩
  · subst e1
    exact ⟨q, (h3.uniq hL ha hc h2), by rw [p0]; grind⟩
  rcases res_some h2 with ⟨e2, q0⟩ | ⟨e2, es2, k2, z2, q1⟩
  · subst e2
    exact ⟨p, (h3.uniq hL ha hb h1), by rw [q0]; grind⟩
  rcases h3 with ⟨e3, o0⟩ | ⟨e3, es3, k3, o1⟩
  · exact ⟨0, o0, by grind⟩
  have hK : KeptE n M [c, a, b] (esL M [c, a, b] n) := KeptE.law hL
  obtain ⟨es, hes⟩ : ∃ es, es = esL M [c, a, b] n := ⟨_, rfl⟩
  rw [← hes] at hK
  have ka : a ∈ [c, a, b] := by simp
  have kb : b ∈ [c, a, b] := by simp
  have kc : c ∈ [c, a, b] := by simp
  have s1 := hK.sym hL ha hc ka kc
  have s2 := hK.sym hL hb hc kb kc
  have s3 := hK.sym hL ha hb ka kb
  have f1 := pair_of hL hK k1 ha hb hc e1 (fun z => e3 z.symm) (fun z => e2 z.symm)
  have f2 := pair_of (a := b) (b := c) (c := a) hL (hK.perm (kept' := [a, b, c]) fun x => by simp; constructor <;> (rintro (h | h | h) <;> simp [h])) k2 hb hc ha e2 e1 e3
  have f3 := pair_of (a := a) (b := c) (c := b) hL (hK.perm (kept' := [b, a, c]) fun x => by simp; constructor <;> (rintro (h | h | h) <;> simp [h])) k3 ha hc hb e3 (fun z => e1 z.symm) e2
  rw [← s1, ← s2] at f1
  rw [← s3] at f3
  have nx := hK.neg hL ha hb ka kb e1
  have ny := hK.neg hL hb hc kb kc e2
  have nz := hK.neg hL ha hc ka kc e3
  obtain ⟨g0, g1⟩ := tri_ineq nx ny nz _ _ _ f1 f2 f3 (fun z => z1 (by grind)) (fun z => z2 (by grind))
  refine ⟨_, by rw [o1, if_neg fun z => g0 (by grind)], ?_⟩
  rw [p1, q1]
  exact g1
theorem ResO.mono (hL : Lap n M) (hL' : Lap n M') (ha : a < n) (hb : b < n) (hP : ∀ d, 0 ≤ quad n M d) (hP' : ∀ d, 0 ≤ quad n M' d) (hm : ∀ d, quad n M d ≤ quad n M' d) (h : ResO n M a b (some p)) (h' : ResO n M' a b o) : ∃ r, o = some r ∧ 0 ≤ p - r := by
  rcases res_some h with ⟨e1, p0⟩ | ⟨e1, es1, k1, z1, p1⟩
  · rcases h' with ⟨_, o0⟩ | ⟨e2, _⟩
    · exact ⟨0, o0, by grind⟩
    · exact absurd e1 e2
  · rcases h' with ⟨e2, _⟩ | ⟨e2, es2, k2, o2⟩
    · exact absurd e2 e1
    · have h1 := k1.mono hL hL' k2 ha hb e1 hP hP' hm
      have h2 := k1.neg hL ha hb List.mem_cons_self (List.mem_cons_of_mem _ List.mem_cons_self) e1
      have h3 : 0 < -JS M es1 a b := by grind
      have h4 : 0 < -JS M' es2 a b := by grind
      refine ⟨_, by rw [o2, if_neg fun z => by grind], ?_⟩
      rw [p1]
      obtain ⟨x, hx⟩ : ∃ x, x = -JS M es1 a b := ⟨_, rfl⟩
      obtain ⟨y, hy⟩ : ∃ y, y = -JS M' es2 a b := ⟨_, rfl⟩
      rw [← hx] at h1 h3 ⊢
      rw [← hy] at h1 h4 ⊢
      have e : 1 / x - 1 / y = (y - x) * ((1 / x) * (1 / y)) := by grind
      rw [e]
      have i1 : 0 ≤ 1 / x := by rw [Rat.div_def, Rat.one_mul]; exact Rat.le_of_lt (Rat.inv_pos.mpr h3)
      have i2 : 0 ≤ 1 / y := by rw [Rat.div_def, Rat.one_mul]; exact Rat.le_of_lt (Rat.inv_pos.mpr h4)
      exact Rat.mul_nonneg (by grind) (Rat.mul_nonneg i1 i2)
theorem ResO.bd (hS : Sml n M) (ha : a < n) (hb : b < n) (h : ResO n M a b (some p)) : Bd 1482 p := by
  rcases res_some h with ⟨_, rfl⟩ | ⟨e, es, k, z, rfl⟩
  · exact Bd.zero.mono (by decide)
  · have b1 := (hS.bd es k.piv a b ha hb (k.ne List.mem_cons_self)).neg
    exact (Bd.one.div b1 fun y => z (by grind)).mono (by decide)
end
/-- a ratio or None -/
def OptR (K : PySem.W.Frag) (H : Hp) (v : V) : Option Rat → Prop
  | none => v = .non
  | some q => RatV K H v q
section
variable {K : PySem.W.Frag} {H H' : Hp} {x y : V} {o o' : Option Rat}
theorem OptR.tup (h : OptR K H x o) (t : TupS K H H') : OptR K H' x o := by
  cases o with
  | none => exact h
  | some q => exact t.rat h
theorem OptR.eqv {n : Nat} (h : OptR K H x o) (k : OptR K H y o) : Eqv K H (n + 2) x y := by
  cases o with
  | none =>
    rw [show x = .non from h, show y = .non from k]
    exact .sc rfl
  | some q => exact Eqv.rat h k
theorem g_neOpt {Q : VK} (h1 : OptR K H x o) (h2 : OptR K H y o) (k : Q (.bl false) H) : rNeD K x y H Q := by
  cases o with
  | none =>
    rw [show x = .non from h1, show y = .non from h2]
    exact ⟨.none, .none, .non, .non, rfl, rfl, k⟩
  | some q => exact g_neRat h1 h2 (by rw [decide_eq_true rfl]; exact k)
end
def spRes (K : PySem.W.Frag) (P0 : Addr) : Sp := fun vs H Q _ => ∃ (v : V) (a b rim : Nat) (rows : Rows) (qs : List Rat) (E B : Nat), vs = [v, .int ((a : Int) + 1), .int ((b : Int) + 1)] ∧ NetV K H v rim rows qs ∧ WF rows E ∧ qs.length = E ∧ E ≤ 40 ∧ E * B ≤ 2880 ∧ rows.length ≤ 47 ∧ (∀ e, e < E → 0 < qs.getD e 0) ∧ (∀ e, e < E → Sc 12 B (qs.getD e 0)) ∧ a < rows.length ∧ b < rows.length ∧ Tabs (tbT P0) H ∧
  ∀ v' H' o, ResO rows.length (lapK rows qs E) a b o → OptR K H' v' o → ExtN H H' → Tabs (tbT P0) H' → Q v' H'
def spDue (K : PySem.W.Frag) : Sp := fun vs H Q _ => ∃ (v : V) (a b rim : Nat) (rows : Rows) (qs : List Rat) (E : Nat), vs = [v, .int (a : Int), .int (b : Int)] ∧ NetV K H v rim rows qs ∧ WF rows E ∧ qs.length = E ∧ E ≤ 40 ∧ rows.length ≤ 47 ∧ (∀ e, e < E → 0 < qs.getD e 0) ∧ (∀ e, e < E → Sc 12 72 (qs.getD e 0)) ∧ a < rows.length ∧ b < rows.length ∧
  ∀ v' H' o, ResO rows.length (lapK rows qs E) a b o → OptR K H' v' o → Same H H' → Q v' H'
end Rz

set_option maxHeartbeats 4000000
/-! Darts put in the place of a dart: by a swap in one row, by a table over all rows. -/
namespace Rz
open PySem PySem.Spec PyProof.Rows L2
theorem flat_same {f : Int → List Int} : ∀ {row : List Int}, (∀ x ∈ row, f x = [x]) → row.flatMap f = row
  | [], _ => rfl
  | x :: row, h => by
    rw [List.flatMap_cons, h x List.mem_cons_self, flat_same fun y hy => h y (List.mem_cons_of_mem _ hy)]
    rfl
theorem swap_flat {f : Int → List Int} {d : Int} {ns : List Int} : ∀ {row : List Int}, row.Nodup → d ∈ row → f d = ns → (∀ x ∈ row, x ≠ d → f x = [x]) → row.flatMap f = swapR row d ns
  | [], _, hm, _, _ => nomatch hm
  | x :: row, nd, hm, hd, ho => by
    obtain ⟨n1, n2⟩ := List.nodup_cons.mp nd
    unfold swapR
    by_cases e : x = d
    · subst e
      rw [List.flatMap_cons, hd, flat_same fun y hy => ho y (List.mem_cons_of_mem _ hy) (fun z => n1 (z ▸ hy)), List.idxOf_cons_self]
      rfl
    · have hm2 : d ∈ row := by
        rcases List.mem_cons.mp hm with z | z
        · exact absurd z.symm e
        · exact z
      have ih := swap_flat n2 hm2 hd fun y hy => ho y (List.mem_cons_of_mem _ hy)
      rw [List.flatMap_cons, ho x List.mem_cons_self e, ih, List.idxOf_cons, beq_eq_false_iff_ne.mpr e]
      rfl
theorem dropE_app (e : Nat) (a b : Rows) : dropE e (a ++ b) = dropE e a ++ dropE e b := List.map_append
theorem dropE_take (e n : Nat) (a : Rows) : dropE e (a.take n) = (dropE e a).take n := by unfold dropE; rw [List.map_take]
theorem dropE_drop (e n : Nat) (a : Rows) : dropE e (a.drop n) = (dropE e a).drop n := by unfold dropE; rw [List.map_drop]
/-- a row is left out: the others are alike -/
theorem cut_ext {a b : Rows} {n : Nat} (hl : a.length = b.length) (h : ∀ i, i ≠ n → a[i]? = b[i]?) : a.take n ++ a.drop (n + 1) = b.take n ++ b.drop (n + 1) := by
  congr 1
  · refine List.ext_getElem? fun i => ?_
    rw [List.getElem?_take, List.getElem?_take]
    by_cases z : i < n
    · rw [if_pos z, if_pos z, h i (by omega)]
    · rw [if_neg z, if_neg z]
  · refine List.ext_getElem? fun i => ?_
    rw [List.getElem?_drop, List.getElem?_drop, h _ (by omega)]
theorem nodup_row {rows : Rows} (nd : rows.flatten.Nodup) {row : List Int} (h : row ∈ rows) : row.Nodup := (List.pairwise_flatten.mp nd).1 row h
section
variable {σ : L2.St} {H : Hp} {tk tv : TE} {r : List (TE × TE)} {Q : List (V × V) → Hp → Prop}
theorem g_pair (h : tk σ H fun y H1 => tv σ H1 fun z H2 => tPairs r σ H2 fun ps H3 => Q ((y, z) :: ps) H3) : tPairs ((tk, tv) :: r) σ H Q := h
theorem g_pair0 (h : Q [] H) : tPairs [] σ H Q := h
end
/-- a displayed dict: its pairs, then the dict -/
theorem g_disp {σ : L2.St} {H : Hp} {Q : VK} {trs : List (TE × TE)} (h : ∀ p, H p = none → tPairs trs σ (upd H p (.dK [])) fun ps H2 => H2 p = some (.dK []) ∧ ∃ kvs : List (Key × V), ps = kvs.map (fun kv => (kV kv.1, kv.2)) ∧ kvs.length ≤ 15 ∧ Q (.ref p) (upd H2 p (.dK (mergeK [] kvs)))) : tDisp trs σ H Q := h
theorem valV_one {k j : Key} {x : V} : valV [(k, x)] j = if j = k then some x else none := by
  have := valV_put (κ := Key) [] k j x
  rw [valV_nil] at this
  exact this
/-- the turn of an inner node with m darts -/
def spInner (K : PySem.W.Frag) (C : Addr) : Sp := fun vs H Q E => ∃ (v : V) (n m : Int) (rim : Nat) (rows : Rows) (qs : List Rat), vs = [v, .int n, .int m] ∧ NetV K H v rim rows qs ∧ n.natAbs < 2 ^ 60 ∧ m.natAbs < 2 ^ 60 ∧
  (¬ ((rim : Int) < n ∧ n ≤ (rows.length : Int) ∧ ((rows.getD (n - 1).toNat []).length : Int) = m) → E (.ref C) none H) ∧
  ((rim : Int) < n → n ≤ (rows.length : Int) → ((rows.getD (n - 1).toNat []).length : Int) = m → ∀ r, SqT K H r ((rows.getD (n - 1).toNat []).map V.int) → Q (.ref r) H)
theorem lo_hi (a b : Int) : (lo2 a b = a ∧ hi2 a b = b) ∨ (lo2 a b = b ∧ hi2 a b = a) := by
  unfold lo2 hi2
  split
  · exact .inr ⟨rfl, rfl⟩
  · exact .inl ⟨rfl, rfl⟩
end Rz

set_option maxHeartbeats 4000000
/-! RzChg: a net with one amount changed. -/
namespace Rz
open PySem PySem.Spec PyProof.Rows L2 LamX
def TableIs (K : PySem.W.Frag) (H : Hp) (v : V) (rim : Nat) (rows : Rows) (qs : List Rat) (E : Nat) : Prop := ∃ es, Whole rows.length rim (lapK rows qs E) es ∧ TabV K H v (keptM (List.range rim) (JS (lapK rows qs E) es))
theorem TableIs.tup {K : PySem.W.Frag} {H H' : Hp} {v : V} {rim : Nat} {rows : Rows} {qs : List Rat} {E : Nat} (h : TableIs K H v rim rows qs E) (t : TupS K H H') : TableIs K H' v rim rows qs E := let ⟨es, a, b⟩ := h; ⟨es, a, t.tab b⟩
/-- both are the same table -/
theorem TableIs.eqv {K : PySem.W.Frag} {H : Hp} {x y : V} {rim : Nat} {rows : Rows} {qs : List Rat} {E : Nat} (hL : Lap rows.length (lapK rows qs E)) (hr : rim ≤ rows.length) (h2 : rim ≤ 1000) (a : TableIs K H x rim rows qs E) (b : TableIs K H y rim rows qs E) : Eqv K H 5 x y := by
  obtain ⟨es1, w1, t1⟩ := a
  obtain ⟨es2, w2, t2⟩ := b
  have hkl : ∀ B : Nat → Nat → Rat, (keptM (List.range rim) B).length = rim := fun B => by unfold keptM; rw [List.length_map, List.length_range]
  rw [keptM_eq fun i j hi hj => w2.same hL w1 (by omega) (by omega) hi hj] at t2
  refine Eqv.tab (n := 1) t1 t2 (by rw [hkl]; omega) fun i hi => ?_
  rw [hkl] at hi
  rw [keptM_row (by rw [List.length_range]; exact hi), List.length_map, List.length_range]
  omega
/-- the amounts of a net that the law makes -/
structure Ams (qs : List Rat) (E : Nat) : Prop where
  len : qs.length = E
  pos : ∀ e, e < E → 0 < qs.getD e 0
  sc : ∀ e, e < E → Sc 12 72 (qs.getD e 0)
theorem Ams.set {qs : List Rat} {E e : Nat} {q : Rat} (h : Ams qs E) (h1 : 0 < q) (h2 : Sc 12 72 q) : Ams (qs.set e q) E := by
  have key : ∀ i, i < E → (qs.set e q).getD i 0 = q ∨ (qs.set e q).getD i 0 = qs.getD i 0 := fun i hi => by
    rw [List.getD_eq_getElem?_getD, List.getD_eq_getElem?_getD, List.getElem?_set]
    by_cases z : e = i
    · rw [if_pos z, if_pos (by rw [z, h.len]; exact hi)]
      exact .inl rfl
    · rw [if_neg z]
      exact .inr rfl
  refine ⟨by rw [List.length_set, h.len], fun i hi => ?_, fun i hi => ?_⟩
  · rcases key i hi with z | z
    · rw [z]; exact h1
    · rw [z]; exact h.pos i hi
  · rcases key i hi with z | z
    · rw [z]; exact h2
    · rw [z]; exact h.sc i hi
def spTableOfX (K : PySem.W.Frag) (P0 : Addr) : Sp := fun vs H Q _ => ∃ (v : V) (rim : Nat) (rows : Rows) (qs : List Rat) (E : Nat), vs = [v] ∧ NetV K H v rim rows qs ∧ WF rows E ∧ Ams qs E ∧ E ≤ 40 ∧ rows.length ≤ 47 ∧ rim ≤ rows.length ∧ Tabs (tbT P0) H ∧
  ∀ v' H', ExtN H H' → Tabs (tbT P0) H' → TableIs K H' v' rim rows qs E → Q v' H'
def spChanged (K : PySem.W.Frag) (P0 : Addr) : Sp := fun vs H Q _ => ∃ (tb v am : V) (e rim : Nat) (rows : Rows) (qs : List Rat) (E : Nat) (q : Rat), vs = [tb, v, .int (e : Int), am] ∧ NetV K H v rim rows qs ∧ WF rows E ∧ Ams qs E ∧ E ≤ 40 ∧ rows.length ≤ 47 ∧ rim ≤ rows.length ∧ Tabs (tbT P0) H ∧ e < E ∧ RatV K H am q ∧ 0 < q ∧ Sc 12 72 q ∧ TableIs K H tb rim rows qs E ∧
  ∀ v' H', ExtN H H' → Tabs (tbT P0) H' → TableIs K H' v' rim rows (qs.set e q) E → Q v' H'
theorem StAt.ext {H H' : Hp} {S c : Addr} (h : StAt H S c) (e : ExtN H H') : StAt H' S c := by
  obtain ⟨h1, a, b, d, ns, h2, h3, h4, h5⟩ := h
  exact ⟨h1, a, b, d, ns, e _ _ h2 (fun ps z => nomatch z), e _ _ h3 (fun ps z => nomatch z), h4, h5⟩
theorem ovr_set1 {qs : List Rat} {e : Nat} {q : Rat} (h : e < qs.length) : ovr (fun j => if j = e then some q else none) qs = qs.set e q := by
  rw [ovr_one h, List.set_eq_take_append_cons_drop, if_pos h, List.append_assoc]
  rfl
theorem set_self1 {qs : List Rat} {e : Nat} (h : e < qs.length) : qs.set e (qs.getD e 0) = qs := by
  refine List.ext_getElem (by rw [List.length_set]) fun i h1 h2 => ?_
  rw [List.getElem_set]
  by_cases z : e = i
  · subst z
    rw [if_pos rfl, List.getD_eq_getElem?_getD, List.getElem?_eq_getElem h]
    rfl
  · rw [if_neg z]
end Rz

namespace K08
open PySem PySem.Spec PyProof.Rows L2 Rz
local macro_rules | `(tactic| walk_at "g") => `(tactic| with_reducible first
  | refine g_seq ?_ | refine g_asg ?_ | refine g_name ?_ | refine g_ret ?_ | refine g_drop ?_ | refine g_next ?_ | refine g_op ?_ | refine g_un ?_ | refine g_c ?_
  | refine g_ifs ?_ | refine g_test ?_ | refine g_B ?_ | refine g_bl ?_ | refine g_and ?_ | refine g_or ?_ | refine g_not ?_ | refine g_andV ?_ | refine g_orV ?_ | refine g_notV ?_ | refine g_ifE ?_
  | refine g_call ?_ | refine g_cb ?_ | refine g_nil ?_ | refine g_cons ?_ | refine g_tup ?_ | refine g_lst ?_ | refine g_par ?_ | refine g_two ?_ | refine g_I0 ?_ | refine g_U ?_ | refine g_sub ?_ | refine g_int1 ?_ | refine g_int1b ?_ | refine g_abs ?_ | refine g_forR1 ?_ | refine g_forL ?_ | refine g_forT ?_ | refine g_lcR1 ?_ | refine g_lcL ?_ | refine g_lcT ?_ | refine g_isN ?_ | refine g_notN ?_ | refine g_bm ?_)
local macro_rules | `(tactic| walk_at "gv") => `(tactic| ((with_reducible refine' g_var ?hv ?_); (case hv => rfl)))
local macro_rules | `(tactic| walk_at "gm") => `(tactic| ((with_reducible refine g_I ?hc ?_); (case hc => first | exact .inr ⟨by decide, by decide⟩ | exact .inl ⟨by decide, by decide⟩ | exact ⟨by decide, by decide, by decide⟩ | exact ⟨by decide, by decide +kernel⟩ | decide | assumption)))
local macro_rules | `(tactic| walk_at "ge") => `(tactic| first | ((with_reducible refine g_eq ?hs ?_); (case hs => rfl)) | ((with_reducible refine g_ne ?hs ?_); (case hs => rfl)))
local macro_rules | `(tactic| walk_at "gx") => `(tactic| first
  | ((with_reducible refine' g_ixT ?h ?e ?_); (case h => first | assumption | exact SqT.of upd_same | exact SqT.of (by assumption)); (case e => rfl))
  | ((with_reducible refine' g_ixL ?h ?e ?_); (case h => first | assumption | exact SqL.of upd_same | exact SqL.of (by assumption)); (case e => rfl))
  | ((with_reducible refine' g_setL ?h ?e ?_); (case h => first | assumption | exact upd_same); (case e => rfl)))
local macro_rules | `(tactic| walk_at "gl") => `(tactic| first
  | ((with_reducible refine' g_lenT ?h ?_); (case h => first | assumption | exact SqT.of upd_same | exact SqT.of (by assumption)))
  | ((with_reducible refine' g_lenL ?h ?_); (case h => first | assumption | exact SqL.of upd_same | exact SqL.of (by assumption))))
local macro_rules | `(tactic| walk_at "gs") => `(tactic| repeat (first | walk_at "g" | walk_at "gv" | walk_at "gm" | walk_at "ge" | walk_at "gx" | walk_at "gl"))

def topS (i : Nat) : Stmt := PySem.Challenge.pw_rimohms_k08_resistances.main.body.getD i (.Pass ⟨0, 0, 0, 0⟩)
abbrev s_homes_of : Stmt := topS 3
abbrev s_ends_of : Stmt := topS 4
abbrev s_ratio : Stmt := topS 11
abbrev s_plus : Stmt := topS 12
abbrev s_times : Stmt := topS 13
abbrev s_over : Stmt := topS 14
abbrev s_total : Stmt := topS 15
abbrev s_web_of : Stmt := topS 17
abbrev s_web_from : Stmt := topS 18
abbrev s_without : Stmt := topS 19
abbrev s_thinned : Stmt := topS 20
abbrev s_least_joined : Stmt := topS 21
abbrev s_resistance : Stmt := topS 23
abbrev s_l_pick : Stmt := topS 25
abbrev s_l_gcd : Stmt := topS 26
abbrev s_l_ratio : Stmt := topS 27
abbrev s_l_add : Stmt := topS 28
abbrev s_l_sub : Stmt := topS 29
abbrev s_l_mul : Stmt := topS 30
abbrev s_l_div : Stmt := topS 31
abbrev s_l_same : Stmt := topS 32
abbrev s_l_amount : Stmt := topS 33
abbrev s_l_at : Stmt := topS 34
abbrev s_l_face : Stmt := topS 35
abbrev s_l_grow : Stmt := topS 36
abbrev s_l_net : Stmt := topS 37
abbrev s_l_ends : Stmt := topS 38
abbrev s_l_balance : Stmt := topS 39
abbrev s_l_left : Stmt := topS 40
abbrev s_l_due : Stmt := topS 42
abbrev s_law : Stmt := topS 43
theorem sc_homes_of : FnScope ["net", "node", "turn", "dart"] ["net"] (defScope s_homes_of) := ⟨rfl, rfl, rfl, by decide +kernel, rfl, by decide +kernel, by decide +kernel⟩
theorem sc_ends_of : FnScope ["net", "home", "edge"] ["net"] (defScope s_ends_of) := ⟨rfl, rfl, rfl, by decide +kernel, rfl, by decide +kernel, by decide +kernel⟩
theorem sc_ratio : FnScope ["top", "bottom", "common"] ["top", "bottom"] (defScope s_ratio) := ⟨rfl, rfl, rfl, by decide +kernel, rfl, by decide +kernel, by decide +kernel⟩
theorem sc_plus : FnScope ["left", "right"] ["left", "right"] (defScope s_plus) := ⟨rfl, rfl, rfl, by decide +kernel, rfl, by decide +kernel, by decide +kernel⟩
theorem sc_times : FnScope ["left", "right"] ["left", "right"] (defScope s_times) := ⟨rfl, rfl, rfl, by decide +kernel, rfl, by decide +kernel, by decide +kernel⟩
theorem sc_over : FnScope ["left", "right"] ["left", "right"] (defScope s_over) := ⟨rfl, rfl, rfl, by decide +kernel, rfl, by decide +kernel, by decide +kernel⟩
theorem sc_total : FnScope ["values", "found", "value"] ["values"] (defScope s_total) := ⟨rfl, rfl, rfl, by decide +kernel, rfl, by decide +kernel, by decide +kernel⟩
theorem sc_web_of : FnScope ["net", "joints", "amount", "one", "other"] ["net"] (defScope s_web_of) := ⟨rfl, rfl, rfl, by decide +kernel, rfl, by decide +kernel, by decide +kernel⟩
theorem sc_web_from : FnScope ["nodes", "joints", "web", "one", "other", "amount", "joint", "node"] ["nodes", "joints"] (defScope s_web_from) := ⟨rfl, rfl, rfl, by decide +kernel, rfl, by decide +kernel, by decide +kernel⟩
theorem sc_without : FnScope ["web", "node", "around", "rest", "whole", "one", "other", "share", "joint", "left", "near"] ["web", "node"] (defScope s_without) := ⟨rfl, rfl, rfl, by decide +kernel, rfl, by decide +kernel, by decide +kernel⟩
theorem sc_thinned : FnScope ["web", "kept", "steps", "node"] ["web", "kept"] (defScope s_thinned) := ⟨rfl, rfl, rfl, by decide +kernel, rfl, by decide +kernel, by decide +kernel⟩
theorem sc_least_joined : FnScope ["web", "kept", "node", "place"] ["web", "kept"] (defScope s_least_joined) := ⟨rfl, rfl, rfl, by decide +kernel, rfl, by decide +kernel, by decide +kernel⟩
theorem sc_resistance : FnScope ["net", "first", "second", "_", "web"] ["net", "first", "second"] (defScope s_resistance) := ⟨rfl, rfl, rfl, by decide +kernel, rfl, by decide +kernel, by decide +kernel⟩
theorem sc_l_pick : FnScope ["state", "limit", "value", "cell", "mixed"] ["state", "limit"] (defScope s_l_pick) := ⟨rfl, rfl, rfl, by decide +kernel, rfl, by decide +kernel, by decide +kernel⟩
theorem sc_l_gcd : FnScope ["left", "right"] ["left", "right"] (defScope s_l_gcd) := ⟨rfl, rfl, rfl, by decide +kernel, rfl, by decide +kernel, by decide +kernel⟩
theorem sc_l_ratio : FnScope ["top", "bottom", "common"] ["top", "bottom"] (defScope s_l_ratio) := ⟨rfl, rfl, rfl, by decide +kernel, rfl, by decide +kernel, by decide +kernel⟩
theorem sc_l_add : FnScope ["left", "right"] ["left", "right"] (defScope s_l_add) := ⟨rfl, rfl, rfl, by decide +kernel, rfl, by decide +kernel, by decide +kernel⟩
theorem sc_l_sub : FnScope ["left", "right"] ["left", "right"] (defScope s_l_sub) := ⟨rfl, rfl, rfl, by decide +kernel, rfl, by decide +kernel, by decide +kernel⟩
theorem sc_l_mul : FnScope ["left", "right"] ["left", "right"] (defScope s_l_mul) := ⟨rfl, rfl, rfl, by decide +kernel, rfl, by decide +kernel, by decide +kernel⟩
theorem sc_l_div : FnScope ["left", "right"] ["left", "right"] (defScope s_l_div) := ⟨rfl, rfl, rfl, by decide +kernel, rfl, by decide +kernel, by decide +kernel⟩
theorem sc_l_same : FnScope ["actual", "due", "k"] ["actual", "due"] (defScope s_l_same) := ⟨rfl, rfl, rfl, by decide +kernel, rfl, by decide +kernel, by decide +kernel⟩
theorem sc_l_amount : FnScope ["state"] ["state"] (defScope s_l_amount) := ⟨rfl, rfl, rfl, by decide +kernel, rfl, by decide +kernel, by decide +kernel⟩
theorem sc_l_at : FnScope ["turns", "dart", "k"] ["turns", "dart"] (defScope s_l_at) := ⟨rfl, rfl, rfl, by decide +kernel, rfl, by decide +kernel, by decide +kernel⟩
theorem sc_l_face : FnScope ["turns", "rim", "dart", "found", "step", "far", "node", "at"] ["turns", "rim", "dart"] (defScope s_l_face) := ⟨rfl, rfl, rfl, by decide +kernel, rfl, by decide +kernel, by decide +kernel⟩
theorem sc_l_grow : FnScope ["state", "rim", "turns", "edges", "choice", "dart", "node", "other", "k", "at", "row", "old", "face", "first", "second"] ["state", "rim", "turns", "edges", "choice"] (defScope s_l_grow) := ⟨rfl, rfl, rfl, by decide +kernel, rfl, by decide +kernel, by decide +kernel⟩
theorem sc_l_net : FnScope ["state", "most_rim", "most_edges", "rim", "k", "turns", "edges", "amounts", "turn"] ["state", "most_rim", "most_edges"] (defScope s_l_net) := ⟨rfl, rfl, rfl, by decide +kernel, rfl, by decide +kernel, by decide +kernel⟩
theorem sc_l_ends : FnScope ["net", "ends", "node", "dart", "row", "k"] ["net"] (defScope s_l_ends) := ⟨rfl, rfl, rfl, by decide +kernel, rfl, by decide +kernel, by decide +kernel⟩
theorem sc_l_balance : FnScope ["net", "size", "k", "rows", "ends", "here", "there", "i", "j", "row"] ["net"] (defScope s_l_balance) := ⟨rfl, rfl, rfl, by decide +kernel, rfl, by decide +kernel, by decide +kernel⟩
theorem sc_l_left : FnScope ["rows", "kept", "size", "at", "i", "share", "row", "j"] ["rows", "kept"] (defScope s_l_left) := ⟨rfl, rfl, rfl, by decide +kernel, rfl, by decide +kernel, by decide +kernel⟩
theorem sc_l_due : FnScope ["net", "first", "second", "table"] ["net", "first", "second"] (defScope s_l_due) := ⟨rfl, rfl, rfl, by decide +kernel, rfl, by decide +kernel, by decide +kernel⟩
theorem sc_law : FnScope ["script", "state", "net", "a", "b", "c", "found", "first", "second", "value", "edge", "more", "other", "k"] ["script"] (defScope s_law) := ⟨rfl, rfl, rfl, by decide +kernel, rfl, by decide +kernel, by decide +kernel⟩
structure Ads where
  f_homes_of : Addr
  fd_homes_of : FuncData
  f_ends_of : Addr
  fd_ends_of : FuncData
  f_ratio : Addr
  fd_ratio : FuncData
  f_plus : Addr
  fd_plus : FuncData
  f_times : Addr
  fd_times : FuncData
  f_over : Addr
  fd_over : FuncData
  f_total : Addr
  fd_total : FuncData
  f_web_of : Addr
  fd_web_of : FuncData
  f_web_from : Addr
  fd_web_from : FuncData
  f_without : Addr
  fd_without : FuncData
  f_thinned : Addr
  fd_thinned : FuncData
  f_least_joined : Addr
  fd_least_joined : FuncData
  f_resistance : Addr
  fd_resistance : FuncData
  f_l_pick : Addr
  fd_l_pick : FuncData
  f_l_gcd : Addr
  fd_l_gcd : FuncData
  f_l_ratio : Addr
  fd_l_ratio : FuncData
  f_l_add : Addr
  fd_l_add : FuncData
  f_l_sub : Addr
  fd_l_sub : FuncData
  f_l_mul : Addr
  fd_l_mul : FuncData
  f_l_div : Addr
  fd_l_div : FuncData
  f_l_same : Addr
  fd_l_same : FuncData
  f_l_amount : Addr
  fd_l_amount : FuncData
  f_l_at : Addr
  fd_l_at : FuncData
  f_l_face : Addr
  fd_l_face : FuncData
  f_l_grow : Addr
  fd_l_grow : FuncData
  f_l_net : Addr
  fd_l_net : FuncData
  f_l_ends : Addr
  fd_l_ends : FuncData
  f_l_balance : Addr
  fd_l_balance : FuncData
  f_l_left : Addr
  fd_l_left : FuncData
  f_l_due : Addr
  fd_l_due : FuncData
  f_law : Addr
  fd_law : FuncData
  C_RimError : Addr
  C_RatioError : Addr
  z_ZERO : Addr
  z_ONE : Addr
structure Txt (K : PySem.W.Frag) (mg : Str → Option Value) (A : Ads) : Prop where
  g_homes_of : mg "homes_of" = some (.ref A.f_homes_of)
  F_homes_of : Fun K "homes_of" "homes_of" s_homes_of A.f_homes_of A.fd_homes_of
  b_homes_of : L2.Binds K A.fd_homes_of ["net"] []
  g_ends_of : mg "ends_of" = some (.ref A.f_ends_of)
  F_ends_of : Fun K "ends_of" "ends_of" s_ends_of A.f_ends_of A.fd_ends_of
  b_ends_of : L2.Binds K A.fd_ends_of ["net"] []
  g_ratio : mg "ratio" = some (.ref A.f_ratio)
  F_ratio : Fun K "ratio" "ratio" s_ratio A.f_ratio A.fd_ratio
  b_ratio : L2.Binds K A.fd_ratio ["top", "bottom"] []
  g_plus : mg "plus" = some (.ref A.f_plus)
  F_plus : Fun K "plus" "plus" s_plus A.f_plus A.fd_plus
  b_plus : L2.Binds K A.fd_plus ["left", "right"] []
  g_times : mg "times" = some (.ref A.f_times)
  F_times : Fun K "times" "times" s_times A.f_times A.fd_times
  b_times : L2.Binds K A.fd_times ["left", "right"] []
  g_over : mg "over" = some (.ref A.f_over)
  F_over : Fun K "over" "over" s_over A.f_over A.fd_over
  b_over : L2.Binds K A.fd_over ["left", "right"] []
  g_total : mg "total" = some (.ref A.f_total)
  F_total : Fun K "total" "total" s_total A.f_total A.fd_total
  b_total : L2.Binds K A.fd_total ["values"] []
  g_web_of : mg "web_of" = some (.ref A.f_web_of)
  F_web_of : Fun K "web_of" "web_of" s_web_of A.f_web_of A.fd_web_of
  b_web_of : L2.Binds K A.fd_web_of ["net"] []
  g_web_from : mg "web_from" = some (.ref A.f_web_from)
  F_web_from : Fun K "web_from" "web_from" s_web_from A.f_web_from A.fd_web_from
  b_web_from : L2.Binds K A.fd_web_from ["nodes", "joints"] []
  g_without : mg "without" = some (.ref A.f_without)
  F_without : Fun K "without" "without" s_without A.f_without A.fd_without
  b_without : L2.Binds K A.fd_without ["web", "node"] []
  g_thinned : mg "thinned" = some (.ref A.f_thinned)
  F_thinned : Fun K "thinned" "thinned" s_thinned A.f_thinned A.fd_thinned
  b_thinned : L2.Binds K A.fd_thinned ["web", "kept"] []
  g_least_joined : mg "least_joined" = some (.ref A.f_least_joined)
  F_least_joined : Fun K "least_joined" "least_joined" s_least_joined A.f_least_joined A.fd_least_joined
  b_least_joined : L2.Binds K A.fd_least_joined ["web", "kept"] []
  g_resistance : mg "resistance" = some (.ref A.f_resistance)
  F_resistance : Fun K "resistance" "resistance" s_resistance A.f_resistance A.fd_resistance
  b_resistance : L2.Binds K A.fd_resistance ["net", "first", "second"] []
  g_l_pick : mg "_law_pick" = some (.ref A.f_l_pick)
  F_l_pick : Fun K "_law_pick" "_law_pick" s_l_pick A.f_l_pick A.fd_l_pick
  b_l_pick : L2.Binds K A.fd_l_pick ["state", "limit"] []
  g_l_gcd : mg "_law_gcd" = some (.ref A.f_l_gcd)
  F_l_gcd : Fun K "_law_gcd" "_law_gcd" s_l_gcd A.f_l_gcd A.fd_l_gcd
  b_l_gcd : L2.Binds K A.fd_l_gcd ["left", "right"] []
  g_l_ratio : mg "_law_ratio" = some (.ref A.f_l_ratio)
  F_l_ratio : Fun K "_law_ratio" "_law_ratio" s_l_ratio A.f_l_ratio A.fd_l_ratio
  b_l_ratio : L2.Binds K A.fd_l_ratio ["top", "bottom"] []
  g_l_add : mg "_law_add" = some (.ref A.f_l_add)
  F_l_add : Fun K "_law_add" "_law_add" s_l_add A.f_l_add A.fd_l_add
  b_l_add : L2.Binds K A.fd_l_add ["left", "right"] []
  g_l_sub : mg "_law_sub" = some (.ref A.f_l_sub)
  F_l_sub : Fun K "_law_sub" "_law_sub" s_l_sub A.f_l_sub A.fd_l_sub
  b_l_sub : L2.Binds K A.fd_l_sub ["left", "right"] []
  g_l_mul : mg "_law_mul" = some (.ref A.f_l_mul)
  F_l_mul : Fun K "_law_mul" "_law_mul" s_l_mul A.f_l_mul A.fd_l_mul
  b_l_mul : L2.Binds K A.fd_l_mul ["left", "right"] []
  g_l_div : mg "_law_div" = some (.ref A.f_l_div)
  F_l_div : Fun K "_law_div" "_law_div" s_l_div A.f_l_div A.fd_l_div
  b_l_div : L2.Binds K A.fd_l_div ["left", "right"] []
  g_l_same : mg "_law_same" = some (.ref A.f_l_same)
  F_l_same : Fun K "_law_same" "_law_same" s_l_same A.f_l_same A.fd_l_same
  b_l_same : L2.Binds K A.fd_l_same ["actual", "due"] []
  g_l_amount : mg "_law_amount" = some (.ref A.f_l_amount)
  F_l_amount : Fun K "_law_amount" "_law_amount" s_l_amount A.f_l_amount A.fd_l_amount
  b_l_amount : L2.Binds K A.fd_l_amount ["state"] []
  g_l_at : mg "_law_at" = some (.ref A.f_l_at)
  F_l_at : Fun K "_law_at" "_law_at" s_l_at A.f_l_at A.fd_l_at
  b_l_at : L2.Binds K A.fd_l_at ["turns", "dart"] []
  g_l_face : mg "_law_face" = some (.ref A.f_l_face)
  F_l_face : Fun K "_law_face" "_law_face" s_l_face A.f_l_face A.fd_l_face
  b_l_face : L2.Binds K A.fd_l_face ["turns", "rim", "dart"] []
  g_l_grow : mg "_law_grow" = some (.ref A.f_l_grow)
  F_l_grow : Fun K "_law_grow" "_law_grow" s_l_grow A.f_l_grow A.fd_l_grow
  b_l_grow : L2.Binds K A.fd_l_grow ["state", "rim", "turns", "edges", "choice"] []
  g_l_net : mg "_law_net" = some (.ref A.f_l_net)
  F_l_net : Fun K "_law_net" "_law_net" s_l_net A.f_l_net A.fd_l_net
  b_l_net : L2.Binds K A.fd_l_net ["state", "most_rim", "most_edges"] []
  g_l_ends : mg "_law_ends" = some (.ref A.f_l_ends)
  F_l_ends : Fun K "_law_ends" "_law_ends" s_l_ends A.f_l_ends A.fd_l_ends
  b_l_ends : L2.Binds K A.fd_l_ends ["net"] []
  g_l_balance : mg "_law_balance" = some (.ref A.f_l_balance)
  F_l_balance : Fun K "_law_balance" "_law_balance" s_l_balance A.f_l_balance A.fd_l_balance
  b_l_balance : L2.Binds K A.fd_l_balance ["net"] []
  g_l_left : mg "_law_left" = some (.ref A.f_l_left)
  F_l_left : Fun K "_law_left" "_law_left" s_l_left A.f_l_left A.fd_l_left
  b_l_left : L2.Binds K A.fd_l_left ["rows", "kept"] []
  g_l_due : mg "_law_due" = some (.ref A.f_l_due)
  F_l_due : Fun K "_law_due" "_law_due" s_l_due A.f_l_due A.fd_l_due
  b_l_due : L2.Binds K A.fd_l_due ["net", "first", "second"] []
  g_law : mg "law" = some (.ref A.f_law)
  F_law : Fun K "law" "law" s_law A.f_law A.fd_law
  b_law : L2.Binds K A.fd_law ["script"] []
  g_RimError : mg "RimError" = some (.ref A.C_RimError)
  x_RimError : PySem.W.excIn K (A.C_RimError) [.type "ValueError", .type "Exception", .type "BaseException", .type "object"] "ValueError.__new__" = true
  k_RimError : PySem.W.keepIn K (.ref (A.C_RimError)) = true
  bb_RimError : PySem.W.subIn K (.ref (A.C_RimError)) (.type "BaseException") = some true
  t_RimError : PySem.W.typeIn K (.ref (A.C_RimError)) = some (.type "type")
  d_RimError : PySem.W.hasDictIn K (A.C_RimError) = true
  hg_RimError : PySem.W.findIn K (.ref (A.C_RimError)) "__getattribute__" = some (some (.builtin "BaseException.__getattribute__"))
  hk_RimError : PySem.W.findIn K (.ref (A.C_RimError)) "__getattr__" = some none
  ha_RimError : PySem.W.findIn K (.ref (A.C_RimError)) "__class__" = some (some (.builtin "object.__class__"))
  hm_RimError : PySem.W.mroIn K (A.C_RimError) (.type "object") = some true
  v_RimError : PySem.W.kitOne K (.ref (A.C_RimError)) (.type "ValueError") = some true
  i_RimError_RimError : PySem.W.kitOne K (.ref (A.C_RimError)) (.ref (A.C_RimError)) = some true
  e_RimError_RimError : PySem.W.exmOne K (.ref (A.C_RimError)) (.ref (A.C_RimError)) = some true
  i_RatioError_RimError : PySem.W.kitOne K (.ref (A.C_RimError)) (.ref (A.C_RatioError)) = some false
  e_RatioError_RimError : PySem.W.exmOne K (.ref (A.C_RimError)) (.ref (A.C_RatioError)) = some false
  g_RatioError : mg "RatioError" = some (.ref A.C_RatioError)
  x_RatioError : PySem.W.excIn K (A.C_RatioError) [.type "ValueError", .type "Exception", .type "BaseException", .type "object"] "ValueError.__new__" = true
  k_RatioError : PySem.W.keepIn K (.ref (A.C_RatioError)) = true
  bb_RatioError : PySem.W.subIn K (.ref (A.C_RatioError)) (.type "BaseException") = some true
  t_RatioError : PySem.W.typeIn K (.ref (A.C_RatioError)) = some (.type "type")
  d_RatioError : PySem.W.hasDictIn K (A.C_RatioError) = true
  hg_RatioError : PySem.W.findIn K (.ref (A.C_RatioError)) "__getattribute__" = some (some (.builtin "BaseException.__getattribute__"))
  hk_RatioError : PySem.W.findIn K (.ref (A.C_RatioError)) "__getattr__" = some none
  ha_RatioError : PySem.W.findIn K (.ref (A.C_RatioError)) "__class__" = some (some (.builtin "object.__class__"))
  hm_RatioError : PySem.W.mroIn K (A.C_RatioError) (.type "object") = some true
  v_RatioError : PySem.W.kitOne K (.ref (A.C_RatioError)) (.type "ValueError") = some true
  i_RimError_RatioError : PySem.W.kitOne K (.ref (A.C_RatioError)) (.ref (A.C_RimError)) = some true
  e_RimError_RatioError : PySem.W.exmOne K (.ref (A.C_RatioError)) (.ref (A.C_RimError)) = some true
  i_RatioError_RatioError : PySem.W.kitOne K (.ref (A.C_RatioError)) (.ref (A.C_RatioError)) = some true
  e_RatioError_RatioError : PySem.W.exmOne K (.ref (A.C_RatioError)) (.ref (A.C_RatioError)) = some true
  c_ZERO : mg "ZERO" = some (.ref A.z_ZERO)
  q_ZERO : ∀ H, SqT K H A.z_ZERO [.int 0, .int 1]
  c_ONE : mg "ONE" = some (.ref A.z_ONE)
  q_ONE : ∀ H, SqT K H A.z_ONE [.int 1, .int 1]
  n_abs : mg "abs" = none
  n_all : mg "all" = none
  n_bool : mg "bool" = none
  n_enumerate : mg "enumerate" = none
  n_int : mg "int" = none
  n_isinstance : mg "isinstance" = none
  n_len : mg "len" = none
  n_list : mg "list" = none
  n_min : mg "min" = none
  n_range : mg "range" = none
  n_str : mg "str" = none
  n_tuple : mg "tuple" = none
  n_zip : mg "zip" = none
  g_combinations : mg "combinations" = some (.type "itertools.combinations")
  g_gcd : mg "gcd" = some (.builtin "math.gcd")
  hn_ : PySem.W.specialIn K (.builtin "object.__class__") "__get__" = some (some (.builtin "getset_descriptor.__get__"))
  ht_ : PySem.W.takesIn K (.builtin "object.__class__") = some true
section
variable {P : Program} {w : World} {K : PySem.W.Frag} {mg : Str → Option Value} {base : Heap} {A : Ads}
theorem ok_l_pick (T : Txt K mg A) : FnOk P w K mg base CX0 1 A.f_l_pick A.fd_l_pick ["state", "limit"] spPick := by
  have nd := sc_l_pick.nd
  refine T.F_l_pick.ok sc_l_pick (fun vs H Q E h => ?_) (fun cdv Ar outer s H vs Q E hr h => ?_)
  · obtain ⟨S, c, lim, rfl, _⟩ := h
    rfl
  · obtain ⟨S, c, lim, rfl, ⟨ncS, i, h, n, cs, eS, ec, hi, hh⟩, hl, hl2, k⟩ := h
    refine ⟨_, (pss_cons (ps_asg (pe_op op_add (pe_ix (ix_listK (K := K) rfl) (pv 0) pe_int (fun _ _ => rfl)) pe_int) (pg_sub (pv 0) pe_int set_list)) (pss_cons (ps_if (pt_cmpR op_gt (pe_ix (ix_listK (K := K) rfl) (pv 0) pe_int (fun _ _ => rfl)) pe_int (nomark _)) (pss_cons (ps_set (i := 2) nd rfl (Or.inl rfl) (pe_op op_modN (pe_callTy zc_int (by rfl) T.n_int (by decide +kernel) (pa_cons (pe_ix (ix_listK (K := K) rfl) (pv 0) pe_int (fun _ _ => rfl)) pa_nil)) (pv 1))) (pss_cons (ps_asg (pe_op op_fdivZ (pe_ix (ix_listK (K := K) rfl) (pv 0) pe_int (fun _ _ => rfl)) (pv 1)) (pg_sub (pv 0) pe_int set_list)) (pss_one (ps_ret (pv 2))))) pss_nil) (pss_cons (ps_set (i := 3) nd rfl (Or.inl rfl) pe_int) (pss_cutZ (ps_if (pt_cmpR op_lt (pe_ix (ix_listK (K := K) rfl) (pv 0) pe_int (fun _ _ => rfl)) (pe_callB (zc_lenK (K := K) rfl) (by rfl) T.n_len (by decide +kernel) (pa_cons (pe_ix (ix_listK (K := K) rfl) (pv 0) pe_int (fun _ _ => rfl)) pa_nil)) (nomark _)) (pss_one (ps_set (i := 3) nd rfl (Or.inl rfl) (pe_ix (ix_listK (K := K) rfl) (pe_ix (ix_listK (K := K) rfl) (pv 0) pe_int (fun _ _ => rfl)) (pe_ix (ix_listK (K := K) rfl) (pv 0) pe_int (fun _ _ => rfl)) (fun _ _ => rfl)))) pss_nil) (pss_cons (ps_asg (pe_op op_add (pe_ix (ix_listK (K := K) rfl) (pv 0) pe_int (fun _ _ => rfl)) pe_int) (pg_sub (pv 0) pe_int set_list)) (pss_cons (ps_if (pt_cmpR op_ge (pv 3) (pe_op op_pow pe_int pe_int) (nomark _)) (pss_cons (ps_asg (pe_op op_fdivZ (pv 3) (pv 1)) (pg_sub (pv 0) pe_int set_list)) (pss_one (ps_ret (pe_op op_modN (pe_callTy zc_int (by rfl) T.n_int (by decide +kernel) (pa_cons (pv 3) pa_nil)) (pv 1))))) pss_nil) (pss_cons (ps_set (i := 4) nd rfl (Or.inl rfl) (pe_op op_modN (pe_callTy zc_int (by rfl) T.n_int (by decide +kernel) (pa_cons (pe_op op_add (pe_op op_mul (pe_op op_modN (pe_callTy zc_int (by rfl) T.n_int (by decide +kernel) (pa_cons (pe_op op_add (pe_op op_add (pe_op op_mul (pv 3) pe_int) (pe_op op_mul (pe_ix (ix_listK (K := K) rfl) (pv 0) pe_int (fun _ _ => rfl)) pe_int)) pe_int) pa_nil)) pe_int) pe_int) (pe_ix (ix_listK (K := K) rfl) (pv 0) pe_int (fun _ _ => rfl))) pa_nil)) pe_int)) (pss_one (ps_ret (pe_op op_modN (pe_callTy zc_int (by rfl) T.n_int (by decide +kernel) (pa_cons (pe_op op_fdivZ (pv 4) pe_int) pa_nil)) (pv 1))))))))))), ?_⟩
    have hne : lim ≠ 0 := by omega
    have hcd : ∀ x : Int, CDivZ x lim := fun x => ⟨hne, hl2⟩
    have c1 : H c = some (.lst (cs.map V.int)) := ec
    walk_at "gs"
    refine if_2 (fun e => ?_) (fun e => ?_)
    · walk_at "gs"
      refine g_I (hcd _) ?_
      walk_at "gs"
      refine k _ _ (Int.fmod_nonneg_of_pos _ hl) (Int.fmod_lt_of_pos _ hl) ?_ ?_
      · have h0 : 0 < h := of_decide_eq_true e
        refine ⟨ncS, i, h.fdiv lim, n + 1, cs, upd_same, ?_, hi, ?_⟩
        · rw [upd_ne ncS, upd_ne ncS]
          exact ec
        · rw [Int.fdiv_eq_ediv_of_nonneg _ (by omega)]
          exact Int.ediv_nonneg hh (by omega)
      · rw [upd_upd]
        exact Kp.upd
    · have e0 : h = 0 := by
        have := of_decide_eq_false e
        omega
      subst e0
      walk_at "gs"
      have hS1 : ∀ o : HO, (upd H S o) c = some (.lst (cs.map V.int)) := fun o => by
        rw [upd_ne ncS]
        exact ec
      have hL1 : ∀ o : HO, SqL K (upd H S o) c (cs.map V.int) := fun o => SqL.of (hS1 o)
      refine g_cut (fun σ' H' => ∃ cl : Int, σ' = [some (.ref S), some (.int lim), none, some (.int cl), none] ∧ H' = upd H S (.lst [.ref c, .int i, .int 0, .int (n + 1)])) ?_ ?_
      · walk_at "gs"
        refine g_lenL (hL1 _) ?_
        walk_at "gs"
        refine if_2 (fun e => ?_) (fun e => ?_)
        · have hlt := of_decide_eq_true e
          rw [List.length_map] at hlt
          obtain ⟨j, ej⟩ : ∃ j : Nat, i = (j : Int) := ⟨i.toNat, by omega⟩
          have hj : j < cs.length := by omega
          walk_at "gs"
          refine g_ixL (hL1 _) (v := .int (cs[j])) ?_ ?_
          · rw [ej]
            exact atI_nat (by rw [List.getElem?_map, List.getElem?_eq_getElem hj]; rfl)
          walk_at "gs"
          exact ⟨cs[j], rfl, rfl⟩
        · walk_at "gs"
          exact ⟨0, rfl, rfl⟩
      · rintro σ' H' ⟨cl, rfl, rfl⟩
        walk_at "gs"
        refine if_2 (fun e => ?_) (fun e => ?_)
        · have hbig : (10 : Int) ^ 18 ≤ cl := of_decide_eq_true e
          have hcl : 0 ≤ cl := Int.le_trans (by decide) hbig
          walk_at "gs"
          refine g_I (hcd _) ?_
          walk_at "gs"
          refine k _ _ (Int.fmod_nonneg_of_pos _ hl) (Int.fmod_lt_of_pos _ hl) ?_ ?_
          · refine ⟨ncS, i + 1, cl.fdiv lim, n + 1, cs, upd_same, ?_, by omega, ?_⟩
            · rw [upd_upd, upd_upd]
              exact hS1 _
            · rw [Int.fdiv_eq_ediv_of_nonneg _ (by omega)]
              exact Int.ediv_nonneg hcl (by omega)
          · rw [upd_upd, upd_upd]
            exact Kp.upd
        · walk_at "gs"
          refine k _ _ (Int.fmod_nonneg_of_pos _ hl) (Int.fmod_lt_of_pos _ hl) ?_ ?_
          · refine ⟨ncS, i + 1, 0, n + 1, cs, upd_same, ?_, by omega, by omega⟩
            rw [upd_upd]
            exact hS1 _
          · rw [upd_upd]
            exact Kp.upd
end

section
variable {P : Program} {w : World} {K : PySem.W.Frag} {mg : Str → Option Value} {base : Heap} {A : Ads}
theorem ok_l_gcd (T : Txt K mg A) : FnOk P w K mg base CX0 1 A.f_l_gcd A.fd_l_gcd ["left", "right"] spGcd := by
  have nd := sc_l_gcd.nd
  refine T.F_l_gcd.ok sc_l_gcd (fun vs H Q E h => ?_) (fun cdv Ar outer s H vs Q E hr h => ?_)
  · obtain ⟨a, b, rfl, _⟩ := h
    rfl
  · obtain ⟨a, b, rfl, ha, hb, k⟩ := h
    refine ⟨_, (pss_cons (ps_while PassesOwn.never (pt_cmpR op_ne (pv 1) pe_int (nomark _)) (pss_one (ps_par (i := 0) (j := 1) rfl nd rfl rfl (by decide) rfl rfl (pa_cons (pv 1) (pa_cons (pe_op op_modN (pe_callTy zc_int (by rfl) T.n_int (by decide +kernel) (pa_cons (pv 0) pa_nil)) (pv 1)) pa_nil)) (by rfl)))) (pss_one (ps_ret (pv 0)))), ?_⟩
    walk_at "gs"
    refine g_while (fun m σ H' => ∃ x y : Int, σ = [some (.int x), some (.int y)] ∧ 0 ≤ x ∧ 0 ≤ y ∧ gcdI x y = gcdI a b ∧ H' = H ∧ m = y.natAbs) _ ⟨a, b, rfl, ha, hb, rfl, rfl, rfl⟩ ?_
    rintro m σ H' ⟨x, y, rfl, hx, hy, eg, rfl, rfl⟩
    walk_at "gs"
    refine if_2 (fun e => ⟨_, fun _ _ h => h, ?_⟩) (fun e => ?_)
    · have hne : y ≠ 0 := by
        intro z
        rw [z] at e
        cases e
      walk_at "gs"
      have h1 := Int.fmod_nonneg_of_pos x (show 0 < y by omega)
      have h2 := Int.fmod_lt_of_pos x (show 0 < y by omega)
      exact ⟨_, by omega, y, x.fmod y, rfl, hy, h1, by rw [gcdI_step hx hy hne]; exact eg, rfl, rfl⟩
    · have he : y = 0 := by
        have h1 := of_decide_eq_true (show decide (V.int y = V.int 0) = true by simpa using e)
        exact V.int.inj h1
      subst he
      walk_at "gs"
      rw [gcdI_zero hx] at eg
      rw [eg]
      exact k
theorem ok_l_ratio (T : Txt K mg A) : FnOk P w K mg base CX0 2 A.f_l_ratio A.fd_l_ratio ["top", "bottom"] (spLRatio K) := by
  have G_l_gcd := ok_l_gcd (P := P) (w := w) (base := base) T
  have nd := sc_l_ratio.nd
  refine T.F_l_ratio.ok sc_l_ratio (fun vs H Q E h => ?_) (fun cdv Ar outer s H vs Q E hr h => ?_)
  · obtain ⟨a, b, rfl, _⟩ := h
    rfl
  · obtain ⟨a, b, rfl, hb, hsz, k⟩ := h
    refine ⟨_, (pss_cons (ps_set (i := 2) nd rfl (Or.inl rfl) (pe_call (E := E0) G_l_gcd (hr.mono (by decide)) (by rfl) T.g_l_gcd T.F_l_gcd.kp T.b_l_gcd .nil pass0 (pa_cons (pe_callB zc_abs (by rfl) T.n_abs (by decide +kernel) (pa_cons (pv 0) pa_nil)) (pa_cons (pe_callB zc_abs (by rfl) T.n_abs (by decide +kernel) (pa_cons (pv 1) pa_nil)) pa_nil)))) (pss_cutZ (ps_if (pt_cmpR op_lt (pv 1) pe_int (nomark _)) (pss_one (ps_set (i := 2) nd rfl (Or.inl rfl) (pe_un un_neg (pv 2)))) pss_nil) (pss_one (ps_ret (pe_tup (pa_cons (pe_op op_fdivZ (pv 0) (pv 2)) (pa_cons (pe_op op_fdivZ (pv 1) (pv 2)) pa_nil))))))), ?_⟩
    walk_at "gs"
    refine ⟨_, _, rfl, by split <;> omega, by split <;> omega, ?_⟩
    rw [abs_gcd]
    walk_at "gs"
    refine g_cut (fun σ' H' => σ' = [some (.int a), some (.int b), some (.int (comI a b))] ∧ H' = H) ?_ ?_
    · walk_at "gs"
      refine if_2 (fun e => ?_) (fun e => ?_)
      · walk_at "gs"
        refine ⟨?_, rfl⟩
        have := of_decide_eq_true e
        unfold comI
        rw [if_pos this]
        rfl
      · walk_at "gs"
        refine ⟨?_, rfl⟩
        have := of_decide_eq_false e
        unfold comI
        rw [if_neg this]
        rfl
    · rintro σ' H' ⟨rfl, rfl⟩
      have hc : ∀ x, CDivZ x (comI a b) := fun x => ⟨comI_ne hb, by
        rw [comI_abs]
        exact Nat.lt_of_le_of_lt (gcdI_le hb) hsz⟩
      walk_at "gs"
      refine g_I (hc _) ?_
      walk_at "gs"
      refine g_I (hc _) ?_
      walk_at "gs"
      rw [fdiv_num hb, fdiv_den hb]
      refine g_newT (by show 2 ≤ 1000000; decide) fun p hp => ?_
      exact k _ _ (up_same hp) RatV.new
end

section
variable {P : Program} {w : World} {K : PySem.W.Frag} {mg : Str → Option Value} {base : Heap} {A : Ads}
theorem ok_l_add (T : Txt K mg A) : FnOk P w K mg base CX0 3 A.f_l_add A.fd_l_add ["left", "right"] (spBin9 K (fun p q => p + q)) := by
  have G_l_ratio := ok_l_ratio (P := P) (w := w) (base := base) T
  have nd := sc_l_add.nd
  refine T.F_l_add.ok sc_l_add (fun vs H Q E h => ?_) (fun cdv Ar outer s H vs Q E hr h => ?_)
  · obtain ⟨x, y, p, q, n, m, rfl, _⟩ := h
    rfl
  · obtain ⟨x, y, p, q, n, m, rfl, ⟨px, rfl, hx⟩, ⟨py, rfl, hy⟩, bp, bq, hnm, k⟩ := h
    refine ⟨_, (pss_one (ps_ret (pe_call (E := E0) G_l_ratio (hr.mono (by decide)) (by rfl) T.g_l_ratio T.F_l_ratio.kp T.b_l_ratio .nil pass0 (pa_cons (pe_op op_add (pe_op op_mulB (pe_ix (ix_tupK (K := K) rfl) (pv 0) pe_int (fun _ _ => rfl)) (pe_ix (ix_tupK (K := K) rfl) (pv 1) pe_int (fun _ _ => rfl))) (pe_op op_mulB (pe_ix (ix_tupK (K := K) rfl) (pv 1) pe_int (fun _ _ => rfl)) (pe_ix (ix_tupK (K := K) rfl) (pv 0) pe_int (fun _ _ => rfl)))) (pa_cons (pe_op op_mulB (pe_ix (ix_tupK (K := K) rfl) (pv 0) pe_int (fun _ _ => rfl)) (pe_ix (ix_tupK (K := K) rfl) (pv 1) pe_int (fun _ _ => rfl))) pa_nil))))), ?_⟩
    have m0 : CMulB p.num (q.den : Int) := mulB9 (a := n) (b := m) bp.1 bq.2 (by omega)
    have m1 : CMulB q.num (p.den : Int) := mulB9 (a := m) (b := n) bq.1 bp.2 (by omega)
    have m2 : CMulB (p.den : Int) (q.den : Int) := mulB9 (a := n) (b := m) bp.2 bq.2 (by omega)
    walk_at "gs"
    refine ⟨_, _, rfl, den_mul_ne p q, lt9000 (n := n + m) (abs_mul_lt (x := (p.den : Int)) (y := (q.den : Int)) bp.2 bq.2) (by omega), fun v H' sm hv => ?_⟩
    rw [rat_plus] at hv
    exact k v H' sm hv
theorem ok_l_sub (T : Txt K mg A) : FnOk P w K mg base CX0 3 A.f_l_sub A.fd_l_sub ["left", "right"] (spBin9 K (fun p q => p - q)) := by
  have G_l_ratio := ok_l_ratio (P := P) (w := w) (base := base) T
  have nd := sc_l_sub.nd
  refine T.F_l_sub.ok sc_l_sub (fun vs H Q E h => ?_) (fun cdv Ar outer s H vs Q E hr h => ?_)
  · obtain ⟨x, y, p, q, n, m, rfl, _⟩ := h
    rfl
  · obtain ⟨x, y, p, q, n, m, rfl, ⟨px, rfl, hx⟩, ⟨py, rfl, hy⟩, bp, bq, hnm, k⟩ := h
    refine ⟨_, (pss_one (ps_ret (pe_call (E := E0) G_l_ratio (hr.mono (by decide)) (by rfl) T.g_l_ratio T.F_l_ratio.kp T.b_l_ratio .nil pass0 (pa_cons (pe_op op_sub (pe_op op_mulB (pe_ix (ix_tupK (K := K) rfl) (pv 0) pe_int (fun _ _ => rfl)) (pe_ix (ix_tupK (K := K) rfl) (pv 1) pe_int (fun _ _ => rfl))) (pe_op op_mulB (pe_ix (ix_tupK (K := K) rfl) (pv 1) pe_int (fun _ _ => rfl)) (pe_ix (ix_tupK (K := K) rfl) (pv 0) pe_int (fun _ _ => rfl)))) (pa_cons (pe_op op_mulB (pe_ix (ix_tupK (K := K) rfl) (pv 0) pe_int (fun _ _ => rfl)) (pe_ix (ix_tupK (K := K) rfl) (pv 1) pe_int (fun _ _ => rfl))) pa_nil))))), ?_⟩
    have m0 : CMulB p.num (q.den : Int) := mulB9 (a := n) (b := m) bp.1 bq.2 (by omega)
    have m1 : CMulB q.num (p.den : Int) := mulB9 (a := m) (b := n) bq.1 bp.2 (by omega)
    have m2 : CMulB (p.den : Int) (q.den : Int) := mulB9 (a := n) (b := m) bp.2 bq.2 (by omega)
    walk_at "gs"
    refine ⟨_, _, rfl, den_mul_ne p q, lt9000 (n := n + m) (abs_mul_lt (x := (p.den : Int)) (y := (q.den : Int)) bp.2 bq.2) (by omega), fun v H' sm hv => ?_⟩
    rw [rat_minus] at hv
    exact k v H' sm hv
theorem ok_l_mul (T : Txt K mg A) : FnOk P w K mg base CX0 3 A.f_l_mul A.fd_l_mul ["left", "right"] (spBin9 K (fun p q => p * q)) := by
  have G_l_ratio := ok_l_ratio (P := P) (w := w) (base := base) T
  have nd := sc_l_mul.nd
  refine T.F_l_mul.ok sc_l_mul (fun vs H Q E h => ?_) (fun cdv Ar outer s H vs Q E hr h => ?_)
  · obtain ⟨x, y, p, q, n, m, rfl, _⟩ := h
    rfl
  · obtain ⟨x, y, p, q, n, m, rfl, ⟨px, rfl, hx⟩, ⟨py, rfl, hy⟩, bp, bq, hnm, k⟩ := h
    refine ⟨_, (pss_one (ps_ret (pe_call (E := E0) G_l_ratio (hr.mono (by decide)) (by rfl) T.g_l_ratio T.F_l_ratio.kp T.b_l_ratio .nil pass0 (pa_cons (pe_op op_mulB (pe_ix (ix_tupK (K := K) rfl) (pv 0) pe_int (fun _ _ => rfl)) (pe_ix (ix_tupK (K := K) rfl) (pv 1) pe_int (fun _ _ => rfl))) (pa_cons (pe_op op_mulB (pe_ix (ix_tupK (K := K) rfl) (pv 0) pe_int (fun _ _ => rfl)) (pe_ix (ix_tupK (K := K) rfl) (pv 1) pe_int (fun _ _ => rfl))) pa_nil))))), ?_⟩
    have m0 : CMulB p.num q.num := mulB9 (a := n) (b := m) bp.1 bq.1 (by omega)
    have m1 : CMulB (p.den : Int) (q.den : Int) := mulB9 (a := n) (b := m) bp.2 bq.2 (by omega)
    walk_at "gs"
    refine ⟨_, _, rfl, den_mul_ne p q, lt9000 (n := n + m) (abs_mul_lt (x := (p.den : Int)) (y := (q.den : Int)) bp.2 bq.2) (by omega), fun v H' sm hv => ?_⟩
    rw [rat_times] at hv
    exact k v H' sm hv
theorem ok_l_div (T : Txt K mg A) : FnOk P w K mg base CX0 3 A.f_l_div A.fd_l_div ["left", "right"] (spDiv9 K) := by
  have G_l_ratio := ok_l_ratio (P := P) (w := w) (base := base) T
  have nd := sc_l_div.nd
  refine T.F_l_div.ok sc_l_div (fun vs H Q E h => ?_) (fun cdv Ar outer s H vs Q E hr h => ?_)
  · obtain ⟨x, y, p, q, n, m, rfl, _⟩ := h
    rfl
  · obtain ⟨x, y, p, q, n, m, rfl, ⟨px, rfl, hx⟩, ⟨py, rfl, hy⟩, bp, bq, hnm, hq, k⟩ := h
    refine ⟨_, (pss_one (ps_ret (pe_call (E := E0) G_l_ratio (hr.mono (by decide)) (by rfl) T.g_l_ratio T.F_l_ratio.kp T.b_l_ratio .nil pass0 (pa_cons (pe_op op_mulB (pe_ix (ix_tupK (K := K) rfl) (pv 0) pe_int (fun _ _ => rfl)) (pe_ix (ix_tupK (K := K) rfl) (pv 1) pe_int (fun _ _ => rfl))) (pa_cons (pe_op op_mulB (pe_ix (ix_tupK (K := K) rfl) (pv 0) pe_int (fun _ _ => rfl)) (pe_ix (ix_tupK (K := K) rfl) (pv 1) pe_int (fun _ _ => rfl))) pa_nil))))), ?_⟩
    have m0 : CMulB p.num (q.den : Int) := mulB9 (a := n) (b := m) bp.1 bq.2 (by omega)
    have m1 : CMulB (p.den : Int) q.num := mulB9 (a := n) (b := m) bp.2 bq.1 (by omega)
    walk_at "gs"
    refine ⟨_, _, rfl, den_num_ne hq, lt9000 (n := n + m) (abs_mul_lt (x := (p.den : Int)) (y := q.num) bp.2 bq.1) (by omega), fun v H' sm hv => ?_⟩
    rw [rat_over] at hv
    exact k v H' sm hv
end

section
variable {P : Program} {w : World} {K : PySem.W.Frag} {mg : Str → Option Value} {base : Heap} {A : Ads}
theorem ok_l_ends (T : Txt K mg A) : FnOk P w K mg base CX0 1 A.f_l_ends A.fd_l_ends ["net"] (spLEnds K) := by
  have nd := sc_l_ends.nd
  refine T.F_l_ends.ok sc_l_ends (fun vs H Q E h => ?_) (fun cdv Ar outer s H vs Q E hr h => ?_)
  · obtain ⟨v, rim, rows, qs, En, rfl, _⟩ := h
    rfl
  · obtain ⟨v, rim, rows, qs, En, rfl, ⟨p, t, m, ts, as, rfl, hN⟩, hW, hq, hE, hl, k⟩ := h
    refine ⟨_, (pss_cons (ps_setLc (i := 1) (own := [("k", 5)]) (g := gName 5) (tt := tYes) rfl nd rfl rfl (sw_true rfl rfl rfl (by decide +kernel)) (pi_range1 (by rfl) T.n_range (pa_cons (pe_callB (zc_lenK (K := K) rfl) (by rfl) T.n_len (by decide +kernel) (pa_cons (pe_ix (ix_tupK (K := K) rfl) (pv 0) pe_int (fun _ _ => rfl)) pa_nil)) pa_nil)) (blkOk_by (N := ["net", "ends", "node", "dart", "row", "k"]) (sc := defScope s_l_ends) (by decide +kernel)) (fun _ _ _ _ _ => pg_name (i := 5) nd rfl (by first | exact Or.inl rfl | exact Or.inr rfl)) (fun _ _ _ _ _ => pts_nil) (fun _ _ _ _ _ => (pe_lst (pa_cons pe_int (pa_cons pe_int pa_nil))))) (pss_cons (ps_for PassesOwn.never rfl (pi_range1 (by rfl) T.n_range (pa_cons (pe_callB (zc_lenK (K := K) rfl) (by rfl) T.n_len (by decide +kernel) (pa_cons (pe_ix (ix_tupK (K := K) rfl) (pv 0) pe_int (fun _ _ => rfl)) pa_nil)) pa_nil)) (pg_name (i := 2) nd rfl (Or.inl rfl)) (pss_one (ps_for PassesOwn.never rfl (pi_tupK (K := K) rfl (pe_ix (ix_tupK (K := K) rfl) (pe_ix (ix_tupK (K := K) rfl) (pv 0) pe_int (fun _ _ => rfl)) (pv 2) (fun _ _ => rfl))) (pg_name (i := 3) nd rfl (Or.inl rfl)) (pss_cons (ps_set (i := 4) nd rfl (Or.inl rfl) (pe_ix (ix_listK (K := K) rfl) (pv 1) (pe_op op_fdivN (pv 3) pe_int) (fun _ _ => rfl))) (pss_one (ps_asg (pv 2) (pg_sub (pv 4) (pe_op op_modN (pe_callTy zc_int (by rfl) T.n_int (by decide +kernel) (pa_cons (pv 3) pa_nil)) pe_int) set_list))))))) (pss_one (ps_ret (pv 1))))), ?_⟩
    walk_at "gs"
    refine g_ixT hN.top rfl ?_
    walk_at "gs"
    refine g_lenT hN.ams ?_
    have hal : as.length = En := by rw [hN.rats.len, hq]
    refine g_lcRng En (by rw [hal]) (by omega) (fun l i acc H' => Same H H' ∧ ∃ rs, acc = rs.map V.ref ∧ RowsAt H' l rs (List.replicate i [0, 0]) ∧ ∀ r ∈ rs, H r = none) (fun _ => rfl)
      (fun l hl => ⟨up_same hl, [], rfl, ⟨upd_same, rfl, fun i r row a => by simp at a, List.nodup_nil⟩, fun r hr => nomatch hr⟩) ?_ ?_
    · rintro l i acc H1 hl0 hi ⟨sm1, rs, rfl, hR, hfr⟩
      walk_at "gs"
      refine g_newL (by show 2 ≤ 1000000; decide) fun r hr => ?_
      have s1 := up_same (o := .lst [.int 0, .int 0]) hr
      have hR1 := hR.same s1
      have hrn : r ∉ rs := fun hm => by
        obtain ⟨j, hj⟩ := List.mem_iff_getElem?.mp hm
        have hj2 : j < (List.replicate i ([0, 0] : List Int)).length := by
          rw [← hR.len]
          exact (List.getElem?_eq_some_iff.mp hj).1
        rw [hR.at_ j r _ hj (List.getElem?_eq_getElem hj2)] at hr
        cases hr
      have hrl : r ≠ l := (ne_of_none hR.top hr).symm
      refine lcN_of hR1.top (by rw [List.length_map, hR.len, List.length_replicate]; omega) ⟨fun b o h => ?_, rs ++ [r], by rw [List.map_append]; rfl, ?_, fun x hx => ?_⟩
      · rw [upd_ne (ne_of_none h hl0)]
        exact s1 _ _ (sm1 _ _ h)
      · have := hR1.push (r := r) (row := [0, 0]) upd_same hrn hrl
        rw [show List.replicate (i + 1) ([0, 0] : List Int) = List.replicate i [0, 0] ++ [[0, 0]] from List.replicate_succ' ..]
        exact this
      · rcases List.mem_append.mp hx with hx | hx
        · exact hfr x hx
        · rw [List.mem_singleton.mp hx]
          exact sm1.free hr
    · rintro l acc H1 hl0 ⟨sm1, rs, rfl, hR, hfr⟩
      have hst : List.replicate En ([0, 0] : List Int) = endRows rows En 0 0 := by
        unfold endRows
        refine List.ext_getElem (by rw [List.length_replicate, List.length_map, List.length_range]) fun j h1 h2 => ?_
        rw [List.getElem_replicate, List.getElem_map, List.getElem_range]
        unfold endV
        rw [if_neg (by omega), if_neg (by omega)]
      rw [hst] at hR
      have hN1 := hN.same sm1
      walk_at "gs"
      refine g_ixT hN1.top rfl ?_
      walk_at "gs"
      refine g_lenT hN1.turns ?_
      refine g_rng rows.length (by rw [List.length_map, hN.len]) (by omega) (fun i σ' H' => ∃ u2 u3 u4, σ' = [some (.ref p), some (.ref l), u2, u3, u4, none] ∧ Same H H' ∧ RowsAt H' l rs (endRows rows En i 0)) ⟨none, none, none, rfl, sm1, hR⟩ ?_ ?_
      · rintro i σ' H2 hi ⟨u2, u3, u4, rfl, sm2, hR2⟩
        have hri : rows[i]? = some (rows.getD i []) := by
          rw [List.getD_eq_getElem?_getD, List.getElem?_eq_getElem hi]
          rfl
        have hti : (ts.map V.ref)[i]? = some (.ref (ts[i]'(by rw [hN.len]; exact hi))) := by
          rw [List.getElem?_map, List.getElem?_eq_getElem (by rw [hN.len]; exact hi)]
          rfl
        have hr1 : SqT K H (ts[i]'(by rw [hN.len]; exact hi)) ((rows.getD i []).map V.int) := hN.row i _ _ (List.getElem?_eq_getElem (by rw [hN.len]; exact hi)) hri
        have hN2 := hN.same sm2
        walk_at "gs"
        refine g_ixT hN2.top rfl ?_
        walk_at "gs"
        refine g_ixT hN2.turns (atI_nat hti) ?_
        refine g_itT (Same.sqt sm2 hr1) (fun j σ' H' => ∃ u3 u4, σ' = [some (.ref p), some (.ref l), some (.int (i : Int)), u3, u4, none] ∧ Same H H' ∧ RowsAt H' l rs (endRows rows En i j)) ⟨u3, u4, rfl, sm2, hR2⟩ (fun j σ' H' _ h => by
            obtain ⟨_, _, _, z, _⟩ := h
            exact Same.sqt z hr1) ?_ ?_
        · rintro j x σ' H3 hx ⟨w3, w4, rfl, sm3, hR3⟩
          obtain ⟨d, hd, rfl⟩ := int_at hx
          have hdm : d ∈ rows.flatten := mem_flat.mpr ⟨i, _, hri, List.mem_of_getElem? hd⟩
          have hdr := (hW.mem d).mp hdm
          obtain ⟨e, he⟩ : ∃ e : Nat, d / 2 = (e : Int) := ⟨(d / 2).toNat, by omega⟩
          have heE : e < En := by omega
          obtain ⟨r, hrs, hrH⟩ := hR3.get (endRows_at (rows := rows) (i := i) (j := j) heE)
          have hrm : (rs.map V.ref)[e]? = some (.ref r) := by rw [List.getElem?_map, hrs]; rfl
          walk_at "gs"
          rw [show d.fdiv 2 = (e : Int) by rw [Int.fdiv_eq_ediv_of_nonneg _ (by decide)]; exact he]
          refine g_ixL (SqL.of hR3.top) (atI_nat hrm) ?_
          walk_at "gs"
          have hmod : d.fmod 2 = ((d % 2).toNat : Int) := by
            rw [Int.fmod_eq_emod_of_nonneg _ (by decide)]
            omega
          rw [hmod]
          refine g_setL hrH (ixN_of (by show (d % 2).toNat < 2; omega)) ?_
          have hset : ([endV rows i j (2 * (e : Int)), endV rows i j (2 * (e : Int) + 1)].map V.int).set (d % 2).toNat (.int (i : Int)) = ([endV rows i (j + 1) (2 * (e : Int)), endV rows i (j + 1) (2 * (e : Int) + 1)] : List Int).map V.int := by
            rw [endV_put hW.nd hri hd ((hW.mem _).mpr (by omega)), endV_put hW.nd hri hd ((hW.mem _).mpr (by omega))]
            rcases (show d % 2 = 0 ∨ d % 2 = 1 by omega) with z | z
            · rw [z, if_pos (by omega), if_neg (by omega)]
              rfl
            · rw [z, if_neg (by omega), if_pos (by omega)]
              rfl
          rw [hset]
          have hrow := hR3.row hrs ([endV rows i (j + 1) (2 * (e : Int)), endV rows i (j + 1) (2 * (e : Int) + 1)])
          have hnew : (endRows rows En i j).set e [endV rows i (j + 1) (2 * (e : Int)), endV rows i (j + 1) (2 * (e : Int) + 1)] = endRows rows En i (j + 1) := by
            refine List.ext_getElem (by rw [List.length_set, endRows_len, endRows_len]) fun t h1 h2 => ?_
            have ht : t < En := by
              rw [endRows_len] at h2
              exact h2
            by_cases z : e = t
            · subst z
              rw [List.getElem_set_self]
              have := endRows_at (rows := rows) (i := i) (j := j + 1) ht
              rw [List.getElem?_eq_getElem h2] at this
              exact (Option.some.inj this).symm
            · rw [List.getElem_set_ne z]
              have q1 := endRows_at (rows := rows) (i := i) (j := j) ht
              have q2 := endRows_at (rows := rows) (i := i) (j := j + 1) ht
              rw [List.getElem?_eq_getElem (by rw [endRows_len]; exact ht)] at q1 q2
              rw [Option.some.inj q1, Option.some.inj q2, endV_put hW.nd hri hd ((hW.mem _).mpr (by omega)), endV_put hW.nd hri hd ((hW.mem _).mpr (by omega)), if_neg (by omega), if_neg (by omega)]
          rw [hnew] at hrow
          refine ⟨_, _, rfl, fun b o h => ?_, hrow⟩
          rw [upd_ne (ne_of_none h (hfr r (List.mem_of_getElem? hrs)))]
          exact sm3 _ _ h
        · rintro σ' H3 ⟨w3, w4, rfl, sm3, hR3⟩
          refine ⟨_, _, _, rfl, sm3, ?_⟩
          rw [List.length_map] at hR3
          have : endRows rows En (i + 1) 0 = endRows rows En i (rows.getD i []).length := by
            unfold endRows
            refine List.map_congr_left fun e he => ?_
            have := List.mem_range.mp he
            rw [endV_row hri ((hW.mem _).mpr (by omega)), endV_row hri ((hW.mem _).mpr (by omega))]
          rw [this]
          exact hR3
      · rintro σ' H2 ⟨u2, u3, u4, rfl, sm2, hR2⟩
        walk_at "gs"
        refine k l rs H2 sm2 hl0 ?_
        have : endsM rows En = endRows rows En rows.length 0 := by
          unfold endsM endRows
          refine List.map_congr_left fun e he => ?_
          have := List.mem_range.mp he
          rw [endV_end ((hW.mem _).mpr (by omega)), endV_end ((hW.mem _).mpr (by omega))]
        rw [this]
        exact hR2
end

section
variable {P : Program} {w : World} {K : PySem.W.Frag} {mg : Str → Option Value} {base : Heap} {A : Ads}
theorem ok_l_left (T : Txt K mg A) (G_l_sub : FnOk P w K mg base CX0 3 A.f_l_sub A.fd_l_sub ["left", "right"] (spBin9 K (fun p q => p - q))) (G_l_mul : FnOk P w K mg base CX0 3 A.f_l_mul A.fd_l_mul ["left", "right"] (spBin9 K (fun p q => p * q)))
    (G_l_div : FnOk P w K mg base CX0 3 A.f_l_div A.fd_l_div ["left", "right"] (spDiv9 K)) : FnOk P w K mg base CX0 4 A.f_l_left A.fd_l_left ["rows", "kept"] (spTabLeft K) := by
  have nd := sc_l_left.nd
  refine T.F_l_left.ok sc_l_left (fun vs H Q E h => ?_) (fun cdv Ar outer s H vs Q E hr h => ?_)
  · obtain ⟨v, q, n, M, kept, rfl, _⟩ := h
    rfl
  · obtain ⟨v, q, n, M, kept, rfl, hv, hq, hn, hkl, hkn, hS, k⟩ := h
    refine ⟨_, (pss_cutZ (ps_set (i := 0) nd rfl (Or.inr rfl) (pe_lc (own := [("row", 6)]) (g := gName 6) (tt := tYes) rfl nd (pi_listK (K := K) rfl (pv 0)) (blkOk_by (N := ["rows", "kept", "size", "at", "i", "share", "row", "j"]) (sc := defScope s_l_left) (by decide +kernel)) (fun _ _ _ _ _ => pg_name (i := 6) nd rfl (by first | exact Or.inl rfl | exact Or.inr rfl)) (fun _ _ _ _ _ => pts_nil) (fun _ _ _ _ _ => (pe_callTy (zc_listK (K := K) rfl) (by rfl) T.n_list (by decide +kernel) (pa_cons (pv 6) pa_nil))))) (pss_cutZ (ps_set (i := 2) nd rfl (Or.inl rfl) (pe_callB (zc_lenK (K := K) rfl) (by rfl) T.n_len (by decide +kernel) (pa_cons (pv 0) pa_nil))) (pss_cutZ (ps_for PassesOwn.never rfl (pi_range1 (by rfl) T.n_range (pa_cons (pv 2) pa_nil)) (pg_name (i := 3) nd rfl (Or.inr rfl)) (pss_one (ps_if (PW.pt (pw_and (pt_cmpR (op_ninK (K := K) rfl) (pv 3) (pv 1) (by rfl)) (pw_and1 (pt_cmpR (op_neDK (K := K) rfl hr.units) (pe_ix (ix_listK (K := K) rfl) (pe_ix (ix_listK (K := K) rfl) (pv 0) (pv 3) (fun _ _ => rfl)) (pv 3) (fun _ _ => rfl)) (pe_tup (pa_cons pe_int (pa_cons pe_int pa_nil))) (nomark _))))) (pss_one (ps_for PassesOwn.never rfl (pi_range1 (by rfl) T.n_range (pa_cons (pv 2) pa_nil)) (pg_name (i := 4) nd rfl (Or.inr rfl)) (pss_one (ps_if (PW.pt (pw_and (pt_cmpR op_ne (pv 4) (pv 3) (nomark _)) (pw_and1 (pt_cmpR (op_neDK (K := K) rfl hr.units) (pe_ix (ix_listK (K := K) rfl) (pe_ix (ix_listK (K := K) rfl) (pv 0) (pv 4) (fun _ _ => rfl)) (pv 3) (fun _ _ => rfl)) (pe_tup (pa_cons pe_int (pa_cons pe_int pa_nil))) (nomark _))))) (pss_cutZ (ps_set (i := 5) nd rfl (Or.inr rfl) (pe_call (E := E0) G_l_div (hr.mono (by decide)) (by rfl) T.g_l_div T.F_l_div.kp T.b_l_div .nil pass0 (pa_cons (pe_ix (ix_listK (K := K) rfl) (pe_ix (ix_listK (K := K) rfl) (pv 0) (pv 4) (fun _ _ => rfl)) (pv 3) (fun _ _ => rfl)) (pa_cons (pe_ix (ix_listK (K := K) rfl) (pe_ix (ix_listK (K := K) rfl) (pv 0) (pv 3) (fun _ _ => rfl)) (pv 3) (fun _ _ => rfl)) pa_nil)))) (pss_one (ps_asg (pe_lc (own := [("j", 7)]) (g := gName 7) (tt := tYes) rfl nd (pi_range1 (by rfl) T.n_range (pa_cons (pv 2) pa_nil)) (blkOk_by (N := ["rows", "kept", "size", "at", "i", "share", "row", "j"]) (sc := defScope s_l_left) (by decide +kernel)) (fun _ _ _ _ _ => pg_name (i := 7) nd rfl (by first | exact Or.inl rfl | exact Or.inr rfl)) (fun _ _ _ _ _ => pts_nil) (fun _ _ _ _ _ => (pe_call (E := E0) G_l_sub (hr.mono (by decide)) (by rfl) T.g_l_sub T.F_l_sub.kp T.b_l_sub .nil pass0 (pa_cons (pe_ix (ix_listK (K := K) rfl) (pe_ix (ix_listK (K := K) rfl) (pv 0) (pv 4) (fun _ _ => rfl)) (pv 7) (fun _ _ => rfl)) (pa_cons (pe_call (E := E0) G_l_mul (hr.mono (by decide)) (by rfl) T.g_l_mul T.F_l_mul.kp T.b_l_mul .nil pass0 (pa_cons (pv 5) (pa_cons (pe_ix (ix_listK (K := K) rfl) (pe_ix (ix_listK (K := K) rfl) (pv 0) (pv 3) (fun _ _ => rfl)) (pv 7) (fun _ _ => rfl)) pa_nil))) pa_nil))))) (pg_sub (pv 0) (pv 4) set_list)))) pss_nil)))) pss_nil))) (pss_one (ps_ret (pe_callTy (zc_tupleK (K := K) rfl) (by rfl) T.n_tuple (by decide +kernel) (pa_cons (pe_lc (own := [("i", 4)]) (g := gName 4) (tt := tYes) rfl nd (pi_listK (K := K) rfl (pv 1)) (blkOk_by (N := ["rows", "kept", "size", "at", "i", "share", "row", "j"]) (sc := defScope s_l_left) (by decide +kernel)) (fun _ _ _ _ _ => pg_name (i := 4) nd rfl (by first | exact Or.inl rfl | exact Or.inr rfl)) (fun _ _ _ _ _ => pts_nil) (fun _ _ _ _ _ => (pe_callTy (zc_tupleK (K := K) rfl) (by rfl) T.n_tuple (by decide +kernel) (pa_cons (pe_lc (own := [("j", 7)]) (g := gName 7) (tt := tYes) rfl nd (pi_listK (K := K) rfl (pv 1)) (blkIn (N := ["rows", "kept", "size", "at", "i", "share", "row", "j"]) rfl (blkOk_by (N := ["rows", "kept", "size", "at", "i", "share", "row", "j"]) (by decide +kernel))) (fun _ _ _ _ _ => pg_name (i := 7) nd rfl (by first | exact Or.inl rfl | exact Or.inr rfl)) (fun _ _ _ _ _ => pts_nil) (fun _ _ _ _ _ => (pe_ix (ix_listK (K := K) rfl) (pe_ix (ix_listK (K := K) rfl) (pv 0) (pv 4) (fun _ _ => rfl)) (pv 7) (fun _ _ => rfl)))) pa_nil)))) pa_nil))))))), ?_⟩
    obtain ⟨p0, us0, rfl, hp0, hM0⟩ := hv
    refine g_cut (fun σ' H' => ∃ R us, σ' = [some (.ref R), some (.ref q), none, none, none, none, none, none] ∧ Same H H' ∧ H R = none ∧ MR K H' R us (pM n id M)) ?_ ?_
    · walk_at "gs"
      refine copy_rowsR hp0 hM0 (by rw [pM_len]; omega) (fun _ => rfl) (fun _ => rfl) fun l us' H' s hl hMR => ?_
      exact ⟨l, us', rfl, s, hl, hMR⟩
    rintro σ' H1 ⟨R, us1, rfl, s1, hR0, hMR1⟩
    refine g_cut (fun σ' H' => σ' = [some (.ref R), some (.ref q), some (.int (n : Int)), none, none, none, none, none] ∧ H1 = H') ?_ ?_
    · walk_at "gs"
      refine g_lenL (SqL.of hMR1.top) ?_
      rw [hMR1.len, pM_len]
      exact ⟨rfl, rfl⟩
    rintro σ' _ ⟨rfl, rfl⟩
    refine g_cut (fun σ' H' => ∃ u3 u4 u5 us, σ' = [some (.ref R), some (.ref q), some (.int (n : Int)), u3, u4, u5, none, none] ∧ Same H H' ∧ MR K H' R us (pM n id (JS M (esL M kept n)))) ?_ ?_
    · walk_at "gs"
      refine g_rng n rfl (by omega) (fun a σ' H' => ∃ u3 u4 u5 us, σ' = [some (.ref R), some (.ref q), some (.int (n : Int)), u3, u4, u5, none, none] ∧ Same H H' ∧ MR K H' R us (pM n id (JS M (esL M kept a)))) ⟨_, _, _, us1, rfl, s1, hMR1⟩ ?_ ?_
      · rintro a σ' H2 ha ⟨u3, u4, u5, us, rfl, s2, hMR⟩
        obtain ⟨A, hA⟩ : ∃ A, A = JS M (esL M kept a) := ⟨_, rfl⟩
        have hP := esL_piv (n := n) (M := M) (kept := kept) a (by omega)
        have han : a ∉ esL M kept a := fun z => Nat.lt_irrefl _ (esL_lt a a z)
        have hb := hS _ hP
        rw [← hA] at hMR hb
        have hesc : esL M kept (a + 1) = if a ∉ kept ∧ A a a ≠ 0 then esL M kept a ++ [a] else esL M kept a := by
          rw [hA]
          rfl
        walk_at "gs"
        refine g_ninL (ns := kept.map fun n : Nat => (n : Int)) (by rw [← ntS_ints]; exact s2.seq hq) ?_
        rw [nin_cast]
        refine ⟨_, rfl, ?_⟩
        by_cases hk : a ∈ kept
        · refine if_f (by rw [decide_eq_true hk]; rfl) ?_
          refine if_f rfl ?_
          walk_at "gs"
          refine ⟨_, _, _, us, rfl, s2, ?_⟩
          rw [hesc, if_neg fun z => z.1 hk, ← hA]
          exact hMR
        · refine if_t (by rw [decide_eq_false hk]; rfl) ?_
          obtain ⟨pa, xa, e1, e2, e3⟩ := hMR.l.row (i := a) (by rw [pM_len]; exact ha)
          obtain ⟨va, e4, e5⟩ := e3.ent (j := a) (by rw [pM_wid ha]; exact ha)
          rw [pM_ent ha ha] at e5
          walk_at "gs"
          refine g_ixL (SqL.of hMR.top) (atI_nat e1) ?_
          walk_at "gs"
          refine g_ixL e2 (atI_nat e4) ?_
          walk_at "gs"
          refine g_newT (by show 2 ≤ 1000000; decide) fun o ho => ?_
          have so := up_same (o := .tup [V.int 0, V.int 1]) ho
          refine g_neRat (q := 0) (e5.same so) ⟨o, rfl, SqT.of upd_same⟩ ?_
          refine ⟨_, rfl, ?_⟩
          by_cases hz : A a a = 0
          · refine if_f (by rw [show decide (A (id a) (id a) = 0) = true from decide_eq_true hz]; rfl) ?_
            walk_at "gs"
            refine ⟨_, _, _, us, rfl, s2.trans so, ?_⟩
            rw [hesc, if_neg fun z => z.2 hz, ← hA]
            exact hMR.same so
          · refine if_t (by rw [show decide (A (id a) (id a) = 0) = false from decide_eq_false hz]; rfl) ?_
            walk_at "gs"
            refine g_rng n rfl (by omega) (fun i σ' H' => ∃ u4 u5 us, σ' = [some (.ref R), some (.ref q), some (.int (n : Int)), some (.int (a : Int)), u4, u5, none, none] ∧ Same H H' ∧ MR K H' R us (pM n id (midX A a i))) ⟨_, _, us, rfl, s2.trans so, by rw [midX_zero]; exact hMR.same so⟩ ?_ ?_
            · rintro i σ' H3 hi ⟨v4, v5, us3, rfl, s3, hMR3⟩
              obtain ⟨pa, xa, e1, e2, e3⟩ := hMR3.l.row (i := a) (by rw [pM_len]; exact ha)
              obtain ⟨pi, xi, f1, f2, f3⟩ := hMR3.l.row (i := i) (by rw [pM_len]; exact hi)
              have eA : ∀ j, midX A a i a j = A a j := fun j => by
                unfold midX elimX
                rw [if_pos rfl]
                split <;> rfl
              have eI : ∀ j, midX A a i i j = A i j := fun j => by
                unfold midX
                rw [if_neg (Nat.lt_irrefl _)]
              have rA : ∀ j, j < n → ∃ v, xa[j]? = some v ∧ RatV K H3 v (A a j) := fun j hj => by
                obtain ⟨v, w1, w2⟩ := e3.ent (j := j) (by rw [pM_wid ha]; exact hj)
                rw [pM_ent ha hj] at w2
                exact ⟨v, w1, by rw [← eA j]; exact w2⟩
              have rI_ : ∀ j, j < n → ∃ v, xi[j]? = some v ∧ RatV K H3 v (A i j) := fun j hj => by
                obtain ⟨v, w1, w2⟩ := f3.ent (j := j) (by rw [pM_wid hi]; exact hj)
                rw [pM_ent hi hj] at w2
                exact ⟨v, w1, by rw [← eI j]; exact w2⟩
              obtain ⟨vaa, a1, a2⟩ := rA a ha
              obtain ⟨via, i1, i2⟩ := rI_ a ha
              walk_at "gs"
              by_cases hia : i = a
              · subst hia
                refine if_f (by rw [decide_eq_true rfl]; rfl) ?_
                refine if_f rfl ?_
                walk_at "gs"
                exact ⟨_, v5, us3, rfl, s3, by rw [← midX_skip (.inl rfl)]; exact hMR3⟩
              · refine if_t (by rw [decide_eq_false fun z => hia (by have := V.int.inj z; omega)]; rfl) ?_
                walk_at "gs"
                refine g_ixL (SqL.of hMR3.top) (atI_nat f1) ?_
                walk_at "gs"
                refine g_ixL f2 (atI_nat i1) ?_
                walk_at "gs"
                refine g_newT (by show 2 ≤ 1000000; decide) fun o2 ho2 => ?_
                have so2 := up_same (o := .tup [V.int 0, V.int 1]) ho2
                refine g_neRat (q := 0) (i2.same so2) ⟨o2, rfl, SqT.of upd_same⟩ ?_
                refine ⟨_, rfl, ?_⟩
                by_cases hz2 : A i a = 0
                · refine if_f (by rw [decide_eq_true hz2]; rfl) ?_
                  walk_at "gs"
                  exact ⟨_, v5, us3, rfl, s3.trans so2, by rw [← midX_skip (.inr hz2)]; exact hMR3.same so2⟩
                · refine if_t (by rw [decide_eq_false hz2]; rfl) ?_
                  have hMR4 := hMR3.same so2
                  refine g_cut (fun σ' H' => ∃ sh, σ' = [some (.ref R), some (.ref q), some (.int (n : Int)), some (.int (a : Int)), some (.int (i : Int)), some sh, none, none] ∧ Same H3 H' ∧ RatV K H' sh (A i a / A a a)) ?_ ?_
                  · walk_at "gs"
                    refine g_ixL (SqL.of hMR4.top) (atI_nat f1) ?_
                    walk_at "gs"
                    refine g_ixL (so2.seq f2) (atI_nat i1) ?_
                    walk_at "gs"
                    refine g_ixL (SqL.of hMR4.top) (atI_nat e1) ?_
                    walk_at "gs"
                    refine g_ixL (so2.seq e2) (atI_nat a1) ?_
                    walk_at "gs"
                    refine ⟨_, _, _, _, 2960, 1480, rfl, i2.same so2, a2.same so2, (hb i a hi ha).1, (hb a a ha ha).2 han, by decide, hz, fun v H' s hv => ?_⟩
                    exact ⟨v, rfl, so2.trans s, hv⟩
                  rintro σ' H5 ⟨sh, rfl, s5, hsh⟩
                  have hMR5 := hMR3.same s5
                  have bsh : Bd 4440 (A i a / A a a) := (hb i a hi ha).1.div ((hb a a ha ha).2 han) hz
                  walk_at "gs"
                  refine rats_lcR (K := K) ((List.range n).map fun j => elimX A a i j) (n := n) rfl (by rw [List.length_map, List.length_range]) (by omega) (fun _ => rfl) ?_ ?_
                  · intro j H6 Q6 s6 hj k6
                    obtain ⟨vij, w1, w2⟩ := rI_ j hj
                    obtain ⟨vaj, y1, y2⟩ := rA j hj
                    have s56 := s5.trans s6
                    walk_at "gs"
                    refine g_ixL (s6.seq (SqL.of hMR5.top)) (atI_nat f1) ?_
                    walk_at "gs"
                    refine g_ixL (s56.seq f2) (atI_nat w1) ?_
                    walk_at "gs"
                    refine g_ixL (s6.seq (SqL.of hMR5.top)) (atI_nat e1) ?_
                    walk_at "gs"
                    refine g_ixL (s56.seq e2) (atI_nat y1) ?_
                    walk_at "gs"
                    refine ⟨_, _, _, _, 4440, 1480, rfl, hsh.same s6, y2.same s56, bsh, (hb a j ha hj).2 han, by decide, fun v H7 s7 hv => ?_⟩
                    walk_at "gs"
                    refine ⟨_, _, _, _, 2960, 5920, rfl, w2.same (s56.trans s7), hv, (hb i j hi hj).1, bsh.mul ((hb a j ha hj).2 han), by decide, fun v2 H8 s8 hv2 => ?_⟩
                    refine k6 v2 H8 (s7.trans s8) ?_
                    rw [List.getD_eq_getElem?_getD, List.getElem?_map, List.getElem?_range hj]
                    show RatV K H8 v2 (elimX A a i j)
                    unfold elimX
                    rw [if_neg hia, show A i j + -(A i a / A a a) * A a j = A i j - A i a / A a a * A a j by grind]
                    exact hv2
                  · intro l ys H6 s6 hl el hys
                    have hMR6 := hMR5.same s6
                    walk_at "gs"
                    refine g_setL hMR6.top (ixN_of (by rw [hMR6.len, pM_len]; exact hi)) ?_
                    refine ⟨_, _, us3.set i (.ref l), rfl, same_fresh (s3.trans (s5.trans s6)) hR0, ?_⟩
                    rw [← midX_put hi]
                    exact hMR6.set (by rw [pM_len]; exact hi) ⟨l, ys, rfl, SqL.of el, hys, .inl (ne_of_none hMR5.top hl).symm⟩
            · rintro σ' H3 ⟨v4, v5, us3, rfl, s3, hMR3⟩
              refine ⟨_, v4, v5, us3, rfl, s3, ?_⟩
              rw [hesc, if_pos ⟨hk, hz⟩, JS_snoc, ← hA, ← midX_all]
              exact hMR3
      · rintro σ' H2 ⟨u3, u4, u5, us, rfl, s2, hMR⟩
        exact ⟨u3, u4, u5, us, rfl, s2, hMR⟩
    rintro σ' H2 ⟨u3, u4, u5, us, rfl, s2, hMR⟩
    walk_at "gs"
    refine tab_lcK (K := K) (kept := kept) (A := JS M (esL M kept n)) (s2.seq hq) (by omega) (fun _ => rfl) ?_ ?_
    · intro i H3 Q3 s3 hi k3
      have hin := hkn i hi
      have hMR3 := hMR.same s3
      obtain ⟨pi, xi, f1, f2, f3⟩ := hMR3.l.row (i := i) (by rw [pM_len]; exact hin)
      walk_at "gs"
      refine rats_lcI (fun d => JS M (esL M kept n) i d.toNat) (fs := kept.map fun n : Nat => (n : Int)) (by rw [← ntS_ints]; exact (s2.trans s3).seq hq) (by rw [List.length_map]; omega) (fun _ => rfl) ?_ ?_
      · intro d H4 Q4 s4 hd k4
        obtain ⟨j, hj, rfl⟩ := List.mem_map.mp hd
        have hjn := hkn j hj
        obtain ⟨v, w1, w2⟩ := f3.ent (j := j) (by rw [pM_wid hin]; exact hjn)
        rw [pM_ent hin hjn] at w2
        walk_at "gs"
        refine g_ixL (s4.seq (SqL.of hMR3.top)) (atI_nat f1) ?_
        walk_at "gs"
        refine g_ixL (s4.seq f2) (atI_nat w1) ?_
        refine k4 v H4 (Same.refl _) ?_
        show RatV K H4 v (JS M (esL M kept n) i ((j : Nat) : Int).toNat)
        rw [Int.toNat_natCast]
        exact w2.same s4
      · intro l ys H4 s4 hl el hys
        walk_at "gs"
        refine g_tupleL (SqL.of el) fun t ht => ?_
        have st := up_same (o := .tup ys) ht
        refine k3 _ _ (s4.trans st) ⟨t, ys, rfl, SqT.of upd_same, ?_⟩
        rw [List.map_map] at hys
        exact hys.same st
    · intro l us' H3 s3 hl el hT
      walk_at "gs"
      refine g_tupleL (SqL.of el) fun t ht => ?_
      have st := up_same (o := .tup us') ht
      exact k _ _ (s2.trans (s3.trans st)) ⟨t, us', rfl, SqT.of upd_same, hT.same st⟩
end

section
variable {P : Program} {w : World} {K : PySem.W.Frag} {mg : Str → Option Value} {base : Heap} {A : Ads}
theorem ok_l_balance (T : Txt K mg A) (G_l_sub : FnOk P w K mg base CX0 3 A.f_l_sub A.fd_l_sub ["left", "right"] (spBin9 K (fun p q => p - q))) (G_l_add : FnOk P w K mg base CX0 3 A.f_l_add A.fd_l_add ["left", "right"] (spBin9 K (fun p q => p + q)))
    (G_l_ends : FnOk P w K mg base CX0 1 A.f_l_ends A.fd_l_ends ["net"] (spLEnds K)) : FnOk P w K mg base CX0 4 A.f_l_balance A.fd_l_balance ["net"] (spBal K) := by
  have nd := sc_l_balance.nd
  refine T.F_l_balance.ok sc_l_balance (fun vs H Q E h => ?_) (fun cdv Ar outer s H vs Q E hr h => ?_)
  · obtain ⟨v, rim, rows, qs, En, rfl, _⟩ := h
    rfl
  · obtain ⟨v, rim, rows, qs, En, rfl, hv, hW, hq, hE, hl, hsc, k⟩ := h
    refine ⟨_, (pss_cutZ (ps_set (i := 1) nd rfl (Or.inr rfl) (pe_callB (zc_lenK (K := K) rfl) (by rfl) T.n_len (by decide +kernel) (pa_cons (pe_ix (ix_tupK (K := K) rfl) (pv 0) pe_int (fun _ _ => rfl)) pa_nil))) (pss_cutZ (ps_setLc (i := 3) (own := [("k", 2)]) (g := gName 2) (tt := tYes) rfl nd rfl rfl (sw_true rfl rfl rfl (by decide +kernel)) (pi_range1 (by rfl) T.n_range (pa_cons (pv 1) pa_nil)) (blkOk_by (N := ["net", "size", "k", "rows", "ends", "here", "there", "i", "j", "row"]) (sc := defScope s_l_balance) (by decide +kernel)) (fun _ _ _ _ _ => pg_name (i := 2) nd rfl (by first | exact Or.inl rfl | exact Or.inr rfl)) (fun _ _ _ _ _ => pts_nil) (fun _ _ _ _ _ => (pe_op op_rep (pe_lst (pa_cons (pe_tup (pa_cons pe_int (pa_cons pe_int pa_nil))) pa_nil)) (pv 1)))) (pss_cutZ (ps_set (i := 4) nd rfl (Or.inl rfl) (pe_call (E := E0) G_l_ends (hr.mono (by decide)) (by rfl) T.g_l_ends T.F_l_ends.kp T.b_l_ends .nil pass0 (pa_cons (pv 0) pa_nil))) (pss_cutZ (ps_for PassesOwn.never rfl (pi_range1 (by rfl) T.n_range (pa_cons (pe_callB (zc_lenK (K := K) rfl) (by rfl) T.n_len (by decide +kernel) (pa_cons (pv 4) pa_nil)) pa_nil)) (pg_name (i := 2) nd rfl (Or.inl rfl)) (pss_cutZ (ps_asg (pe_ix (ix_listK (K := K) rfl) (pv 4) (pv 2) (fun _ _ => rfl)) (pg_lstK (K := K) rfl rfl (pgs_cons (pg_name (i := 5) nd rfl (Or.inl rfl)) (pgs_cons (pg_name (i := 6) nd rfl (Or.inl rfl)) pgs_nil)))) (pss_one (ps_if (pt_cmpR op_ne (pv 5) (pv 6) (nomark _)) (pss_one (ps_for PassesOwn.never rfl (pi_listK (K := K) rfl (pe_lst (pa_cons (pe_tup (pa_cons (pv 5) (pa_cons (pv 6) pa_nil))) (pa_cons (pe_tup (pa_cons (pv 6) (pa_cons (pv 5) pa_nil))) pa_nil)))) (pg_tupK (K := K) rfl rfl (pgs_cons (pg_name (i := 7) nd rfl (Or.inl rfl)) (pgs_cons (pg_name (i := 8) nd rfl (Or.inl rfl)) pgs_nil))) (pss_cutZ (ps_set (i := 9) nd rfl (Or.inl rfl) (pe_ix (ix_listK (K := K) rfl) (pv 3) (pv 7) (fun _ _ => rfl))) (pss_cutZ (ps_asg (pe_call (E := E0) G_l_add (hr.mono (by decide)) (by rfl) T.g_l_add T.F_l_add.kp T.b_l_add .nil pass0 (pa_cons (pe_ix (ix_listK (K := K) rfl) (pv 9) (pv 7) (fun _ _ => rfl)) (pa_cons (pe_ix (ix_tupK (K := K) rfl) (pe_ix (ix_tupK (K := K) rfl) (pv 0) pe_int (fun _ _ => rfl)) (pv 2) (fun _ _ => rfl)) pa_nil))) (pg_sub (pv 9) (pv 7) set_list)) (pss_one (ps_asg (pe_call (E := E0) G_l_sub (hr.mono (by decide)) (by rfl) T.g_l_sub T.F_l_sub.kp T.b_l_sub .nil pass0 (pa_cons (pe_ix (ix_listK (K := K) rfl) (pv 9) (pv 8) (fun _ _ => rfl)) (pa_cons (pe_ix (ix_tupK (K := K) rfl) (pe_ix (ix_tupK (K := K) rfl) (pv 0) pe_int (fun _ _ => rfl)) (pv 2) (fun _ _ => rfl)) pa_nil))) (pg_sub (pv 9) (pv 8) set_list))))))) pss_nil)))) (pss_one (ps_ret (pv 3))))))), ?_⟩
    obtain ⟨p, t, m, ts, as, rfl, hN⟩ := hv
    obtain ⟨n, hn⟩ : ∃ n, n = rows.length := ⟨_, rfl⟩
    refine g_cut (fun σ' H' => σ' = [some (.ref p), some (.int (rows.length : Int)), none, none, none, none, none, none, none, none] ∧ H = H') ?_ ?_
    · walk_at "gs"
      refine g_ixT hN.top rfl ?_
      walk_at "gs"
      refine g_lenT hN.turns ?_
      rw [List.length_map, hN.len]
      exact ⟨rfl, rfl⟩
    rintro σ' _ ⟨rfl, rfl⟩
    refine g_cut (fun σ' H' => ∃ R rs, σ' = [some (.ref p), some (.int (rows.length : Int)), none, some (.ref R), none, none, none, none, none, none] ∧ Same H H' ∧ (∀ r ∈ rs, H r = none) ∧ BQ K H' R rs (pM rows.length id (lapK rows qs 0))) ?_ ?_
    · walk_at "gs"
      refine rows_lcB (K := K) (n := rows.length) (pM rows.length id (lapK rows qs 0)) rfl pM_len (by omega) (fun _ => rfl) ?_ ?_
      · intro i H2 Q2 sm2 hi kk
        walk_at "gs"
        refine g_newT (by show 2 ≤ 1000000; decide) fun o ho => ?_
        have so := up_same (o := .tup [.int 0, .int 1]) ho
        walk_at "gs"
        refine g_newL (by show 1 ≤ 1000000; decide) fun l hl => ?_
        have sl := up_same (o := .lst [V.ref o]) hl
        walk_at "gs"
        refine ⟨l, (rows.length : Int), [V.ref o], rfl, rfl, upd_same, by omega, by omega, by rw [Int.toNat_natCast]; show 1 * rows.length ≤ _; have := sizeLine_eq; omega, fun p hp => ?_⟩
        have sp := up_same (o := .lst (List.replicate (rows.length : Int).toNat [V.ref o]).flatten) hp
        have e1 : (List.replicate (rows.length : Int).toNat [V.ref o]).flatten = List.replicate rows.length (V.ref o) := by
          rw [Int.toNat_natCast]
          simp
        refine kk p (List.replicate rows.length (V.ref o)) _ (so.trans (sl.trans sp)) ((so.trans sl).free hp) (by rw [upd_same, e1]) ?_
        have e2 : rw' (pM rows.length id (lapK rows qs 0)) i = List.replicate rows.length 0 := by
          rw [pM_row hi]
          refine List.ext_getElem (by rw [List.length_map, List.length_range, List.length_replicate]) fun j h1 h2 => ?_
          rw [List.getElem_map, List.getElem_replicate]
          rfl
        rw [e2]
        exact rats_rep rows.length ⟨o, rfl, Same.sqt sp (Same.sqt sl (SqT.of upd_same))⟩
      · intro l rs H2 sm hl hfr hB
        exact ⟨l, rs, rfl, sm, hfr, hB⟩
    rintro σ' H2 ⟨R, rs, rfl, s2, hfr, hB2⟩
    have hN2 := hN.same s2
    refine g_cut (fun σ' H' => ∃ Ll es, σ' = [some (.ref p), some (.int (rows.length : Int)), none, some (.ref R), some (.ref Ll), none, none, none, none, none] ∧ Same H2 H' ∧ H2 Ll = none ∧ RowsAt H' Ll es (endsM rows En)) ?_ ?_
    · walk_at "gs"
      refine ⟨.ref p, rim, rows, qs, En, rfl, ⟨p, t, m, ts, as, rfl, hN2⟩, hW, hq, hE, by omega, fun l es H3 s3 hl hR => ?_⟩
      exact ⟨l, es, rfl, s3, hl, hR⟩
    rintro σ' H3 ⟨Ll, es, rfl, s3, hLl2, hEn⟩
    have hB3 := hB2.same s3
    have hN3 := hN2.same s3
    have hasl : as.length = En := by rw [hN.rats.len, hq]
    have hel : (endsM rows En).length = En := by unfold endsM; rw [List.length_map, List.length_range]
    -- lists of ints are no rows
    have hrl : ∀ r ∈ rs, ∃ v xs, H3 r = some (.lst (v :: xs)) ∧ ∃ o, v = V.ref o := fun r hr => by
      obtain ⟨j, hj⟩ := List.mem_iff_getElem?.mp hr
      obtain ⟨xs, a, b⟩ := hB3.at_ j r hj
      have hjl : j < rows.length := by
        have h1 := (List.getElem?_eq_some_iff.mp hj).1
        rw [hB3.len, pM_len] at h1
        exact h1
      obtain ⟨v, b1, b2⟩ := b.ent (j := 0) (by rw [pM_wid hjl]; omega)
      obtain ⟨o, e1, _⟩ := b2
      cases xs with
      | nil => simp at b1
      | cons x xs =>
        simp at b1
        exact ⟨x, xs, a, o, b1.trans e1⟩
    refine g_cut (fun σ' H' => ∃ u2 u5 u6 u7 u8 u9, σ' = [some (.ref p), some (.int (rows.length : Int)), u2, some (.ref R), some (.ref Ll), u5, u6, u7, u8, u9] ∧ Keep rs H3 H' ∧ BQ K H' R rs (pM rows.length id (lapK rows qs En))) ?_ ?_
    · walk_at "gs"
      refine g_lenL (SqL.of hEn.top) ?_
      walk_at "gs"
      refine g_rng En (by rw [List.length_map, hEn.len, hel]) (by omega) (fun e σ' H' => ∃ u2 u5 u6 u7 u8 u9, σ' = [some (.ref p), some (.int (rows.length : Int)), u2, some (.ref R), some (.ref Ll), u5, u6, u7, u8, u9] ∧ Keep rs H3 H' ∧ BQ K H' R rs (pM rows.length id (lapK rows qs e))) ⟨_, _, _, _, _, _, rfl, .refl hB3.lists, hB3⟩ ?_ ?_
      · rintro e σ' H4 he ⟨u2, u5, u6, u7, u8, u9, rfl, hK4, hB4⟩
        have hLrs : Ll ∉ rs := fun z => by
          obtain ⟨ys, hy⟩ := hB2.lists Ll z
          rw [hLl2] at hy
          cases hy
        have hsl : es.length = En := by rw [hEn.len, hel]
        obtain ⟨na, hna⟩ : ∃ na, na = nodeOf rows (2 * (e : Int)) := ⟨_, rfl⟩
        obtain ⟨nb, hnb⟩ : ∃ nb, nb = nodeOf rows (2 * (e : Int) + 1) := ⟨_, rfl⟩
        have hda : (2 * (e : Int)) ∈ rows.flatten := (hW.mem _).mpr (by omega)
        have hdb : (2 * (e : Int) + 1) ∈ rows.flatten := (hW.mem _).mpr (by omega)
        have hal : na < rows.length := by rw [hna]; exact at_lt hda
        have hbl : nb < rows.length := by rw [hnb]; exact at_lt hdb
        have hei : es[e]? = some (es[e]'(by omega)) := List.getElem?_eq_getElem (by omega)
        have hme : (endsM rows En)[e]? = some [(na : Int), (nb : Int)] := by
          unfold endsM
          rw [List.getElem?_map, List.getElem?_range he, hna, hnb]
          rfl
        have hce := hEn.at_ e _ _ hei hme
        have hers : es[e]'(by omega) ∉ rs := fun z => by
          obtain ⟨v, xs, y1, o, y2⟩ := hrl _ z
          rw [hce] at y1
          cases y1
          cases y2
        have hc4 := hK4.k _ _ hers hce
        refine g_cut (fun σ' H' => σ' = [some (.ref p), some (.int (rows.length : Int)), some (.int (e : Int)), some (.ref R), some (.ref Ll), some (.int (na : Int)), some (.int (nb : Int)), u7, u8, u9] ∧ H4 = H') ?_ ?_
        · walk_at "gs"
          refine g_ixL (SqL.of (hK4.k _ _ hLrs hEn.top)) (atI_nat (by rw [List.getElem?_map, hei]; rfl)) ?_
          exact ⟨_, _, rfl, SqL.of hc4, rfl, _, _, rfl, _, _, rfl, rfl, rfl, rfl⟩
        rintro σ' _ ⟨rfl, rfl⟩
        have hqe := hsc e he
        obtain ⟨va, hva, hvr⟩ : ∃ va, as[e]? = some va ∧ RatV K H3 va (qs.getD e 0) := by
          have hx := List.getElem?_eq_getElem (l := as) (i := e) (by omega)
          exact ⟨_, hx, hN3.rats.at_ _ _ _ hx (by rw [List.getD_eq_getElem?_getD, List.getElem?_eq_getElem (by omega)]; rfl)⟩
        walk_at "gs"
        by_cases hab : na = nb
        · refine if_f (by rw [hab, decide_eq_true rfl]; rfl) ?_
          walk_at "gs"
          refine ⟨_, _, _, _, _, _, rfl, hK4, ?_⟩
          have e3 : pM rows.length id (lapK rows qs (e + 1)) = pM rows.length id (lapK rows qs e) := by
            congr 1
            funext i j
            rw [lapK_succ]
            unfold edgeM
            rw [← hna, ← hnb, hab]
            unfold chi
            grind
          rw [e3]
          exact hB4
        · refine if_t (by rw [decide_eq_false fun z => hab (by have := V.int.inj z; omega)]; rfl) ?_
          walk_at "gs"
          refine g_newT (by show 2 ≤ 1000000; decide) fun t1 ht1 => ?_
          have q1 := up_same (o := .tup [V.int (na : Int), V.int (nb : Int)]) ht1
          walk_at "gs"
          refine g_newT (by show 2 ≤ 1000000; decide) fun t2 ht2 => ?_
          have q2 := up_same (o := .tup [V.int (nb : Int), V.int (na : Int)]) ht2
          walk_at "gs"
          refine g_newL (by show 2 ≤ 1000000; decide) fun L2 hL2 => ?_
          have q3 := up_same (o := .lst [V.ref t1, V.ref t2]) hL2
          obtain ⟨H5, hH5⟩ : ∃ H5, H5 = upd (upd (upd H4 t1 (.tup [V.int (na : Int), V.int (nb : Int)])) t2 (.tup [V.int (nb : Int), V.int (na : Int)])) L2 (.lst [V.ref t1, V.ref t2]) := ⟨_, rfl⟩
          rw [← hH5]
          have s5 : Same H4 H5 := by
            rw [hH5]
            exact q1.trans (q2.trans q3)
          have eL2 : H5 L2 = some (.lst [V.ref t1, V.ref t2]) := by
            rw [hH5]
            exact upd_same
          obtain ⟨A, hA⟩ : ∃ A, A = lapK rows qs e := ⟨_, rfl⟩
          obtain ⟨q, hqq⟩ : ∃ q, q = qs.getD e 0 := ⟨_, rfl⟩
          rw [← hA] at hB4
          rw [← hqq] at hqe hvr
          have hbA : ∀ i j, Bd 20 (A i j) := fun i j => by
            rw [hA]
            exact (lap_sc (k := e) fun e' he' => hsc e' (by omega)).bd (by decide) (by decide) (by omega)
          have hbq : Bd 20 q := hqe.bd (by decide) (by decide) (by decide)
          have hL2rs : L2 ∉ rs := fun z => by
            obtain ⟨ys, hy⟩ := (hB4.same (q1.trans q2)).lists L2 z
            rw [hL2] at hy
            cases hy
          have f1 : SqT K H5 t1 [V.int (na : Int), V.int (nb : Int)] := by
            rw [hH5]
            exact Same.sqt (q2.trans q3) (SqT.of upd_same)
          have f2 : SqT K H5 t2 [V.int (nb : Int), V.int (na : Int)] := by
            rw [hH5]
            exact Same.sqt q3 (SqT.of upd_same)
          have hB5 := hB4.same s5
          have hK5 := hK4.same s5
          refine g_itL (SqL.of eL2) (fun c σ' H' => ∃ u7 u8 u9, σ' = [some (.ref p), some (.int (rows.length : Int)), some (.int (e : Int)), some (.ref R), some (.ref Ll), some (.int (na : Int)), some (.int (nb : Int)), u7, u8, u9] ∧ Keep rs H5 H' ∧ BQ K H' R rs (pM rows.length id (stepE A na nb q c))) ⟨u7, u8, u9, rfl, .refl hB5.lists, hB5⟩ ?_ ?_ ?_
          · rintro c σ' H' _ ⟨_, _, _, _, kk, _⟩
            exact SqL.of (kk.k _ _ hL2rs eL2)
          · rintro c x σ' H6 hx ⟨v7, v8, v9, rfl, kk6, hB6⟩
            obtain ⟨ii, jj, tt, rfl, hft, hil, hjl, hij, hBi, hBj, hnext⟩ : ∃ (ii jj : Nat) (tt : Addr), x = V.ref tt ∧ SqT K H5 tt [V.int (ii : Int), V.int (jj : Int)] ∧ ii < rows.length ∧ jj < rows.length ∧ ii ≠ jj ∧ stepE A na nb q c ii ii = A ii ii ∧ stepE A na nb q c ii jj = A ii jj ∧ stepE A na nb q (c + 1) = putF (putF (stepE A na nb q c) ii ii (A ii ii + q)) ii jj (A ii jj - q) := by
              match c, hx with
              | 0, hx =>
                cases hx
                exact ⟨na, nb, t1, rfl, f1, hal, hbl, hab, rfl, rfl, rfl⟩
              | 1, hx =>
                cases hx
                refine ⟨nb, na, t2, rfl, f2, hbl, hal, fun z => hab z.symm, ?_, ?_, rfl⟩
                · show putF (putF A na na (A na na + q)) na nb (A na nb - q) nb nb = A nb nb
                  unfold Rz.putF
                  rw [if_neg fun z => hab z.1.symm, if_neg fun z => hab z.1.symm]
                · show putF (putF A na na (A na na + q)) na nb (A na nb - q) nb na = A nb na
                  unfold Rz.putF
                  rw [if_neg fun z => hab z.1.symm, if_neg fun z => hab z.1.symm]
              | c + 2, hx => simp at hx
            have kk36 := hK5.trans kk6
            refine ⟨tt, _, rfl, kk6.sqt hft, rfl, _, _, rfl, _, _, rfl, rfl, ?_⟩
            obtain ⟨r, xs, er, ers, ex, hxr⟩ := hB6.get (i := ii) (by rw [pM_len]; exact hil)
            have hrm := List.mem_of_getElem? ers
            have hxl : xs.length = rows.length := by rw [hxr.len, pM_wid hil]
            refine g_cut (fun σ' H' => σ' = [some (.ref p), some (.int (rows.length : Int)), some (.int (e : Int)), some (.ref R), some (.ref Ll), some (.int (na : Int)), some (.int (nb : Int)), some (.int (ii : Int)), some (.int (jj : Int)), some (.ref r)] ∧ H6 = H') ?_ ?_
            · walk_at "gs"
              refine g_ixL (SqL.of hB6.top) (atI_nat er) ?_
              exact ⟨rfl, rfl⟩
            rintro σ' _ ⟨rfl, rfl⟩
            refine g_cut (fun σ' H' => ∃ v, σ' = [some (.ref p), some (.int (rows.length : Int)), some (.int (e : Int)), some (.ref R), some (.ref Ll), some (.int (na : Int)), some (.int (nb : Int)), some (.int (ii : Int)), some (.int (jj : Int)), some (.ref r)] ∧ Keep rs H6 H' ∧ H' r = some (.lst (xs.set ii v)) ∧ BQ K H' R rs (pM rows.length id (putF (stepE A na nb q c) ii ii (A ii ii + q)))) ?_ ?_
            · obtain ⟨v1, w1, w2⟩ := hxr.ent (j := ii) (by rw [pM_wid hil]; exact hil)
              rw [pM_ent hil hil] at w2
              walk_at "gs"
              refine g_ixL (SqL.of ex) (atI_nat w1) ?_
              walk_at "gs"
              refine g_ixT (kk36.sqt hN3.top) rfl ?_
              walk_at "gs"
              refine g_ixT (kk36.sqt hN3.ams) (atI_nat hva) ?_
              walk_at "gs"
              refine ⟨_, _, A ii ii, q, 20, 20, rfl, by rw [← hBi]; exact w2, kk36.rat hvr, hbA ii ii, hbq, by decide, fun v H7 s7 hv => ?_⟩
              walk_at "gs"
              refine g_setL (s7 _ _ ex) (ixN_of (by omega)) ?_
              refine ⟨v, rfl, ((Keep.refl hB6.lists).same s7).put hrm, upd_same, ?_⟩
              rw [← pM_put hil hil]
              exact (hB6.same s7).put ers (s7 _ _ ex) hv
            rintro σ' H7 ⟨v, rfl, kk7, ex7, hB7⟩
            obtain ⟨r', xs', er', ers', ex', hxr'⟩ := hB7.get (i := ii) (by rw [pM_len]; exact hil)
            have err : r' = r := by
              rw [ers] at ers'
              exact (Option.some.inj ers').symm
            subst err
            rw [ex7] at ex'
            cases ex'
            have kk37 := kk36.trans kk7
            obtain ⟨v1, w1, w2⟩ := hxr'.ent (j := jj) (by rw [pM_wid hil]; exact hjl)
            rw [pM_ent hil hjl] at w2
            have hval : putF (stepE A na nb q c) ii ii (A ii ii + q) ii jj = A ii jj := by
              unfold Rz.putF
              rw [if_neg fun z => hij z.2.symm]
              exact hBj
            walk_at "gs"
            refine g_ixL (SqL.of ex7) (atI_nat w1) ?_
            walk_at "gs"
            refine g_ixT (kk37.sqt hN3.top) rfl ?_
            walk_at "gs"
            refine g_ixT (kk37.sqt hN3.ams) (atI_nat hva) ?_
            walk_at "gs"
            refine ⟨_, _, A ii jj, q, 20, 20, rfl, by rw [← hval]; exact w2, kk37.rat hvr, hbA ii jj, hbq, by decide, fun v2 H8 s8 hv2 => ?_⟩
            walk_at "gs"
            refine g_setL (s8 _ _ ex7) (ixN_of (by rw [List.length_set]; omega)) ?_
            refine ⟨_, _, _, rfl, (kk6.trans kk7).trans (((Keep.refl hB7.lists).same s8).put hrm), ?_⟩
            rw [hnext, ← pM_put hil hjl]
            exact (hB7.same s8).put ers (s8 _ _ ex7) hv2
          · rintro σ' H6 ⟨v7, v8, v9, rfl, kk6, hB6⟩
            refine ⟨_, _, _, v7, v8, v9, rfl, hK5.trans kk6, ?_⟩
            have e3 : pM rows.length id (lapK rows qs (e + 1)) = pM rows.length id (stepE A na nb q 2) := by
              congr 1
              funext i j
              rw [lapK_succ, stepE_all hab, hA, hqq]
              unfold edgeM
              rw [← hna, ← hnb]
            rw [e3]
            exact hB6
      · rintro σ' H4 ⟨u2, u5, u6, u7, u8, u9, rfl, hK4, hB4⟩
        exact ⟨u2, u5, u6, u7, u8, u9, rfl, hK4, hB4⟩
    rintro σ' H4 ⟨u2, u5, u6, u7, u8, u9, rfl, hK4, hB4⟩
    walk_at "gs"
    exact k _ _ (hK4.back (s2.trans s3) hfr) hB4.v
end

section
variable {P : Program} {w : World} {K : PySem.W.Frag} {mg : Str → Option Value} {base : Heap} {A : Ads}
theorem ok_l_at (T : Txt K mg A) : FnOk P w K mg base CX0 1 A.f_l_at A.fd_l_at ["turns", "dart"] spAt := by
  have nd := sc_l_at.nd
  refine T.F_l_at.ok sc_l_at (fun vs H Q E h => ?_) (fun cdv Ar outer s H vs Q E hr h => ?_)
  · obtain ⟨T, d, rs, rows, rfl, _⟩ := h
    rfl
  · obtain ⟨T', d, rs, rows, rfl, hR, hd, hf, k⟩ := h
    refine ⟨_, (pss_cons (ps_for PassesOwn.never rfl (pi_range1 (by rfl) T.n_range (pa_cons (pe_callB (zc_lenK (K := K) rfl) (by rfl) T.n_len (by decide +kernel) (pa_cons (pv 0) pa_nil)) pa_nil)) (pg_name (i := 2) nd rfl (Or.inl rfl)) (pss_one (ps_if (pt_cmpR (op_inK (K := K) rfl) (pv 1) (pe_ix (ix_listK (K := K) rfl) (pv 0) (pv 2) (fun _ _ => rfl)) (by rfl)) (pss_one (ps_ret (pe_lst (pa_cons (pv 2) (pa_cons (pe_bm PySem.F.plainAttrs_list PySem.F.slot_list_index PySem.F.type_list_index (mt_indexK (K := K) rfl) (pe_ix (ix_listK (K := K) rfl) (pv 0) (pv 2) (fun _ _ => rfl)) (pa_cons (pv 1) pa_nil)) pa_nil))))) pss_nil))) (pss_one (ps_ret (pe_lst (pa_cons pe_int (pa_cons pe_int pa_nil)))))), ?_⟩
    walk_at "gs"
    have hT : SqL K H T' (rs.map V.ref) := SqL.of hR.top
    refine g_lenL hT ?_
    walk_at "gs"
    have hk : rows.findIdx (fun r => decide (d ∈ r)) < rows.length := by
      obtain ⟨k, row, hk, hd⟩ := mem_flat.mp hd
      exact List.findIdx_lt_length.mpr ⟨row, List.mem_of_getElem? hk, decide_eq_true hd⟩
    refine g_rng rows.length (by rw [List.length_map, hR.len]) (by have := hf.1; omega) (fun i σ' H' => i ≤ rows.findIdx (fun r => decide (d ∈ r)) ∧ ∃ u, σ' = [some (.ref T'), some (.int d), u] ∧ H' = H) ⟨Nat.zero_le _, none, rfl, rfl⟩ ?_ ?_
    · rintro i σ' H' hi ⟨hle, u, rfl, rfl⟩
      obtain ⟨r, hr1, hr2⟩ := hR.get (List.getElem?_eq_getElem hi)
      have hrm : (rs.map V.ref)[i]? = some (.ref r) := by rw [List.getElem?_map, hr1]; rfl
      walk_at "gs"
      refine g_ixL hT (atI_nat hrm) ?_
      walk_at "gs"
      refine g_inL (SqL.of hr2) ?_
      walk_at "gs"
      refine if_2 (fun e => ?_) (fun e => ?_)
      · have hdm := of_decide_eq_true e
        have hie : i = rows.findIdx (fun r => decide (d ∈ r)) := by
          rcases Nat.lt_or_eq_of_le hle with h | h
          · have := List.not_of_lt_findIdx h
            rw [e] at this
            cases this
          · exact h
        walk_at "gs"
        refine g_ixL hT (atI_nat hrm) ?_
        walk_at "gs"
        refine g_bmL (SqL.of hr2) ?_
        walk_at "gs"
        refine g_index (SqL.of hr2) hdm ?_
        walk_at "gs"
        refine g_newL (by show 2 ≤ 1000000; decide) fun p hp => ?_
        have e1 : atM rows d = (i, rows[i].idxOf d) := by
          unfold atM
          simp only [← hie, hi, if_true]
          rw [List.getD_eq_getElem?_getD, List.getElem?_eq_getElem hi, Option.getD_some]
        have := k p hp
        rw [e1] at this
        exact this
      · walk_at "gs"
        refine ⟨?_, _, rfl, rfl⟩
        rcases Nat.lt_or_eq_of_le hle with h | h
        · exact h
        · have hp := List.findIdx_getElem (xs := rows) (p := fun r => decide (d ∈ r)) (w := hk)
          subst h
          rw [hp] at e
          cases e
    · rintro σ' H' ⟨hle, u, rfl, rfl⟩
      omega
theorem ok_l_face (T : Txt K mg A) : FnOk P w K mg base CX0 2 A.f_l_face A.fd_l_face ["turns", "rim", "dart"] spFace := by
  have G_l_at := ok_l_at (P := P) (w := w) (base := base) T
  have nd := sc_l_face.nd
  refine T.F_l_face.ok sc_l_face (fun vs H Q E h => ?_) (fun cdv Ar outer s H vs Q E hr h => ?_)
  · obtain ⟨T, rim, E, d, rs, rows, rfl, _⟩ := h
    rfl
  · obtain ⟨T', rim, Em, d0, rs, rows, rfl, hR, hW, h0, h1, hf, k⟩ := h
    refine ⟨_, (pss_cons (ps_set (i := 3) nd rfl (Or.inl rfl) (pe_lst (pa_cons (pv 2) pa_nil))) (pss_cons (ps_for PassesOwn.never rfl (pi_range1 (by rfl) T.n_range (pa_cons pe_int pa_nil)) (pg_name (i := 4) nd rfl (Or.inl rfl)) (pss_cons (ps_set (i := 5) nd rfl (Or.inl rfl) (pe_op op_sub (pe_op op_add (pv 2) pe_int) (pe_op op_mul pe_int (pe_op op_modN (pe_callTy zc_int (by rfl) T.n_int (by decide +kernel) (pa_cons (pv 2) pa_nil)) pe_int)))) (pss_cons (ps_asg (pe_call (E := E0) G_l_at (hr.mono (by decide)) (by rfl) T.g_l_at T.F_l_at.kp T.b_l_at .nil pass0 (pa_cons (pv 0) (pa_cons (pv 5) pa_nil))) (pg_lstK (K := K) rfl rfl (pgs_cons (pg_name (i := 6) nd rfl (Or.inl rfl)) (pgs_cons (pg_name (i := 7) nd rfl (Or.inl rfl)) pgs_nil)))) (pss_cutZ (ps_if (PW.pt (pw_and (pt_cmpR op_lt (pv 6) (pv 1) (nomark _)) (pw_and1 (pt_cmpR op_eq (pe_op op_add (pv 7) pe_int) (pe_callB (zc_lenK (K := K) rfl) (by rfl) T.n_len (by decide +kernel) (pa_cons (pe_ix (ix_listK (K := K) rfl) (pv 0) (pv 6) (fun _ _ => rfl)) pa_nil)) (nomark _))))) (pss_one (ps_ret (pv 3))) pss_nil) (pss_cons (ps_set (i := 2) nd rfl (Or.inl rfl) (pe_ix (ix_listK (K := K) rfl) (pe_ix (ix_listK (K := K) rfl) (pv 0) (pv 6) (fun _ _ => rfl)) (pe_op op_modN (pe_callTy zc_int (by rfl) T.n_int (by decide +kernel) (pa_cons (pe_op op_add (pv 7) pe_int) pa_nil)) (pe_callB (zc_lenK (K := K) rfl) (by rfl) T.n_len (by decide +kernel) (pa_cons (pe_ix (ix_listK (K := K) rfl) (pv 0) (pv 6) (fun _ _ => rfl)) pa_nil))) (fun _ _ => rfl))) (pss_cons (ps_if (pt_cmpR op_eq (pv 2) (pe_ix (ix_listK (K := K) rfl) (pv 3) pe_int (fun _ _ => rfl)) (nomark _)) (pss_one (ps_ret (pv 3))) pss_nil) (pss_one (ps_expr (pe_bm PySem.F.plainAttrs_list PySem.F.slot_list_append PySem.F.type_list_append mt_append (pv 3) (pa_cons (pv 2) pa_nil)))))))))) (pss_one (ps_ret (pv 3))))), ?_⟩
    walk_at "gs"
    refine g_newL (by show 1 ≤ 1000000; decide) fun p hp => ?_
    walk_at "gs"
    refine g_rng 200 rfl (by decide) (fun i σ' H' => ∃ (found : List Int) (d : Int) (u4 u5 u6 u7 : Option V), σ' = [some (.ref T'), some (.int (rim : Int)), some (.int d), some (.ref p), u4, u5, u6, u7] ∧ Same H H' ∧ H' p = some (.lst (found.map V.int)) ∧
      found.head? = some d0 ∧ found.length = i + 1 ∧ 0 ≤ d ∧ d < 2 * (Em : Int) ∧ i ≤ 200 ∧ faceM rows rim d0 = walkF rows rim (200 - i) found d) ⟨[d0], d0, none, none, none, none, rfl, up_same hp, upd_same, rfl, rfl, h0, h1, by decide, rfl⟩ ?_ ?_
    · rintro i σ' H1 hi ⟨found, d, u4, u5, u6, u7, rfl, sm, ep, hh, hl, hd0, hd1, hi2, ew⟩
      obtain ⟨m, em⟩ : ∃ m, 200 - i = m + 1 := ⟨200 - i - 1, by omega⟩
      have em2 : 200 - (i + 1) = m := by omega
      rw [em] at ew
      have htw := twin_range ⟨hd0, hd1⟩
      obtain ⟨row, hr1, hr2⟩ := at_spec ((hW.mem (twin d)).mpr htw)
      have hR1 := hR.same sm
      obtain ⟨r, hrs, hrH⟩ := hR1.get hr1
      have hrm : (rs.map V.ref)[(atM rows (twin d)).1]? = some (.ref r) := by rw [List.getElem?_map, hrs]; rfl
      have hlt : (atM rows (twin d)).2 < row.length := (List.getElem?_eq_some_iff.mp hr2).1
      have hgd : rows.getD (atM rows (twin d)).1 [] = row := by rw [List.getD_eq_getElem?_getD, hr1, Option.getD_some]
      walk_at "gs"
      rw [twin_py]
      refine ⟨T', _, rs, rows, rfl, hR1, (hW.mem _).mpr htw, hf, fun q hq => ?_⟩
      have hT2 : SqL K (upd H1 q (.lst [.int ((atM rows (twin d)).1 : Nat), .int ((atM rows (twin d)).2 : Nat)])) T' (rs.map V.ref) := (up_same hq).seq (SqL.of hR1.top)
      have hr2' : SqL K (upd H1 q (.lst [.int ((atM rows (twin d)).1 : Nat), .int ((atM rows (twin d)).2 : Nat)])) r (row.map V.int) := (up_same hq).seq (SqL.of hrH)
      have ep2 : SqL K (upd H1 q (.lst [.int ((atM rows (twin d)).1 : Nat), .int ((atM rows (twin d)).2 : Nat)])) p (found.map V.int) := (up_same hq).seq (SqL.of ep)
      refine ⟨q, _, rfl, SqL.of upd_same, rfl, _, _, rfl, _, _, rfl, rfl, ?_⟩
      walk_at "gs"
      -- where it ends at the rim
      have stop : (atM rows (twin d)).1 < rim → (atM rows (twin d)).2 + 1 = row.length → faceM rows rim d0 = found := fun e1 e2 => by
        rw [ew]
        show (match nxt rows rim d with
          | none => found
          | some d' => if some d' = found.head? then found else walkF rows rim m (found ++ [d']) d') = found
        have : nxt rows rim d = none := by
          unfold nxt
          simp only [hgd]
          rw [if_pos ⟨e1, e2⟩]
        rw [this]
      have fin : ¬ ((atM rows (twin d)).1 < rim ∧ (atM rows (twin d)).2 + 1 = row.length) →
          ∃ d', (row.map V.int)[((atM rows (twin d)).2 + 1) % row.length]? = some (.int d') ∧ nxt rows rim d = some d' ∧ 0 ≤ d' ∧ d' < 2 * (Em : Int) := fun hno => by
        have hml : ((atM rows (twin d)).2 + 1) % row.length < row.length := Nat.mod_lt _ (by omega)
        have e1 : nxt rows rim d = some row[((atM rows (twin d)).2 + 1) % row.length] := by
          unfold nxt
          simp only [hgd]
          rw [if_neg hno]
          exact List.getElem?_eq_getElem hml
        have hm := (hW.mem _).mp (nxt_mem e1)
        exact ⟨_, by rw [List.getElem?_map, List.getElem?_eq_getElem hml]; rfl, e1, hm.1, hm.2⟩
      refine g_cut (fun σ' H' => σ' = [some (.ref T'), some (.int (rim : Int)), some (.int d), some (.ref p), some (.int (i : Int)), some (.int (twin d)), some (.int ((atM rows (twin d)).1 : Nat)), some (.int ((atM rows (twin d)).2 : Nat))] ∧
        H' = upd H1 q (.lst [.int ((atM rows (twin d)).1 : Nat), .int ((atM rows (twin d)).2 : Nat)]) ∧ ¬ ((atM rows (twin d)).1 < rim ∧ (atM rows (twin d)).2 + 1 = row.length)) ?_ ?_
      · walk_at "gs"
        refine if_2 (fun e => ?_) (fun e => ?_)
        · have hn := of_decide_eq_true e
          walk_at "gs"
          refine g_ixL hT2 (atI_nat hrm) ?_
          walk_at "gs"
          rw [Rz.dec_int]
          refine if_2 (fun e2 => ?_) (fun e2 => ?_)
          · have hn2 := of_decide_eq_true e2
            rw [List.length_map] at hn2
            walk_at "gs"
            have e3 := stop (by omega) (by omega)
            exact k p _ (sm.trans (up_same hq)) hp (by rw [e3]; exact (up_same hq) _ _ ep)
          · have hn2 := of_decide_eq_false e2
            rw [List.length_map] at hn2
            walk_at "gs"
            exact ⟨rfl, rfl, fun z => hn2 (by omega)⟩
        · have hn := of_decide_eq_false e
          walk_at "gs"
          exact ⟨rfl, rfl, fun z => hn (by omega)⟩
      · rintro σ' H' ⟨rfl, rfl, hno⟩
        obtain ⟨d', hx, hnx, q0, q1⟩ := fin hno
        have hz : ((row.map V.int).length : Int) ≠ 0 := by
          rw [List.length_map]
          omega
        walk_at "gs"
        refine g_ixL hT2 (atI_nat hrm) ?_
        walk_at "gs"
        refine g_ixL hT2 (atI_nat hrm) ?_
        walk_at "gs"
        rw [show (((atM rows (twin d)).2 : Nat) : Int) + 1 = (((atM rows (twin d)).2 + 1 : Nat) : Int) from rfl, fmod_nat, List.length_map]
        refine g_ixL hr2' (atI_nat hx) ?_
        walk_at "gs"
        obtain ⟨f0, frest, rfl⟩ : ∃ f0 frest, found = f0 :: frest := by
          cases found with
          | nil => cases hh
          | cons a b => exact ⟨a, b, rfl⟩
        have hf0 : f0 = d0 := Option.some.inj hh
        subst hf0
        refine g_ixL ep2 (atI_nat (j := 0) rfl) ?_
        walk_at "gs"
        rw [Rz.dec_int]
        have ew2 : faceM rows rim f0 = if some d' = (f0 :: frest).head? then f0 :: frest else walkF rows rim m ((f0 :: frest) ++ [d']) d' := by
          rw [ew]
          show (match nxt rows rim d with
            | none => f0 :: frest
            | some d' => if some d' = (f0 :: frest).head? then f0 :: frest else walkF rows rim m ((f0 :: frest) ++ [d']) d') = _
          rw [hnx]
        refine if_2 (fun e => ?_) (fun e => ?_)
        · have he := of_decide_eq_true e
          subst he
          walk_at "gs"
          rw [if_pos (show some d' = (d' :: frest).head? from rfl)] at ew2
          exact k p _ (sm.trans (up_same hq)) hp (by rw [ew2]; exact (up_same hq) _ _ ep)
        · have he := of_decide_eq_false e
          rw [if_neg (show ¬ some d' = (f0 :: frest).head? from fun z => he (Option.some.inj z))] at ew2
          walk_at "gs"
          refine g_bmL ep2 ?_
          walk_at "gs"
          refine g_append ((up_same hq) _ _ ep) (by rw [List.length_map]; omega) ?_
          refine ⟨(f0 :: frest) ++ [d'], d', _, _, _, _, rfl, fun b o h => ?_, ?_, rfl, ?_, q0, q1, hi, ?_⟩
          · rw [upd_ne (ne_of_none h hp)]
            exact (up_same hq) _ _ (sm _ _ h)
          · rw [upd_same, List.map_append]
            rfl
          · rw [List.length_append, hl]
            rfl
          · rw [em2]
            exact ew2
    · rintro σ' H1 ⟨found, d, u4, u5, u6, u7, rfl, sm, ep, hh, hl, hd0, hd1, hi2, ew⟩
      walk_at "gs"
      rw [show 200 - 200 = 0 from rfl] at ew
      have e2 : faceM rows rim d0 = found := ew
      exact k p H1 sm hp (by rw [e2]; exact ep)
end

section
variable {P : Program} {w : World} {K : PySem.W.Frag} {mg : Str → Option Value} {base : Heap} {A : Ads}
theorem ok_l_grow (T : Txt K mg A) : FnOk P w K mg base CX0 3 A.f_l_grow A.fd_l_grow ["state", "rim", "turns", "edges", "choice"] spGrow := by
  have G_l_pick := ok_l_pick (P := P) (w := w) (base := base) T
  have G_l_at := ok_l_at (P := P) (w := w) (base := base) T
  have G_l_face := ok_l_face (P := P) (w := w) (base := base) T
  have nd := sc_l_grow.nd
  refine T.F_l_grow.ok sc_l_grow (fun vs H Q E h => ?_) (fun cdv Ar outer s H vs Q E hr h => ?_)
  · obtain ⟨H0, S, c, T, rim, E, ch, rs, rows, rfl, _⟩ := h
    rfl
  · obtain ⟨H0, S, c, T', rim, Em, ch, rs, rows, rfl, hN, hW, h0, h1, h2, h3, k⟩ := h
    refine ⟨_, (pss_cons (ps_set (i := 5) nd rfl (Or.inl rfl) (pe_op op_mul pe_int (pv 3))) (pss_cutZ (ps_if (PW.pt (pw_or (pt_cmpR op_eq (pv 3) pe_int (nomark _)) (pw_or1 (pt_cmpR op_lt (pv 4) pe_int (nomark _))))) (pss_cons (ps_set (i := 6) nd rfl (Or.inl rfl) (pe_call (E := E0) G_l_pick (hr.mono (by decide)) (by rfl) T.g_l_pick T.F_l_pick.kp T.b_l_pick .nil pass0 (pa_cons (pv 0) (pa_cons (pv 1) pa_nil)))) (pss_cons (ps_set (i := 7) nd rfl (Or.inl rfl) (pe_op op_modN (pe_callTy zc_int (by rfl) T.n_int (by decide +kernel) (pa_cons (pe_op op_add (pv 6) pe_int) pa_nil)) (pv 1))) (pss_cons (ps_for PassesOwn.never rfl (pi_range1 (by rfl) T.n_range (pa_cons (pe_op op_sub (pv 1) pe_int) pa_nil)) (pg_name (i := 8) nd rfl (Or.inl rfl)) (pss_one (ps_if (PW.pt (pw_and (pt_cmpR op_ne (pv 7) (pv 6) (nomark _)) (pw_and (pt_cmpR (op_eqDK (K := K) rfl hr.units) (pe_ix (ix_listK (K := K) rfl) (pv 2) (pv 7) (fun _ _ => rfl)) (pe_lst pa_nil) (nomark _)) (pw_and1 (pt_cmpR op_eq (pe_call (E := E0) G_l_pick (hr.mono (by decide)) (by rfl) T.g_l_pick T.F_l_pick.kp T.b_l_pick .nil pass0 (pa_cons (pv 0) (pa_cons pe_int pa_nil))) pe_int (nomark _)))))) (pss_one (ps_set (i := 7) nd rfl (Or.inl rfl) (pe_op op_modN (pe_callTy zc_int (by rfl) T.n_int (by decide +kernel) (pa_cons (pe_op op_add (pv 7) pe_int) pa_nil)) (pv 1)))) pss_nil))) (pss_cons (ps_expr (pe_bm PySem.F.plainAttrs_list PySem.F.slot_list_insert PySem.F.type_list_insert zm_insert (pe_ix (ix_listK (K := K) rfl) (pv 2) (pv 6) (fun _ _ => rfl)) (pa_cons pe_int (pa_cons (pv 5) pa_nil)))) (pss_one (ps_expr (pe_bm PySem.F.plainAttrs_list PySem.F.slot_list_append PySem.F.type_list_append mt_append (pe_ix (ix_listK (K := K) rfl) (pv 2) (pv 7) (fun _ _ => rfl)) (pa_cons (pe_op op_add (pv 5) pe_int) pa_nil)))))))) (pss_one (ps_if (pt_cmpR op_lt (pv 4) pe_int (nomark _)) (pss_cons (ps_set (i := 6) nd rfl (Or.inl rfl) (pe_call (E := E0) G_l_pick (hr.mono (by decide)) (by rfl) T.g_l_pick T.F_l_pick.kp T.b_l_pick .nil pass0 (pa_cons (pv 0) (pa_cons (pv 1) pa_nil)))) (pss_cons (ps_expr (pe_bm PySem.F.plainAttrs_list PySem.F.slot_list_append PySem.F.type_list_append mt_append (pv 2) (pa_cons (pe_op op_cat (pe_ix (ix_listK (K := K) rfl) (pv 2) (pv 6) (fun _ _ => rfl)) (pe_lst (pa_cons (pe_op op_add (pv 5) pe_int) pa_nil))) pa_nil))) (pss_one (ps_asg (pe_lst (pa_cons (pv 5) pa_nil)) (pg_sub (pv 2) (pv 6) set_list))))) (pss_one (ps_if (pt_cmpR op_eq (pv 4) pe_int (nomark _)) (pss_cons (ps_asg (pe_call (E := E0) G_l_at (hr.mono (by decide)) (by rfl) T.g_l_at T.F_l_at.kp T.b_l_at .nil pass0 (pa_cons (pv 2) (pa_cons (pe_op op_add (pe_op op_mul pe_int (pe_call (E := E0) G_l_pick (hr.mono (by decide)) (by rfl) T.g_l_pick T.F_l_pick.kp T.b_l_pick .nil pass0 (pa_cons (pv 0) (pa_cons (pv 3) pa_nil)))) pe_int) pa_nil))) (pg_lstK (K := K) rfl rfl (pgs_cons (pg_name (i := 6) nd rfl (Or.inl rfl)) (pgs_cons (pg_name (i := 9) nd rfl (Or.inl rfl)) pgs_nil)))) (pss_cons (ps_expr (pe_bm PySem.F.plainAttrs_list PySem.F.slot_list_append PySem.F.type_list_append mt_append (pv 2) (pa_cons (pe_lst (pa_cons (pe_ix (ix_listK (K := K) rfl) (pe_ix (ix_listK (K := K) rfl) (pv 2) (pv 6) (fun _ _ => rfl)) (pv 9) (fun _ _ => rfl)) (pa_cons (pv 5) pa_nil))) pa_nil))) (pss_cons (ps_set (i := 10) nd rfl (Or.inl rfl) (pe_ix (ix_listK (K := K) rfl) (pv 2) (pv 6) (fun _ _ => rfl))) (pss_one (ps_asg (pe_op op_add (pv 5) pe_int) (pg_sub (pv 10) (pv 9) set_list)))))) (pss_one (ps_if (pt_cmpR op_eq (pv 4) pe_int (nomark _)) (pss_cons (ps_set (i := 11) nd rfl (Or.inl rfl) (pe_op op_mul pe_int (pe_call (E := E0) G_l_pick (hr.mono (by decide)) (by rfl) T.g_l_pick T.F_l_pick.kp T.b_l_pick .nil pass0 (pa_cons (pv 0) (pa_cons (pv 3) pa_nil))))) (pss_cons (ps_asg (pe_call (E := E0) G_l_at (hr.mono (by decide)) (by rfl) T.g_l_at T.F_l_at.kp T.b_l_at .nil pass0 (pa_cons (pv 2) (pa_cons (pv 11) pa_nil))) (pg_lstK (K := K) rfl rfl (pgs_cons (pg_name (i := 6) nd rfl (Or.inl rfl)) (pgs_cons (pg_name (i := 9) nd rfl (Or.inl rfl)) pgs_nil)))) (pss_cons (ps_expr (pe_bm PySem.F.plainAttrs_list PySem.F.slot_list_insert PySem.F.type_list_insert zm_insert (pe_ix (ix_listK (K := K) rfl) (pv 2) (pv 6) (fun _ _ => rfl)) (pa_cons (pe_op op_add (pv 9) pe_int) (pa_cons (pv 5) pa_nil)))) (pss_cons (ps_asg (pe_call (E := E0) G_l_at (hr.mono (by decide)) (by rfl) T.g_l_at T.F_l_at.kp T.b_l_at .nil pass0 (pa_cons (pv 2) (pa_cons (pe_op op_add (pv 11) pe_int) pa_nil))) (pg_lstK (K := K) rfl rfl (pgs_cons (pg_name (i := 6) nd rfl (Or.inl rfl)) (pgs_cons (pg_name (i := 9) nd rfl (Or.inl rfl)) pgs_nil)))) (pss_one (ps_expr (pe_bm PySem.F.plainAttrs_list PySem.F.slot_list_insert PySem.F.type_list_insert zm_insert (pe_ix (ix_listK (K := K) rfl) (pv 2) (pv 6) (fun _ _ => rfl)) (pa_cons (pv 9) (pa_cons (pe_op op_add (pv 5) pe_int) pa_nil))))))))) (pss_one (ps_if (pt_cmpR op_eq (pv 4) pe_int (nomark _)) (pss_cons (ps_set (i := 6) nd rfl (Or.inl rfl) (pe_call (E := E0) G_l_pick (hr.mono (by decide)) (by rfl) T.g_l_pick T.F_l_pick.kp T.b_l_pick .nil pass0 (pa_cons (pv 0) (pa_cons (pe_callB (zc_lenK (K := K) rfl) (by rfl) T.n_len (by decide +kernel) (pa_cons (pv 2) pa_nil)) pa_nil)))) (pss_cons (ps_expr (pe_bm PySem.F.plainAttrs_list PySem.F.slot_list_insert PySem.F.type_list_insert zm_insert (pe_ix (ix_listK (K := K) rfl) (pv 2) (pv 6) (fun _ _ => rfl)) (pa_cons (pe_call (E := E0) G_l_pick (hr.mono (by decide)) (by rfl) T.g_l_pick T.F_l_pick.kp T.b_l_pick .nil pass0 (pa_cons (pv 0) (pa_cons (pe_op op_add (pe_callB (zc_lenK (K := K) rfl) (by rfl) T.n_len (by decide +kernel) (pa_cons (pe_ix (ix_listK (K := K) rfl) (pv 2) (pv 6) (fun _ _ => rfl)) pa_nil)) pe_int) pa_nil))) (pa_cons (pv 5) pa_nil)))) (pss_one (ps_expr (pe_bm PySem.F.plainAttrs_list PySem.F.slot_list_append PySem.F.type_list_append mt_append (pv 2) (pa_cons (pe_lst (pa_cons (pe_op op_add (pv 5) pe_int) pa_nil)) pa_nil)))))) (pss_one (ps_if (pt_cmpR op_eq (pv 4) pe_int (nomark _)) (pss_cons (ps_set (i := 6) nd rfl (Or.inl rfl) (pe_call (E := E0) G_l_pick (hr.mono (by decide)) (by rfl) T.g_l_pick T.F_l_pick.kp T.b_l_pick .nil pass0 (pa_cons (pv 0) (pa_cons (pe_callB (zc_lenK (K := K) rfl) (by rfl) T.n_len (by decide +kernel) (pa_cons (pv 2) pa_nil)) pa_nil)))) (pss_cons (ps_set (i := 9) nd rfl (Or.inl rfl) (pe_call (E := E0) G_l_pick (hr.mono (by decide)) (by rfl) T.g_l_pick T.F_l_pick.kp T.b_l_pick .nil pass0 (pa_cons (pv 0) (pa_cons (pe_op op_add (pe_callB (zc_lenK (K := K) rfl) (by rfl) T.n_len (by decide +kernel) (pa_cons (pe_ix (ix_listK (K := K) rfl) (pv 2) (pv 6) (fun _ _ => rfl)) pa_nil)) pe_int) pa_nil)))) (pss_cons (ps_expr (pe_bm PySem.F.plainAttrs_list PySem.F.slot_list_insert PySem.F.type_list_insert zm_insert (pe_ix (ix_listK (K := K) rfl) (pv 2) (pv 6) (fun _ _ => rfl)) (pa_cons (pv 9) (pa_cons (pv 5) pa_nil)))) (pss_one (ps_expr (pe_bm PySem.F.plainAttrs_list PySem.F.slot_list_insert PySem.F.type_list_insert zm_insert (pe_ix (ix_listK (K := K) rfl) (pv 2) (pv 6) (fun _ _ => rfl)) (pa_cons (pe_op op_add (pv 9) pe_int) (pa_cons (pe_op op_add (pv 5) pe_int) pa_nil)))))))) (pss_cons (ps_set (i := 12) nd rfl (Or.inl rfl) (pe_call (E := E0) G_l_face (hr.mono (by decide)) (by rfl) T.g_l_face T.F_l_face.kp T.b_l_face .nil pass0 (pa_cons (pv 2) (pa_cons (pv 1) (pa_cons (pe_call (E := E0) G_l_pick (hr.mono (by decide)) (by rfl) T.g_l_pick T.F_l_pick.kp T.b_l_pick .nil pass0 (pa_cons (pv 0) (pa_cons (pe_op op_mul pe_int (pv 3)) pa_nil))) pa_nil))))) (pss_cons (ps_set (i := 13) nd rfl (Or.inl rfl) (pe_ix (ix_listK (K := K) rfl) (pv 12) (pe_call (E := E0) G_l_pick (hr.mono (by decide)) (by rfl) T.g_l_pick T.F_l_pick.kp T.b_l_pick .nil pass0 (pa_cons (pv 0) (pa_cons (pe_callB (zc_lenK (K := K) rfl) (by rfl) T.n_len (by decide +kernel) (pa_cons (pv 12) pa_nil)) pa_nil))) (fun _ _ => rfl))) (pss_cons (ps_set (i := 14) nd rfl (Or.inl rfl) (pe_ix (ix_listK (K := K) rfl) (pv 12) (pe_call (E := E0) G_l_pick (hr.mono (by decide)) (by rfl) T.g_l_pick T.F_l_pick.kp T.b_l_pick .nil pass0 (pa_cons (pv 0) (pa_cons (pe_callB (zc_lenK (K := K) rfl) (by rfl) T.n_len (by decide +kernel) (pa_cons (pv 12) pa_nil)) pa_nil))) (fun _ _ => rfl))) (pss_cons (ps_asg (pe_call (E := E0) G_l_at (hr.mono (by decide)) (by rfl) T.g_l_at T.F_l_at.kp T.b_l_at .nil pass0 (pa_cons (pv 2) (pa_cons (pv 13) pa_nil))) (pg_lstK (K := K) rfl rfl (pgs_cons (pg_name (i := 6) nd rfl (Or.inl rfl)) (pgs_cons (pg_name (i := 9) nd rfl (Or.inl rfl)) pgs_nil)))) (pss_cons (ps_expr (pe_bm PySem.F.plainAttrs_list PySem.F.slot_list_insert PySem.F.type_list_insert zm_insert (pe_ix (ix_listK (K := K) rfl) (pv 2) (pv 6) (fun _ _ => rfl)) (pa_cons (pv 9) (pa_cons (pv 5) pa_nil)))) (pss_cons (ps_asg (pe_call (E := E0) G_l_at (hr.mono (by decide)) (by rfl) T.g_l_at T.F_l_at.kp T.b_l_at .nil pass0 (pa_cons (pv 2) (pa_cons (pv 14) pa_nil))) (pg_lstK (K := K) rfl rfl (pgs_cons (pg_name (i := 6) nd rfl (Or.inl rfl)) (pgs_cons (pg_name (i := 9) nd rfl (Or.inl rfl)) pgs_nil)))) (pss_one (ps_expr (pe_bm PySem.F.plainAttrs_list PySem.F.slot_list_insert PySem.F.type_list_insert zm_insert (pe_ix (ix_listK (K := K) rfl) (pv 2) (pv 6) (fun _ _ => rfl)) (pa_cons (pv 9) (pa_cons (pe_op op_add (pv 5) pe_int) pa_nil)))))))))))))))))))))) (pss_one (ps_ret (pe_op op_add (pv 3) pe_int))))), ?_⟩
    have hrimne : (rim : Int) ≠ 0 := by omega
    have hrow : ∀ n, (rows.getD n []).length ≤ 2000 := fun n => Nat.le_trans (hW.row (n := n)) (by omega)
    have hfew : Few rows := ⟨by omega, fun row hr => Nat.le_trans (row_le hr) (by rw [hW.len]; omega)⟩
    walk_at "gs"
    refine g_cut (fun σ' H' => σ'[3]? = some (some (.int (Em : Int))) ∧ ∃ rs' rows', Grow rim Em rows rows' ∧ NS H0 H' S c T' rs' rows') ?_ ?_
    · refine g_ifb (decide (Em = 0) || decide (ch < 3)) (fun Q q => ?_) ?_
      · walk_at "gs"
        rw [Rz.dec_int]
        refine if_2 (fun e => ?_) (fun e => ?_)
        · have he : Em = 0 := by
            have := of_decide_eq_true e
            omega
          rw [decide_eq_true he, Bool.true_or] at q
          exact q
        · have he : ¬ Em = 0 := by
            have := of_decide_eq_false e
            omega
          rw [decide_eq_false he, Bool.false_or] at q
          walk_at "gs"
          exact q
      refine if_2 (fun eA => ?_) (fun eA => ?_)
      · -- an edge along the rim
        walk_at "gs"
        refine ⟨S, c, _, rfl, hN.st, by omega, lim_ok (by omega), fun v H1 v0 v1 hS1 k1 => ?_⟩
        obtain ⟨n, rfl⟩ : ∃ n : Nat, v = n := ⟨v.toNat, by omega⟩
        have hn : n < rim := by omega
        have hN1 := hN.pick hS1 k1
        walk_at "gs"
        rw [show (n : Int) + 1 = ((n + 1 : Nat) : Int) from rfl, fmod_nat]
        refine g_rng (rim - 1) (by omega) (by omega) (fun i σ' H' => ∃ (o j : Nat) (u8 : Option V), σ' = [some (.ref S), some (.int (rim : Int)), some (.ref T'), some (.int (Em : Int)), some (.int ch), some (.int (2 * (Em : Int))), some (.int (n : Int)), some (.int (o : Int)), u8, none, none, none, none, none, none] ∧
          NS H0 H' S c T' rs rows ∧ o = (n + 1 + j) % rim ∧ ∀ i, i < j → (n + 1 + i) % rim ≠ n ∧ rows.getD ((n + 1 + i) % rim) [] = []) ⟨(n + 1) % rim, 0, none, rfl, hN1, rfl, fun i hi => by omega⟩ ?_ ?_
        · rintro i σ' H2 hi ⟨o, j, u8, rfl, hN2, ho, hj⟩
          have ho2 : o < rim := by
            rw [ho]
            exact Nat.mod_lt _ h0
          walk_at "gs"
          refine if_2 (fun e => ?_) (fun e => ?_)
          · have hon : o ≠ n := fun z => by
              rw [z] at e
              simp at e
            obtain ⟨r, e1, e2, e3⟩ := hN2.get (n := o) (by omega)
            walk_at "gs"
            refine g_ixL hN2.sqT (atI_nat e1) ?_
            walk_at "gs"
            refine g_newL (by show 0 ≤ 1000000; decide) fun q hq => ?_
            have hN3 := hN2.same (up_same (o := .lst []) hq)
            refine g_eqNil (SqL.of ((up_same hq) _ _ e3)) (SqL.of upd_same) ?_
            walk_at "gs"
            refine if_2 (fun e => ?_) (fun e => ?_)
            · have hem := of_decide_eq_true e
              walk_at "gs"
              refine ⟨S, c, 2, rfl, hN3.st, by decide, by decide +kernel, fun v H4 _ _ hS4 k4 => ?_⟩
              have hN4 := hN3.pick hS4 k4
              walk_at "gs"
              refine if_2 (fun e => ?_) (fun e => ?_)
              · walk_at "gs"
                rw [show (o : Int) + 1 = ((o + 1 : Nat) : Int) from rfl, fmod_nat]
                refine ⟨(o + 1) % rim, j + 1, _, rfl, hN4, ?_, fun i hi => ?_⟩
                · rw [ho, Nat.mod_add_mod]
                  rfl
                · rcases Nat.lt_or_eq_of_le (Nat.le_of_lt_succ hi) with h | h
                  · exact hj i h
                  · rw [h, ← ho]
                    exact ⟨hon, hem⟩
              · walk_at "gs"
                exact ⟨o, j, _, rfl, hN4, ho, hj⟩
            · walk_at "gs"
              exact ⟨o, j, _, rfl, hN3, ho, hj⟩
          · walk_at "gs"
            exact ⟨o, j, _, rfl, hN2, ho, hj⟩
        · rintro σ' H2 ⟨o, j, u8, rfl, hN2, ho, hj⟩
          have ho2 : o < rim := by
            rw [ho]
            exact Nat.mod_lt _ h0
          obtain ⟨r, e1, e2, e3⟩ := hN2.get (n := n) (by omega)
          walk_at "gs"
          refine g_ixL hN2.sqT (atI_nat e1) ?_
          refine g_bmL (SqL.of e3) ?_
          walk_at "gs"
          refine g_insert (i := 0) e3 (by rw [List.length_map]; have := hrow n; omega) (by decide) ?_
          rw [map_ins]
          have hN3 := hN2.row e2 (ins 0 (2 * (Em : Int)) (rows.getD n []))
          have hm3 : (modRow rows n (ins 0 (2 * (Em : Int)))).length = rows.length := modRow_len
          obtain ⟨r', f1, f2, f3⟩ := hN3.get (n := o) (by show o < (modRow rows n (ins 0 (2 * (Em : Int)))).length; omega)
          walk_at "gs"
          refine g_ixL hN3.sqT (atI_nat f1) ?_
          refine g_bmL (SqL.of f3) ?_
          walk_at "gs"
          have hlen3 : ((modRow rows n (ins 0 (2 * (Em : Int)))).getD o []).length ≤ 5000 := by
            by_cases hon : o = n
            · rw [modRow_get (by omega) hon, (ins_perm _ _ _).length_eq, List.length_cons]
              have := hrow n
              omega
            · unfold modRow
              rw [List.getD_eq_getElem?_getD, List.getElem?_set_ne (fun z => hon z.symm), ← List.getD_eq_getElem?_getD]
              have := hrow o
              omega
          refine g_append f3 (by rw [List.length_map]; exact Nat.le_trans hlen3 (by decide)) ?_
          refine ⟨rfl, rs, _, Grow.rimEdge n o j hn ho hj, ?_⟩
          have hN4 := hN3.row f2 ((modRow rows n (ins 0 (2 * (Em : Int)))).getD o [] ++ [2 * (Em : Int) + 1])
          rw [List.map_append] at hN4
          exact hN4
      have hE : 0 < Em := by
        rcases Nat.eq_zero_or_pos Em with h | h
        · rw [h] at eA
          simp at eA
        · exact h
      have hgo : ∀ (σ' : L2.St) (H' : Hp) (rs' : List Addr) (rows' : Rows), σ'[3]? = some (some (.int (Em : Int))) → Grow rim Em rows rows' → NS H0 H' S c T' rs' rows' → (σ'[3]? = some (some (.int (Em : Int))) ∧ ∃ rs' rows', Grow rim Em rows rows' ∧ NS H0 H' S c T' rs' rows') := fun σ' H' rs' rows' a b d => ⟨a, rs', rows', b, d⟩
      walk_at "gs"
      refine if_2 (fun eB => ?_) (fun eB => ?_)
      · -- before a rim node
        walk_at "gs"
        refine ⟨S, c, _, rfl, hN.st, by omega, lim_ok (by omega), fun v H1 v0 v1 hS1 k1 => ?_⟩
        obtain ⟨n, rfl⟩ : ∃ n : Nat, v = n := ⟨v.toNat, by omega⟩
        have hn : n < rim := by omega
        have hN1 := hN.pick hS1 k1
        walk_at "gs"
        refine g_bmL hN1.sqT ?_
        obtain ⟨r, e1, e2, e3⟩ := hN1.get (n := n) (by omega)
        walk_at "gs"
        refine g_ixL hN1.sqT (atI_nat e1) ?_
        walk_at "gs"
        refine g_newL (by show 1 ≤ 1000000; decide) fun q hq => ?_
        refine g_cat ((up_same hq) _ _ e3) upd_same (by rw [List.length_map]; show _ + 1 ≤ _; have := hrow n; omega) fun p hp => ?_
        have hN2 := (hN1.same (up_same (o := .lst [.int (2 * (Em : Int) + 1)]) hq)).same (up_same (o := .lst ((rows.getD n []).map V.int ++ [.int (2 * (Em : Int) + 1)])) hp)
        have hp0 := hN1.fresh (show H1 p = none from (up_same hq).free hp)
        have hpr := hN1.nr (show H1 p = none from (up_same hq).free hp)
        have hpT := hN1.nT (show H1 p = none from (up_same hq).free hp)
        walk_at "gs"
        refine g_append hN2.ro.top (by rw [List.length_map, hN.ro.len]; omega) ?_
        have hN3 := hN2.push (r := p) (row := rows.getD n [] ++ [2 * (Em : Int) + 1]) (by rw [upd_same, List.map_append]; rfl) hp0 hpr hpT
        walk_at "gs"
        refine g_newL (by show 1 ≤ 1000000; decide) fun p2 hp2 => ?_
        have hN4 := hN3.same (up_same (o := .lst [.int (2 * (Em : Int))]) hp2)
        have hl : n < (rs ++ [p]).length := by
          rw [List.length_append, hN.ro.len]
          omega
        walk_at "gs"
        refine g_setL hN4.ro.top (ixN_of (by rw [List.length_map]; exact hl)) ?_
        exact hgo _ _ _ _ rfl (Grow.before n hn) (hN4.swap (r := p2) (row := [2 * (Em : Int)]) upd_same (hN3.fresh hp2) (hN3.nr hp2) (hN3.nT hp2) hl)
      walk_at "gs"
      refine if_2 (fun eC => ?_) (fun eC => ?_)
      · -- within an edge
        walk_at "gs"
        refine ⟨S, c, _, rfl, hN.st, by omega, lim_ok (by omega), fun v H1 v0 v1 hS1 k1 => ?_⟩
        obtain ⟨e, rfl⟩ : ∃ n : Nat, v = n := ⟨v.toNat, by omega⟩
        have he : e < Em := by omega
        have hN1 := hN.pick hS1 k1
        walk_at "gs"
        have hd : (2 * (e : Int) + 1) ∈ rows.flatten := (hW.mem _).mpr (by omega)
        refine ⟨T', _, rs, rows, rfl, hN1.ro, hd, hfew, fun q hq => ?_⟩
        have hN2 := hN1.same (up_same (o := .lst [.int ((atM rows (2 * (e : Int) + 1)).1 : Nat), .int ((atM rows (2 * (e : Int) + 1)).2 : Nat)]) hq)
        refine ⟨q, _, rfl, SqL.of upd_same, rfl, _, _, rfl, _, _, rfl, rfl, ?_⟩
        obtain ⟨row, w1, w2⟩ := at_spec hd
        have hg := getD_at w1
        obtain ⟨r, e1, e2, e3⟩ := hN2.get (at_lt hd)
        rw [hg] at e3
        walk_at "gs"
        refine g_bmL hN2.sqT ?_
        walk_at "gs"
        refine g_ixL hN2.sqT (atI_nat e1) ?_
        walk_at "gs"
        refine g_ixL (SqL.of e3) (v := .int (2 * (e : Int) + 1)) (atI_nat (by rw [List.getElem?_map, w2]; rfl)) ?_
        walk_at "gs"
        refine g_newL (by show 2 ≤ 1000000; decide) fun p hp => ?_
        have hN3 := hN2.same (up_same (o := .lst [.int (2 * (e : Int) + 1), .int (2 * (Em : Int))]) hp)
        walk_at "gs"
        refine g_append hN3.ro.top (by rw [List.length_map, hN.ro.len]; omega) ?_
        have hN4 := hN3.push (r := p) (row := [2 * (e : Int) + 1, 2 * (Em : Int)]) upd_same (hN2.fresh hp) (hN2.nr hp) (hN2.nT hp)
        have hlt := at_lt hd
        have e2' : (rs ++ [p])[(atM rows (2 * (e : Int) + 1)).1]? = some r := by
          rw [List.getElem?_append_left (by rw [hN.ro.len]; exact hlt)]
          exact e2
        have w1' : (rows ++ [[2 * (e : Int) + 1, 2 * (Em : Int)]])[(atM rows (2 * (e : Int) + 1)).1]? = some row := by
          rw [List.getElem?_append_left hlt]
          exact w1
        have e3' := hN4.ro.at_ _ r row e2' w1'
        walk_at "gs"
        refine g_ixL hN4.sqT (v := .ref r) (atI_nat (by rw [List.getElem?_map, e2']; rfl)) ?_
        walk_at "gs"
        refine g_setL e3' (ixN_of (by rw [List.length_map]; exact (List.getElem?_eq_some_iff.mp w2).1)) ?_
        have hN5 := hN4.row e2' (row.set (atM rows (2 * (e : Int) + 1)).2 (2 * (Em : Int) + 1))
        rw [List.map_set] at hN5
        have g := Grow.within (rim := rim) (rows := rows) e he
        rw [hg] at g
        exact hgo _ _ _ _ rfl g hN5
      walk_at "gs"
      refine if_2 (fun eD => ?_) (fun eD => ?_)
      · -- beside an edge
        walk_at "gs"
        refine ⟨S, c, _, rfl, hN.st, by omega, lim_ok (by omega), fun v H1 v0 v1 hS1 k1 => ?_⟩
        obtain ⟨e, rfl⟩ : ∃ n : Nat, v = n := ⟨v.toNat, by omega⟩
        have he : e < Em := by omega
        have hN1 := hN.pick hS1 k1
        walk_at "gs"
        have hd : (2 * (e : Int)) ∈ rows.flatten := (hW.mem _).mpr (by omega)
        refine ⟨T', _, rs, rows, rfl, hN1.ro, hd, hfew, fun q hq => ?_⟩
        have hN2 := hN1.same (up_same (o := .lst [.int ((atM rows (2 * (e : Int))).1 : Nat), .int ((atM rows (2 * (e : Int))).2 : Nat)]) hq)
        refine ⟨q, _, rfl, SqL.of upd_same, rfl, _, _, rfl, _, _, rfl, rfl, ?_⟩
        obtain ⟨row, w1, w2⟩ := at_spec hd
        have hg := getD_at w1
        have hrl := hrow (atM rows (2 * (e : Int))).1
        have hal := (List.getElem?_eq_some_iff.mp w2).1
        obtain ⟨r, e1, e2, e3⟩ := hN2.get (at_lt hd)
        walk_at "gs"
        refine g_ixL hN2.sqT (atI_nat e1) ?_
        refine g_bmL (SqL.of e3) ?_
        walk_at "gs"
        rw [hg] at hrl
        refine g_insert (i := (atM rows (2 * (e : Int))).2 + 1) e3 (by rw [List.length_map, hg]; omega) (by omega) ?_
        rw [map_ins]
        have hN3 := hN2.row e2 (ins ((atM rows (2 * (e : Int))).2 + 1) (2 * (Em : Int)) (rows.getD (atM rows (2 * (e : Int))).1 []))
        obtain ⟨r1, hr1⟩ : ∃ r1, r1 = modRow rows (atM rows (2 * (e : Int))).1 (ins ((atM rows (2 * (e : Int))).2 + 1) (2 * (Em : Int))) := ⟨_, rfl⟩
        rw [show rows.set (atM rows (2 * (e : Int))).1 (ins ((atM rows (2 * (e : Int))).2 + 1) (2 * (Em : Int)) (rows.getD (atM rows (2 * (e : Int))).1 [])) = r1 from hr1.symm] at hN3
        have p1 : r1.flatten.Perm ([2 * (Em : Int)] ++ rows.flatten) := by
          rw [hr1]
          exact modRow_perm (at_lt hd) fun row => ins_perm _ _ _
        have hl1 : r1.length = rows.length := by
          rw [hr1]
          exact modRow_len
        have hfl : r1.flatten.length = 2 * Em + 1 := by
          rw [p1.length_eq, List.length_append, hW.len]
          show 1 + 2 * Em = _
          omega
        have hd1 : (2 * (e : Int) + 1) ∈ r1.flatten := p1.mem_iff.mpr (List.mem_cons_of_mem _ ((hW.mem _).mpr (by omega)))
        walk_at "gs"
        refine ⟨T', _, rs, r1, rfl, hN3.ro, hd1, few_of (by omega) (by omega), fun q2 hq2 => ?_⟩
        have hN4 := hN3.same (up_same (o := .lst [.int ((atM r1 (2 * (e : Int) + 1)).1 : Nat), .int ((atM r1 (2 * (e : Int) + 1)).2 : Nat)]) hq2)
        refine ⟨q2, _, rfl, SqL.of upd_same, rfl, _, _, rfl, _, _, rfl, rfl, ?_⟩
        obtain ⟨row', y1, y2⟩ := at_spec hd1
        have hg' := getD_at y1
        have hal' := (List.getElem?_eq_some_iff.mp y2).1
        have hrl' : row'.length ≤ r1.flatten.length := row_le (List.mem_of_getElem? y1)
        obtain ⟨r', f1, f2, f3⟩ := hN4.get (at_lt hd1)
        walk_at "gs"
        refine g_ixL hN4.sqT (atI_nat f1) ?_
        refine g_bmL (SqL.of f3) ?_
        walk_at "gs"
        refine g_insert (i := (atM r1 (2 * (e : Int) + 1)).2) f3 (by rw [List.length_map, hg']; omega) (by omega) ?_
        rw [map_ins]
        exact hgo _ _ _ _ rfl (Grow.beside e he r1 hr1) (hN4.row f2 _)
      walk_at "gs"
      refine if_2 (fun eE => ?_) (fun eE => ?_)
      · -- a twig
        walk_at "gs"
        refine g_lenL hN.sqT ?_
        walk_at "gs"
        have hlr : (rs.map V.ref).length = rows.length := by rw [List.length_map, hN.ro.len]
        refine ⟨S, c, _, rfl, hN.st, by omega, lim_ok (by omega), fun v H1 v0 v1 hS1 k1 => ?_⟩
        obtain ⟨n, rfl⟩ : ∃ n : Nat, v = n := ⟨v.toNat, by omega⟩
        have hn : n < rows.length := by omega
        have hN1 := hN.pick hS1 k1
        obtain ⟨r, e1, e2, e3⟩ := hN1.get hn
        have hrl := hrow n
        walk_at "gs"
        refine g_ixL hN1.sqT (atI_nat e1) ?_
        refine g_bmL (SqL.of e3) ?_
        walk_at "gs"
        refine g_ixL hN1.sqT (atI_nat e1) ?_
        walk_at "gs"
        rw [List.length_map]
        refine ⟨S, c, _, rfl, hN1.st, by omega, lim_ok (n := (rows.getD n []).length + 1) (by omega), fun v H2 v0 v1 hS2 k2 => ?_⟩
        obtain ⟨p, rfl⟩ : ∃ n : Nat, v = n := ⟨v.toNat, by omega⟩
        have hN2 := hN1.pick hS2 k2
        have e4 : H2 r = some (.lst ((rows.getD n []).map V.int)) := k2 _ _ (hN1.nrS (List.mem_of_getElem? e2)) e3
        walk_at "gs"
        refine g_insert (i := p) e4 (by rw [List.length_map]; omega) (by omega) ?_
        rw [map_ins]
        have hN3 := hN2.row e2 (ins p (2 * (Em : Int)) (rows.getD n []))
        walk_at "gs"
        refine g_bmL hN3.sqT ?_
        walk_at "gs"
        refine g_newL (by show 1 ≤ 1000000; decide) fun q hq => ?_
        have hN4 := hN3.same (up_same (o := .lst [.int (2 * (Em : Int) + 1)]) hq)
        walk_at "gs"
        refine g_append hN4.ro.top (by rw [hlr]; omega) ?_
        exact hgo _ _ _ _ rfl (Grow.twig n p hn (by omega)) (hN4.push (r := q) (row := [2 * (Em : Int) + 1]) upd_same (hN3.fresh hq) (hN3.nr hq) (hN3.nT hq))
      walk_at "gs"
      refine if_2 (fun eF => ?_) (fun eF => ?_)
      · -- a loop
        walk_at "gs"
        refine g_lenL hN.sqT ?_
        walk_at "gs"
        have hlr : (rs.map V.ref).length = rows.length := by rw [List.length_map, hN.ro.len]
        refine ⟨S, c, _, rfl, hN.st, by omega, lim_ok (by omega), fun v H1 v0 v1 hS1 k1 => ?_⟩
        obtain ⟨n, rfl⟩ : ∃ n : Nat, v = n := ⟨v.toNat, by omega⟩
        have hn : n < rows.length := by omega
        have hN1 := hN.pick hS1 k1
        obtain ⟨r, e1, e2, e3⟩ := hN1.get hn
        have hrl := hrow n
        walk_at "gs"
        refine g_ixL hN1.sqT (atI_nat e1) ?_
        walk_at "gs"
        rw [List.length_map]
        refine ⟨S, c, _, rfl, hN1.st, by omega, lim_ok (n := (rows.getD n []).length + 1) (by omega), fun v H2 v0 v1 hS2 k2 => ?_⟩
        obtain ⟨p, rfl⟩ : ∃ n : Nat, v = n := ⟨v.toNat, by omega⟩
        have hN2 := hN1.pick hS2 k2
        have e4 : H2 r = some (.lst ((rows.getD n []).map V.int)) := k2 _ _ (hN1.nrS (List.mem_of_getElem? e2)) e3
        walk_at "gs"
        refine g_ixL hN2.sqT (atI_nat e1) ?_
        refine g_bmL (SqL.of e4) ?_
        walk_at "gs"
        refine g_insert (i := p) e4 (by rw [List.length_map]; omega) (by omega) ?_
        rw [map_ins]
        have hN3 : NS H0 _ S c T' rs (modRow rows n (ins p (2 * (Em : Int)))) := hN2.row e2 (ins p (2 * (Em : Int)) (rows.getD n []))
        have hm : (modRow rows n (ins p (2 * (Em : Int)))).length = rows.length := modRow_len
        obtain ⟨r', f1, f2, f3⟩ := hN3.get (n := n) (by omega)
        walk_at "gs"
        refine g_ixL hN3.sqT (atI_nat f1) ?_
        refine g_bmL (SqL.of f3) ?_
        walk_at "gs"
        have hl3 : ((modRow rows n (ins p (2 * (Em : Int)))).getD n []).length ≤ 3000 := by
          rw [modRow_get hn rfl, (ins_perm _ _ _).length_eq, List.length_cons]
          omega
        refine g_insert (i := p + 1) f3 (by rw [List.length_map]; omega) (by omega) ?_
        rw [map_ins]
        exact hgo _ _ _ _ rfl (Grow.loop n p hn (by omega)) (hN3.row f2 _)
      -- across a face
      walk_at "gs"
      refine ⟨S, c, _, rfl, hN.st, by omega, lim_ok2 (by omega), fun d H1 v0 v1 hS1 k1 => ?_⟩
      have hN1 := hN.pick hS1 k1
      walk_at "gs"
      refine ⟨T', rim, Em, d, rs, rows, rfl, hN1.ro, hW, v0, v1, hfew, fun pf H2 sm2 hpf ef => ?_⟩
      have hN2 := hN1.same sm2
      have hpS := hN1.st.neS hpf
      have hfl := faceM_len rows rim d
      have hdm : d ∈ rows.flatten := (hW.mem d).mpr ⟨v0, v1⟩
      walk_at "gs"
      rw [List.length_map]
      refine ⟨S, c, _, rfl, hN2.st, by omega, lim_ok (by omega), fun v H3 u0 u1 hS3 k3 => ?_⟩
      obtain ⟨ix, rfl⟩ : ∃ n : Nat, v = n := ⟨v.toNat, by omega⟩
      have hN3 := hN2.pick hS3 k3
      have ef3 := k3 _ _ hpS ef
      have hxl : ix < (faceM rows rim d).length := by omega
      walk_at "gs"
      refine g_ixL (SqL.of ef3) (v := .int (faceM rows rim d)[ix]) (atI_nat (by rw [List.getElem?_map, List.getElem?_eq_getElem hxl]; rfl)) ?_
      walk_at "gs"
      rw [List.length_map]
      refine ⟨S, c, _, rfl, hN3.st, by omega, lim_ok (by omega), fun v H4 u0 u1 hS4 k4 => ?_⟩
      obtain ⟨iy, rfl⟩ : ∃ n : Nat, v = n := ⟨v.toNat, by omega⟩
      have hN4 := hN3.pick hS4 k4
      have ef4 := k4 _ _ hpS ef3
      have hyl : iy < (faceM rows rim d).length := by omega
      walk_at "gs"
      refine g_ixL (SqL.of ef4) (v := .int (faceM rows rim d)[iy]) (atI_nat (by rw [List.getElem?_map, List.getElem?_eq_getElem hyl]; rfl)) ?_
      have hxf : (faceM rows rim d)[ix] ∈ faceM rows rim d := List.getElem_mem hxl
      have hyf : (faceM rows rim d)[iy] ∈ faceM rows rim d := List.getElem_mem hyl
      generalize (faceM rows rim d)[ix] = x at hxf
      generalize (faceM rows rim d)[iy] = y at hyf
      have hxm := faceM_sub hdm x hxf
      have hym := faceM_sub hdm y hyf
      walk_at "gs"
      refine ⟨T', _, rs, rows, rfl, hN4.ro, hxm, hfew, fun q hq => ?_⟩
      have hN5 := hN4.same (up_same (o := .lst [.int ((atM rows x).1 : Nat), .int ((atM rows x).2 : Nat)]) hq)
      refine ⟨q, _, rfl, SqL.of upd_same, rfl, _, _, rfl, _, _, rfl, rfl, ?_⟩
      obtain ⟨row, w1, w2⟩ := at_spec hxm
      have hg := getD_at w1
      have hrl := hrow (atM rows x).1
      have hal := (List.getElem?_eq_some_iff.mp w2).1
      obtain ⟨r, e1, e2, e3⟩ := hN5.get (at_lt hxm)
      walk_at "gs"
      refine g_ixL hN5.sqT (atI_nat e1) ?_
      refine g_bmL (SqL.of e3) ?_
      walk_at "gs"
      rw [hg] at hrl
      refine g_insert (i := (atM rows x).2) e3 (by rw [List.length_map, hg]; omega) (by omega) ?_
      rw [map_ins]
      have hN6 := hN5.row e2 (ins (atM rows x).2 (2 * (Em : Int)) (rows.getD (atM rows x).1 []))
      obtain ⟨r1, hr1⟩ : ∃ r1, r1 = modRow rows (atM rows x).1 (ins (atM rows x).2 (2 * (Em : Int))) := ⟨_, rfl⟩
      rw [show rows.set (atM rows x).1 (ins (atM rows x).2 (2 * (Em : Int)) (rows.getD (atM rows x).1 [])) = r1 from hr1.symm] at hN6
      have p1 : r1.flatten.Perm ([2 * (Em : Int)] ++ rows.flatten) := by
        rw [hr1]
        exact modRow_perm (at_lt hxm) fun row => ins_perm _ _ _
      have hl1 : r1.length = rows.length := by
        rw [hr1]
        exact modRow_len
      have hfl1 : r1.flatten.length = 2 * Em + 1 := by
        rw [p1.length_eq, List.length_append, hW.len]
        show 1 + 2 * Em = _
        omega
      have hd1 : y ∈ r1.flatten := p1.mem_iff.mpr (List.mem_cons_of_mem _ hym)
      walk_at "gs"
      refine ⟨T', _, rs, r1, rfl, hN6.ro, hd1, few_of (by omega) (by omega), fun q2 hq2 => ?_⟩
      have hN7 := hN6.same (up_same (o := .lst [.int ((atM r1 y).1 : Nat), .int ((atM r1 y).2 : Nat)]) hq2)
      refine ⟨q2, _, rfl, SqL.of upd_same, rfl, _, _, rfl, _, _, rfl, rfl, ?_⟩
      obtain ⟨row', y1, y2⟩ := at_spec hd1
      have hg' := getD_at y1
      have hal' := (List.getElem?_eq_some_iff.mp y2).1
      have hrl' : row'.length ≤ r1.flatten.length := row_le (List.mem_of_getElem? y1)
      obtain ⟨r', f1, f2, f3⟩ := hN7.get (at_lt hd1)
      walk_at "gs"
      refine g_ixL hN7.sqT (atI_nat f1) ?_
      refine g_bmL (SqL.of f3) ?_
      walk_at "gs"
      refine g_insert (i := (atM r1 y).2) f3 (by rw [List.length_map, hg']; omega) (by omega) ?_
      rw [map_ins]
      exact hgo _ _ _ _ rfl (Grow.across d x y ⟨v0, v1⟩ hxf hyf r1 hr1) (hN7.row f2 _)
    · rintro σ' H' ⟨e3, rs', rows', g, hN'⟩
      walk_at "gs"
      refine g_var e3 ?_
      walk_at "gs"
      exact k rs' rows' H' g hN'
end

section
variable {P : Program} {w : World} {K : PySem.W.Frag} {mg : Str → Option Value} {base : Heap} {A : Ads}
theorem ok_l_amount (T : Txt K mg A) : FnOk P w K mg base CX0 3 A.f_l_amount A.fd_l_amount ["state"] (spAmountS K) := by
  have G_l_pick := ok_l_pick (P := P) (w := w) (base := base) T
  have G_l_ratio := ok_l_ratio (P := P) (w := w) (base := base) T
  have nd := sc_l_amount.nd
  refine T.F_l_amount.ok sc_l_amount (fun vs H Q E h => ?_) (fun cdv Ar outer s H vs Q E hr h => ?_)
  · obtain ⟨S, c, rfl, _⟩ := h
    rfl
  · obtain ⟨S, c, rfl, hS, k⟩ := h
    refine ⟨_, (pss_one (ps_ret (pe_call (E := E0) G_l_ratio (hr.mono (by decide)) (by rfl) T.g_l_ratio T.F_l_ratio.kp T.b_l_ratio .nil pass0 (pa_cons (pe_op op_add pe_int (pe_call (E := E0) G_l_pick (hr.mono (by decide)) (by rfl) T.g_l_pick T.F_l_pick.kp T.b_l_pick .nil pass0 (pa_cons (pv 0) (pa_cons pe_int pa_nil)))) (pa_cons (pe_op op_add pe_int (pe_call (E := E0) G_l_pick (hr.mono (by decide)) (by rfl) T.g_l_pick T.F_l_pick.kp T.b_l_pick .nil pass0 (pa_cons (pv 0) (pa_cons pe_int pa_nil)))) pa_nil))))), ?_⟩
    walk_at "gs"
    refine ⟨S, c, 6, rfl, hS, by decide, by decide +kernel, fun u H1 u0 u1 hS1 k1 => ?_⟩
    walk_at "gs"
    refine ⟨S, c, 4, rfl, hS1, by decide, by decide +kernel, fun z H2 z0 z1 hS2 k2 => ?_⟩
    walk_at "gs"
    refine ⟨_, _, rfl, by omega, pow_mono (a := 5) (by omega) (by decide), fun v H3 s3 hv => ?_⟩
    refine k v H3 _ (hS2.same s3) ((k1.trans k2).trans (Kp.of s3)) hv (divInt_pos (by omega) (by omega)) ?_
    have hz2 : z = 0 ∨ z = 1 ∨ z = 2 ∨ z = 3 := by omega
    have h6 : (1 + u).natAbs ≤ 6 := by omega
    rcases hz2 with rfl | rfl | rfl | rfl
    · exact sc_div (b := 1) (c := 12) (by decide) (by omega)
    · exact sc_div (b := 2) (c := 6) (by decide) (by omega)
    · exact sc_div (b := 3) (c := 4) (by decide) (by omega)
    · exact sc_div (b := 4) (c := 3) (by decide) (by omega)
theorem ok_l_net (T : Txt K mg A) : FnOk P w K mg base CX0 4 A.f_l_net A.fd_l_net ["state", "most_rim", "most_edges"] (spNetS K) := by
  have G_l_pick := ok_l_pick (P := P) (w := w) (base := base) T
  have G_l_grow := ok_l_grow (P := P) (w := w) (base := base) T
  have G_l_amount := ok_l_amount (P := P) (w := w) (base := base) T
  have nd := sc_l_net.nd
  refine T.F_l_net.ok sc_l_net (fun vs H Q E h => ?_) (fun cdv Ar outer s H vs Q E hr h => ?_)
  · obtain ⟨S, c, R, M, rfl, _⟩ := h
    rfl
  · obtain ⟨S, c, R, M, rfl, hS, hR1, hR2, hM, k⟩ := h
    refine ⟨_, (pss_cons (ps_set (i := 3) nd rfl (Or.inl rfl) (pe_op op_add pe_int (pe_call (E := E0) G_l_pick (hr.mono (by decide)) (by rfl) T.g_l_pick T.F_l_pick.kp T.b_l_pick .nil pass0 (pa_cons (pv 0) (pa_cons (pv 1) pa_nil))))) (pss_cons (ps_setLc (i := 5) (own := [("k", 4)]) (g := gName 4) (tt := tYes) rfl nd rfl rfl (sw_true rfl rfl rfl (by decide +kernel)) (pi_range1 (by rfl) T.n_range (pa_cons (pv 3) pa_nil)) (blkOk_by (N := ["state", "most_rim", "most_edges", "rim", "k", "turns", "edges", "amounts", "turn"]) (sc := defScope s_l_net) (by decide +kernel)) (fun _ _ _ _ _ => pg_name (i := 4) nd rfl (by first | exact Or.inl rfl | exact Or.inr rfl)) (fun _ _ _ _ _ => pts_nil) (fun _ _ _ _ _ => (pe_lst pa_nil))) (pss_cons (ps_set (i := 6) nd rfl (Or.inl rfl) pe_int) (pss_cons (ps_for PassesOwn.never rfl (pi_range1 (by rfl) T.n_range (pa_cons (pe_call (E := E0) G_l_pick (hr.mono (by decide)) (by rfl) T.g_l_pick T.F_l_pick.kp T.b_l_pick .nil pass0 (pa_cons (pv 0) (pa_cons (pe_op op_add (pv 2) pe_int) pa_nil))) pa_nil)) (pg_name (i := 4) nd rfl (Or.inl rfl)) (pss_one (ps_set (i := 6) nd rfl (Or.inl rfl) (pe_call (E := E0) G_l_grow (hr.mono (by decide)) (by rfl) T.g_l_grow T.F_l_grow.kp T.b_l_grow .nil pass0 (pa_cons (pv 0) (pa_cons (pv 3) (pa_cons (pv 5) (pa_cons (pv 6) (pa_cons (pe_call (E := E0) G_l_pick (hr.mono (by decide)) (by rfl) T.g_l_pick T.F_l_pick.kp T.b_l_pick .nil pass0 (pa_cons (pv 0) (pa_cons pe_int pa_nil))) pa_nil))))))))) (pss_cons (ps_setLc (i := 7) (own := [("k", 4)]) (g := gName 4) (tt := tYes) rfl nd rfl rfl (sw_true rfl rfl rfl (by decide +kernel)) (pi_range1 (by rfl) T.n_range (pa_cons (pv 6) pa_nil)) (blkOk_by (N := ["state", "most_rim", "most_edges", "rim", "k", "turns", "edges", "amounts", "turn"]) (sc := defScope s_l_net) (by decide +kernel)) (fun _ _ _ _ _ => pg_name (i := 4) nd rfl (by first | exact Or.inl rfl | exact Or.inr rfl)) (fun _ _ _ _ _ => pts_nil) (fun _ _ _ _ _ => (pe_call (E := E0) G_l_amount (hr.mono (by decide)) (by rfl) T.g_l_amount T.F_l_amount.kp T.b_l_amount .nil pass0 (pa_cons (pv 0) pa_nil)))) (pss_one (ps_ret (pe_tup (pa_cons (pv 3) (pa_cons (pe_callTy (zc_tupleK (K := K) rfl) (by rfl) T.n_tuple (by decide +kernel) (pa_cons (pe_lc (own := [("turn", 8)]) (g := gName 8) (tt := tYes) rfl nd (pi_listK (K := K) rfl (pv 5)) (blkOk_by (N := ["state", "most_rim", "most_edges", "rim", "k", "turns", "edges", "amounts", "turn"]) (sc := defScope s_l_net) (by decide +kernel)) (fun _ _ _ _ _ => pg_name (i := 8) nd rfl (by first | exact Or.inl rfl | exact Or.inr rfl)) (fun _ _ _ _ _ => pts_nil) (fun _ _ _ _ _ => (pe_callTy (zc_tupleK (K := K) rfl) (by rfl) T.n_tuple (by decide +kernel) (pa_cons (pv 8) pa_nil)))) pa_nil)) (pa_cons (pe_callTy (zc_tupleK (K := K) rfl) (by rfl) T.n_tuple (by decide +kernel) (pa_cons (pv 7) pa_nil)) pa_nil))))))))))), ?_⟩
    walk_at "gs"
    refine ⟨S, c, _, rfl, hS, by omega, lim_ok (by omega), fun u H0 u0 u1 hS0 k0 => ?_⟩
    obtain ⟨n, rfl⟩ : ∃ n : Nat, u = n := ⟨u.toNat, by omega⟩
    obtain ⟨rim, erim⟩ : ∃ rim : Nat, rim = n + 1 := ⟨_, rfl⟩
    have ei : (1 : Int) + (n : Int) = (rim : Int) := by omega
    walk_at "gs"
    rw [ei]
    refine g_lcRng rim rfl (by omega) (fun p i acc H' => Same H0 H' ∧ H' p = some (.lst acc) ∧ ∃ rs : List Addr, rs.length = i ∧ acc = rs.map V.ref ∧ rs.Nodup ∧ ∀ r, r ∈ rs → H0 r = none ∧ r ≠ p ∧ H' r = some (.lst [])) (fun _ => rfl)
      (fun p hp => ⟨up_same hp, upd_same, [], rfl, rfl, List.nodup_nil, fun r hr => nomatch hr⟩) ?_ ?_
    · rintro p i acc H1 hp hi ⟨sm, e1, rs, hl, rfl, hnd, hrs⟩
      walk_at "gs"
      refine g_newL (by show 0 ≤ 1000000; decide) fun q hq => ?_
      have hqp : p ≠ q := ne_of_none e1 hq
      have hqr : ∀ r, r ∈ rs → r ≠ q := fun r hr => ne_of_none (hrs r hr).2.2 hq
      refine lcN_of ((up_same hq) _ _ e1) (by rw [List.length_map]; omega) ⟨fun b o h => ?_, upd_same, rs ++ [q], ?_, ?_, ?_, fun r hr => ?_⟩
      · rw [upd_ne (ne_of_none h hp)]
        exact (up_same hq) _ _ (sm _ _ h)
      · rw [List.length_append, hl]
        rfl
      · rw [List.map_append]
        rfl
      · rw [List.nodup_append]
        refine ⟨hnd, by simp, fun a ha b hb e => ?_⟩
        rw [List.mem_singleton.mp hb] at e
        exact hqr a ha e
      · rcases List.mem_append.mp hr with hr | hr
        · obtain ⟨a1, a2, a3⟩ := hrs r hr
          refine ⟨a1, a2, ?_⟩
          rw [upd_ne a2]
          exact (up_same hq) _ _ a3
        · rw [List.mem_singleton.mp hr]
          refine ⟨sm.free hq, hqp.symm, ?_⟩
          rw [upd_ne hqp.symm]
          exact upd_same
    · rintro T' acc H1 hT0 ⟨sm, e1, rs, hl, rfl, hnd, hrs⟩
      have hN0 : NS H0 H1 S c T' rs (List.replicate rim []) := by
        refine ⟨hS0.same sm, ⟨e1, by rw [List.length_replicate]; exact hl, fun i r row a b => ?_, hnd⟩, Kp.of sm, hT0, fun r hr => (hrs r hr).1, hS0⟩
        have hb := List.mem_of_getElem? b
        rw [List.eq_of_mem_replicate hb]
        exact (hrs r (List.mem_of_getElem? a)).2.2
      walk_at "gs"
      refine ⟨S, c, _, rfl, hN0.st, by omega, lim_ok (n := M + 1) (by omega), fun u H2 z0 z1 hS2 k2 => ?_⟩
      obtain ⟨m, rfl⟩ : ∃ n : Nat, u = n := ⟨u.toNat, by omega⟩
      have hN2 := hN0.pick hS2 k2
      walk_at "gs"
      refine g_rng m rfl (by omega) (fun i σ' H' => ∃ (u6 : Option V) (rs : List Addr) (rows : Rows), σ' = [some (.ref S), some (.int (R : Int)), some (.int (M : Int)), some (.int (rim : Int)), u6, some (.ref T'), some (.int (i : Int)), none, none] ∧
        NS H0 H' S c T' rs rows ∧ Built rim i rows) ⟨none, rs, _, rfl, hN2, .start⟩ ?_ ?_
      · rintro i σ' H3 hi ⟨u6, rs3, rows3, rfl, hN3, hB3⟩
        obtain ⟨w1, w2, w3⟩ := hB3.all (by omega)
        walk_at "gs"
        refine ⟨S, c, 13, rfl, hN3.st, by decide, by decide +kernel, fun ch H4 z0 z1 hS4 k4 => ?_⟩
        have hN4 := hN3.pick hS4 k4
        walk_at "gs"
        refine ⟨H0, S, c, T', rim, i, ch, rs3, rows3, rfl, hN4, w1, by omega, w2, by omega, by omega, fun rs' rows' H5 g hN5 => ?_⟩
        walk_at "gs"
        exact ⟨_, rs', rows', rfl, hN5, hB3.grow g⟩
      · rintro σ' H3 ⟨u6, rs3, rows3, rfl, hN3, hB3⟩
        obtain ⟨w1, w2, w3⟩ := hB3.all (by omega)
        walk_at "gs"
        refine g_lcRng m rfl (by omega) (fun p i acc H' => NS H0 H' S c T' rs3 rows3 ∧ H' p = some (.lst acc) ∧ ∃ qs : List Rat, qs.length = i ∧ Rats K H' acc qs ∧ ∀ q ∈ qs, 0 < q ∧ Sc 12 72 q) (fun _ => rfl)
          (fun p hp => ⟨hN3.same (up_same hp), upd_same, [], rfl, Rats.nil, fun q hq => nomatch hq⟩) ?_ ?_
        · rintro p i acc H4 hp hi ⟨hN4, e4, qs, hl4, hr4, hb4⟩
          walk_at "gs"
          refine ⟨S, c, rfl, hN4.st, fun v H5 q hS5 k5 hv hq0 hqb => ?_⟩
          have hpS := hN3.st.neS hp
          have e5 := k5 p _ hpS e4
          obtain ⟨ys, hys⟩ := hN4.st.lst
          refine lcN_of e5 (by have := hr4.len; omega) ⟨(hN4.pick hS5 k5).other (hN3.fresh hp) (hN3.nT hp) (hN3.nr hp), upd_same, qs ++ [q], ?_, ((hr4.kp k5 hys).snoc hv).kp Kp.upd e5, ?_⟩
          · rw [List.length_append, hl4]
            rfl
          · intro y hy
            rcases List.mem_append.mp hy with hy | hy
            · exact hb4 y hy
            · rw [List.mem_singleton.mp hy]
              exact ⟨hq0, hqb⟩
        · rintro am acc H4 ham ⟨hN4, e4, qs, hl4, hr4, hb4⟩
          walk_at "gs"
          have hfr : ∀ (i : Nat) r row, rs3[i]? = some r → rows3[i]? = some row → H4 r = some (.lst (row.map V.int)) := hN4.ro.at_
          refine g_lcLst hN4.sqT (fun p i acc2 H' => Same H4 H' ∧ H' p = some (.lst acc2) ∧ ∃ ts : List Addr, ts.length = i ∧ acc2 = ts.map V.ref ∧ ∀ (j : Nat) r row, ts[j]? = some r → rows3[j]? = some row → SqT K H' r (row.map V.int)) (fun _ => rfl)
            (fun p hp => ⟨up_same hp, upd_same, [], rfl, rfl, fun j r row a => by simp at a⟩) (fun p i acc2 H' _ h => h.1.seq hN4.sqT) ?_ ?_
          · rintro p i x acc2 H5 hp hx ⟨sm5, e5, ts, hl5, rfl, ht5⟩
            rw [List.getElem?_map] at hx
            cases hri : rs3[i]? with
            | none =>
              rw [hri] at hx
              cases hx
            | some r =>
              rw [hri] at hx
              cases hx
              have hlt : i < rows3.length := by
                rw [← hN4.ro.len]
                exact (List.getElem?_eq_some_iff.mp hri).1
              have hrow := sm5 _ _ (hfr i r _ hri (List.getElem?_eq_getElem hlt))
              walk_at "gs"
              refine g_tupleL (SqL.of hrow) fun q hq => ?_
              have e5' := (up_same (o := .tup (rows3[i].map V.int)) hq) _ _ e5
              refine lcN_of e5' (by rw [List.length_map]; have := hN4.ro.len; omega) ⟨fun b o h => ?_, upd_same, ts ++ [q], ?_, ?_, fun j r' row a b => ?_⟩
              · rw [upd_ne (ne_of_none h hp)]
                exact (up_same hq) _ _ (sm5 _ _ h)
              · rw [List.length_append, hl5]
                rfl
              · rw [List.map_append]
                rfl
              · refine Kp.sqt Kp.upd e5' ?_
                by_cases hj : j < ts.length
                · rw [List.getElem?_append_left hj] at a
                  exact Same.sqt (up_same hq) (ht5 j r' row a b)
                · rw [List.getElem?_append_right (by omega)] at a
                  by_cases hj0 : j - ts.length = 0
                  · rw [hj0] at a
                    cases a
                    have : j = i := by omega
                    subst this
                    rw [List.getElem?_eq_getElem hlt] at b
                    cases b
                    exact SqT.of upd_same
                  · obtain ⟨j', hj'⟩ : ∃ j', j - ts.length = j' + 1 := ⟨j - ts.length - 1, by omega⟩
                    rw [hj'] at a
                    simp at a
          · rintro p acc2 H5 hp ⟨sm5, e5, ts, hl5, rfl, ht5⟩
            walk_at "gs"
            refine g_tupleL (SqL.of e5) fun t ht => ?_
            walk_at "gs"
            have e6 := (sm5.trans (up_same (o := .tup (ts.map V.ref)) ht)) _ _ e4
            refine g_tupleL (SqL.of e6) fun mm hm => ?_
            walk_at "gs"
            refine g_newT (by show 3 ≤ 1000000; decide) fun pp hpp => ?_
            have s1 := up_same (H := H5) (o := .tup (ts.map V.ref)) ht
            have s2 := up_same (o := .tup acc) hm
            have s3 := up_same (o := .tup [.int (rim : Int), .ref t, .ref mm]) hpp
            have sAll := sm5.trans (s1.trans (s2.trans s3))
            refine k _ _ rim rows3 m qs (by omega) (by omega) (by omega) hB3 hl4 hb4 (hN4.st.same sAll) ((k0.trans hN4.kp).trans (Kp.of sAll)) ⟨pp, t, mm, ts, acc, rfl, SqT.of upd_same, Same.sqt (s2.trans s3) (SqT.of upd_same), ?_, fun i r row a b => Same.sqt (s1.trans (s2.trans s3)) (ht5 i r row a b), Same.sqt s3 (SqT.of upd_same), hr4.same sAll⟩
            rw [hl5, List.length_map, hN4.ro.len]
end

section
variable {P : Program} {w : World} {K : PySem.W.Frag} {mg : Str → Option Value} {base : Heap} {A : Ads}
theorem ok_l_same (T : Txt K mg A) : ∀ n, FnOk P w K mg base CX0 n A.f_l_same A.fd_l_same ["actual", "due"] (spSame K n)
  | 0 => fn_false fun vs H Q E h => by
    obtain ⟨x, y, _, h, _⟩ := h
    cases h
  | n + 1 => by
    have G_rec := ok_l_same T n
    have nd := sc_l_same.nd
    refine T.F_l_same.ok sc_l_same (fun vs H Q E h => ?_) (fun cdv Ar outer s H vs Q E hr h => ?_)
    · obtain ⟨x, y, rfl, _⟩ := h
      rfl
    · obtain ⟨x, y, rfl, h, k⟩ := h
      refine ⟨_, (pss_cons (ps_if (pt_val (pe_callB (call_isiK' (K := K) rfl) (by rfl) T.n_isinstance (by decide +kernel) (pa_cons (pv 1) (pa_cons (pe_bltn (v := .ty "tuple") (by rfl) T.n_tuple (by decide +kernel) rfl) pa_nil)))) (pss_cons (ps_if (PW.pt (pw_or (pt_not (pt_val (pe_callB (call_isiK' (K := K) rfl) (by rfl) T.n_isinstance (by decide +kernel) (pa_cons (pv 0) (pa_cons (pe_bltn (v := .ty "tuple") (by rfl) T.n_tuple (by decide +kernel) rfl) pa_nil))))) (pw_or1 (pt_cmpR op_ne (pe_callB (zc_lenK (K := K) rfl) (by rfl) T.n_len (by decide +kernel) (pa_cons (pv 0) pa_nil)) (pe_callB (zc_lenK (K := K) rfl) (by rfl) T.n_len (by decide +kernel) (pa_cons (pv 1) pa_nil)) (nomark _))))) (pss_one (ps_ret pe_bl)) pss_nil) (pss_one (ps_ret (pe_callB (cr_allK (K := K) rfl rfl) (by rfl) T.n_all (by decide +kernel) (pa_cons (pe_lc (own := [("k", 2)]) (g := gName 2) (tt := tYes) rfl nd (pi_range1 (by rfl) T.n_range (pa_cons (pe_callB (zc_lenK (K := K) rfl) (by rfl) T.n_len (by decide +kernel) (pa_cons (pv 1) pa_nil)) pa_nil)) (blkOk_by (N := ["actual", "due", "k"]) (sc := defScope s_l_same) (by decide +kernel)) (fun _ _ _ _ _ => pg_name (i := 2) nd rfl (by first | exact Or.inl rfl | exact Or.inr rfl)) (fun _ _ _ _ _ => pts_nil) (fun _ _ _ _ _ => (pe_call (E := E0) G_rec hr (by rfl) T.g_l_same T.F_l_same.kp T.b_l_same .nil pass0 (pa_cons (pe_ix (ix_tupK (K := K) rfl) (pv 0) (pv 2) (fun _ _ => rfl)) (pa_cons (pe_ix (ix_tupK (K := K) rfl) (pv 1) (pv 2) (fun _ _ => rfl)) pa_nil))))) pa_nil))))) pss_nil) (pss_cons (ps_if (pt_val (pe_callB (call_isiK' (K := K) rfl) (by rfl) T.n_isinstance (by decide +kernel) (pa_cons (pv 1) (pa_cons (pe_bltn (v := .ty "list") (by rfl) T.n_list (by decide +kernel) rfl) pa_nil)))) (pss_one (ps_ret (pe_and (pe_callB (call_isiK' (K := K) rfl) (by rfl) T.n_isinstance (by decide +kernel) (pa_cons (pv 0) (pa_cons (pe_bltn (v := .ty "list") (by rfl) T.n_list (by decide +kernel) rfl) pa_nil))) (pe_one (pe_call (E := E0) G_rec hr (by rfl) T.g_l_same T.F_l_same.kp T.b_l_same .nil pass0 (pa_cons (pe_callTy (zc_tupleK (K := K) rfl) (by rfl) T.n_tuple (by decide +kernel) (pa_cons (pv 0) pa_nil)) (pa_cons (pe_callTy (zc_tupleK (K := K) rfl) (by rfl) T.n_tuple (by decide +kernel) (pa_cons (pv 1) pa_nil)) pa_nil))))))) pss_nil) (pss_cons (ps_if (pt_cmpR zo_isN (pv 1) pe_non (nomark _)) (pss_one (ps_ret (pe_cmpR zo_isN (pv 0) pe_non (nomark _)))) pss_nil) (pss_cons (ps_if (pt_val (pe_callB (call_isiK' (K := K) rfl) (by rfl) T.n_isinstance (by decide +kernel) (pa_cons (pv 1) (pa_cons (pe_bltn (v := .ty "bool") (by rfl) T.n_bool (by decide +kernel) rfl) pa_nil)))) (pss_one (ps_ret (pe_and (pe_callB (call_isiK' (K := K) rfl) (by rfl) T.n_isinstance (by decide +kernel) (pa_cons (pv 0) (pa_cons (pe_bltn (v := .ty "bool") (by rfl) T.n_bool (by decide +kernel) rfl) pa_nil))) (pe_one (pe_cmpR op_eq (pv 0) (pv 1) (nomark _)))))) pss_nil) (pss_cons (ps_if (pt_val (pe_callB (call_isiK' (K := K) rfl) (by rfl) T.n_isinstance (by decide +kernel) (pa_cons (pv 1) (pa_cons (pe_bltn (v := .ty "str") (by rfl) T.n_str (by decide +kernel) rfl) pa_nil)))) (pss_one (ps_ret (pe_and (pe_callB (call_isiK' (K := K) rfl) (by rfl) T.n_isinstance (by decide +kernel) (pa_cons (pv 0) (pa_cons (pe_bltn (v := .ty "str") (by rfl) T.n_str (by decide +kernel) rfl) pa_nil))) (pe_one (pe_cmpR op_eq (pv 0) (pv 1) (nomark _)))))) pss_nil) (pss_one (ps_ret (pe_and (pe_callB (call_isiK' (K := K) rfl) (by rfl) T.n_isinstance (by decide +kernel) (pa_cons (pv 0) (pa_cons (pe_bltn (v := .ty "int") (by rfl) T.n_int (by decide +kernel) rfl) pa_nil))) (pe_and (pe_not (pe_callB (call_isiK' (K := K) rfl) (by rfl) T.n_isinstance (by decide +kernel) (pa_cons (pv 0) (pa_cons (pe_bltn (v := .ty "bool") (by rfl) T.n_bool (by decide +kernel) rfl) pa_nil)))) (pe_one (pe_cmpR op_eq (pv 0) (pv 1) (nomark _)))))))))))), ?_⟩
      walk_at "gs"
      cases h with
      | sc hx =>
        cases x with
        | int i =>
          have ty : TyX K H (.int i) (.type "int") := tySc hx
          refine g_isi ty (b := false) (by decide +kernel) ?_
          walk_at "gs"
          refine if_f rfl ?_
          walk_at "gs"
          refine g_isi ty (b := false) (by decide +kernel) ?_
          walk_at "gs"
          refine if_f rfl ?_
          walk_at "gs"
          refine if_f rfl ?_
          walk_at "gs"
          refine g_isi ty (b := false) (by decide +kernel) ?_
          walk_at "gs"
          refine if_f rfl ?_
          walk_at "gs"
          refine g_isi ty (b := false) (by decide +kernel) ?_
          walk_at "gs"
          refine if_f rfl ?_
          walk_at "gs"
          refine g_isi ty (b := true) (by decide +kernel) ?_
          walk_at "gs"
          refine if_t rfl ?_
          walk_at "gs"
          refine g_isi ty (b := false) (by decide +kernel) ?_
          walk_at "gs"
          refine if_t rfl ?_
          walk_at "gs"
          rw [decide_eq_true rfl]
          exact k _ (Same.refl _)
        | bl i =>
          have ty : TyX K H (.bl i) (.type "bool") := tySc hx
          refine g_isi ty (b := false) (by decide +kernel) ?_
          walk_at "gs"
          refine if_f rfl ?_
          walk_at "gs"
          refine g_isi ty (b := false) (by decide +kernel) ?_
          walk_at "gs"
          refine if_f rfl ?_
          walk_at "gs"
          refine if_f rfl ?_
          walk_at "gs"
          refine g_isi ty (b := true) (by decide +kernel) ?_
          walk_at "gs"
          refine if_t rfl ?_
          walk_at "gs"
          refine g_isi ty (b := true) (by decide +kernel) ?_
          walk_at "gs"
          refine if_t rfl ?_
          walk_at "gs"
          rw [decide_eq_true rfl]
          exact k _ (Same.refl _)
        | str i =>
          have ty : TyX K H (.str i) (.type "str") := tySc hx
          refine g_isi ty (b := false) (by decide +kernel) ?_
          walk_at "gs"
          refine if_f rfl ?_
          walk_at "gs"
          refine g_isi ty (b := false) (by decide +kernel) ?_
          walk_at "gs"
          refine if_f rfl ?_
          walk_at "gs"
          refine if_f rfl ?_
          walk_at "gs"
          refine g_isi ty (b := false) (by decide +kernel) ?_
          walk_at "gs"
          refine if_f rfl ?_
          walk_at "gs"
          refine g_isi ty (b := true) (by decide +kernel) ?_
          walk_at "gs"
          refine if_t rfl ?_
          walk_at "gs"
          refine g_isi ty (b := true) (by decide +kernel) ?_
          walk_at "gs"
          refine if_t rfl ?_
          walk_at "gs"
          rw [decide_eq_true rfl]
          exact k _ (Same.refl _)
        | non =>
          have ty : TyX K H (.non) (.type "NoneType") := tySc hx
          refine g_isi ty (b := false) (by decide +kernel) ?_
          walk_at "gs"
          refine if_f rfl ?_
          walk_at "gs"
          refine g_isi ty (b := false) (by decide +kernel) ?_
          walk_at "gs"
          refine if_f rfl ?_
          walk_at "gs"
          refine if_t rfl ?_
          walk_at "gs"
          exact k _ (Same.refl _)
        | byt _ => cases hx
        | flt _ => cases hx
        | ref _ => cases hx
        | ty _ => cases hx
      | @tup _ p q xs ys hx hy hl hb hs =>
        refine g_isi (tyT hy) (b := true) (by decide +kernel) ?_
        walk_at "gs"
        refine if_t rfl ?_
        walk_at "gs"
        refine g_isi (tyT hx) (b := true) (by decide +kernel) ?_
        walk_at "gs"
        refine if_f rfl ?_
        walk_at "gs"
        rw [hl]
        refine if_f (by simp) ?_
        walk_at "gs"
        refine g_lcRng ys.length rfl hb (fun p' i acc H' => Same H H' ∧ H' p' = some (.lst acc) ∧ acc = List.replicate i (.bl true)) (fun _ => rfl) (fun p' hp => ⟨up_same hp, upd_same, rfl⟩) ?_ ?_
        · rintro p' i acc H' hp hi ⟨sm, e, rfl⟩
          have hx' := Same.sqt sm hx
          have hy' := Same.sqt sm hy
          walk_at "gs"
          refine g_ixT hx' (v := xs[i]'(by omega)) (atI_nat (List.getElem?_eq_getElem _)) ?_
          walk_at "gs"
          refine g_ixT hy' (v := ys[i]) (atI_nat (List.getElem?_eq_getElem _)) ?_
          walk_at "gs"
          refine ⟨_, _, rfl, Eqv.same sm (hs i _ _ (List.getElem?_eq_getElem _) (List.getElem?_eq_getElem _)), fun H2 sm2 => ?_⟩
          refine lcN_of (sm2 _ _ e) (by rw [List.length_replicate]; omega) ⟨fun b o h => ?_, upd_same, ?_⟩
          · rw [upd_ne (ne_of_none h hp)]
            exact sm2 _ _ (sm _ _ h)
          · rw [List.replicate_succ']
        · rintro p' acc H' hp ⟨sm, e, rfl⟩
          refine ⟨p', List.replicate ys.length true, rfl, SqL.of ?_, ?_⟩
          · rw [List.map_replicate]
            exact e
          · rw [show (List.replicate ys.length true).all id = true by simp]
            exact k _ sm
      | @lst m p q xs ys hx hy hl hb hs =>
        refine g_isi (tyL hy) (b := false) (by decide +kernel) ?_
        walk_at "gs"
        refine if_f rfl ?_
        walk_at "gs"
        refine g_isi (tyL hy) (b := true) (by decide +kernel) ?_
        walk_at "gs"
        refine if_t rfl ?_
        walk_at "gs"
        refine g_isi (tyL hx) (b := true) (by decide +kernel) ?_
        walk_at "gs"
        refine if_t rfl ?_
        walk_at "gs"
        refine g_tupleL hx fun l1 h1 => ?_
        walk_at "gs"
        refine g_tupleL ((up_same h1).seq hy) fun l2 h2 => ?_
        walk_at "gs"
        refine ⟨_, _, rfl, .tup (Same.sqt (up_same h2) (SqT.of upd_same)) (SqT.of upd_same) hl hb fun i x y e1 e2 => Eqv.same ((up_same h1).trans (up_same h2)) (hs i x y e1 e2), fun H' sm => ?_⟩
        exact k _ (((up_same h1).trans (up_same h2)).trans sm)
end

section
variable {P : Program} {w : World} {K : PySem.W.Frag} {mg : Str → Option Value} {base : Heap} {A : Ads}
theorem ok_ratio (T : Txt K mg A) : FnOk P w K mg base (L2.CX P w) 1 A.f_ratio A.fd_ratio ["top", "bottom"] (spRatio K A.C_RatioError) := by
  have nd := sc_ratio.nd
  refine T.F_ratio.okX sc_ratio (fun vs H Q E h => ?_) (fun cdv Ar outer s H vs Q E hr h => ?_)
  · obtain ⟨a, b, rfl, _⟩ := h
    rfl
  · obtain ⟨a, b, rfl, hsz, k0, k1⟩ := h
    refine ⟨_, (pss_cons (ps_if (pt_cmpR op_eq (pv 1) pe_int (nomark _)) (pss_one (ps_raise rfl (takes_of rfl rfl rfl rfl) (pmk_own PySem.F.excBase_ValueError T.x_RatioError T.g_RatioError T.k_RatioError (raises_own T.bb_RatioError T.t_RatioError) (by exact rfl)))) pss_nil) (pss_cons (ps_set (i := 2) nd rfl (Or.inl rfl) (pe_callBfun cr_gcd (by rfl) T.g_gcd (pa_cons (pv 0) (pa_cons (pv 1) pa_nil)))) (pss_cutZ (ps_if (pt_cmpR op_lt (pv 1) pe_int (nomark _)) (pss_one (ps_set (i := 2) nd rfl (Or.inl rfl) (pe_un un_neg (pv 2)))) pss_nil) (pss_one (ps_ret (pe_tup (pa_cons (pe_op op_fdivZ (pv 0) (pv 2)) (pa_cons (pe_op op_fdivZ (pv 1) (pv 2)) pa_nil)))))))), ?_⟩
    walk_at "gs"
    refine if_2 (fun e => ?_) (fun e => ?_)
    · exact k0 (V.int.inj (of_decide_eq_true e))
    · have hb : b ≠ 0 := fun z => by
        rw [z] at e
        cases e
      walk_at "gs"
      refine ⟨_, _, rfl, ?_⟩
      walk_at "gs"
      refine g_cut (fun σ' H' => σ' = [some (.int a), some (.int b), some (.int (comI a b))] ∧ H' = H) ?_ ?_
      · walk_at "gs"
        refine if_2 (fun e => ?_) (fun e => ?_)
        · walk_at "gs"
          refine ⟨?_, rfl⟩
          have := of_decide_eq_true e
          unfold comI
          rw [if_pos this]
          rfl
        · walk_at "gs"
          refine ⟨?_, rfl⟩
          have := of_decide_eq_false e
          unfold comI
          rw [if_neg this]
          rfl
      · rintro σ' H' ⟨rfl, rfl⟩
        have hc : ∀ x, CDivZ x (comI a b) := fun x => ⟨comI_ne hb, by
          rw [comI_abs]
          exact Nat.lt_of_le_of_lt (gcdI_le hb) hsz⟩
        walk_at "gs"
        refine g_I (hc _) ?_
        walk_at "gs"
        refine g_I (hc _) ?_
        walk_at "gs"
        rw [fdiv_num hb, fdiv_den hb]
        refine g_newT (by show 2 ≤ 1000000; decide) fun p hp => ?_
        exact k1 hb _ _ (up_same hp) RatV.new
theorem ok_plus (T : Txt K mg A) : FnOk P w K mg base CX0 2 A.f_plus A.fd_plus ["left", "right"] (spBin K (fun p q => p + q)) := by
  have G_ratio := ok_ratio (P := P) (w := w) (base := base) T
  have nd := sc_plus.nd
  refine T.F_plus.ok sc_plus (fun vs H Q E h => ?_) (fun cdv Ar outer s H vs Q E hr h => ?_)
  · obtain ⟨x, y, p, q, n, m, rfl, _⟩ := h
    rfl
  · obtain ⟨x, y, p, q, n, m, rfl, ⟨px, rfl, hx⟩, ⟨py, rfl, hy⟩, bp, bq, hnm, k⟩ := h
    refine ⟨_, (pss_one (ps_ret (pe_call (E := E0) G_ratio (hr.mono (by decide)) (by rfl) T.g_ratio T.F_ratio.kp T.b_ratio .nil passL (pa_cons (pe_op op_add (pe_op op_mulB (pe_ix (ix_tupK (K := K) rfl) (pv 0) pe_int (fun _ _ => rfl)) (pe_ix (ix_tupK (K := K) rfl) (pv 1) pe_int (fun _ _ => rfl))) (pe_op op_mulB (pe_ix (ix_tupK (K := K) rfl) (pv 1) pe_int (fun _ _ => rfl)) (pe_ix (ix_tupK (K := K) rfl) (pv 0) pe_int (fun _ _ => rfl)))) (pa_cons (pe_op op_mulB (pe_ix (ix_tupK (K := K) rfl) (pv 0) pe_int (fun _ _ => rfl)) (pe_ix (ix_tupK (K := K) rfl) (pv 1) pe_int (fun _ _ => rfl))) pa_nil))))), ?_⟩
    have m0 : CMulB p.num (q.den : Int) := mulB_of (a := n) (b := m) bp.1 bq.2 (by omega)
    have m1 : CMulB q.num (p.den : Int) := mulB_of (a := m) (b := n) bq.1 bp.2 (by omega)
    have m2 : CMulB (p.den : Int) (q.den : Int) := mulB_of (a := n) (b := m) bp.2 bq.2 (by omega)
    walk_at "gs"
    refine ⟨_, _, rfl, lt9000 (n := n + m) (abs_mul_lt (x := (p.den : Int)) (y := (q.den : Int)) bp.2 bq.2) (by omega), fun z => absurd z (den_mul_ne p q), fun _ v H' sm hv => ?_⟩
    rw [rat_plus] at hv
    exact k v H' sm hv
end

section
variable {P : Program} {w : World} {K : PySem.W.Frag} {mg : Str → Option Value} {base : Heap} {A : Ads}
theorem ok_times (T : Txt K mg A) : FnOk P w K mg base CX0 2 A.f_times A.fd_times ["left", "right"] (spBin K (fun p q => p * q)) := by
  have G_ratio := ok_ratio (P := P) (w := w) (base := base) T
  have nd := sc_times.nd
  refine T.F_times.ok sc_times (fun vs H Q E h => ?_) (fun cdv Ar outer s H vs Q E hr h => ?_)
  · obtain ⟨x, y, p, q, n, m, rfl, _⟩ := h
    rfl
  · obtain ⟨x, y, p, q, n, m, rfl, ⟨px, rfl, hx⟩, ⟨py, rfl, hy⟩, bp, bq, hnm, k⟩ := h
    refine ⟨_, (pss_one (ps_ret (pe_call (E := E0) G_ratio (hr.mono (by decide)) (by rfl) T.g_ratio T.F_ratio.kp T.b_ratio .nil passL (pa_cons (pe_op op_mulB (pe_ix (ix_tupK (K := K) rfl) (pv 0) pe_int (fun _ _ => rfl)) (pe_ix (ix_tupK (K := K) rfl) (pv 1) pe_int (fun _ _ => rfl))) (pa_cons (pe_op op_mulB (pe_ix (ix_tupK (K := K) rfl) (pv 0) pe_int (fun _ _ => rfl)) (pe_ix (ix_tupK (K := K) rfl) (pv 1) pe_int (fun _ _ => rfl))) pa_nil))))), ?_⟩
    have m0 : CMulB p.num q.num := mulB_of (a := n) (b := m) bp.1 bq.1 (by omega)
    have m1 : CMulB (p.den : Int) (q.den : Int) := mulB_of (a := n) (b := m) bp.2 bq.2 (by omega)
    walk_at "gs"
    refine ⟨_, _, rfl, lt9000 (n := n + m) (abs_mul_lt (x := (p.den : Int)) (y := (q.den : Int)) bp.2 bq.2) (by omega), fun z => absurd z (den_mul_ne p q), fun _ v H' sm hv => ?_⟩
    rw [rat_times] at hv
    exact k v H' sm hv
end

section
variable {P : Program} {w : World} {K : PySem.W.Frag} {mg : Str → Option Value} {base : Heap} {A : Ads}
theorem ok_over (T : Txt K mg A) : FnOk P w K mg base (L2.CX P w) 2 A.f_over A.fd_over ["left", "right"] (spOver K A.C_RatioError) := by
  have G_ratio := ok_ratio (P := P) (w := w) (base := base) T
  have nd := sc_over.nd
  refine T.F_over.okX sc_over (fun vs H Q E h => ?_) (fun cdv Ar outer s H vs Q E hr h => ?_)
  · obtain ⟨x, y, p, q, n, m, rfl, _⟩ := h
    rfl
  · obtain ⟨x, y, p, q, n, m, rfl, ⟨px, rfl, hx⟩, ⟨py, rfl, hy⟩, bp, bq, hnm, k0, k1⟩ := h
    refine ⟨_, (pss_one (ps_ret (pe_call (E := E) G_ratio (hr.mono (by decide)) (by rfl) T.g_ratio T.F_ratio.kp T.b_ratio .nil (passes_call (takes_of rfl rfl rfl rfl) (fun _ _ _ _ h => h)) (pa_cons (pe_op op_mulB (pe_ix (ix_tupK (K := K) rfl) (pv 0) pe_int (fun _ _ => rfl)) (pe_ix (ix_tupK (K := K) rfl) (pv 1) pe_int (fun _ _ => rfl))) (pa_cons (pe_op op_mulB (pe_ix (ix_tupK (K := K) rfl) (pv 0) pe_int (fun _ _ => rfl)) (pe_ix (ix_tupK (K := K) rfl) (pv 1) pe_int (fun _ _ => rfl))) pa_nil))))), ?_⟩
    have m0 : CMulB p.num (q.den : Int) := mulB_of (a := n) (b := m) bp.1 bq.2 (by omega)
    have m1 : CMulB (p.den : Int) q.num := mulB_of (a := n) (b := m) bp.2 bq.1 (by omega)
    walk_at "gs"
    refine ⟨_, _, rfl, lt9000 (n := n + m) (abs_mul_lt (x := (p.den : Int)) (y := q.num) bp.2 bq.1) (by omega), fun z => ?_, fun z v H' sm hv => ?_⟩
    · refine k0 ?_
      rcases Int.mul_eq_zero.mp z with z | z
      · have := den_pos p
        omega
      · exact Rat.num_eq_zero.mp z
    · rw [rat_over] at hv
      refine k1 (fun z2 => z ?_) v H' sm hv
      rw [z2]
      exact Int.mul_zero _
end

section
variable {P : Program} {w : World} {K : PySem.W.Frag} {mg : Str → Option Value} {base : Heap} {A : Ads}
theorem ok_total (T : Txt K mg A) : FnOk P w K mg base CX0 3 A.f_total A.fd_total ["values"] (spTotalC K) := by
  have G_plus := ok_plus (P := P) (w := w) (base := base) T
  have nd := sc_total.nd
  refine T.F_total.ok sc_total (fun vs H Q E h => ?_) (fun cdv Ar outer s H vs Q E hr h => ?_)
  · obtain ⟨a, xs, qs, n, rfl, _⟩ := h
    rfl
  · obtain ⟨a, xs, qs, n, rfl, hxs, hRs, hb, hpart, hsz, k⟩ := h
    have hl := hRs.len
    have hr' := hRs.at_
    refine ⟨_, (pss_cons (ps_set (i := 1) nd rfl (Or.inl rfl) (pe_glob (v := .ref A.z_ZERO) (by rfl) T.c_ZERO rfl)) (pss_cons (ps_for PassesOwn.never rfl (pi_listK (K := K) rfl (pv 0)) (pg_name (i := 2) nd rfl (Or.inl rfl)) (pss_one (ps_set (i := 1) nd rfl (Or.inl rfl) (pe_call (E := E0) G_plus (hr.mono (by decide)) (by rfl) T.g_plus T.F_plus.kp T.b_plus .nil pass0 (pa_cons (pv 1) (pa_cons (pv 2) pa_nil)))))) (pss_one (ps_ret (pv 1))))), ?_⟩
    walk_at "gs"
    refine g_itL hxs (fun i σ' H' => ∃ v u, σ' = [some (.ref a), some v, u] ∧ Same H H' ∧ RatV K H' v (sumR (qs.take i))) ⟨.ref A.z_ZERO, none, rfl, Same.refl _, A.z_ZERO, rfl, T.q_ZERO H⟩ (fun i σ' H' _ ⟨v, u, _, sm, _⟩ => sm.seq hxs) ?_ ?_
    · rintro i x σ' H' hi ⟨v, u, rfl, sm, hv⟩
      have hlt : i < qs.length := by
        have := (List.getElem?_eq_some_iff.mp hi).1
        omega
      have hq : qs[i]? = some qs[i] := List.getElem?_eq_getElem hlt
      walk_at "gs"
      refine ⟨v, x, sumR (qs.take i), qs[i], n, n, rfl, hv, (hr' i x _ hi hq).same sm, hpart i (by omega), hb _ (List.getElem_mem hlt), hsz, fun w H2 sm2 hw => ?_⟩
      walk_at "gs"
      refine ⟨w, some x, rfl, sm.trans sm2, ?_⟩
      rw [sumR_take hq]
      exact hw
    · rintro σ' H' ⟨v, u, rfl, sm, hv⟩
      walk_at "gs"
      rw [hl, List.take_length] at hv
      exact k v H' sm hv
end

section
variable {P : Program} {w : World} {K : PySem.W.Frag} {mg : Str → Option Value} {base : Heap} {A : Ads}
theorem ok_homes_of (T : Txt K mg A) : FnOk P w K mg base CX0 1 A.f_homes_of A.fd_homes_of ["net"] (spHomes K) := by
  have nd := sc_homes_of.nd
  refine T.F_homes_of.ok sc_homes_of (fun vs H Q E h => ?_) (fun cdv Ar outer s H vs Q E hr h => ?_)
  · obtain ⟨v, rim, rows, qs, En, rfl, _⟩ := h
    rfl
  · obtain ⟨v, rim, rows, qs, En, rfl, ⟨p, t, m, ts, as, rfl, hN⟩, hW, hE, hl, k⟩ := h
    refine ⟨_, (pss_one (ps_ret (pe_dc2 (own := [("node", 1), ("turn", 2), ("dart", 3)]) (fs1 := [3]) rfl nd (pi_enumTk (K := K) rfl (by rfl) T.n_enumerate (pa_cons (pe_ix (ix_tupK (K := K) rfl) (pv 0) pe_int (fun _ _ => rfl)) pa_nil) (pk_cons pe_int pk_nil)) (blkOk_by (N := ["net", "node", "turn", "dart"]) (sc := defScope s_homes_of) (by decide +kernel)) (by decide) (fun _ _ _ _ _ => (pg_tupK (K := K) (n := 2) rfl rfl (pgs_cons (pg_name (i := 1) nd rfl (by first | exact Or.inl rfl | exact Or.inr rfl)) (pgs_cons (pg_name (i := 2) nd rfl (by first | exact Or.inl rfl | exact Or.inr rfl)) pgs_nil)))) (fun _ _ _ _ _ => (pi_tupK (K := K) rfl (pv 2))) (fun _ _ _ _ _ => (pg_name (i := 3) nd rfl (by first | exact Or.inl rfl | exact Or.inr rfl))) (fun _ _ _ _ _ => (pv 3)) (fun _ _ _ _ _ => (pv 1))))), ?_⟩
    walk_at "gs"
    refine g_dc2E ?_
    walk_at "gs"
    refine g_ixT hN.top rfl ?_
    walk_at "gs"
    refine g_enTk (by decide) (by decide) ?_
    refine out_enum hN.turns (fun D i H' => Same H H' ∧ ∃ kvs, H' D = some (.dK kvs) ∧ kvs.length ≤ i * 200 ∧ Home kvs rows fun q => q.1 < i) ?_ ?_ ?_ ?_
    · exact fun D hD => ⟨up_same hD, [], upd_same, by simp, fun y hy hp => absurd hp (Nat.not_lt_zero _)⟩
    · exact fun D i H' _ h => Same.sqt h.1 hN.turns
    · rintro D i x T' H1 hD hx ⟨sm, kvs, eD, hlen, ha⟩ hT
      have sT := up_same (H := H1) (o := .tup [.int (1 + (i : Int)), x]) hT
      obtain ⟨r, rfl, hrow, hr1⟩ := (hN.tns.same (sm.trans sT)).get hx
      have hil := (List.getElem?_eq_some_iff.mp hrow).1
      have hrl : (rows.getD i []).length ≤ 200 := by
        have := hW.row (n := i)
        omega
      refine ⟨T', _, rfl, SqT.of upd_same, rfl, _, _, rfl, _, _, rfl, rfl, rfl, g_inT ?_⟩
      walk_at "gs"
      refine in_tup hr1 (fun j H' => SqT K H' r ((rows.getD i []).map V.int) ∧ Same H H' ∧ ∃ kvs, H' D = some (.dK kvs) ∧ kvs.length ≤ i * 200 + j ∧ Home kvs rows fun q => q.1 < i ∨ q.1 = i ∧ q.2 < j) ⟨hr1, sm.trans sT, kvs, sT _ _ eD, hlen, fun y hy hp => ha y hy (by
        rcases hp with hp | hp
        · exact hp
        · exact absurd hp.2 (Nat.not_lt_zero _))⟩ (fun j H' h => h.1) ?_ ?_
      · rintro j x H2 hx2 ⟨hr2, sm2, kvs2, eD2, hl2, ha2⟩
        obtain ⟨d, hd, rfl⟩ := int_at hx2
        have hjl := (List.getElem?_eq_some_iff.mp hd).1
        refine ⟨rfl, g_put ?_⟩
        walk_at "gs"
        rw [show (1 : Int) + (i : Int) = (i : Int) + 1 by omega]
        refine putN_int eD2 (by omega) ⟨sqt_updD eD2 hr2, fun b o e => ?_, _, upd_same, ?_, ha2.put hW.nd hrow hd⟩
        · rw [upd_ne (ne_of_none e hD)]
          exact sm2 _ _ e
        · have := length_putK kvs2 (.inl d) (.int ((i : Int) + 1))
          omega
      · rintro H2 ⟨hr2, sm2, kvs2, eD2, hl2, ha2⟩
        rw [List.length_map] at hl2 ha2
        exact ⟨sm2, kvs2, eD2, by omega, ha2.row hrow⟩
    · rintro D H1 hD ⟨sm, kvs, eD, hlen, ha⟩
      rw [List.length_map, hN.len] at hlen ha
      exact k D kvs H1 sm hD eD (fun d hm _ => ha d hm (at_lt hm)) (by omega)
end

section
variable {P : Program} {w : World} {K : PySem.W.Frag} {mg : Str → Option Value} {base : Heap} {A : Ads}
theorem ok_ends_of (T : Txt K mg A) : FnOk P w K mg base CX0 2 A.f_ends_of A.fd_ends_of ["net"] (spEnds K) := by
  have G_homes_of := ok_homes_of (P := P) (w := w) (base := base) T
  have nd := sc_ends_of.nd
  refine T.F_ends_of.ok sc_ends_of (fun vs H Q E h => ?_) (fun cdv Ar outer s H vs Q E hr h => ?_)
  · obtain ⟨v, rim, rows, qs, En, rfl, _⟩ := h
    rfl
  · obtain ⟨v, rim, rows, qs, En, rfl, ⟨p, t, m, ts, as, rfl, hN⟩, hW, hq, hE, hl, k⟩ := h
    refine ⟨_, (pss_cons (ps_set (i := 1) nd rfl (Or.inr rfl) (pe_call (E := E0) G_homes_of (hr.mono (by decide)) (by rfl) T.g_homes_of T.F_homes_of.kp T.b_homes_of .nil pass0 (pa_cons (pv 0) pa_nil))) (pss_one (ps_ret (pe_lc (own := [("edge", 2)]) (g := gName 2) (tt := tYes) rfl nd (pi_range1 (by rfl) T.n_range (pa_cons (pe_callB (zc_lenK (K := K) rfl) (by rfl) T.n_len (by decide +kernel) (pa_cons (pe_ix (ix_tupK (K := K) rfl) (pv 0) pe_int (fun _ _ => rfl)) pa_nil)) pa_nil)) (blkOk_by (N := ["net", "home", "edge"]) (sc := defScope s_ends_of) (by decide +kernel)) (fun _ _ _ _ _ => pg_name (i := 2) nd rfl (by first | exact Or.inl rfl | exact Or.inr rfl)) (fun _ _ _ _ _ => pts_nil) (fun _ _ _ _ _ => (pe_tup (pa_cons (pe_dget (Rz.room1 hr) (pv 1) (pe_op op_mul pe_int (pv 2)) (fun _ _ => rfl)) (pa_cons (pe_dget (Rz.room1 hr) (pv 1) (pe_op op_add (pe_op op_mul pe_int (pv 2)) pe_int) (fun _ _ => rfl)) pa_nil)))))))), ?_⟩
    walk_at "gs"
    refine ⟨.ref p, rim, rows, qs, En, rfl, ⟨p, t, m, ts, as, rfl, hN⟩, hW, hE, hl, fun D kvs H1 sm hD eD ha hlen => ?_⟩
    have hget : ∀ d : Int, (0 ≤ d ∧ d < 2 * (En : Int)) → valV kvs (.inl d) = some (.int (((atM rows d).1 : Int) + 1)) := fun d hd => ha d ((hW.mem d).mpr hd) trivial
    have ham := Same.sqt sm hN.ams
    walk_at "gs"
    refine g_ixT (hN.same sm).top rfl ?_
    walk_at "gs"
    refine g_lcRng En (by rw [hN.rats.len, hq]) (by omega) (fun l i acc H' => Same H1 H' ∧ H' l = some (.lst acc) ∧ ∃ ps : List Addr, ps.length = i ∧ acc = ps.map V.ref ∧ ∀ (e : Nat) q, ps[e]? = some q → SqT K H' q [.int (((atM rows (2 * (e : Int))).1 : Int) + 1), .int (((atM rows (2 * (e : Int) + 1)).1 : Int) + 1)]) (fun _ => rfl)
      (fun l hl => ⟨up_same hl, upd_same, [], rfl, rfl, fun e q h => by simp at h⟩) ?_ ?_
    · rintro l i acc H2 hl0 hi ⟨sm2, el, ps, hpl, rfl, hps⟩
      have eD2 := sm2 _ _ eD
      walk_at "gs"
      refine g_dget ?_
      walk_at "gs"
      refine g_dgetI eD2 (hget _ (by omega)) ?_
      walk_at "gs"
      refine g_dget ?_
      walk_at "gs"
      refine g_dgetI eD2 (hget _ (by omega)) ?_
      walk_at "gs"
      refine g_newT (by show 2 ≤ 1000000; decide) fun q hq2 => ?_
      have el2 := (up_same (o := .tup [.int (((atM rows (2 * (i : Int))).1 : Int) + 1), .int (((atM rows (2 * (i : Int) + 1)).1 : Int) + 1)]) hq2) _ _ el
      refine lcN_of el2 (by rw [List.length_map]; omega) ⟨fun b o h => ?_, upd_same, ps ++ [q], ?_, ?_, fun e x hx => ?_⟩
      · rw [upd_ne (ne_of_none h hl0)]
        exact (up_same hq2) _ _ (sm2 _ _ h)
      · rw [List.length_append, hpl]
        rfl
      · rw [List.map_append]
        rfl
      · refine Kp.sqt Kp.upd el2 ?_
        rcases at_snoc hx with ⟨h1, h2⟩ | ⟨h1, rfl⟩
        · exact Same.sqt (up_same hq2) (hps e x h2)
        · rw [h1, hpl]
          exact SqT.of upd_same
    · rintro l acc H2 hl0 ⟨sm2, el, ps, hpl, rfl, hps⟩
      exact k l ps H2 (sm.trans sm2) (sm.free hl0) el hpl hps
end

local macro_rules | `(tactic| walk_at "gs") => `(tactic| repeat (first | walk_at "g" | walk_at "gv" | walk_at "gm" | walk_at "ge" | walk_at "gx" | walk_at "gl" | (with_reducible first | refine g_lcK ?_ | refine g_dcK ?_ | refine g_dget ?_)))
section
variable {P : Program} {w : World} {K : PySem.W.Frag} {mg : Str → Option Value} {base : Heap} {A : Ads}
theorem ok_least_joined (T : Txt K mg A) {c0 P0 : Addr} (hcode : A.fd_least_joined.code = .ref c0) (TB : LamX.TabB base mg c0 P0) : FnOk P w K mg base CX0 5 A.f_least_joined A.fd_least_joined ["web", "kept"] (spLeast K P0) := by
  have nd := sc_least_joined.nd
  refine fun_okC T.F_least_joined sc_least_joined (fun vs H Q E h => ?_) (fun Ar outer s H vs Q E hr h => ?_)
  · obtain ⟨κ, W, lk, ns, kept, D, kss, g, rfl, _⟩ := h
    rfl
  · obtain ⟨κ, W, lk, ns, kept, D, kss, g, rfl, hκ, hw, hk, ⟨x0, hx0, hx0k⟩, hlen, hT, k⟩ := h
    refine ⟨_, (pss_one (ps_ret (pe_minKey (T := [(P0, "least_joined.<locals>.<lambda>")]) (x := "place") (j := 3) (kk := 1) rfl (by rfl) T.n_min (hr.mono (by decide)) (pa_cons (pe_lock (pe_lc (own := [("node", 2)]) (g := gName 2)  rfl nd (pi_keys (pv 0)) (blkOk_by (N := ["web", "kept", "node", "place"]) (sc := defScope s_least_joined) (by decide +kernel)) (fun _ _ _ _ _ => pg_name (i := 2) nd rfl (by first | exact Or.inl rfl | exact Or.inr rfl)) (fun _ _ _ _ _ => pts_one (pt_cmpR (op_ninK (K := K) rfl) (pv 2) (pv 1) (by rfl))) (fun _ _ _ _ _ => (pv 2)))) pa_nil) TB hcode (List.mem_singleton.mpr rfl) (fun p hp _ => by rw [List.mem_singleton.mp hp]; rfl) (lamP_by (sc := defScope s_least_joined) (by decide +kernel)) rfl (fun _ _ _ _ _ _ => rfl) nd rfl (fun _ _ _ _ _ _ hr2 => (pe_callB call_lenD (by rfl) T.n_len (by decide +kernel) (pa_cons (pe_dget (Rz.room1 hr2) (pv 0) (pv 3) (fun _ _ => rfl)) pa_nil)))))), ?_⟩
    walk_at "gs"
    refine g_minKey ?_
    walk_at "gs"
    refine g_lockE hw.top fun od => ?_
    walk_at "gs"
    refine rKeys_of upd_same (lc_keys upd_same (fun D1 i acc H' => Same (upd H W (.frz od (.dK (mapD κ D ns)))) H' ∧ H' D1 = some (.lst acc) ∧ acc = ((ns.take i).filter fun j => decide (j ∉ kept)).map fun j => kV (κ j)) (fun _ => rfl) (fun D hD => ⟨up_same hD, upd_same, rfl⟩) (fun D i acc H' hD p => p.1 _ _ upd_same) ?_ ?_)
    · rintro D1 i kk v acc H' hD1 e ⟨sm, el, rfl⟩
      obtain ⟨j, ej, rfl, rfl⟩ := mapD_at e
      walk_at "gs"
      refine g_ninKeys hκ (ext_sql (ext_of sm) (lock_sql hw.top hk)) ?_
      walk_at "gs"
      have hil : i < ns.length := (List.getElem?_eq_some_iff.mp ej).1
      by_cases hj : j ∈ kept
      · refine if_f (by rw [decide_eq_true hj]; rfl) ⟨_, sm, el, ?_⟩
        rw [take_filt ej, if_neg (by simp [hj])]
      · refine if_t (by rw [decide_eq_false hj]; rfl) ?_
        walk_at "gs"
        refine ⟨_, el, ?_, _, upd_lst hD1 sm, upd_same, ?_⟩
        · rw [List.length_map]
          have h1 := List.length_filter_le (fun j => decide (j ∉ kept)) (ns.take i)
          have h2 : (ns.take i).length ≤ i := List.length_take_le _ _
          have := sizeLine_eq
          omega
        · rw [take_filt ej, if_pos (by simp [hj]), List.map_append]
          rfl
    · rintro D1 acc H' hD1 ⟨sm, el, rfl⟩
      rw [mapD_len, List.take_length] at el
      obtain ⟨s1, s2⟩ := same_lock hw.top sm
      have hDW : D1 ≠ W := fun z => by
        rw [z, upd_same] at hD1
        exact nomatch hD1
      refine ⟨s1, ?_⟩
      walk_at "gs"
      refine ⟨D1, _, rfl, by rw [upd_ne hDW]; exact el, fun z => ?_, hT.ext fun b o e => s2 b o e, fun H2 e2 hT2 => ⟨fun y hy => ?_, fun y hy => ?_⟩⟩
      · have : x0 ∈ ns.filter fun j => decide (j ∉ kept) := List.mem_filter.mpr ⟨hx0, decide_eq_true hx0k⟩
        rw [List.map_eq_nil_iff.mp z] at this
        exact nomatch this
      · obtain ⟨j, hj, rfl⟩ := List.mem_map.mp hy
        have hjn := (List.mem_filter.mp hj).1
        have w2 := hw.ext (LamX.ExtN.trans (ext_of s2) e2)
        obtain ⟨kvs, ek, _⟩ := w2.row j hjn
        walk_at "gs"
        refine g_dgetK (.inl w2.top) (mapD_get hκ hjn) ?_
        walk_at "gs"
        exact ⟨_, _, rfl, ek, rfl, _, rfl⟩
      · obtain ⟨j, hj, rfl⟩ := List.mem_map.mp hy
        obtain ⟨hjn, hjk⟩ := List.mem_filter.mp hj
        exact k j H2 hjn (of_decide_eq_true hjk) (LamX.ExtN.trans (ext_of s2) e2) hT2
end

local macro_rules | `(tactic| walk_at "gs") => `(tactic| repeat (first | walk_at "g" | walk_at "gv" | walk_at "gm" | walk_at "ge" | walk_at "gx" | walk_at "gl" | (with_reducible first | refine g_lcK ?_ | refine g_dcK ?_ | refine g_dcL ?_ | refine g_dget ?_ | refine g_lcZM ?_ | refine g_gc ?_ | refine g_gn ?_ | refine g_dget2 ?_ | refine g_listVals ?_ | refine g_forCb ?_)))

section
variable {P : Program} {w : World} {K : PySem.W.Frag} {mg : Str → Option Value} {base : Heap} {A : Ads}
theorem ok_without (T : Txt K mg A) : FnOk P w K mg base CX0 4 A.f_without A.fd_without ["web", "node"] (spWithout K) := by
  have G_plus := ok_plus (P := P) (w := w) (base := base) T
  have G_times := ok_times (P := P) (w := w) (base := base) T
  have G_over := ok_over (P := P) (w := w) (base := base) T
  have G_total := ok_total (P := P) (w := w) (base := base) T
  have nd := sc_without.nd
  refine T.F_without.ok sc_without (fun vs H Q E h => ?_) (fun cdv Ar outer s H vs Q E hr h => ?_)
  · obtain ⟨κ, n, M, W, ns, D, kss, es, zs, x, rfl, _⟩ := h
    rfl
  · obtain ⟨κ, n, M, W, ns, D, kss, es, zs, x, rfl, hκ, hJ, hS, hx, k⟩ := h
    refine ⟨_, (pss_cutZ (ps_set (i := 2) nd rfl (Or.inl rfl) (pe_dget (Rz.room1 hr) (pv 0) (pv 1) (fun _ _ => rfl))) (pss_cutZ (ps_lock (ps_setDc (i := 3) (own := [("left", 9)]) (g := gName 9)  rfl nd rfl rfl (sw_dict rfl rfl rfl (by decide +kernel)) (pi_keys (pv 0)) (blkOk_by (N := ["web", "node", "around", "rest", "whole", "one", "other", "share", "joint", "left", "near"]) (sc := defScope s_without) (by decide +kernel)) (fun _ _ _ _ _ => pg_name (i := 9) nd rfl (by first | exact Or.inl rfl | exact Or.inr rfl)) (fun _ _ _ _ _ => pts_one (pt_cmpR op_ne (pv 9) (pv 1) (nomark _))) (fun _ _ _ _ _ => (pv 9)) (fun _ _ _ _ _ => (pe_lock (pe_dc (own := [("near", 10)]) (g := gName 10)  rfl nd (pi_keys (pe_dget (Rz.room1 hr) (pv 0) (pv 9) (fun _ _ => rfl))) (blkIn (N := ["web", "node", "around", "rest", "whole", "one", "other", "share", "joint", "left", "near"]) rfl (blkOk_by (N := ["web", "node", "around", "rest", "whole", "one", "other", "share", "joint", "left", "near"]) (by decide +kernel))) (fun _ _ _ _ _ => pg_name (i := 10) nd rfl (by first | exact Or.inl rfl | exact Or.inr rfl)) (fun _ _ _ _ _ => pts_one (pt_cmpR op_ne (pv 10) (pv 1) (nomark _))) (fun _ _ _ _ _ => (pv 10)) (fun _ _ _ _ _ => (pe_dget (Rz.room1 hr) (pe_dget (Rz.room1 hr) (pv 0) (pv 9) (fun _ _ => rfl)) (pv 10) (fun _ _ => rfl)))))))) (pss_cutZ (ps_set (i := 4) nd rfl (Or.inl rfl) (pe_call (E := E0) G_total (hr.mono (by decide)) (by rfl) T.g_total T.F_total.kp T.b_total .nil pass0 (pa_cons (pe_listVals rfl (by rfl) T.n_list (pv 2)) pa_nil))) (pss_cutZ (ps_for PassesOwn.never rfl (pi_combL (K := K) rfl rfl (by rfl) T.g_combinations (pa_cons (pe_callTy (call_list_dK rfl) (by rfl) T.n_list (by decide +kernel) (pa_cons (pv 2) pa_nil)) (pa_cons pe_int pa_nil))) (pg_tupK (K := K) rfl rfl (pgs_cons (pg_name (i := 5) nd rfl (Or.inl rfl)) (pgs_cons (pg_name (i := 6) nd rfl (Or.inl rfl)) pgs_nil))) (pss_cutZ (ps_set (i := 7) nd rfl (Or.inl rfl) (pe_call (E := E0) G_over (hr.mono (by decide)) (by rfl) T.g_over T.F_over.kp T.b_over .nil passL (pa_cons (pe_call (E := E0) G_times (hr.mono (by decide)) (by rfl) T.g_times T.F_times.kp T.b_times .nil pass0 (pa_cons (pe_dget (Rz.room1 hr) (pv 2) (pv 5) (fun _ _ => rfl)) (pa_cons (pe_dget (Rz.room1 hr) (pv 2) (pv 6) (fun _ _ => rfl)) pa_nil))) (pa_cons (pv 4) pa_nil)))) (pss_cutZ (ps_set (i := 8) nd rfl (Or.inl rfl) (pe_call (E := E0) G_plus (hr.mono (by decide)) (by rfl) T.g_plus T.F_plus.kp T.b_plus .nil pass0 (pa_cons (pe_dget2 (Rz.room1 hr) (pe_dget (Rz.room1 hr) (pv 3) (pv 5) (fun _ _ => rfl)) (pv 6) (pe_glob (v := .ref A.z_ZERO) (by rfl) T.c_ZERO rfl) ⟨rfl, rfl, rfl, rfl⟩) (pa_cons (pv 7) pa_nil)))) (pss_cutZ (ps_asg (pv 8) (pg_sub (pe_dget (Rz.room1 hr) (pv 3) (pv 5) (fun _ _ => rfl)) (pv 6) (set_dict (Rz.room1 hr)))) (pss_one (ps_asg (pv 8) (pg_sub (pe_dget (Rz.room1 hr) (pv 3) (pv 6) (fun _ _ => rfl)) (pv 5) (set_dict (Rz.room1 hr))))))))) (pss_one (ps_ret (pv 3))))))), ?_⟩
    obtain ⟨hxn, hxe, hxz⟩ := hJ.inn x hx
    obtain ⟨kvx, ekx, rx⟩ := hJ.web.row x hx
    have nsl := hJ.nsl hS
    have ksl := hJ.ksl hS hx
    obtain ⟨ksn, ksk⟩ := hJ.ks hx
    have sL := sizeLine_eq
    refine g_cut (fun σ' H' => σ' = [some (.ref W), some (kV (κ x)), some (.ref (D x)), none, none, none, none, none, none, none, none] ∧ H = H') ?_ ?_
    · walk_at "gs"
      refine g_dgetK (.inl hJ.web.top) (mapD_get hκ hx) ?_
      walk_at "gs"
      exact ⟨rfl, rfl⟩
    rintro σ' H' ⟨rfl, rfl⟩
    refine g_cut (fun σ' H' => ∃ (R : Addr) (D' : Nat → Addr), σ' = [some (.ref W), some (kV (κ x)), some (.ref (D x)), some (.ref R), none, none, none, none, none, none, none] ∧ Same H H' ∧ (∀ j ∈ ns.filter (fun j => decide (j ≠ x)), H (D' j) = none) ∧
      WebV K H' κ R (ns.filter fun j => decide (j ≠ x)) D' (fun j => (kss j).filter fun k => decide (k ≠ x)) (fun j k => -JS M es j k)) ?_ ?_
    · refine g_lockS hJ.web.top fun od => ?_
      walk_at "gs"
      refine rKeys_of upd_same (dc_keys upd_same (fun D1 i acc H' => Same (upd H W (.frz od (.dK (mapD κ D ns)))) H' ∧ ∃ D' : Nat → Addr, (∀ j ∈ (ns.take i).filter (fun j => decide (j ≠ x)), H (D' j) = none) ∧
        WebV K H' κ D1 ((ns.take i).filter fun j => decide (j ≠ x)) D' (fun j => (kss j).filter fun k => decide (k ≠ x)) (fun j k => -JS M es j k)) (fun _ => rfl) (fun D1 hD1 => ⟨up_same hD1, D, (fun j hj => nomatch hj), WebV.nil upd_same⟩) (fun D1 i acc H' hD1 p => p.1 _ _ upd_same) ?_ ?_)
      · rintro D1 i kk v acc H' hD1 e ⟨sm, D', hfr, wv⟩
        obtain ⟨j, ej, rfl, rfl⟩ := mapD_at e
        have hj : j ∈ ns := List.mem_of_getElem? ej
        have hil : i < ns.length := (List.getElem?_eq_some_iff.mp ej).1
        walk_at "gs"
        refine g_neKey hκ ?_
        walk_at "gs"
        by_cases hjx : j = x
        · refine if_f (by rw [decide_eq_true hjx]; rfl) ⟨acc, sm, D', ?_⟩
          rw [take_filt ej, if_neg (by simp [hjx])]
          exact ⟨hfr, wv⟩
        · refine if_t (by rw [decide_eq_false hjx]; rfl) ?_
          walk_at "gs"
          obtain ⟨kvj, ekj, rj⟩ := hJ.web.row j hj
          have hjW : D j ≠ W := hJ.web.neW j hj
          have ekj' : H' (D j) = some (.dK kvj) := sm _ _ (by rw [upd_ne hjW]; exact ekj)
          have eW' : H' W = some (.frz od (.dK (mapD κ D ns))) := sm _ _ upd_same
          have t1 : TupS K H H' := (lock_tups hJ.web.top).trans (TupS.of sm)
          have hni : j ∉ ns.take i := fun z => by
            obtain ⟨t, ht, et⟩ := List.mem_iff_getElem.mp z
            rw [List.length_take] at ht
            rw [List.getElem_take] at et
            have := (List.getElem?_inj (by omega) hJ.web.nd).mp ((List.getElem?_eq_getElem (show t < ns.length by omega)).trans (by rw [et]; exact ej.symm))
            omega
          refine g_lockE ekj' fun od2 => ?_
          have t2 : TupS K H (upd H' (D j) (.frz od2 (.dK kvj))) := t1.trans (lock_tups ekj')
          have eW2 : upd H' (D j) (.frz od2 (.dK kvj)) W = some (.frz od (.dK (mapD κ D ns))) := by
            rw [upd_ne fun z => hjW z.symm]
            exact eW'
          walk_at "gs"
          refine g_dgetK (.inr ⟨od, eW2⟩) (mapD_get hκ hj) ?_
          refine rKeys_of upd_same (dc_keys upd_same (fun D2 t acc H4 => Same (upd H' (D j) (.frz od2 (.dK kvj))) H4 ∧ ∃ kv2, H4 D2 = some (.dK kv2) ∧ RowW K H4 κ kv2 (((kss j).take t).filter fun k => decide (k ≠ x)) (fun k => -JS M es j k)) (fun _ => rfl) (fun D2 hD2 => ⟨up_same hD2, [], upd_same, RowW.nil⟩) (fun D2 t acc H4 h p => p.1 _ _ upd_same) ?_ ?_)
          · rintro D2 t key v acc2 H4 hD2 e2 ⟨sm4, kv2, e4, r4⟩
            obtain ⟨k2, ek2, rfl, hv⟩ := rj.at2 e2
            have hk2 : k2 ∈ kss j := List.mem_of_getElem? ek2
            walk_at "gs"
            refine g_neKey hκ ?_
            walk_at "gs"
            by_cases hkx : k2 = x
            · refine if_f (by rw [decide_eq_true hkx]; rfl) ⟨acc2, sm4, kv2, e4, ?_⟩
              rw [take_filt ek2, if_neg (by simp [hkx])]
              exact r4
            · refine if_t (by rw [decide_eq_false hkx]; rfl) ?_
              walk_at "gs"
              refine g_dgetK (.inr ⟨od, sm4 _ _ eW2⟩) (mapD_get hκ hj) ?_
              obtain ⟨v', ev', hv'⟩ := rj.get hκ hk2
              walk_at "gs"
              refine g_dgetK (.inr ⟨od2, sm4 _ _ upd_same⟩) ev' ?_
              have hn : valV kv2 (κ k2) = none := r4.none hκ fun z => by
                have z2 := (List.mem_filter.mp z).1
                obtain ⟨t', ht', et'⟩ := List.mem_iff_getElem.mp z2
                rw [List.length_take] at ht'
                rw [List.getElem_take] at et'
                have := (List.getElem?_inj (by omega) (hJ.nb.nd j hj)).mp ((List.getElem?_eq_getElem (show t' < (kss j).length by omega)).trans (by rw [et']; exact ek2.symm))
                omega
              refine dcN_of e4 ?_ ?_
              · rw [r4.len]
                have h1 := List.length_filter_le (fun k => decide (k ≠ x)) ((kss j).take t)
                have h2 : ((kss j).take t).length ≤ (kss j).length := by rw [List.length_take]; omega
                have := hJ.ksl hS hj
                omega
              · rw [putK_new v' hn]
                refine ⟨upd_lst hD2 sm4, _, upd_same, ?_⟩
                rw [take_filt ek2, if_pos (by simp [hkx])]
                exact (r4.filt ((t2.trans (TupS.of sm4)).rat hv')).tup (dict_tups e4)
          · rintro D2 acc2 H4 hD2 ⟨sm4, kv2, e4, r4⟩
            rw [rj.len, List.take_length] at r4
            have s4 := same_lock ekj' sm4
            refine ⟨s4.1, ?_⟩
            have w2 := wv.ext (ext_of s4.2)
            have hnew : j ∉ (ns.take i).filter fun j => decide (j ≠ x) := fun z => hni (List.mem_filter.mp z).1
            have hD2j : D2 ≠ D j := fun z => by
              rw [z, upd_same] at hD2
              exact nomatch hD2
            rw [upd_ne hD2j] at hD2
            have eD2 : upd H4 (D j) (.dK kvj) D2 = some (.dK kv2) := by
              rw [upd_ne hD2j]
              exact e4
            have hD2H : H D2 = none := by
              have z := sm.free hD2
              by_cases e : D2 = W
              · rw [e, upd_same] at z
                exact nomatch z
              · rw [upd_ne e] at z
                exact z
            refine dcN_of w2.top (by rw [mapD_len]; have h1 := List.length_filter_le (fun j => decide (j ≠ x)) (ns.take i); have h2 : (ns.take i).length ≤ ns.length := by rw [List.length_take]; omega
                                     omega) ?_
            rw [putK_new _ (mapD_none hκ hnew)]
            refine ⟨upd_lst hD1 (sm.trans s4.2), fun j' => if j' = j then D2 else D' j', fun j' hj' => ?_, ?_⟩
            · rw [take_filt ej, if_pos (by simp [hjx])] at hj'
              show H (if j' = j then D2 else D' j') = none
              by_cases e : j' = j
              · rw [if_pos e]
                exact hD2H
              · rw [if_neg e]
                exact hfr j' ((List.mem_append.mp hj').resolve_right fun z => e (List.mem_singleton.mp z))
            · rw [take_filt ej, if_pos (by simp [hjx])]
              refine w2.snoc hnew eD2 (fun z => ?_) (fun i2 hi2 z => ?_) (r4.tup (unlock_tups s4.1))
              · rw [z, wv.top] at hD2
                exact nomatch hD2
              · obtain ⟨kv, e5, _⟩ := wv.row i2 hi2
                rw [z, hD2] at e5
                exact nomatch e5
      · rintro D1 acc H' hD1 ⟨sm, D', hfr, wv⟩
        rw [mapD_len, List.take_length] at hfr wv
        walk_at "gs"
        have s0 := same_lock hJ.web.top sm
        refine ⟨s0.1, D1, D', rfl, s0.2, hfr, wv.unlock s0.1⟩
    rintro σ' H1 ⟨R, D', rfl, sm, hfr, wv⟩
    have hf : ∀ {j}, j ∈ ns.filter (fun j => decide (j ≠ x)) → j ∈ ns ∧ j ≠ x := fun hj => ⟨(List.mem_filter.mp hj).1, of_decide_eq_true (List.mem_filter.mp hj).2⟩
    have hfi : ∀ {j}, j ∈ ns → j ≠ x → j ∈ ns.filter (fun j => decide (j ≠ x)) := fun h1 h2 => List.mem_filter.mpr ⟨h1, decide_eq_true h2⟩
    have nb0 : Nb (ns.filter fun j => decide (j ≠ x)) (fun j => (kss j).filter fun k => decide (k ≠ x)) (fun j k => -JS M es j k) := by
      refine ⟨fun j hj => (hJ.nb.nd j (hf hj).1).filter _, fun j hj k2 hk2 => ?_, fun j hj k2 hk2 hkj => ?_⟩
      · obtain ⟨h1, h2⟩ := List.mem_filter.mp hk2
        obtain ⟨h3, h4⟩ := hJ.nb.sub j (hf hj).1 k2 h1
        exact ⟨hfi h3 (of_decide_eq_true h2), h4⟩
      · rw [← hJ.nb.iff j (hf hj).1 k2 (hf hk2).1 hkj]
        exact ⟨fun z => (List.mem_filter.mp z).1, fun z => List.mem_filter.mpr ⟨z, decide_eq_true (hf hk2).2⟩⟩
    refine g_cut (fun σ' H' => ∃ wt : V, σ' = [some (.ref W), some (kV (κ x)), some (.ref (D x)), some (.ref R), some wt, none, none, none, none, none, none] ∧ Same H1 H' ∧ RatV K H' wt (JS M es x x)) ?_ ?_
    · walk_at "gs"
      refine ⟨D x, kvx, rfl, sm _ _ ekx, fun q hq => ?_⟩
      obtain ⟨b1, b2, b3⟩ := hJ.sums hS hx
      have s1 := up_same (o := .lst (kvx.map (·.2))) hq
      walk_at "gs"
      refine ⟨q, _, _, 1486, rfl, SqL.of upd_same, (rx.ext (ext_of (sm.trans s1))).rats, b1, b2, by decide, fun wt H2 s2 hw => ?_⟩
      walk_at "gs"
      rw [b3] at hw
      exact ⟨wt, rfl, s1.trans s2, hw⟩
    rintro σ' H2 ⟨wt, rfl, sm2, hwt⟩
    have smH2 := sm.trans sm2
    have hxs := rx.keys
    refine g_cut (fun σ' H' => ∃ u5 u6 u7 u8 kss' es' zs', σ' = [some (.ref W), some (kV (κ x)), some (.ref (D x)), some (.ref R), some wt, u5, u6, u7, u8, none, none] ∧ Same H H' ∧ WebJ K H' κ n M R (ns.filter fun j => decide (j ≠ x)) D' kss' es' zs' ∧ (es' = es ++ [x] ∧ zs' = zs ∨ es' = es ∧ zs' = zs ++ [x])) ?_ ?_
    · walk_at "gs"
      refine ⟨D x, kvx, rfl, smH2 _ _ ekx, fun q hq => ?_⟩
      have s1 := up_same (o := .lst (kvx.map fun kv => kV kv.1)) hq
      walk_at "gs"
      refine ⟨q, _, 2, rfl, SqL.of upd_same, ?_, by decide, ?_⟩
      · rw [List.length_map, rx.len]
        omega
      rw [hxs] at s1 ⊢
      have hl : ((kss x).map fun k => kV (κ k)).length = (kss x).length := List.length_map _
      refine for_pairs (fun P σ' H' => ∃ u5 u6 u7 u8 kss', σ' = [some (.ref W), some (kV (κ x)), some (.ref (D x)), some (.ref R), some wt, u5, u6, u7, u8, none, none] ∧ Same H H' ∧ RatV K H' wt (JS M es x x) ∧ WebV K H' κ R (ns.filter fun j => decide (j ≠ x)) D' kss' (partJ M es x (PJ (kss x) P)) ∧ Nb (ns.filter fun j => decide (j ≠ x)) kss' (partJ M es x (PJ (kss x) P))) ?_ ?_ ?_ ?_
      · have eg : ∀ j k, -JS M es j k = partJ M es x (PJ (kss x) fun _ _ => False) j k := fun j k => (part_f fun ⟨_, _, _, _, z, _⟩ => z).symm
        exact ⟨none, none, none, none, _, rfl, smH2.trans s1, hwt.same s1, (wv.ext (ext_of (sm2.trans s1))).congr fun j _ k _ => eg j k, nb0.congr fun j _ k _ _ => eg j k⟩
      · rintro P P' σ' H' hpp ⟨u5, u6, u7, u8, kss', rfl, a1, a2, a3, a4⟩
        rw [hl] at hpp
        have eg : ∀ j k, partJ M es x (PJ (kss x) P) j k = partJ M es x (PJ (kss x) P') j k := fun j k => part_congr (PJ.congr hpp j k)
        exact ⟨u5, u6, u7, u8, kss', rfl, a1, a2, a3.congr fun j _ k _ => eg j k, a4.congr fun j _ k _ _ => eg j k⟩
      · rintro a b P σ' H3 Tt hab hb hP ⟨u5, u6, u7, u8, kss', rfl, a1, a2, a3, a4⟩ hT
        rw [hl] at hb
        obtain ⟨ja, ea⟩ : ∃ ja, (kss x)[a]? = some ja := ⟨_, List.getElem?_eq_getElem (by omega)⟩
        obtain ⟨jb, eb⟩ : ∃ jb, (kss x)[b]? = some jb := ⟨_, List.getElem?_eq_getElem hb⟩
        obtain ⟨j1, j2, j3, j4, j5, j6, j7, j8, j9⟩ := hJ.joint hS hx hab ea eb hP
        have va : ((kss x).map fun k => kV (κ k)).getD a .non = kV (κ ja) := by rw [List.getD_eq_getElem?_getD, List.getElem?_map, ea]; rfl
        have vb : ((kss x).map fun k => kV (κ k)).getD b .non = kV (κ jb) := by rw [List.getD_eq_getElem?_getD, List.getElem?_map, eb]; rfl
        rw [va, vb]
        have sT := up_same (o := .tup [kV (κ ja), kV (κ jb)]) hT
        have ma := List.mem_of_getElem? ea
        have mb := List.mem_of_getElem? eb
        have na := hfi (ksk ja ma).2.2.1 (ksk ja ma).2.1
        have nbb := hfi (ksk jb mb).2.2.1 (ksk jb mb).2.1
        refine ⟨Tt, _, rfl, SqT.of upd_same, rfl, ?_⟩
        walk_at "gs"
        have sH4 := a1.trans sT
        refine g_cut (fun σ' H' => ∃ sv, σ' = [some (.ref W), some (kV (κ x)), some (.ref (D x)), some (.ref R), some wt, some (kV (κ ja)), some (kV (κ jb)), some sv, u8, none, none] ∧ Same H3 H' ∧ RatV K H' sv (shareJ M es x ja jb)) ?_ ?_
        · have rx4 := rx.ext (ext_of sH4)
          obtain ⟨xa, exa, hxa⟩ := rx4.get hκ ma
          obtain ⟨xb, exb, hxb⟩ := rx4.get hκ mb
          walk_at "gs"
          refine g_dgetK (.inl (sH4 _ _ ekx)) exa ?_
          walk_at "gs"
          refine g_dgetK (.inl (sH4 _ _ ekx)) exb ?_
          walk_at "gs"
          refine ⟨xa, xb, _, _, 1480, 1480, rfl, hxa, hxb, j5, j6, by decide, fun v5 H5 s5 hv5 => ?_⟩
          walk_at "gs"
          refine ⟨v5, wt, _, _, 2960, 1480, rfl, hv5, (a2.same sT).same s5, j5.mul j6, j7, by decide, fun z => absurd z j2, fun _ v6 H6 s6 hv6 => ?_⟩
          walk_at "gs"
          exact ⟨v6, rfl, (sT.trans s5).trans s6, hv6⟩
        rintro σ' H5 ⟨sv, rfl, s5, hsv⟩
        have w5 := a3.ext (ext_of s5)
        obtain ⟨kva, eka, rra⟩ := w5.row ja na
        obtain ⟨kvb, ekb, rrb⟩ := w5.row jb nbb
        have bS : Bd 4440 (shareJ M es x ja jb) := (j5.mul j6).div j7 j2
        have lenk : ∀ {j kv}, j ∈ ns.filter (fun j => decide (j ≠ x)) → RowW K H5 κ kv (kss' j) (partJ M es x (PJ (kss x) P) j) → kv.length < sizeLine := fun {j kv} hj r => by
          rw [r.len]
          have h1 := nodup_sub (kss' j) ns (a4.nd j hj) fun k2 hk2 => (hf (a4.sub j hj k2 hk2).1).1
          omega
        have hval : RatV K H5 ((valV kva (κ jb)).getD (.ref A.z_ZERO)) (-JS M es ja jb) := by
          by_cases m : jb ∈ kss' ja
          · obtain ⟨v, e1, h1⟩ := rra.get hκ m
            rw [e1, ← j3]
            exact h1
          · rw [rra.none hκ m]
            have z : partJ M es x (PJ (kss x) P) ja jb = 0 := by
              by_cases y : partJ M es x (PJ (kss x) P) ja jb = 0
              · exact y
              · exact absurd ((a4.iff ja na jb nbb fun z => j1 z.symm).mpr y) m
            rw [j3] at z
            rw [z]
            exact ⟨A.z_ZERO, rfl, T.q_ZERO H5⟩
        refine g_cut (fun σ' H' => ∃ v6, σ' = [some (.ref W), some (kV (κ x)), some (.ref (D x)), some (.ref R), some wt, some (kV (κ ja)), some (kV (κ jb)), some sv, some v6, none, none] ∧ Same H5 H' ∧ RatV K H' v6 (-JS M es ja jb + shareJ M es x ja jb)) ?_ ?_
        · walk_at "gs"
          refine g_dgetK (.inl w5.top) (mapD_get hκ na) ?_
          refine ⟨D' ja, rfl, isD_of eka, ?_⟩
          walk_at "gs"
          refine ⟨_, .inl ⟨kva, κ jb, .inl eka, rfl, rfl⟩, ?_⟩
          walk_at "gs"
          refine ⟨_, sv, _, _, 1480, 4440, rfl, hval, hsv, j4, bS, by decide, fun v6 H6 s6 hv6 => ?_⟩
          walk_at "gs"
          exact ⟨v6, rfl, s6, hv6⟩
        rintro σ' H6 ⟨v6, rfl, s6, hv6⟩
        have w6 := w5.ext (ext_of s6)
        have eka6 := s6 _ _ eka
        have ekb6 := s6 _ _ ekb
        have hne : D' jb ≠ D' ja := fun z => j1 (w6.inj jb nbb ja na z).symm
        refine g_cut (fun σ' H' => σ' = [some (.ref W), some (kV (κ x)), some (.ref (D x)), some (.ref R), some wt, some (kV (κ ja)), some (kV (κ jb)), some sv, some v6, none, none] ∧ upd H6 (D' ja) (.dK (putK kva (κ jb) v6)) = H') ?_ ?_
        · walk_at "gs"
          refine g_dgetK (.inl w6.top) (mapD_get hκ na) ?_
          walk_at "gs"
          exact ⟨D' ja, _, rfl, .inl ⟨kva, κ jb, eka6, rfl, lenk na rra, rfl⟩, rfl, rfl⟩
        rintro σ' H7 ⟨rfl, rfl⟩
        walk_at "gs"
        refine g_dgetK (.inl ((upd_ne (w6.neW ja na).symm).trans w6.top)) (mapD_get hκ nbb) ?_
        walk_at "gs"
        refine ⟨D' jb, _, rfl, .inl ⟨kvb, κ ja, (upd_ne hne).trans ekb6, rfl, lenk nbb rrb, rfl⟩, ?_⟩
        have w8 := w6.put2 hκ na nbb j1 eka6 ekb6 hv6
        refine ⟨_, _, _, _, _, rfl, upd_lst (hfr jb nbb) (upd_lst (hfr ja na) ((a1.trans s5).trans s6)), ?_, w8.congr fun j _ k2 _ => j9 j k2, (a4.put2 na nbb j1 j8).congr fun j _ k2 _ _ => j9 j k2⟩
        exact (dict_tups (K := K) ((upd_ne hne).trans ekb6)).rat ((dict_tups (K := K) eka6).rat ((a2.same s5).same s6))
      · rintro P σ' H3 hP ⟨u5, u6, u7, u8, kss', rfl, a1, a2, a3, a4⟩
        rw [hl] at hP
        obtain ⟨es', zs', h1, h2⟩ := hJ.done hS hx hP a3 a4
        exact ⟨u5, u6, u7, u8, kss', es', zs', rfl, a1, h1, h2⟩
    rintro σ' H3 ⟨u5, u6, u7, u8, kss', es', zs', rfl, s3, hJ3, hor⟩
    walk_at "gs"
    exact k R D' kss' es' zs' H3 s3 hJ3 hor
end

local macro_rules | `(tactic| walk_at "gs") => `(tactic| repeat (first | walk_at "g" | walk_at "gv" | walk_at "gm" | walk_at "ge" | walk_at "gx" | walk_at "gl" | (with_reducible first | refine g_lcK ?_ | refine g_dcK ?_ | refine g_dcL ?_ | refine g_dget ?_ | refine g_lcZM ?_ | refine g_gc ?_ | refine g_gn ?_ | refine g_dget2 ?_ | refine g_listVals ?_ | refine g_forCb ?_)))

section
variable {P : Program} {w : World} {K : PySem.W.Frag} {mg : Str → Option Value} {base : Heap} {A : Ads}
theorem ok_thinned (T : Txt K mg A) {c0 P0 : Addr} (hcode : A.fd_least_joined.code = .ref c0) (TB : LamX.TabB base mg c0 P0) : FnOk P w K mg base CX0 6 A.f_thinned A.fd_thinned ["web", "kept"] (spThin K P0) := by
  have G_least_joined := ok_least_joined (P := P) (w := w) T hcode TB
  have G_without := ok_without (P := P) (w := w) (base := base) T
  have nd := sc_thinned.nd
  refine T.F_thinned.ok sc_thinned (fun vs H Q E h => ?_) (fun cdv Ar outer s H vs Q E hr h => ?_)
  · obtain ⟨κ, n, M, W, lk, ns, kept, D, kss, es, zs, rfl, _⟩ := h
    rfl
  · obtain ⟨κ, n, M, W, lk, ns, kept, D, kss, es, zs, rfl, hκ, hJ, hS, hk, hkn, hkd, hke, hkz, hT, k⟩ := h
    refine ⟨_, (pss_cutZ (ps_set (i := 2) nd rfl (Or.inl rfl) (pe_lst pa_nil)) (pss_cutZ (ps_while PassesOwn.never (pt_cmpR op_gt (pe_callB call_lenD (by rfl) T.n_len (by decide +kernel) (pa_cons (pv 0) pa_nil)) (pe_callB (zc_lenK (K := K) rfl) (by rfl) T.n_len (by decide +kernel) (pa_cons (pv 1) pa_nil)) (nomark _)) (pss_cutZ (ps_set (i := 3) nd rfl (Or.inl rfl) (pe_call (E := E0) G_least_joined (hr.mono (by decide)) (by rfl) T.g_least_joined T.F_least_joined.kp T.b_least_joined .nil pass0 (pa_cons (pv 0) (pa_cons (pv 1) pa_nil)))) (pss_cutZ (ps_expr (pe_bm PySem.F.plainAttrs_list PySem.F.slot_list_append PySem.F.type_list_append mt_append (pv 2) (pa_cons (pe_tup (pa_cons (pv 3) (pa_cons (pe_dget (Rz.room1 hr) (pv 0) (pv 3) (fun _ _ => rfl)) pa_nil))) pa_nil))) (pss_one (ps_set (i := 0) nd rfl (Or.inl rfl) (pe_call (E := E0) G_without (hr.mono (by decide)) (by rfl) T.g_without T.F_without.kp T.b_without .nil pass0 (pa_cons (pv 0) (pa_cons (pv 3) pa_nil)))))))) (pss_one (ps_ret (pe_tup (pa_cons (pv 2) (pa_cons (pv 0) pa_nil))))))), ?_⟩
    have nsl := hJ.nsl hS
    have sL := sizeLine_eq
    refine g_cut (fun σ' H' => ∃ ls, σ' = [some (.ref W), some (.ref lk), some (.ref ls), none] ∧ Same H H' ∧ H ls = none ∧ H' ls = some (.lst [])) ?_ ?_
    · walk_at "gs"
      refine g_newL (by show 0 ≤ 1000000; decide) fun ls hls => ?_
      walk_at "gs"
      exact ⟨ls, rfl, up_same hls, hls, upd_same⟩
    rintro σ' H1 ⟨ls, rfl, sm, hls, els⟩
    refine g_cut (fun σ' H' => ∃ W' ns' D' kss' es' zs' acc nd, σ' = [some (.ref W'), some (.ref lk), some (.ref ls), nd] ∧ LamX.ExtN H H' ∧ H' ls = some (.lst acc) ∧ LamX.Tabs (tbT P0) H' ∧ WebJ K H' κ n M W' ns' D' kss' es' zs' ∧ (∀ j ∈ ns', j ∈ kept) ∧ (∀ j ∈ kept, j ∈ ns') ∧ (∀ e ∈ es', e ∉ kept) ∧ (∀ e ∈ zs', e ∉ kept)) ?_ ?_
    · refine g_while (fun m σ' H' => ∃ W' ns' D' kss' es' zs' acc nd, m = ns'.length ∧ σ' = [some (.ref W'), some (.ref lk), some (.ref ls), nd] ∧ LamX.ExtN H H' ∧ H' ls = some (.lst acc) ∧ acc.length + ns'.length ≤ 47 ∧ LamX.Tabs (tbT P0) H' ∧ WebJ K H' κ n M W' ns' D' kss' es' zs' ∧ (∀ j ∈ kept, j ∈ ns') ∧ (∀ e ∈ es', e ∉ kept) ∧ (∀ e ∈ zs', e ∉ kept)) _
        ⟨W, ns, D, kss, es, zs, [], none, rfl, rfl, ext_of sm, els, by simpa using nsl, hT.ext fun b o e => sm b o e, hJ.ext (ext_of sm), hkn, hke, hkz⟩ ?_
      rintro m σ' H2 ⟨W', ns', D', kss', es', zs', acc, nd', rfl, rfl, e2, el, hal, hT2, hJ2, hkn2, hke2, hkz2⟩
      have hk2 := ext_sql e2 hk
      walk_at "gs"
      refine ⟨W', _, rfl, hJ2.web.top, ?_⟩
      walk_at "gs"
      rw [List.length_map, mapD_len]
      by_cases hlt : kept.length < ns'.length
      · refine if_t (decide_eq_true (by omega)) ⟨fun σ' H' => ∃ m', m' < ns'.length ∧ ∃ W3 ns3 D3 kss3 es3 zs3 acc nd, m' = ns3.length ∧ σ' = [some (.ref W3), some (.ref lk), some (.ref ls), nd] ∧ LamX.ExtN H H' ∧ H' ls = some (.lst acc) ∧ acc.length + ns3.length ≤ 47 ∧ LamX.Tabs (tbT P0) H' ∧ WebJ K H' κ n M W3 ns3 D3 kss3 es3 zs3 ∧ (∀ j ∈ kept, j ∈ ns3) ∧ (∀ e ∈ es3, e ∉ kept) ∧ (∀ e ∈ zs3, e ∉ kept), fun σ' H' h => h, ?_⟩
        refine g_cut (fun σ' H' => ∃ x, σ' = [some (.ref W'), some (.ref lk), some (.ref ls), some (kV (κ x))] ∧ x ∈ ns' ∧ x ∉ kept ∧ LamX.ExtN H2 H' ∧ LamX.Tabs (tbT P0) H') ?_ ?_
        · walk_at "gs"
          refine ⟨κ, W', lk, ns', kept, D', kss', _, rfl, hκ, hJ2.web, hk2, out_of hJ2.web.nd hlt, by omega, hT2, fun x H3 hx hxk e3 hT3 => ?_⟩
          walk_at "gs"
          exact ⟨x, rfl, hx, hxk, e3, hT3⟩
        rintro σ' H3 ⟨x, rfl, hx, hxk, e3, hT3⟩
        have hJ3 := hJ2.ext e3
        have el3 : H3 ls = some (.lst acc) := e3 _ _ el fun ps z => nomatch z
        refine g_cut (fun σ' H' => ∃ y, σ' = [some (.ref W'), some (.ref lk), some (.ref ls), some (kV (κ x))] ∧ LamX.ExtN H H' ∧ H' ls = some (.lst (acc ++ [y])) ∧ LamX.Tabs (tbT P0) H' ∧ WebJ K H' κ n M W' ns' D' kss' es' zs') ?_ ?_
        · walk_at "gs"
          refine g_bmL (SqL.of el3) ?_
          walk_at "gs"
          refine g_dgetK (.inl hJ3.web.top) (mapD_get hκ hx) ?_
          walk_at "gs"
          refine g_newT (by show 2 ≤ 1000000; decide) fun t ht => ?_
          have st := up_same (o := .tup [kV (κ x), V.ref (D' x)]) ht
          have el4 := st _ _ el3
          walk_at "gs"
          refine g_append el4 (by omega) ?_
          walk_at "gs"
          have e4 := LamX.ExtN.trans (LamX.ExtN.trans e2 e3) (ext_of st)
          have hT4 := hT3.ext fun b o e => st b o e
          exact ⟨_, rfl, ext_fresh hls e4, upd_same, kp_tabs el4 kp_upd hT4, (hJ3.ext (ext_of st)).kp el4 kp_upd⟩
        rintro σ' H4 ⟨y, rfl, e4, el4, hT4, hJ4⟩
        walk_at "gs"
        refine ⟨κ, n, M, W', ns', D', kss', es', zs', x, rfl, hκ, hJ4, hS, hx, fun W5 D5 kss5 es5 zs5 H5 s5 hJ5 hor => ?_⟩
        walk_at "gs"
        have hlen : (ns'.filter fun j => decide (j ≠ x)).length < ns'.length := List.length_filter_lt_length_iff_exists.mpr ⟨x, hx, by simp⟩
        refine ⟨_, hlen, W5, _, D5, kss5, es5, zs5, acc ++ [y], _, rfl, rfl, LamX.ExtN.trans e4 (ext_of s5), s5 _ _ el4, ?_, hT4.ext (fun b o e => s5 b o e), hJ5, fun j hj => List.mem_filter.mpr ⟨hkn2 j hj, decide_eq_true fun z => hxk (z ▸ hj)⟩, fun e he => ?_, fun e he => ?_⟩
        · rw [List.length_append]
          show acc.length + 1 + _ ≤ 47
          omega
        · rcases hor with ⟨rfl, rfl⟩ | ⟨rfl, rfl⟩
          · rcases List.mem_append.mp he with z | z
            · exact hke2 e z
            · rw [List.mem_singleton.mp z]
              exact hxk
          · exact hke2 e he
        · rcases hor with ⟨rfl, rfl⟩ | ⟨rfl, rfl⟩
          · exact hkz2 e he
          · rcases List.mem_append.mp he with z | z
            · exact hkz2 e z
            · rw [List.mem_singleton.mp z]
              exact hxk
      · refine if_f (decide_eq_false (by omega)) ?_
        have hin : ∀ j ∈ ns', j ∈ kept := fun j hj => by
          by_cases z : j ∈ kept
          · exact z
          · have h1 := nodup_sub (j :: kept) ns' (List.nodup_cons.mpr ⟨z, hkd⟩) fun y hy => (List.mem_cons.mp hy).elim (fun e => e ▸ hj) (hkn2 y)
            rw [List.length_cons] at h1
            omega
        exact ⟨W', ns', D', kss', es', zs', acc, nd', rfl, e2, el, hT2, hJ2, hin, hkn2, hke2, hkz2⟩
    rintro σ' H2 ⟨W', ns', D', kss', es', zs', acc, nd', rfl, e2, el, hT2, hJ2, hin, hkn2, hke2, hkz2⟩
    walk_at "gs"
    refine g_newT (by show 2 ≤ 1000000; decide) fun p hp => ?_
    have sp := up_same (o := .tup [V.ref ls, V.ref W']) hp
    exact k p ls W' ns' D' kss' es' zs' _ (LamX.ExtN.trans e2 (ext_of sp)) (hT2.ext fun b o e => sp b o e) (SqT.of upd_same) (hJ2.ext (ext_of sp)) hin hkn2 hke2 hkz2
end

local macro_rules | `(tactic| walk_at "gs") => `(tactic| repeat (first | walk_at "g" | walk_at "gv" | walk_at "gm" | walk_at "ge" | walk_at "gx" | walk_at "gl" | (with_reducible first | refine g_lcK ?_ | refine g_dcK ?_ | refine g_dcL ?_ | refine g_dget ?_ | refine g_lcZM ?_ | refine g_gc ?_ | refine g_gn ?_ | refine g_dget2 ?_ | refine g_listVals ?_ | refine g_forCb ?_)))

section
variable {P : Program} {w : World} {K : PySem.W.Frag} {mg : Str → Option Value} {base : Heap} {A : Ads}
theorem ok_web_from (T : Txt K mg A) : FnOk P w K mg base CX0 3 A.f_web_from A.fd_web_from ["nodes", "joints"] (spWebFrom K) := by
  have G_plus := ok_plus (P := P) (w := w) (base := base) T
  have nd := sc_web_from.nd
  refine T.F_web_from.ok sc_web_from (fun vs H Q E h => ?_) (fun cdv Ar outer s H vs Q E hr h => ?_)
  · obtain ⟨κ, ns, ln, lj, ts, js, rfl, _⟩ := h
    rfl
  · obtain ⟨κ, ns, ln, lj, ts, js, rfl, hκ, hn, hnl, hj, hjs, hin, hbd, k⟩ := h
    refine ⟨_, (pss_cutZ (ps_setDc (i := 2) (own := [("node", 7)]) (g := gName 7) (tt := tYes) rfl nd rfl rfl (sw_dict rfl rfl rfl (by decide +kernel)) (pi_listK (K := K) rfl (pv 0)) (blkOk_by (N := ["nodes", "joints", "web", "one", "other", "amount", "joint", "node"]) (sc := defScope s_web_from) (by decide +kernel)) (fun _ _ _ _ _ => pg_name (i := 7) nd rfl (by first | exact Or.inl rfl | exact Or.inr rfl)) (fun _ _ _ _ _ => pts_nil) (fun _ _ _ _ _ => (pv 7)) (fun _ _ _ _ _ => pe_dnewK)) (pss_cutZ (ps_for PassesOwn.never rfl (pi_listK (K := K) rfl (pv 1)) (pg_tupK (K := K) rfl rfl (pgs_cons (pg_name (i := 3) nd rfl (Or.inl rfl)) (pgs_cons (pg_name (i := 4) nd rfl (Or.inl rfl)) (pgs_cons (pg_name (i := 5) nd rfl (Or.inl rfl)) pgs_nil)))) (pss_one (ps_if (pt_cmpR op_ne (pv 3) (pv 4) (nomark _)) (pss_cutZ (ps_set (i := 6) nd rfl (Or.inl rfl) (pe_call (E := E0) G_plus (hr.mono (by decide)) (by rfl) T.g_plus T.F_plus.kp T.b_plus .nil pass0 (pa_cons (pe_dget2 (Rz.room1 hr) (pe_dget (Rz.room1 hr) (pv 2) (pv 3) (fun _ _ => rfl)) (pv 4) (pe_glob (v := .ref A.z_ZERO) (by rfl) T.c_ZERO rfl) ⟨rfl, rfl, rfl, rfl⟩) (pa_cons (pv 5) pa_nil)))) (pss_cutZ (ps_asg (pv 6) (pg_sub (pe_dget (Rz.room1 hr) (pv 2) (pv 3) (fun _ _ => rfl)) (pv 4) (set_dict (Rz.room1 hr)))) (pss_one (ps_asg (pv 6) (pg_sub (pe_dget (Rz.room1 hr) (pv 2) (pv 4) (fun _ _ => rfl)) (pv 3) (set_dict (Rz.room1 hr))))))) pss_nil))) (pss_one (ps_ret (pv 2))))), ?_⟩
    have sL := sizeLine_eq
    refine g_cut (fun σ' H' => ∃ W ns' D, σ' = [some (.ref ln), some (.ref lj), some (.ref W), none, none, none, none, none] ∧ Same H H' ∧ WebV K H' κ W ns' D (fun _ => []) (fun _ _ => 0) ∧ (∀ j, j ∈ ns' ↔ j ∈ ns) ∧ (∀ j ∈ ns', H (D j) = none)) ?_ ?_
    · walk_at "gs"
      refine dc_listY hn (fun W i acc H' => Same H H' ∧ ∃ ns' D, WebV K H' κ W ns' D (fun _ => []) (fun _ _ => 0) ∧ (∀ j, j ∈ ns' ↔ j ∈ ns.take i) ∧ (∀ j ∈ ns', H (D j) = none)) (fun _ => rfl)
        (fun W hW => ⟨up_same hW, [], fun _ => 0, WebV.nil upd_same, (fun j => by simp), (fun j z => nomatch z)⟩) (fun W i acc H' hW p => ext_sql (ext_of p.1) hn) ?_ ?_
      · rintro W i x acc H' hW hx ⟨sm, ns', D, wv, hm, hfr⟩
        obtain ⟨j, ej, rfl⟩ := key_at hx
        walk_at "gs"
        refine g_dnewK fun A1 hA1 => ?_
        have sA := up_same (o := .dK []) hA1
        have w2 := wv.ext (ext_of sA)
        have hAH : H A1 = none := sm.free hA1
        have hA1W : A1 ≠ W := fun z => by
          rw [z, wv.top] at hA1
          exact nomatch hA1
        have hDA : ∀ j' ∈ ns', D j' ≠ A1 := fun j' hj' z => by
          obtain ⟨kv, e5, _⟩ := wv.row j' hj'
          rw [z, hA1] at e5
          exact nomatch e5
        have hil : i < ns.length := (List.getElem?_eq_some_iff.mp ej).1
        have hle : ns'.length ≤ ns.length := nodup_sub ns' ns wv.nd fun j' hj' => List.mem_of_mem_take ((hm j').mp hj')
        have mem1 : ∀ j', j' ∈ ns.take (i + 1) ↔ j' ∈ ns.take i ∨ j' = j := fun j' => by
          rw [List.take_add_one, ej, List.mem_append]
          simp
        have frD : ∀ j', j' ∈ ns' ∨ j' = j → H ((fun k => if k = j then A1 else D k) j') = none := fun j' hj' => by
          show H (if j' = j then A1 else D j') = none
          by_cases e : j' = j
          · rw [if_pos e]
            exact hAH
          · rw [if_neg e]
            exact hfr j' (hj'.resolve_right e)
        refine dcN_of w2.top (by rw [mapD_len]; omega) ?_
        by_cases hjn : j ∈ ns'
        · rw [mapD_put hκ hjn]
          refine ⟨upd_lst hW (sm.trans sA), ns', _, w2.again hjn upd_same hA1W hDA RowW.nil, fun j' => ?_, fun j' hj' => frD j' (.inl hj')⟩
          rw [mem1, ← hm]
          exact ⟨.inl, fun z => z.elim id fun z => z ▸ hjn⟩
        · rw [putK_new _ (mapD_none hκ hjn)]
          refine ⟨upd_lst hW (sm.trans sA), ns' ++ [j], _, w2.snoc hjn upd_same hA1W hDA RowW.nil, fun j' => ?_, fun j' hj' => frD j' ((List.mem_append.mp hj').imp id List.mem_singleton.mp)⟩
          rw [mem1, ← hm, List.mem_append, List.mem_singleton]
      · rintro W acc H' hW ⟨sm, ns', D, wv, hm, hfr⟩
        rw [List.length_map, List.take_length] at hm
        walk_at "gs"
        exact ⟨W, ns', D, rfl, sm, wv, hm, hfr⟩
    rintro σ' H1 ⟨W, ns', D, rfl, sm, wv, hm, hfr⟩
    refine g_cut (fun σ' H' => ∃ u3 u4 u5 u6 kss, σ' = [some (.ref ln), some (.ref lj), some (.ref W), u3, u4, u5, u6, none] ∧ Same H H' ∧ WebV K H' κ W ns' D kss (jfold js) ∧ Nb ns' kss (jfold js)) ?_ ?_
    · walk_at "gs"
      refine g_itL (ext_sql (ext_of sm) hj) (fun i σ' H' => ∃ u3 u4 u5 u6 kss, σ' = [some (.ref ln), some (.ref lj), some (.ref W), u3, u4, u5, u6, none] ∧ Same H H' ∧ WebV K H' κ W ns' D kss (jfold (js.take i)) ∧ Nb ns' kss (jfold (js.take i)))
        ⟨none, none, none, none, _, rfl, sm, wv, ⟨(fun j _ => List.nodup_nil), (fun j _ k z => nomatch z), (fun j _ k _ _ => ⟨(fun z => nomatch z), fun z => absurd rfl z⟩)⟩⟩ (fun i σ' H' hi ⟨_, _, _, _, _, _, s1, _⟩ => ext_sql (ext_of s1) hj) ?_ ?_
      · rintro i x σ' σ'H hx ⟨u3, u4, u5, u6, kss, rfl, s1, w1, n1⟩
        obtain ⟨t, et, rfl⟩ : ∃ t, ts[i]? = some t ∧ x = .ref t := by
          rw [List.getElem?_map] at hx
          cases e : ts[i]? with
          | none => rw [e] at hx; cases hx
          | some t => rw [e] at hx; cases hx; exact ⟨t, rfl, rfl⟩
        have hil := (List.getElem?_eq_some_iff.mp et).1
        rw [hjs.len] at hil
        obtain ⟨⟨a, b, q⟩, ee⟩ : ∃ e, js[i]? = some e := ⟨_, List.getElem?_eq_getElem hil⟩
        obtain ⟨v, hv1, hv2⟩ := hjs.at_ i t a b q et ee
        obtain ⟨ha, hb, hq, hqb⟩ := hin _ (List.mem_of_getElem? ee)
        have ha' := (hm a).mpr ha
        have hb' := (hm b).mpr hb
        refine ⟨t, _, rfl, Same.sqt s1 hv1, rfl, ?_⟩
        walk_at "gs"
        refine g_neKey hκ ?_
        walk_at "gs"
        rw [jfold_take ee]
        by_cases hab : a = b
        · refine if_f (by rw [decide_eq_true hab]; rfl) ?_
          walk_at "gs"
          unfold jstep
          rw [if_pos hab]
          exact ⟨_, _, _, _, kss, rfl, s1, w1, n1⟩
        · refine if_t (by rw [decide_eq_false hab]; rfl) ?_
          have hstep : jstep (jfold (js.take i)) (a, b, q) = setJ (jfold (js.take i)) a b (jfold (js.take i) a b + q) := if_neg hab
          have hpos := jfold_pos (i := i) (fun e he => (hin e he).2.2.1) a b
          obtain ⟨kva, eka, rra⟩ := w1.row a ha'
          obtain ⟨kvb, ekb, rrb⟩ := w1.row b hb'
          have hle : ns'.length ≤ ns.length := nodup_sub ns' ns w1.nd fun j' hj' => (hm j').mp hj'
          have lenk : ∀ {j kv}, j ∈ ns' → RowW K σ'H κ kv (kss j) (jfold (js.take i) j) → kv.length < sizeLine := fun {j kv} hj r => by
            rw [r.len]
            have h1 := nodup_sub (kss j) ns' (n1.nd j hj) fun k2 hk2 => (n1.sub j hj k2 hk2).1
            omega
          have hval : RatV K σ'H ((valV kva (κ b)).getD (.ref A.z_ZERO)) (jfold (js.take i) a b) := by
            by_cases m : b ∈ kss a
            · obtain ⟨v, e1, h1⟩ := rra.get hκ m
              rw [e1]
              exact h1
            · rw [rra.none hκ m]
              have z : jfold (js.take i) a b = 0 := by
                by_cases y : jfold (js.take i) a b = 0
                · exact y
                · exact absurd ((n1.iff a ha' b hb' fun z => hab z.symm).mpr y) m
              rw [z]
              exact ⟨A.z_ZERO, rfl, T.q_ZERO _⟩
          refine g_cut (fun σ'' H' => ∃ v6, σ'' = [some (.ref ln), some (.ref lj), some (.ref W), some (kV (κ a)), some (kV (κ b)), some v, some v6, none] ∧ Same σ'H H' ∧ RatV K H' v6 (jfold (js.take i) a b + q)) ?_ ?_
          · walk_at "gs"
            refine g_dgetK (.inl w1.top) (mapD_get hκ ha') ?_
            refine ⟨D a, rfl, isD_of eka, ?_⟩
            walk_at "gs"
            refine ⟨_, .inl ⟨kva, κ b, .inl eka, rfl, rfl⟩, ?_⟩
            walk_at "gs"
            refine ⟨_, v, _, _, 3000, 3000, rfl, hval, hv2.same s1, hbd i (by omega) a ha b hb, hqb, by decide, fun v6 H6 s6 hv6 => ?_⟩
            walk_at "gs"
            exact ⟨v6, rfl, s6, hv6⟩
          rintro σ'' H6 ⟨v6, rfl, s6, hv6⟩
          have w6 := w1.ext (ext_of s6)
          have eka6 := s6 _ _ eka
          have ekb6 := s6 _ _ ekb
          have hne : D b ≠ D a := fun z => hab (w6.inj b hb' a ha' z).symm
          refine g_cut (fun σ'' H' => σ'' = [some (.ref ln), some (.ref lj), some (.ref W), some (kV (κ a)), some (kV (κ b)), some v, some v6, none] ∧ upd H6 (D a) (.dK (putK kva (κ b) v6)) = H') ?_ ?_
          · walk_at "gs"
            refine g_dgetK (.inl w6.top) (mapD_get hκ ha') ?_
            walk_at "gs"
            exact ⟨D a, _, rfl, .inl ⟨kva, κ b, eka6, rfl, lenk ha' rra, rfl⟩, rfl, rfl⟩
          rintro σ'' H7 ⟨rfl, rfl⟩
          walk_at "gs"
          refine g_dgetK (.inl ((upd_ne (w6.neW a ha').symm).trans w6.top)) (mapD_get hκ hb') ?_
          walk_at "gs"
          refine ⟨D b, _, rfl, .inl ⟨kvb, κ a, (upd_ne hne).trans ekb6, rfl, lenk hb' rrb, rfl⟩, ?_⟩
          have w8 := w6.put2 hκ ha' hb' hab eka6 ekb6 hv6
          rw [hstep]
          exact ⟨_, _, _, _, _, rfl, upd_lst (hfr b hb') (upd_lst (hfr a ha') (s1.trans s6)), w8, n1.put2 ha' hb' hab (by grind)⟩
      · rintro σ' H' ⟨u3, u4, u5, u6, kss, rfl, s1, w1, n1⟩
        have e : (ts.map V.ref).length = js.length := by rw [List.length_map, hjs.len]
        rw [e, List.take_length] at w1 n1
        exact ⟨u3, u4, u5, u6, kss, rfl, s1, w1, n1⟩
    rintro σ' H2 ⟨u3, u4, u5, u6, kss, rfl, s1, w1, n1⟩
    walk_at "gs"
    exact k W ns' D kss H2 s1 w1 n1 hm
end

local macro_rules | `(tactic| walk_at "gs") => `(tactic| repeat (first | walk_at "g" | walk_at "gv" | walk_at "gm" | walk_at "ge" | walk_at "gx" | walk_at "gl" | (with_reducible first | refine g_lcK ?_ | refine g_dcK ?_ | refine g_dcL ?_ | refine g_dget ?_ | refine g_lcZM ?_ | refine g_gc ?_ | refine g_gn ?_ | refine g_dget2 ?_ | refine g_listVals ?_ | refine g_forCb ?_)))

section
variable {P : Program} {w : World} {K : PySem.W.Frag} {mg : Str → Option Value} {base : Heap} {A : Ads}
theorem ok_web_of (T : Txt K mg A) : FnOk P w K mg base CX0 4 A.f_web_of A.fd_web_of ["net"] (spWebOf K) := by
  have G_ends_of := ok_ends_of (P := P) (w := w) (base := base) T
  have G_web_from := ok_web_from (P := P) (w := w) (base := base) T
  have nd := sc_web_of.nd
  refine T.F_web_of.ok sc_web_of (fun vs H Q E h => ?_) (fun cdv Ar outer s H vs Q E hr h => ?_)
  · obtain ⟨v, rim, rows, qs, En, B, rfl, _⟩ := h
    rfl
  · obtain ⟨v, rim, rows, qs, En, B, rfl, ⟨p, t, m, ts, as, rfl, hN⟩, hW, hq, hE, hB, hl, hp, hsc, k⟩ := h
    refine ⟨_, (pss_cutZ (ps_setLc (i := 1) (own := [("amount", 2), ("one", 3), ("other", 4)])  (tt := tYes) rfl nd rfl rfl (sw_true rfl rfl rfl (by decide +kernel)) (pi_zipM (K := K) rfl (by rfl) T.n_zip (pa_cons (pe_call (E := E0) G_ends_of (hr.mono (by decide)) (by rfl) T.g_ends_of T.F_ends_of.kp T.b_ends_of .nil pass0 (pa_cons (pv 0) pa_nil)) (pa_cons (pe_ix (ix_tupK (K := K) rfl) (pv 0) pe_int (fun _ _ => rfl)) pa_nil))) (blkOk_by (N := ["net", "joints", "amount", "one", "other"]) (sc := defScope s_web_of) (by decide +kernel)) (fun _ _ _ _ _ => (pg_tupK (K := K) (n := 2) rfl rfl (pgs_cons (pg_tupK (K := K) (n := 2) rfl rfl (pgs_cons (pg_name (i := 3) nd rfl (by first | exact Or.inl rfl | exact Or.inr rfl)) (pgs_cons (pg_name (i := 4) nd rfl (by first | exact Or.inl rfl | exact Or.inr rfl)) pgs_nil))) (pgs_cons (pg_name (i := 2) nd rfl (by first | exact Or.inl rfl | exact Or.inr rfl)) pgs_nil)))) (fun _ _ _ _ _ => pts_nil) (fun _ _ _ _ _ => (pe_tup (pa_cons (pv 3) (pa_cons (pv 4) (pa_cons (pv 2) pa_nil)))))) (pss_one (ps_ret (pe_call (E := E0) G_web_from (hr.mono (by decide)) (by rfl) T.g_web_from T.F_web_from.kp T.b_web_from .nil pass0 (pa_cons (pe_listRg rfl (by rfl) T.n_list (prg_2 (by rfl) T.n_range pe_int (pe_op op_add (pe_callB (zc_lenK (K := K) rfl) (by rfl) T.n_len (by decide +kernel) (pa_cons (pe_ix (ix_tupK (K := K) rfl) (pv 0) pe_int (fun _ _ => rfl)) pa_nil)) pe_int))) (pa_cons (pv 1) pa_nil)))))), ?_⟩
    have sL := sizeLine_eq
    refine g_cut (fun σ' H' => ∃ lj us, σ' = [some (.ref p), some (.ref lj), none, none, none] ∧ Same H H' ∧ H' lj = some (.lst (us.map V.ref)) ∧ JsL K H' kI us (netJs rows qs En)) ?_ ?_
    · walk_at "gs"
      refine ⟨.ref p, rim, rows, qs, En, rfl, ⟨p, t, m, ts, as, rfl, hN⟩, hW, hq, by omega, by omega, fun l ps H1 sm hl0 el hpl hps => ?_⟩
      have hN1 := hN.same sm
      walk_at "gs"
      refine g_ixT hN1.top rfl ?_
      have hxl : (ps.map V.ref).length = En := by rw [List.length_map, hpl]
      have hyl : as.length = En := by rw [hN.rats.len, hq]
      walk_at "gs"
      refine ⟨l, m, ps.map V.ref, as, rfl, SqL.of el, hN1.ams, lc_zipM (by rw [hxl, hyl]) (fun lj i acc H' => Same H1 H' ∧ H' lj = some (.lst acc) ∧ ∃ us : List Addr, acc = us.map V.ref ∧ us.length = i ∧ ∀ (e : Nat) u, us[e]? = some u → ∃ v, SqT K H' u [kV (kI (nodeOf rows (2 * (e : Int)))), kV (kI (nodeOf rows (2 * (e : Int) + 1))), v] ∧ RatV K H' v (qs.getD e 0))
        (fun lj hlj => ⟨up_same hlj, upd_same, [], rfl, rfl, fun e u z => by simp at z⟩) (fun lj i acc H' hlj p => ⟨ext_sql (ext_of p.1) (SqL.of el), Same.sqt p.1 hN1.ams⟩) ?_ ?_⟩
      · rintro lj i x y acc H' T0 hlj hx hy ⟨s2, ea, us, rfl, hul, hus⟩ hT0
        obtain ⟨pe, epe, rfl⟩ : ∃ pe, ps[i]? = some pe ∧ x = .ref pe := by
          rw [List.getElem?_map] at hx
          cases e : ps[i]? with
          | none => rw [e] at hx; cases hx
          | some t => rw [e] at hx; cases hx; exact ⟨t, rfl, rfl⟩
        have hil := (List.getElem?_eq_some_iff.mp epe).1
        have sT := up_same (o := .tup [V.ref pe, y]) hT0
        refine ⟨T0, _, rfl, SqT.of upd_same, rfl, ?_⟩
        walk_at "gs"
        refine ⟨pe, _, rfl, Same.sqt (s2.trans sT) (hps i pe epe), rfl, ?_⟩
        walk_at "gs"
        refine ⟨rfl, ?_⟩
        walk_at "gs"
        refine g_newT (by show 3 ≤ 1000000; decide) fun u hu => ?_
        have su := up_same (o := .tup [V.int (((atM rows (2 * (i : Int))).1 : Int) + 1), V.int (((atM rows (2 * (i : Int) + 1)).1 : Int) + 1), y]) hu
        have ea3 := (sT.trans su) _ _ ea
        refine ⟨_, ea3, by rw [List.length_map]; omega, _, upd_lst hlj ((s2.trans sT).trans su), upd_same, us ++ [u], by rw [List.map_append]; rfl, by rw [List.length_append, hul]; rfl, fun e u2 z => ?_⟩
        have kt := kp_tups (K := K) ea3 (kp_upd (u := .lst (us.map V.ref ++ [V.ref u])))
        rcases at_snoc z with ⟨h1, h2⟩ | ⟨h1, rfl⟩
        · obtain ⟨v, h3, h4⟩ := hus e u2 h2
          exact ⟨v, kt _ _ (Same.sqt (sT.trans su) h3), kt.rat (h4.same (sT.trans su))⟩
        · rw [h1, hul]
          refine ⟨y, kt _ _ (SqT.of upd_same), kt.rat ?_⟩
          have hqi : qs[i]? = some (qs.getD i 0) := by rw [List.getD_eq_getElem?_getD, List.getElem?_eq_getElem (show i < qs.length by omega)]; rfl
          exact (hN1.rats.at_ i y _ hy hqi).same ((s2.trans sT).trans su)
      · rintro lj acc H' hlj ⟨s2, ea, us, rfl, hul, hus⟩
        walk_at "gs"
        rw [hxl] at hul
        refine ⟨lj, us, rfl, sm.trans s2, ea, by rw [hul, netJs_len], fun e u a b q z1 z2 => ?_⟩
        obtain ⟨h1, rfl, rfl, rfl⟩ := netJs_at z2
        exact hus e u z1
    rintro σ' H1 ⟨lj, us, rfl, sm, elj, hjs⟩
    have hN1 := hN.same sm
    walk_at "gs"
    refine g_listRg ?_
    walk_at "gs"
    refine g_rg2 ?_
    walk_at "gs"
    refine g_ixT hN1.top rfl ?_
    walk_at "gs"
    refine g_lenT hN1.turns ?_
    walk_at "gs"
    refine ⟨1, _, rfl, rfl, by unfold RgOk; rw [List.length_map, hN.len]; omega, fun q hq2 => ?_⟩
    rw [List.length_map, hN.len, keysI]
    have sq := up_same (o := .lst ((List.range rows.length).map fun j => kV (kI j))) hq2
    walk_at "gs"
    refine ⟨kI, List.range rows.length, q, lj, us, netJs rows qs En, rfl, kI_inj, SqL.of upd_same, by rw [List.length_range]; omega, SqL.of (sq _ _ elj), hjs.same sq, fun e he => ?_, fun c hc j _ k2 _ => netJs_bd hB (by rw [netJs_len] at hc; exact hc) hsc, fun W ns' D kss H2 s2 w2 n2 hm => ?_⟩
    · obtain ⟨i, hi, ei⟩ := List.mem_iff_getElem.mp he
      obtain ⟨a, b, q0⟩ := e
      obtain ⟨h1, rfl, rfl, rfl⟩ := netJs_at ((List.getElem?_eq_getElem hi).trans (congrArg some ei))
      refine ⟨List.mem_range.mpr (at_lt ((hW.mem _).mpr (by omega))), List.mem_range.mpr (at_lt ((hW.mem _).mpr (by omega))), hp i h1, ?_⟩
      have hB2 : B ≤ 2880 := Nat.le_trans (Nat.le_mul_of_pos_left _ (by omega)) hB
      exact ((hsc i h1).bd (k := 12) (by decide) (by decide) (Nat.lt_of_le_of_lt hB2 (by decide))).mono (by decide)
    · walk_at "gs"
      have hm2 : ∀ j, j ∈ ns' ↔ j < rows.length := fun j => by rw [hm, List.mem_range]
      refine k W ns' D kss H2 (sm.trans (sq.trans s2)) ⟨w2.congr fun j hj k2 hk2 => ?_, n2.congr fun j hj k2 hk2 hkj => netJs_lap (fun z => hkj z.symm) En, Taken.nil, fun j hj => ⟨(hm2 j).mp hj, (fun z => nomatch z), (fun z => nomatch z)⟩, fun j hj => .inl ((hm2 j).mpr hj)⟩ hm2
      exact netJs_lap (fun z => (n2.sub j hj k2 hk2).2 z.symm) En
end

local macro_rules | `(tactic| walk_at "gs") => `(tactic| repeat (first | walk_at "g" | walk_at "gv" | walk_at "gm" | walk_at "ge" | walk_at "gx" | walk_at "gl" | (with_reducible first | refine g_lcK ?_ | refine g_dcK ?_ | refine g_dcL ?_ | refine g_dget ?_ | refine g_lcZM ?_ | refine g_gc ?_ | refine g_gn ?_ | refine g_dget2 ?_ | refine g_listVals ?_ | refine g_forCb ?_)))

section
variable {P : Program} {w : World} {K : PySem.W.Frag} {mg : Str → Option Value} {base : Heap} {A : Ads}
theorem ok_resistance (T : Txt K mg A) {c0 P0 : Addr} (hcode : A.fd_least_joined.code = .ref c0) (TB : LamX.TabB base mg c0 P0) : FnOk P w K mg base CX0 7 A.f_resistance A.fd_resistance ["net", "first", "second"] (spRes K P0) := by
  have G_thinned := ok_thinned (P := P) (w := w) T hcode TB
  have G_web_of := ok_web_of (P := P) (w := w) (base := base) T
  have G_over := ok_over (P := P) (w := w) (base := base) T
  have nd := sc_resistance.nd
  refine T.F_resistance.ok sc_resistance (fun vs H Q E h => ?_) (fun cdv Ar outer s H vs Q E hr h => ?_)
  · obtain ⟨v, a, b, rim, rows, qs, En, B, rfl, _⟩ := h
    rfl
  · obtain ⟨v, a, b, rim, rows, qs, En, B, rfl, hv, hW, hq, hE, hB, hl, hp, hsc, ha, hb, hT, k⟩ := h
    refine ⟨_, (pss_cutZ (ps_if (pt_cmpR op_eq (pv 1) (pv 2) (nomark _)) (pss_one (ps_ret (pe_glob (v := .ref A.z_ZERO) (by rfl) T.c_ZERO rfl))) pss_nil) (pss_cutZ (ps_asg (pe_call (E := E0) G_thinned (hr.mono (by decide)) (by rfl) T.g_thinned T.F_thinned.kp T.b_thinned .nil pass0 (pa_cons (pe_call (E := E0) G_web_of (hr.mono (by decide)) (by rfl) T.g_web_of T.F_web_of.kp T.b_web_of .nil pass0 (pa_cons (pv 0) pa_nil)) (pa_cons (pe_lst (pa_cons (pv 1) (pa_cons (pv 2) pa_nil))) pa_nil))) (pg_tupK (K := K) rfl rfl (pgs_cons (pg_name (i := 3) nd rfl (Or.inl rfl)) (pgs_cons (pg_name (i := 4) nd rfl (Or.inl rfl)) pgs_nil)))) (pss_cutZ (ps_if (pt_cmp (pc_dnotin (Rz.room1 hr) (pv 2) (pe_dget (Rz.room1 hr) (pv 4) (pv 1) (fun _ _ => rfl)))) (pss_one (ps_ret pe_non)) pss_nil) (pss_one (ps_ret (pe_call (E := E0) G_over (hr.mono (by decide)) (by rfl) T.g_over T.F_over.kp T.b_over .nil passL (pa_cons (pe_glob (v := .ref A.z_ONE) (by rfl) T.c_ONE rfl) (pa_cons (pe_dget (Rz.room1 hr) (pe_dget (Rz.room1 hr) (pv 4) (pv 1) (fun _ _ => rfl)) (pv 2) (fun _ _ => rfl)) pa_nil)))))))), ?_⟩
    have hS := sml_net hW hB hl hp hsc
    have hL := hS.lap
    refine g_cut (fun σ' H' => σ' = [some v, some (.int ((a : Int) + 1)), some (.int ((b : Int) + 1)), none, none] ∧ H = H' ∧ a ≠ b) ?_ ?_
    · walk_at "gs"
      by_cases e : a = b
      · refine if_t (decide_eq_true (by rw [e])) ?_
        walk_at "gs"
        exact k _ H (some 0) (.inl ⟨e, rfl⟩) ⟨A.z_ZERO, rfl, T.q_ZERO H⟩ (LamX.ExtN.refl H) hT
      · refine if_f (decide_eq_false fun z => e (by have := V.int.inj z; omega)) ?_
        walk_at "gs"
        exact ⟨rfl, rfl, e⟩
    rintro σ' H0 ⟨rfl, rfl, hab⟩
    refine g_cut (fun σ' H' => ∃ ls W ns D kss es zs, σ' = [some v, some (.int ((a : Int) + 1)), some (.int ((b : Int) + 1)), some (.ref ls), some (.ref W)] ∧ LamX.ExtN H H' ∧ LamX.Tabs (tbT P0) H' ∧ WebJ K H' kI rows.length (lapK rows qs En) W ns D kss es zs ∧ a ∈ ns ∧ b ∈ ns ∧ KeptE rows.length (lapK rows qs En) [a, b] es) ?_ ?_
    · walk_at "gs"
      refine ⟨v, rim, rows, qs, En, B, rfl, hv, hW, hq, hE, hB, hl, hp, hsc, fun W ns D kss H1 s1 hJ hm => ?_⟩
      walk_at "gs"
      refine g_newL (by show 2 ≤ 1000000; decide) fun lk hlk => ?_
      have sk := up_same (o := .lst [.int ((a : Int) + 1), .int ((b : Int) + 1)]) hlk
      walk_at "gs"
      refine ⟨kI, rows.length, lapK rows qs En, W, lk, ns, [a, b], D, kss, [], [], rfl, kI_inj, hJ.ext (ext_of sk), hS, SqL.of upd_same, fun j hj => (hm j).mpr ?_, by simp [hab], (fun e z => nomatch z), (fun e z => nomatch z), hT.ext fun b o e => (s1.trans sk) b o e, fun p ls W' ns' D' kss' es' zs' H2 e2 hT2 hpp hJ2 hin hkn2 hke2 hkz2 => ?_⟩
      · simp only [List.mem_cons, List.not_mem_nil, or_false] at hj
        rcases hj with rfl | rfl <;> assumption
      refine ⟨p, _, rfl, hpp, rfl, ?_⟩
      walk_at "gs"
      exact ⟨ls, W', ns', D', kss', es', zs', rfl, LamX.ExtN.trans (ext_of (s1.trans sk)) e2, hT2, hJ2, hkn2 a List.mem_cons_self, hkn2 b (List.mem_cons_of_mem _ List.mem_cons_self), KeptE.of hJ2.tk hke2 fun j hj => (hJ2.all j hj).imp (hin j) id⟩
    rintro σ' H2 ⟨ls, W, ns, D, kss, es, zs, rfl, e2, hT2, hJ, han, hbn, hK⟩
    obtain ⟨kvs, ek, r⟩ := hJ.web.row a han
    have hiff := hJ.nb.iff a han b hbn fun z => hab z.symm
    refine g_cut (fun σ' H' => σ' = [some v, some (.int ((a : Int) + 1)), some (.int ((b : Int) + 1)), some (.ref ls), some (.ref W)] ∧ H2 = H' ∧ b ∈ kss a) ?_ ?_
    · walk_at "gs"
      refine g_dnotin ?_
      walk_at "gs"
      refine g_dgetK (k := kI a) (.inl hJ.web.top) (mapD_get kI_inj han) ?_
      refine ⟨D a, _, rfl, .inl ⟨kvs, kI b, .inl ek, rfl, rfl⟩, _, rfl, ?_⟩
      by_cases m : b ∈ kss a
      · obtain ⟨vv, ev, _⟩ := r.get kI_inj m
        refine if_f (by rw [ev]; rfl) ?_
        walk_at "gs"
        exact ⟨rfl, rfl, m⟩
      · refine if_t (by rw [r.none kI_inj m]; rfl) ?_
        walk_at "gs"
        have hz : JS (lapK rows qs En) es a b = 0 := by
          by_cases y : JS (lapK rows qs En) es a b = 0
          · exact y
          · exact absurd (hiff.mpr fun z => y (by grind)) m
        exact k .non H2 none (.inr ⟨hab, es, hK, by rw [if_pos hz]⟩) rfl e2 hT2
    rintro σ' H3 ⟨rfl, rfl, hm⟩
    have hne : -JS (lapK rows qs En) es a b ≠ 0 := hiff.mp hm
    obtain ⟨vv, ev, hvv⟩ := r.get kI_inj hm
    walk_at "gs"
    refine g_dgetK (k := kI a) (.inl hJ.web.top) (mapD_get kI_inj han) ?_
    walk_at "gs"
    refine g_dgetK (k := kI b) (.inl ek) ev ?_
    walk_at "gs"
    refine ⟨.ref A.z_ONE, vv, 1, _, 1, 1480, rfl, ⟨A.z_ONE, rfl, T.q_ONE H2⟩, hvv, Bd.one, (hS.bd es hJ.tk.piv a b ha hb (hJ.inn a han).2.1).neg, by decide, fun z => absurd z hne, fun _ v' H4 s4 hv4 => ?_⟩
    walk_at "gs"
    exact k v' H4 (some _) (.inr ⟨hab, es, hK, by rw [if_neg fun z => hne (by rw [z]; rfl)]⟩) hv4 (LamX.ExtN.trans e2 (ext_of s4)) (hT2.ext fun b o e => s4 b o e)
theorem ok_l_due (T : Txt K mg A) : FnOk P w K mg base CX0 7 A.f_l_due A.fd_l_due ["net", "first", "second"] (spDue K) := by
  have G_l_sub := ok_l_sub (P := P) (w := w) (base := base) T
  have G_l_mul := ok_l_mul (P := P) (w := w) (base := base) T
  have G_l_div := ok_l_div (P := P) (w := w) (base := base) T
  have G_l_add := ok_l_add (P := P) (w := w) (base := base) T
  have G_l_ends := ok_l_ends (P := P) (w := w) (base := base) T
  have G_l_balance := ok_l_balance (P := P) (w := w) (base := base) T G_l_sub G_l_add G_l_ends
  have G_l_left := ok_l_left (P := P) (w := w) (base := base) T G_l_sub G_l_mul G_l_div
  have nd := sc_l_due.nd
  refine T.F_l_due.ok sc_l_due (fun vs H Q E h => ?_) (fun cdv Ar outer s H vs Q E hr h => ?_)
  · obtain ⟨v, a, b, rim, rows, qs, En, rfl, _⟩ := h
    rfl
  · obtain ⟨v, a, b, rim, rows, qs, En, rfl, hv, hW, hq, hE, hl, hp, hsc, ha, hb, k⟩ := h
    refine ⟨_, (pss_cutZ (ps_if (pt_cmpR op_eq (pv 1) (pv 2) (nomark _)) (pss_one (ps_ret (pe_tup (pa_cons pe_int (pa_cons pe_int pa_nil))))) pss_nil) (pss_cutZ (ps_set (i := 3) nd rfl (Or.inl rfl) (pe_call (E := E0) G_l_left (hr.mono (by decide)) (by rfl) T.g_l_left T.F_l_left.kp T.b_l_left .nil pass0 (pa_cons (pe_call (E := E0) G_l_balance (hr.mono (by decide)) (by rfl) T.g_l_balance T.F_l_balance.kp T.b_l_balance .nil pass0 (pa_cons (pv 0) pa_nil)) (pa_cons (pe_lst (pa_cons (pv 1) (pa_cons (pv 2) pa_nil))) pa_nil)))) (pss_cutZ (ps_if (pt_cmpR (op_eqDK (K := K) rfl hr.units) (pe_ix (ix_tupK (K := K) rfl) (pe_ix (ix_tupK (K := K) rfl) (pv 3) pe_int (fun _ _ => rfl)) pe_int (fun _ _ => rfl)) (pe_tup (pa_cons pe_int (pa_cons pe_int pa_nil))) (nomark _)) (pss_one (ps_ret pe_non)) pss_nil) (pss_one (ps_ret (pe_call (E := E0) G_l_div (hr.mono (by decide)) (by rfl) T.g_l_div T.F_l_div.kp T.b_l_div .nil pass0 (pa_cons (pe_tup (pa_cons pe_int (pa_cons pe_int pa_nil))) (pa_cons (pe_ix (ix_tupK (K := K) rfl) (pe_ix (ix_tupK (K := K) rfl) (pv 3) pe_int (fun _ _ => rfl)) pe_int (fun _ _ => rfl)) pa_nil)))))))), ?_⟩
    have hL := lap_lap hW hp
    have hSm := lap_small (rows := rows) (qs := qs) hl hE hsc
    refine g_cut (fun σ' H' => σ' = [some v, some (.int (a : Int)), some (.int (b : Int)), none] ∧ H = H' ∧ a ≠ b) ?_ ?_
    · walk_at "gs"
      by_cases e : a = b
      · refine if_t (decide_eq_true (by rw [e])) ?_
        walk_at "gs"
        refine g_newT (by show 2 ≤ 1000000; decide) fun o ho => ?_
        exact k _ _ (some 0) (.inl ⟨e, rfl⟩) ⟨o, rfl, SqT.of upd_same⟩ (up_same ho)
      · refine if_f (decide_eq_false fun z => e (by have := V.int.inj z; omega)) ?_
        walk_at "gs"
        exact ⟨rfl, rfl, e⟩
    rintro σ' H0 ⟨rfl, rfl, hab⟩
    obtain ⟨es, hes⟩ : ∃ es, es = esL (lapK rows qs En) [a, b] rows.length := ⟨_, rfl⟩
    have hK : KeptE rows.length (lapK rows qs En) [a, b] es := hes ▸ KeptE.law hL
    have ka : a ∈ [a, b] := List.mem_cons_self
    have kb : b ∈ [a, b] := List.mem_cons_of_mem _ List.mem_cons_self
    refine g_cut (fun σ' H' => ∃ tb, σ' = [some v, some (.int (a : Int)), some (.int (b : Int)), some tb] ∧ Same H H' ∧ TabV K H' tb (keptM [a, b] (JS (lapK rows qs En) es))) ?_ ?_
    · walk_at "gs"
      refine ⟨v, rim, rows, qs, En, rfl, hv, hW, hq, by omega, by omega, hsc, fun mt H1 s1 hm => ?_⟩
      walk_at "gs"
      refine g_newL (by show 2 ≤ 1000000; decide) fun lk hlk => ?_
      have sk := up_same (o := .lst [.int (a : Int), .int (b : Int)]) hlk
      walk_at "gs"
      refine ⟨mt, lk, rows.length, lapK rows qs En, [a, b], rfl, hm.same sk, SqL.of upd_same, by omega, by show 2 ≤ 100; decide, fun x hx => ?_, hSm, fun v' H3 s3 hT => ?_⟩
      · simp only [List.mem_cons, List.not_mem_nil, or_false] at hx
        rcases hx with rfl | rfl <;> assumption
      rw [← hes] at hT
      walk_at "gs"
      exact ⟨v', rfl, s1.trans (sk.trans s3), hT⟩
    rintro σ' H1 ⟨tb, rfl, s1, htb⟩
    obtain ⟨p, us, rfl, hpu, hl2, hrow⟩ := htb
    have e0 : us.length = 2 := hl2
    obtain ⟨q0, xs0, u0, hq0, hr0⟩ := hrow 0 _ (List.getElem?_eq_getElem (show 0 < us.length by omega))
    have er : rw' (keptM [a, b] (JS (lapK rows qs En) es)) 0 = [JS (lapK rows qs En) es a a, JS (lapK rows qs En) es a b] := keptM_row (Nat.zero_lt_succ _)
    rw [er] at hr0
    have el0 : xs0.length = 2 := hr0.len
    have hu0 : us[0]? = some (.ref q0) := by rw [List.getElem?_eq_getElem (by omega), u0]
    obtain ⟨x0, hx0⟩ : ∃ x, xs0[0]? = some x := ⟨_, List.getElem?_eq_getElem (by omega)⟩
    obtain ⟨x1, hx1⟩ : ∃ x, xs0[1]? = some x := ⟨_, List.getElem?_eq_getElem (by omega)⟩
    have r0 : RatV K H1 x0 (JS (lapK rows qs En) es a a) := hr0.at_ 0 x0 _ hx0 rfl
    have r1 : RatV K H1 x1 (JS (lapK rows qs En) es a b) := hr0.at_ 1 x1 _ hx1 rfl
    have hsum : JS (lapK rows qs En) es a a + (JS (lapK rows qs En) es a b + 0) = 0 := hK.row hL (by simp [hab]) (fun k hk => by simp at hk; rcases hk with rfl | rfl <;> assumption) ka
    refine g_cut (fun σ' H' => σ' = [some v, some (.int (a : Int)), some (.int (b : Int)), some (.ref p)] ∧ Same H1 H' ∧ JS (lapK rows qs En) es a b ≠ 0) ?_ ?_
    · walk_at "gs"
      refine g_ixT hpu (atI_nat (j := 0) hu0) ?_
      walk_at "gs"
      refine g_ixT hq0 (atI_nat (j := 1) hx1) ?_
      walk_at "gs"
      refine g_newT (by show 2 ≤ 1000000; decide) fun o ho => ?_
      have so := up_same (o := .tup [V.int 0, V.int 1]) ho
      refine g_eqRat (q := 0) (r1.same so) ⟨o, rfl, SqT.of upd_same⟩ ?_
      refine ⟨_, rfl, ?_⟩
      by_cases z : JS (lapK rows qs En) es a b = 0
      · refine if_t (decide_eq_true z) ?_
        walk_at "gs"
        exact k _ _ none (.inr ⟨hab, es, hK, by rw [if_pos z]⟩) rfl (s1.trans so)
      · refine if_f (decide_eq_false z) ?_
        walk_at "gs"
        exact ⟨rfl, so, z⟩
    rintro σ' H2 ⟨rfl, s2, hz⟩
    walk_at "gs"
    refine g_newT (by show 2 ≤ 1000000; decide) fun o ho => ?_
    have so := up_same (o := .tup [V.int 1, V.int 1]) ho
    have s12 := s2.trans so
    walk_at "gs"
    refine g_ixT (Same.sqt s12 hpu) (atI_nat (j := 0) hu0) ?_
    walk_at "gs"
    refine g_ixT (Same.sqt s12 hq0) (atI_nat (j := 0) hx0) ?_
    walk_at "gs"
    have hb1 := (hSm es hK.piv a a ha ha).2 (hK.ne ka)
    refine ⟨.ref o, x0, 1, _, 1, 1480, rfl, ⟨o, rfl, SqT.of upd_same⟩, r0.same s12, Bd.one, hb1, by decide, fun z => hz (by grind), fun v' H3 s3 hv3 => ?_⟩
    walk_at "gs"
    refine k v' H3 (some _) (.inr ⟨hab, es, hK, by rw [if_neg hz]⟩) ?_ (s1.trans (s12.trans s3))
    rw [show -JS (lapK rows qs En) es a b = JS (lapK rows qs En) es a a by grind]
    exact hv3
end

local macro_rules | `(tactic| walk_at "gs") => `(tactic| repeat (first | walk_at "g" | walk_at "gv" | walk_at "gm" | walk_at "ge" | walk_at "gx" | walk_at "gl" | (with_reducible first | refine g_lcK ?_ | refine g_dcK ?_ | refine g_dcL ?_ | refine g_dget ?_ | refine g_lcZM ?_ | refine g_gc ?_ | refine g_gn ?_ | refine g_dget2 ?_ | refine g_listVals ?_ | refine g_forCb ?_)))

section
variable {P : Program} {w : World} {K : PySem.W.Frag} {mg : Str → Option Value} {base : Heap} {A : Ads}
theorem ok_law (T : Txt K mg A) {c0 P0 : Addr} (hcode : A.fd_least_joined.code = .ref c0) (TB : LamX.TabB base mg c0 P0) : FnOk P w K mg base CX0 11 A.f_law A.fd_law ["script"] (spLawI K (LamX.Tabs (tbT P0))) := by
  have G_l_pick := ok_l_pick (P := P) (w := w) (base := base) T
  have G_l_net := ok_l_net (P := P) (w := w) (base := base) T
  have G_l_amount := ok_l_amount (P := P) (w := w) (base := base) T
  have G_l_add := ok_l_add (P := P) (w := w) (base := base) T
  have G_l_sub := ok_l_sub (P := P) (w := w) (base := base) T
  have G_l_same := ok_l_same (P := P) (w := w) (base := base) T 5
  have G_l_due := ok_l_due (P := P) (w := w) (base := base) T
  have G_resistance := ok_resistance (P := P) (w := w) T hcode TB
  have nd := sc_law.nd
  refine T.F_law.ok sc_law (fun vs H Q E h => ?_) (fun cdv Ar outer s H vs Q E hr h => ?_)
  · obtain ⟨a, ns, rfl, _⟩ := h
    rfl
  · obtain ⟨a0, ns, rfl, ha0, hns, hI0, k⟩ := h
    refine ⟨_, (pss_cutZ (ps_set (i := 1) nd rfl (Or.inr rfl) (pe_lst (pa_cons (pe_callTy (zc_listK (K := K) rfl) (by rfl) T.n_list (by decide +kernel) (pa_cons (pv 0) pa_nil)) (pa_cons pe_int (pa_cons pe_int (pa_cons pe_int pa_nil)))))) (pss_cutZ (ps_set (i := 2) nd rfl (Or.inr rfl) (pe_call (E := E0) G_l_net (hr.mono (by decide)) (by rfl) T.g_l_net T.F_l_net.kp T.b_l_net .nil pass0 (pa_cons (pv 1) (pa_cons pe_int (pa_cons pe_int pa_nil))))) (pss_cutZ (ps_asg (pe_lc (own := [("k", 13)]) (g := gName 13) (tt := tYes) rfl nd (pi_range1 (by rfl) T.n_range (pa_cons pe_int pa_nil)) (blkOk_by (N := ["script", "state", "net", "a", "b", "c", "found", "first", "second", "value", "edge", "more", "other", "k"]) (sc := defScope s_law) (by decide +kernel)) (fun _ _ _ _ _ => pg_name (i := 13) nd rfl (by first | exact Or.inl rfl | exact Or.inr rfl)) (fun _ _ _ _ _ => pts_nil) (fun _ _ _ _ _ => (pe_call (E := E0) G_l_pick (hr.mono (by decide)) (by rfl) T.g_l_pick T.F_l_pick.kp T.b_l_pick .nil pass0 (pa_cons (pv 1) (pa_cons (pe_callB (zc_lenK (K := K) rfl) (by rfl) T.n_len (by decide +kernel) (pa_cons (pe_ix (ix_tupK (K := K) rfl) (pv 2) pe_int (fun _ _ => rfl)) pa_nil)) pa_nil))))) (pg_lstK (K := K) rfl rfl (pgs_cons (pg_name (i := 3) nd rfl (Or.inl rfl)) (pgs_cons (pg_name (i := 4) nd rfl (Or.inl rfl)) (pgs_cons (pg_name (i := 5) nd rfl (Or.inl rfl)) pgs_nil))))) (pss_cutZ (ps_set (i := 6) nd rfl (Or.inl rfl) (pe_lst pa_nil)) (pss_cutZ (ps_for PassesOwn.never rfl (pi_listK (K := K) rfl (pe_lst (pa_cons (pe_tup (pa_cons (pv 3) (pa_cons (pv 4) pa_nil))) (pa_cons (pe_tup (pa_cons (pv 4) (pa_cons (pv 5) pa_nil))) (pa_cons (pe_tup (pa_cons (pv 3) (pa_cons (pv 5) pa_nil))) (pa_cons (pe_tup (pa_cons (pv 4) (pa_cons (pv 3) pa_nil))) pa_nil)))))) (pg_tupK (K := K) rfl rfl (pgs_cons (pg_name (i := 7) nd rfl (Or.inl rfl)) (pgs_cons (pg_name (i := 8) nd rfl (Or.inl rfl)) pgs_nil))) (pss_cutZ (ps_set (i := 9) nd rfl (Or.inl rfl) (pe_call (E := E0) G_resistance (hr.mono (by decide)) (by rfl) T.g_resistance T.F_resistance.kp T.b_resistance .nil pass0 (pa_cons (pv 2) (pa_cons (pe_op op_add (pv 7) pe_int) (pa_cons (pe_op op_add (pv 8) pe_int) pa_nil))))) (pss_cutZ (ps_if (pt_not (pt_val (pe_call (E := E0) G_l_same (hr.mono (by decide)) (by rfl) T.g_l_same T.F_l_same.kp T.b_l_same .nil pass0 (pa_cons (pv 9) (pa_cons (pe_call (E := E0) G_l_due (hr.mono (by decide)) (by rfl) T.g_l_due T.F_l_due.kp T.b_l_due .nil pass0 (pa_cons (pv 2) (pa_cons (pv 7) (pa_cons (pv 8) pa_nil)))) pa_nil))))) (pss_one (ps_ret pe_bl)) pss_nil) (pss_one (ps_expr (pe_bm PySem.F.plainAttrs_list PySem.F.slot_list_append PySem.F.type_list_append mt_append (pv 6) (pa_cons (pv 9) pa_nil))))))) (pss_cutZ (ps_if (pt_cmpR (op_neDK (K := K) rfl hr.units) (pe_ix (ix_listK (K := K) rfl) (pv 6) pe_int (fun _ _ => rfl)) (pe_ix (ix_listK (K := K) rfl) (pv 6) pe_int (fun _ _ => rfl)) (nomark _)) (pss_one (ps_ret pe_bl)) pss_nil) (pss_cutZ (ps_if (PW.pt (pw_and (pt_cmpR zo_notN (pe_ix (ix_listK (K := K) rfl) (pv 6) pe_int (fun _ _ => rfl)) pe_non (nomark _)) (pw_and1 (pt_cmpR zo_notN (pe_ix (ix_listK (K := K) rfl) (pv 6) pe_int (fun _ _ => rfl)) pe_non (nomark _))))) (pss_one (ps_if (pt_cmpR op_lt (pe_ix (ix_tupK (K := K) rfl) (pe_call (E := E0) G_l_sub (hr.mono (by decide)) (by rfl) T.g_l_sub T.F_l_sub.kp T.b_l_sub .nil pass0 (pa_cons (pe_call (E := E0) G_l_add (hr.mono (by decide)) (by rfl) T.g_l_add T.F_l_add.kp T.b_l_add .nil pass0 (pa_cons (pe_ix (ix_listK (K := K) rfl) (pv 6) pe_int (fun _ _ => rfl)) (pa_cons (pe_ix (ix_listK (K := K) rfl) (pv 6) pe_int (fun _ _ => rfl)) pa_nil))) (pa_cons (pe_ix (ix_listK (K := K) rfl) (pv 6) pe_int (fun _ _ => rfl)) pa_nil))) pe_int (fun _ _ => rfl)) pe_int (nomark _)) (pss_one (ps_ret pe_bl)) pss_nil)) pss_nil) (pss_cutZ (ps_if (PW.pt (pw_and (pt_cmpR op_gt (pe_callB (zc_lenK (K := K) rfl) (by rfl) T.n_len (by decide +kernel) (pa_cons (pe_ix (ix_tupK (K := K) rfl) (pv 2) pe_int (fun _ _ => rfl)) pa_nil)) pe_int (nomark _)) (pw_and1 (pt_cmpR zo_notN (pe_ix (ix_listK (K := K) rfl) (pv 6) pe_int (fun _ _ => rfl)) pe_non (nomark _))))) (pss_cutZ (ps_set (i := 10) nd rfl (Or.inl rfl) (pe_call (E := E0) G_l_pick (hr.mono (by decide)) (by rfl) T.g_l_pick T.F_l_pick.kp T.b_l_pick .nil pass0 (pa_cons (pv 1) (pa_cons (pe_callB (zc_lenK (K := K) rfl) (by rfl) T.n_len (by decide +kernel) (pa_cons (pe_ix (ix_tupK (K := K) rfl) (pv 2) pe_int (fun _ _ => rfl)) pa_nil)) pa_nil)))) (pss_cutZ (ps_set (i := 11) nd rfl (Or.inl rfl) (pe_call (E := E0) G_l_add (hr.mono (by decide)) (by rfl) T.g_l_add T.F_l_add.kp T.b_l_add .nil pass0 (pa_cons (pe_ix (ix_tupK (K := K) rfl) (pe_ix (ix_tupK (K := K) rfl) (pv 2) pe_int (fun _ _ => rfl)) (pv 10) (fun _ _ => rfl)) (pa_cons (pe_call (E := E0) G_l_amount (hr.mono (by decide)) (by rfl) T.g_l_amount T.F_l_amount.kp T.b_l_amount .nil pass0 (pa_cons (pv 1) pa_nil)) pa_nil)))) (pss_cutZ (ps_set (i := 12) nd rfl (Or.inl rfl) (pe_tup (pa_cons (pe_ix (ix_tupK (K := K) rfl) (pv 2) pe_int (fun _ _ => rfl)) (pa_cons (pe_ix (ix_tupK (K := K) rfl) (pv 2) pe_int (fun _ _ => rfl)) (pa_cons (pe_op (op_catAK (K := K) rfl) (pe_op (op_catAK (K := K) rfl) (pe_slice (sl_tupAK (K := K) rfl) (pe_ix (ix_tupK (K := K) rfl) (pv 2) pe_int (fun _ _ => rfl)) po_none (po_some (pv 10))) (pe_tup (pa_cons (pv 11) pa_nil))) (pe_slice (sl_tupAK (K := K) rfl) (pe_ix (ix_tupK (K := K) rfl) (pv 2) pe_int (fun _ _ => rfl)) (po_some (pe_op op_add (pv 10) pe_int)) po_none)) pa_nil))))) (pss_one (ps_ret (pe_cmpR op_ge (pe_ix (ix_tupK (K := K) rfl) (pe_call (E := E0) G_l_sub (hr.mono (by decide)) (by rfl) T.g_l_sub T.F_l_sub.kp T.b_l_sub .nil pass0 (pa_cons (pe_ix (ix_listK (K := K) rfl) (pv 6) pe_int (fun _ _ => rfl)) (pa_cons (pe_call (E := E0) G_resistance (hr.mono (by decide)) (by rfl) T.g_resistance T.F_resistance.kp T.b_resistance .nil pass0 (pa_cons (pv 12) (pa_cons (pe_op op_add (pv 3) pe_int) (pa_cons (pe_op op_add (pv 4) pe_int) pa_nil)))) pa_nil))) pe_int (fun _ _ => rfl)) pe_int (nomark _))))))) pss_nil) (pss_one (ps_ret pe_bl)))))))))), ?_⟩
    refine g_cut (fun σ' H' => ∃ S c, σ' = [some (.ref a0), some (.ref S), none, none, none, none, none, none, none, none, none, none, none, none] ∧ StAt H' S c ∧ LamX.Tabs (tbT P0) H') ?_ ?_
    · walk_at "gs"
      refine g_listL ha0 fun c hc => ?_
      walk_at "gs"
      refine g_newL (by show 4 ≤ 1000000; decide) fun S hS => ?_
      walk_at "gs"
      have ncS : c ≠ S := fun e => by
        rw [← e, upd_same] at hS
        cases hS
      exact ⟨S, c, rfl, ⟨ncS, 0, 0, 0, ns, upd_same, by rw [upd_ne ncS]; exact upd_same, by decide, by decide⟩, hI0.ext fun b o e => (up_same hS) b o ((up_same hc) b o e)⟩
    rintro σ' H0 ⟨S, cc, rfl, hS0, hI1⟩
    refine g_cut (fun σ' H' => ∃ v rim rows En qs, σ' = [some (.ref a0), some (.ref S), some v, none, none, none, none, none, none, none, none, none, none, none] ∧ 1 ≤ rim ∧ rim ≤ 5 ∧ En ≤ 9 ∧ Built rim En rows ∧ Ams qs En ∧ StAt H' S cc ∧ LamX.Tabs (tbT P0) H' ∧ NetV K H' v rim rows qs) ?_ ?_
    · walk_at "gs"
      refine ⟨S, cc, 5, 9, rfl, hS0, by decide, by decide, by decide, fun v H1 rim rows En qs h1 h2 h3 hB hq hqs hS1 k1 hv => ?_⟩
      walk_at "gs"
      obtain ⟨y1, hy1⟩ := hS0.lst
      have hmem : ∀ e, e < En → qs.getD e 0 ∈ qs := fun e he => by
        rw [List.getD_eq_getElem?_getD, List.getElem?_eq_getElem (by omega)]
        exact List.getElem_mem _
      exact ⟨v, rim, rows, En, qs, rfl, h1, h2, h3, hB, ⟨hq, fun e he => (hqs _ (hmem e he)).1, fun e he => (hqs _ (hmem e he)).2⟩, hS1, kp_tabs hy1 k1 hI1, hv⟩
    rintro σ' H1 ⟨v, rim, rows, En, qs, rfl, h1, h2, h3, hB, hA, hS1, hT1, hv⟩
    obtain ⟨hW, hrl, hrl2⟩ := hB.all (by omega)
    have hn0 : 0 < rows.length := by omega
    have hB72 : En * 72 ≤ 2880 := Nat.le_trans (Nat.mul_le_mul_right _ h3) (by decide)
    have hSm := sml_net hW hB72 (by omega) hA.pos hA.sc
    have hL := hSm.lap
    have hnode : ∀ e : Nat, e < En → nodeOf rows (2 * (e : Int)) < rows.length ∧ nodeOf rows (2 * (e : Int) + 1) < rows.length := fun e he => ⟨at_lt ((hW.mem _).mpr (by omega)), at_lt ((hW.mem _).mpr (by omega))⟩
    refine g_cut (fun σ' H' => ∃ a b c : Nat, σ' = [some (.ref a0), some (.ref S), some v, some (.int (a : Int)), some (.int (b : Int)), some (.int (c : Int)), none, none, none, none, none, none, none, none] ∧ a < rows.length ∧ b < rows.length ∧ c < rows.length ∧ StAt H' S cc ∧ LamX.Tabs (tbT P0) H' ∧ NetV K H' v rim rows qs) ?_ ?_
    · walk_at "gs"
      refine g_lcRng 3 rfl (by decide) (fun l i acc H' => StAt H' S cc ∧ LamX.Tabs (tbT P0) H' ∧ NetV K H' v rim rows qs ∧ H' l = some (.lst acc) ∧ acc.length = i ∧ ∀ (t : Nat) x, acc[t]? = some x → ∃ m : Nat, x = .int (m : Int) ∧ m < rows.length) (fun _ => rfl)
        (fun l hl => ⟨hS1.same (up_same hl), hT1.ext (fun b o e => (up_same hl) b o e), hv.same (up_same hl), upd_same, rfl, fun t x z => by simp at z⟩) ?_ ?_
      · rintro l i acc H2 hl0 hi ⟨hS2, hT2, hv2, el, hal, hacc⟩
        obtain ⟨p, t, m, ts, as, rfl, hN⟩ := id hv2
        walk_at "gs"
        refine g_ixT hN.top rfl ?_
        walk_at "gs"
        refine g_lenT hN.turns ?_
        walk_at "gs"
        rw [List.length_map, hN.len]
        refine ⟨S, cc, (rows.length : Int), rfl, hS2, by omega, Nat.lt_of_lt_of_le (show (rows.length : Int).natAbs < 2 ^ 6 by omega) (Nat.pow_le_pow_right (by decide) (by decide)), fun u H3 u0 u1 hS3 k3 => ?_⟩
        obtain ⟨un, rfl⟩ := Int.eq_ofNat_of_zero_le u0
        obtain ⟨y2, hy2⟩ := hS2.lst
        have kt := kp_tups (K := K) hy2 k3
        have hlS : l ≠ S := fun z => by
          rw [z] at hl0
          obtain ⟨y, hy⟩ := hS1.lst
          rw [hl0] at hy
          exact nomatch hy
        have el3 := k3 _ _ hlS el
        have kt2 := kp_tups (K := K) el3 (kp_upd (u := .lst (acc ++ [V.int (un : Int)])))
        have hlc : l ≠ cc := fun z => by
          rw [z] at hl0
          obtain ⟨_, _, _, _, _, _, hy, _⟩ := hS1
          rw [hl0] at hy
          exact nomatch hy
        refine lcN_of el3 (by omega) ⟨hS3.upd hlS hlc, kp_tabs el3 kp_upd (kp_tabs hy2 k3 hT2), kt2.net (kt.net hv2), upd_same, by rw [List.length_append, hal]; rfl, fun t x z => ?_⟩
        rcases at_snoc z with ⟨z1, z2⟩ | ⟨z1, rfl⟩
        · exact hacc t x z2
        · exact ⟨un, rfl, by omega⟩
      · rintro l acc H2 hl0 ⟨hS2, hT2, hv2, el, hal, hacc⟩
        obtain ⟨x0, x1, x2, rfl⟩ : ∃ x0 x1 x2, acc = [x0, x1, x2] := by
          match acc, hal with
          | [x0, x1, x2], _ => exact ⟨x0, x1, x2, rfl⟩
        obtain ⟨a, rfl, ha⟩ := hacc 0 x0 rfl
        obtain ⟨b, rfl, hb⟩ := hacc 1 x1 rfl
        obtain ⟨c, rfl, hc⟩ := hacc 2 x2 rfl
        refine ⟨l, _, rfl, SqL.of el, rfl, ?_⟩
        walk_at "gs"
        exact ⟨a, b, c, rfl, ha, hb, hc, hS2, hT2, hv2⟩
    rintro σ' H2 ⟨a, b, c, rfl, ha, hb, hc, hS2, hT2, hv2⟩
    refine g_cut (fun σ' H' => ∃ F, σ' = [some (.ref a0), some (.ref S), some v, some (.int (a : Int)), some (.int (b : Int)), some (.int (c : Int)), some (.ref F), none, none, none, none, none, none, none] ∧ H' F = some (.lst []) ∧ F ≠ S ∧ F ≠ cc ∧ StAt H' S cc ∧ LamX.Tabs (tbT P0) H' ∧ NetV K H' v rim rows qs) ?_ ?_
    · walk_at "gs"
      refine g_newL (by show 0 ≤ 1000000; decide) fun F hF => ?_
      walk_at "gs"
      have sF := up_same (o := .lst []) hF
      refine ⟨F, rfl, upd_same, fun z => ?_, fun z => ?_, hS2.same sF, hT2.ext (fun b o e => sF b o e), hv2.same sF⟩
      · rw [z] at hF
        obtain ⟨y, hy⟩ := hS2.lst
        rw [hF] at hy
        exact nomatch hy
      · rw [z] at hF
        obtain ⟨_, _, _, _, _, _, hy, _⟩ := hS2
        rw [hF] at hy
        exact nomatch hy
    rintro σ' H3 ⟨F, rfl, eF, hFS, hFc, hS3, hT3, hv3⟩
    obtain ⟨prs, hprs⟩ : ∃ prs : List (Nat × Nat), prs = [(a, b), (b, c), (a, c), (b, a)] := ⟨_, rfl⟩
    have hin : ∀ (i : Nat) x y, prs[i]? = some (x, y) → x < rows.length ∧ y < rows.length := fun i x y z => by
      rw [hprs] at z
      match i, z with
      | 0, z => cases z; exact ⟨ha, hb⟩
      | 1, z => cases z; exact ⟨hb, hc⟩
      | 2, z => cases z; exact ⟨ha, hc⟩
      | 3, z => cases z; exact ⟨hb, ha⟩
    refine g_cut (fun σ' H' => ∃ u7 u8 u9 fs, σ' = [some (.ref a0), some (.ref S), some v, some (.int (a : Int)), some (.int (b : Int)), some (.int (c : Int)), some (.ref F), u7, u8, u9, none, none, none, none] ∧ H' F = some (.lst fs) ∧ fs.length = 4 ∧ (∀ (i : Nat) x y f, prs[i]? = some (x, y) → fs[i]? = some f → ∃ o, ResO rows.length (lapK rows qs En) x y o ∧ OptR K H' f o) ∧ StAt H' S cc ∧ LamX.Tabs (tbT P0) H' ∧ NetV K H' v rim rows qs) ?_ ?_
    · walk_at "gs"
      refine g_newT (by show 2 ≤ 1000000; decide) fun p0 hp0 => ?_
      have s0 := up_same (o := .tup [V.int (a : Int), V.int (b : Int)]) hp0
      walk_at "gs"
      refine g_newT (by show 2 ≤ 1000000; decide) fun p1 hp1 => ?_
      have s1 := up_same (o := .tup [V.int (b : Int), V.int (c : Int)]) hp1
      walk_at "gs"
      refine g_newT (by show 2 ≤ 1000000; decide) fun p2 hp2 => ?_
      have s2 := up_same (o := .tup [V.int (a : Int), V.int (c : Int)]) hp2
      walk_at "gs"
      refine g_newT (by show 2 ≤ 1000000; decide) fun p3 hp3 => ?_
      have s3 := up_same (o := .tup [V.int (b : Int), V.int (a : Int)]) hp3
      walk_at "gs"
      refine g_newL (by show 4 ≤ 1000000; decide) fun L hL0 => ?_
      have s4 := up_same (o := .lst [V.ref p0, V.ref p1, V.ref p2, V.ref p3]) hL0
      have sAll := s0.trans (s1.trans (s2.trans (s3.trans s4)))
      have hLF : L ≠ F := fun z => by
        have := (s0.trans (s1.trans (s2.trans s3))) _ _ eF
        rw [z, this] at hL0
        exact nomatch hL0
      obtain ⟨ps, hps⟩ : ∃ ps : List Addr, ps = [p0, p1, p2, p3] := ⟨_, rfl⟩
      have hpr : ∀ (i : Nat) p x y, ps[i]? = some p → prs[i]? = some (x, y) → SqT K _ p [.int (x : Int), .int (y : Int)] := fun i p x y z1 z2 => by
        rw [hps] at z1
        rw [hprs] at z2
        match i, z1, z2 with
        | 0, z1, z2 => cases z1; cases z2; exact Same.sqt (s1.trans (s2.trans (s3.trans s4))) (SqT.of upd_same)
        | 1, z1, z2 => cases z1; cases z2; exact Same.sqt (s2.trans (s3.trans s4)) (SqT.of upd_same)
        | 2, z1, z2 => cases z1; cases z2; exact Same.sqt (s3.trans s4) (SqT.of upd_same)
        | 3, z1, z2 => cases z1; cases z2; exact Same.sqt s4 (SqT.of upd_same)
      obtain ⟨HL, hHL⟩ : ∃ HL, HL = upd (upd (upd (upd (upd H3 p0 (.tup [V.int (a : Int), V.int (b : Int)])) p1 (.tup [V.int (b : Int), V.int (c : Int)])) p2 (.tup [V.int (a : Int), V.int (c : Int)])) p3 (.tup [V.int (b : Int), V.int (a : Int)])) L (.lst [V.ref p0, V.ref p1, V.ref p2, V.ref p3]) := ⟨_, rfl⟩
      have eL : HL L = some (.lst [V.ref p0, V.ref p1, V.ref p2, V.ref p3]) := by rw [hHL]; exact upd_same
      rw [← hHL] at sAll hpr ⊢
      refine g_itL (SqL.of eL) (fun i σ' H' => ∃ u7 u8 u9 fs, σ' = [some (.ref a0), some (.ref S), some v, some (.int (a : Int)), some (.int (b : Int)), some (.int (c : Int)), some (.ref F), u7, u8, u9, none, none, none, none] ∧ H' L = some (.lst [V.ref p0, V.ref p1, V.ref p2, V.ref p3]) ∧ TupS K HL H' ∧ H' F = some (.lst fs) ∧ fs.length = i ∧ (∀ (i : Nat) x y f, prs[i]? = some (x, y) → fs[i]? = some f → ∃ o, ResO rows.length (lapK rows qs En) x y o ∧ OptR K H' f o) ∧ StAt H' S cc ∧ LamX.Tabs (tbT P0) H' ∧ NetV K H' v rim rows qs)
        ⟨none, none, none, [], rfl, eL, fun _ _ t => t, sAll _ _ eF, rfl, (fun i x y f _ z => by simp at z), hS3.same sAll, hT3.ext (fun b o e => sAll b o e), hv3.same sAll⟩ (fun i σ' H' hi ⟨_, _, _, _, _, e, _⟩ => SqL.of e) ?_ ?_
      · rintro i x σ' H4 hx ⟨u7, u8, u9, fs, rfl, eL4, t4, eF4, hfl, hfs, hS4, hT4, hv4⟩
        obtain ⟨pi, hpi, rfl⟩ : ∃ pi, ps[i]? = some pi ∧ x = .ref pi := by
          rw [hps]
          match i, hx with
          | 0, hx => cases hx; exact ⟨p0, rfl, rfl⟩
          | 1, hx => cases hx; exact ⟨p1, rfl, rfl⟩
          | 2, hx => cases hx; exact ⟨p2, rfl, rfl⟩
          | 3, hx => cases hx; exact ⟨p3, rfl, rfl⟩
        have hi4 : i < 4 := by
          have := (List.getElem?_eq_some_iff.mp hpi).1
          rw [hps] at this
          exact this
        obtain ⟨⟨xa, xb⟩, hxy⟩ : ∃ e, prs[i]? = some e := ⟨_, List.getElem?_eq_getElem (by rw [hprs]; exact hi4)⟩
        obtain ⟨la, lb⟩ := hin i xa xb hxy
        refine ⟨pi, _, rfl, t4 _ _ (hpr i pi xa xb hpi hxy), rfl, ?_⟩
        walk_at "gs"
        refine g_cut (fun σ' H' => ∃ f o, σ' = [some (.ref a0), some (.ref S), some v, some (.int (a : Int)), some (.int (b : Int)), some (.int (c : Int)), some (.ref F), some (.int (xa : Int)), some (.int (xb : Int)), some f, none, none, none, none] ∧ LamX.ExtN H4 H' ∧ LamX.Tabs (tbT P0) H' ∧ ResO rows.length (lapK rows qs En) xa xb o ∧ OptR K H' f o) ?_ ?_
        · walk_at "gs"
          refine ⟨v, xa, xb, rim, rows, qs, En, 72, rfl, hv4, hW, hA.len, by omega, hB72, by omega, hA.pos, hA.sc, la, lb, hT4, fun f H5 o ho hf e5 hT5 => ?_⟩
          walk_at "gs"
          exact ⟨f, o, rfl, e5, hT5, ho, hf⟩
        rintro σ' H5 ⟨f, o, rfl, e5, hT5, ho, hf⟩
        have t5 := ext_tups (K := K) e5
        have eF5 : H5 F = some (.lst fs) := e5 _ _ eF4 fun ps z => nomatch z
        refine g_cut (fun σ' H' => σ' = [some (.ref a0), some (.ref S), some v, some (.int (a : Int)), some (.int (b : Int)), some (.int (c : Int)), some (.ref F), some (.int (xa : Int)), some (.int (xb : Int)), some f, none, none, none, none] ∧ Same H5 H') ?_ ?_
        · walk_at "gs"
          refine ⟨v, xa, xb, rim, rows, qs, En, rfl, t5.net hv4, hW, hA.len, by omega, by omega, hA.pos, hA.sc, la, lb, fun y H6 o2 ho2 hy s6 => ?_⟩
          walk_at "gs"
          rw [ho2.uniq hL la lb ho] at hy
          refine ⟨f, y, rfl, OptR.eqv (n := 3) (hf.tup (TupS.of s6)) hy, fun H7 s7 => ?_⟩
          walk_at "gs"
          refine if_f rfl ?_
          walk_at "gs"
          exact ⟨rfl, s6.trans s7⟩
        rintro σ' H6 ⟨rfl, s6⟩
        have eF6 := s6 _ _ eF5
        walk_at "gs"
        refine g_bmL (SqL.of eF6) ?_
        walk_at "gs"
        refine g_append eF6 (by omega) ?_
        walk_at "gs"
        have t6 := (t5.trans (TupS.of s6)).trans (kp_tups (K := K) eF6 (kp_upd (u := .lst (fs ++ [f]))))
        refine ⟨_, _, _, fs ++ [f], rfl, ?_, t4.trans t6, upd_same, by rw [List.length_append, hfl]; rfl, fun i2 x y f2 z1 z2 => ?_, ((hS4.ext e5).same s6).upd hFS hFc, kp_tabs eF6 kp_upd (hT5.ext fun b o e => s6 b o e), t6.net hv4⟩
        · rw [upd_ne hLF]
          exact s6 _ _ (e5 _ _ eL4 fun ps z => nomatch z)
        · rcases at_snoc z2 with ⟨z3, z4⟩ | ⟨z3, rfl⟩
          · obtain ⟨o2, q1, q2⟩ := hfs i2 x y f2 z1 z4
            exact ⟨o2, q1, q2.tup t6⟩
          · rw [z3, hfl, hxy] at z1
            cases z1
            exact ⟨o, ho, hf.tup ((TupS.of s6).trans (kp_tups (K := K) eF6 (kp_upd (u := .lst (fs ++ [_])))))⟩
      · rintro σ' H4 ⟨u7, u8, u9, fs, rfl, eL4, t4, eF4, hfl, hfs, hS4, hT4, hv4⟩
        exact ⟨u7, u8, u9, fs, rfl, eF4, hfl, hfs, hS4, hT4, hv4⟩
    rintro σ' H4 ⟨u7, u8, u9, fs, rfl, eF4, hfl, hfs, hS4, hT4, hv4⟩
    obtain ⟨f0, f1, f2, f3, rfl⟩ : ∃ f0 f1 f2 f3, fs = [f0, f1, f2, f3] := by
      match fs, hfl with
      | [f0, f1, f2, f3], _ => exact ⟨f0, f1, f2, f3, rfl⟩
    rw [hprs] at hfs
    obtain ⟨o0, r0, v0⟩ := hfs 0 a b f0 rfl rfl
    obtain ⟨o1, r1, v1⟩ := hfs 1 b c f1 rfl rfl
    obtain ⟨o2, r2, v2⟩ := hfs 2 a c f2 rfl rfl
    obtain ⟨o3, r3, v3⟩ := hfs 3 b a f3 rfl rfl
    have e30 : o3 = o0 := r3.uniq hL hb ha (r0.symm hL ha hb)
    rw [e30] at v3
    refine g_cut (fun σ' H' => σ' = [some (.ref a0), some (.ref S), some v, some (.int (a : Int)), some (.int (b : Int)), some (.int (c : Int)), some (.ref F), u7, u8, u9, none, none, none, none] ∧ H4 = H') ?_ ?_
    · walk_at "gs"
      refine g_neOpt v0 v3 ?_
      refine ⟨_, rfl, if_f rfl ?_⟩
      walk_at "gs"
      exact ⟨rfl, rfl⟩
    rintro σ' H5 ⟨rfl, rfl⟩
    have nn : ∀ {f : V} {q : Rat}, OptR K H4 f (some q) → f ≠ .non := fun h z => by
      obtain ⟨p, e, _⟩ := h
      rw [z] at e
      exact nomatch e
    refine g_cut (fun σ' H' => σ' = [some (.ref a0), some (.ref S), some v, some (.int (a : Int)), some (.int (b : Int)), some (.int (c : Int)), some (.ref F), u7, u8, u9, none, none, none, none] ∧ Same H4 H') ?_ ?_
    · walk_at "gs"
      cases o0 with
      | none =>
        refine if_f (by rw [show f0 = .non from v0]; rfl) (if_f rfl ?_)
        walk_at "gs"
        exact ⟨rfl, Same.refl _⟩
      | some p =>
        refine if_t (by rw [decide_eq_false (nn v0)]; rfl) ?_
        walk_at "gs"
        cases o1 with
        | none =>
          refine if_f (by rw [show f1 = .non from v1]; rfl) ?_
          walk_at "gs"
          exact ⟨rfl, Same.refl _⟩
        | some q =>
          obtain ⟨r, rfl, hr⟩ := ResO.tri hL ha hb hc r0 r1 r2
          have bp := r0.bd hSm ha hb
          have bq := r1.bd hSm hb hc
          have br := r2.bd hSm ha hc
          refine if_t (by rw [decide_eq_false (nn v1)]; rfl) ?_
          walk_at "gs"
          refine ⟨f0, f1, p, q, 1482, 1482, rfl, v0, v1, bp, bq, by decide, fun v5 H5 s5 hv5 => ?_⟩
          have eF5 := s5 _ _ eF4
          walk_at "gs"
          refine ⟨v5, f2, _, r, 2965, 1482, rfl, hv5, RatV.same v2 s5, bp.add bq, br, by decide, fun v6 H6 s6 hv6 => ?_⟩
          obtain ⟨pp, rfl, hpp⟩ := hv6
          walk_at "gs"
          refine if_f (decide_eq_false (Int.not_lt.mpr (Rat.num_nonneg.mpr hr))) ?_
          walk_at "gs"
          exact ⟨rfl, s5.trans s6⟩
    rintro σ' H5 ⟨rfl, s5⟩
    have eF5 := s5 _ _ eF4
    have hS5 := hS4.same s5
    have hT5 : LamX.Tabs (tbT P0) H5 := hT4.ext fun b o e => s5 b o e
    have hv5 := hv4.same s5
    have v05 := v0.tup (TupS.of (K := K) s5)
    refine g_cut (fun σ' H' => True) ?_ ?_
    · obtain ⟨pn, t, m, ts, as, rfl, hN⟩ := id hv5
      walk_at "gs"
      refine g_ixT hN.top rfl ?_
      walk_at "gs"
      refine g_lenT hN.ams ?_
      walk_at "gs"
      rw [hN.rats.len, hA.len]
      by_cases hEn : En = 0
      · refine if_f (decide_eq_false (by omega)) (if_f rfl ?_)
        walk_at "gs"
        trivial
      refine if_t (decide_eq_true (by omega)) ?_
      walk_at "gs"
      cases o0 with
      | none =>
        refine if_f (by rw [show f0 = .non from v05]; rfl) ?_
        walk_at "gs"
        trivial
      | some p =>
      refine if_t (by rw [decide_eq_false (show f0 ≠ .non from nn v0)]; rfl) ?_
      refine g_cut (fun σ' H' => ∃ e : Nat, σ' = [some (.ref a0), some (.ref S), some (.ref pn), some (.int (a : Int)), some (.int (b : Int)), some (.int (c : Int)), some (.ref F), u7, u8, u9, some (.int (e : Int)), none, none, none] ∧ e < En ∧ StAt H' S cc ∧ LamX.Tabs (tbT P0) H' ∧ NetAt K H' pn t m ts as rim rows qs ∧ H' F = some (.lst [f0, f1, f2, f3]) ∧ RatV K H' f0 p) ?_ ?_
      · walk_at "gs"
        refine g_ixT hN.top rfl ?_
        walk_at "gs"
        refine g_lenT hN.ams ?_
        walk_at "gs"
        rw [hN.rats.len, hA.len]
        refine ⟨S, cc, (En : Int), rfl, hS5, by omega, Nat.lt_of_lt_of_le (show (En : Int).natAbs < 2 ^ 4 by omega) (Nat.pow_le_pow_right (by decide) (by decide)), fun e H6 e0 e1 hS6 k6 => ?_⟩
        obtain ⟨en, rfl⟩ := Int.eq_ofNat_of_zero_le e0
        obtain ⟨y5, hy5⟩ := hS5.lst
        have kt6 := kp_tups (K := K) hy5 k6
        walk_at "gs"
        refine ⟨en, rfl, by omega, hS6, kp_tabs hy5 k6 hT5, ?_, k6 _ _ hFS eF5, kt6.rat v05⟩
        exact ⟨kt6 _ _ hN.top, kt6 _ _ hN.turns, hN.len, fun i r row x y => kt6 _ _ (hN.row i r row x y), kt6 _ _ hN.ams, kt6.rats hN.rats⟩
      rintro σ' H6 ⟨e, rfl, he, hS6, hT6, hN6, eF6, v06⟩
      have hel : e < qs.length := by rw [hA.len]; exact he
      have hal : as.length = qs.length := hN6.rats.len
      have hqn : qs.length ≤ 9 := by rw [hA.len]; exact h3
      obtain ⟨av, hav⟩ : ∃ av, as[e]? = some av := ⟨_, List.getElem?_eq_getElem (by rw [hal]; exact hel)⟩
      have hqe : qs[e]? = some (qs.getD e 0) := by rw [List.getD_eq_getElem?_getD, List.getElem?_eq_getElem hel]; rfl
      refine g_cut (fun σ' H' => ∃ mv q, σ' = [some (.ref a0), some (.ref S), some (.ref pn), some (.int (a : Int)), some (.int (b : Int)), some (.int (c : Int)), some (.ref F), u7, u8, u9, some (.int (e : Int)), some mv, none, none] ∧ 0 < q ∧ Sc 12 72 q ∧ RatV K H' mv (qs.getD e 0 + q) ∧ LamX.Tabs (tbT P0) H' ∧ NetAt K H' pn t m ts as rim rows qs ∧ H' F = some (.lst [f0, f1, f2, f3]) ∧ RatV K H' f0 p) ?_ ?_
      · walk_at "gs"
        refine g_ixT hN6.top rfl ?_
        walk_at "gs"
        refine g_ixT hN6.ams (atI_nat hav) ?_
        walk_at "gs"
        refine ⟨S, cc, rfl, hS6, fun am H7 q hS7 k7 hq q0 q1 => ?_⟩
        obtain ⟨y6, hy6⟩ := hS6.lst
        have kt7 := kp_tups (K := K) hy6 k7
        walk_at "gs"
        refine ⟨av, am, _, q, 7, 7, rfl, kt7.rat (hN6.rats.at_ e av _ hav hqe), hq, (hA.sc e he).bd (by decide) (by decide) (by decide), q1.bd (by decide) (by decide) (by decide), by decide, fun mv H8 s8 hmv => ?_⟩
        walk_at "gs"
        have t8 := kt7.trans (TupS.of s8)
        refine ⟨mv, q, rfl, q0, q1, hmv, (kp_tabs hy6 k7 hT6).ext (fun b o z => s8 b o z), ?_, s8 _ _ (k7 _ _ hFS eF6), t8.rat v06⟩
        exact ⟨t8 _ _ hN6.top, t8 _ _ hN6.turns, hN6.len, fun i r row x y => t8 _ _ (hN6.row i r row x y), t8 _ _ hN6.ams, t8.rats hN6.rats⟩
      rintro σ' H7 ⟨mv, q, rfl, q0, q1, hmv, hT7, hN7, eF7, v07⟩
      obtain ⟨qs2, hqs2⟩ : ∃ qs2, qs2 = qs.set e (qs.getD e 0 + q) := ⟨_, rfl⟩
      refine g_cut (fun σ' H' => ∃ ov, σ' = [some (.ref a0), some (.ref S), some (.ref pn), some (.int (a : Int)), some (.int (b : Int)), some (.int (c : Int)), some (.ref F), u7, u8, u9, some (.int (e : Int)), some mv, some ov, none] ∧ Same H7 H' ∧ NetV K H' ov rim rows qs2) ?_ ?_
      · walk_at "gs"
        refine g_ixT hN7.top rfl ?_
        walk_at "gs"
        refine g_ixT hN7.top rfl ?_
        walk_at "gs"
        refine g_slice ?_
        walk_at "gs"
        refine g_ixT hN7.top rfl ?_
        refine g_pNo (g_pYes ?_)
        walk_at "gs"
        refine ⟨_, rfl, g_slA2 hN7.ams fun a1 H3 s3 ha1 => ?_⟩
        walk_at "gs"
        refine g_newT (by show 1 ≤ 1000000; decide) fun o1 ho1 => ?_
        have s4 := up_same (o := .tup [mv]) ho1
        rw [cutV_to (by omega)] at ha1
        refine g_catA (Same.sqt s4 ha1) (SqT.of upd_same) (by rw [List.length_take, List.length_singleton]; omega) fun a2 H5 s5 ha2 => ?_
        have sA := s3.trans (s4.trans s5)
        refine g_slice ?_
        walk_at "gs"
        refine g_ixT (hN7.same sA).top rfl ?_
        refine g_pYes ?_
        walk_at "gs"
        refine ⟨_, rfl, g_pNo (g_slA2 (hN7.same sA).ams fun a3 H6 s6 ha3 => ?_)⟩
        rw [show (e : Int) + 1 = ((e + 1 : Nat) : Int) from rfl, cutV_from (by omega)] at ha3
        refine g_catA (Same.sqt s6 ha2) ha3 (by rw [List.length_append, List.length_take, List.length_drop, List.length_singleton]; omega) fun a4 H7' s7 ha4 => ?_
        have sB := sA.trans (s6.trans s7)
        walk_at "gs"
        refine g_newT (by show 3 ≤ 1000000; decide) fun pp hpp => ?_
        have s8 := up_same (o := .tup [.int (rim : Int), .ref t, .ref a4]) hpp
        have sC := sB.trans s8
        walk_at "gs"
        refine ⟨.ref pp, rfl, sC, netV_of (SqT.of upd_same) (Same.sqt sC hN7.turns) (hN7.ts.same sC) (Same.sqt s8 ha4) ?_⟩
        have := ((hN7.rats.take e).app (Rats.one hmv)).app (hN7.rats.drop (e + 1)) |>.same sC
        rw [show qs.take e ++ [qs.getD e 0 + q] ++ qs.drop (e + 1) = qs2 by rw [hqs2, List.set_eq_take_append_cons_drop, if_pos hel, List.append_assoc]; rfl] at this
        exact this
      rintro σ' H8 ⟨ov, rfl, s8, hov⟩
      have hle : ∀ i, i < En → qs.getD i 0 ≤ qs2.getD i 0 ∧ 0 < qs2.getD i 0 ∧ Sc 12 144 (qs2.getD i 0) := fun i hi => by
        have e1 : qs2.getD i 0 = if e = i then qs.getD e 0 + q else qs.getD i 0 := by
          rw [hqs2, List.getD_eq_getElem?_getD, List.getElem?_set]
          by_cases z : e = i
          · rw [if_pos z, if_pos z, if_pos hel]
            rfl
          · rw [if_neg z, if_neg z, ← List.getD_eq_getElem?_getD]
        have p1 := hA.pos i hi
        rw [e1]
        by_cases z : e = i
        · subst z
          rw [if_pos rfl]
          exact ⟨by grind, by grind, ((hA.sc e hi).add q1).mono (by decide)⟩
        · rw [if_neg z]
          exact ⟨Rat.le_refl, p1, (hA.sc i hi).mono (by decide)⟩
      have hq2l : qs2.length = En := by rw [hqs2, List.length_set, hA.len]
      have hB144 : En * 144 ≤ 2880 := Nat.le_trans (Nat.mul_le_mul_right _ h3) (by decide)
      have hSm2 := sml_net (qs := qs2) hW hB144 (by omega) (fun i hi => (hle i hi).2.1) fun i hi => (hle i hi).2.2
      have sq0 : ∀ x : Rat, 0 ≤ x * x := fun x => by
        by_cases z : 0 ≤ x
        · exact Rat.mul_nonneg z z
        · have : 0 ≤ -x := by grind
          have := Rat.mul_nonneg this this
          grind
      have snn : ∀ {f g : Nat → Rat} (n : Nat), (∀ i, i < n → f i ≤ g i) → sumN n f ≤ sumN n g := fun {f g} n => by
        induction n with
        | zero => intro _; exact Rat.le_refl
        | succ n ih =>
          intro h
          have a := ih fun i hi => h i (by omega)
          have b := h n (by omega)
          rw [sumN, sumN]
          grind
      have hP : ∀ d, 0 ≤ quad rows.length (lapK rows qs En) d := fun d => by
        rw [quad_lap En hnode]
        have := snn (f := fun _ => 0) (g := fun (e : Nat) => qs.getD e 0 * ((d (nodeOf rows (2 * (e : Int))) - d (nodeOf rows (2 * (e : Int) + 1))) * (d (nodeOf rows (2 * (e : Int))) - d (nodeOf rows (2 * (e : Int) + 1))))) En fun i hi => Rat.mul_nonneg (Rat.le_of_lt (hA.pos i hi)) (sq0 _)
        rw [sumN_zero fun _ _ => rfl] at this
        exact this
      have hm : ∀ d, quad rows.length (lapK rows qs En) d ≤ quad rows.length (lapK rows qs2 En) d := fun d => by
        rw [quad_lap En hnode, quad_lap En hnode]
        exact snn En fun i hi => Rat.mul_le_mul_of_nonneg_right (hle i hi).1 (sq0 _)
      have v08 := v07.same s8
      have eF8 := s8 _ _ eF7
      walk_at "gs"
      refine ⟨ov, a, b, rim, rows, qs2, En, 144, rfl, hov, hW, hq2l, by omega, hB144, by omega, fun i hi => (hle i hi).2.1, fun i hi => (hle i hi).2.2, ha, hb, hT7.ext (fun b o z => s8 b o z), fun v9 H9 o9 r9 hv9 e9 hT9 => ?_⟩
      obtain ⟨r, rfl, hr⟩ := ResO.mono hL hSm2.lap ha hb hP (fun d => Rat.le_trans (hP d) (hm d)) hm r0 r9
      walk_at "gs"
      refine ⟨f0, v9, p, r, 1482, 1482, rfl, (ext_tups e9).rat v08, hv9, r0.bd hSm ha hb, r9.bd hSm2 ha hb, by decide, fun v10 H10 s10 hv10 => ?_⟩
      obtain ⟨pp, rfl, hpp⟩ := hv10
      walk_at "gs"
      rw [decide_eq_true (show (p - r).num ≥ 0 from Rat.num_nonneg.mpr hr)]
      exact k _
    rintro σ' H6 -
    walk_at "gs"
    exact k _
end

theorem all_mk {l : PySem.W.OpenLaw} {w : World} {K : PySem.W.Frag} {h : Heap} {mg : Str → Option Value} {fa f_homes_of f_ends_of f_ratio f_plus f_times f_over f_total f_web_of f_web_from f_without f_thinned f_least_joined f_resistance f_l_pick f_l_gcd f_l_ratio f_l_add f_l_sub f_l_mul f_l_div f_l_same f_l_amount f_l_at f_l_face f_l_grow f_l_net f_l_ends f_l_balance f_l_left f_l_due f_law C_RimError C_RatioError z_ZERO z_ONE : Addr} (X : K.In h) (G : h.Ns mainGlobals mg) (hfa : mg "law" = some (.ref fa)) {c0 P0 : Addr} (hlj : ∀ (a : Addr) (o : Obj) (fd : FuncData), mg "least_joined" = some (.ref a) → h.get? a = some o → o.data = .func fd → fd.code = .ref c0)
    {od0 an0 od1 an1 od2 an2 od3 an3 od4 an4 od5 an5 od6 an6 od7 an7 od8 an8 od9 an9 od10 an10 od11 an11 od12 an12 od13 an13 od14 an14 od15 an15 od16 an16 od17 an17 od18 an18 od19 an19 od20 an20 od21 an21 od22 an22 od23 an23 od24 an24 od25 an25 od26 an26 od27 an27 od28 an28 od29 an29 od30 an30 : Option Addr} {sl0 sl1 sl2 sl3 sl4 sl5 sl6 sl7 sl8 sl9 sl10 sl11 sl12 sl13 sl14 sl15 sl16 sl17 sl18 sl19 sl20 sl21 sl22 sl23 sl24 sl25 sl26 sl27 sl28 sl29 sl30 : Array (Option Value)} {oc0 kV0 dc0 pm0 cd0 ct0 oc1 kV1 dc1 pm1 cd1 ct1 oc2 kV2 dc2 pm2 cd2 ct2 oc3 kV3 dc3 pm3 cd3 ct3 oc4 kV4 dc4 pm4 cd4 ct4 oc5 kV5 dc5 pm5 cd5 ct5 oc6 kV6 dc6 pm6 cd6 ct6 oc7 kV7 dc7 pm7 cd7 ct7 oc8 kV8 dc8 pm8 cd8 ct8 oc9 kV9 dc9 pm9 cd9 ct9 oc10 kV10 dc10 pm10 cd10 ct10 oc11 kV11 dc11 pm11 cd11 ct11 oc12 kV12 dc12 pm12 cd12 ct12 oc13 kV13 dc13 pm13 cd13 ct13 oc14 kV14 dc14 pm14 cd14 ct14 oc15 kV15 dc15 pm15 cd15 ct15 oc16 kV16 dc16 pm16 cd16 ct16 oc17 kV17 dc17 pm17 cd17 ct17 oc18 kV18 dc18 pm18 cd18 ct18 oc19 kV19 dc19 pm19 cd19 ct19 oc20 kV20 dc20 pm20 cd20 ct20 oc21 kV21 dc21 pm21 cd21 ct21 oc22 kV22 dc22 pm22 cd22 ct22 oc23 kV23 dc23 pm23 cd23 ct23 oc24 kV24 dc24 pm24 cd24 ct24 oc25 kV25 dc25 pm25 cd25 ct25 oc26 kV26 dc26 pm26 cd26 ct26 oc27 kV27 dc27 pm27 cd27 ct27 oc28 kV28 dc28 pm28 cd28 ct28 oc29 kV29 dc29 pm29 cd29 ct29 oc30 kV30 dc30 pm30 cd30 ct30 : Value} {tk0_0 tk0_1 tk1_0 tk1_1 : Tok}
    (a_homes_of : PySem.W.nsIn K mainGlobals "homes_of" = some (some (.ref f_homes_of))) (l_homes_of : K.lookup f_homes_of = some ⟨oc0, od0, .func (PySem.W.fnOf "homes_of" "homes_of" (defArgs s_homes_of) (defBody s_homes_of) (defScope s_homes_of) .none kV0 dc0 pm0 an0 cd0 ct0), sl0⟩) (c_homes_of : PySem.W.codeIn K cd0 "homes_of" = true) (k_homes_of : PySem.W.keepIn K (.ref f_homes_of) = true)
    (a_ends_of : PySem.W.nsIn K mainGlobals "ends_of" = some (some (.ref f_ends_of))) (l_ends_of : K.lookup f_ends_of = some ⟨oc1, od1, .func (PySem.W.fnOf "ends_of" "ends_of" (defArgs s_ends_of) (defBody s_ends_of) (defScope s_ends_of) .none kV1 dc1 pm1 an1 cd1 ct1), sl1⟩) (c_ends_of : PySem.W.codeIn K cd1 "ends_of" = true) (k_ends_of : PySem.W.keepIn K (.ref f_ends_of) = true)
    (a_ratio : PySem.W.nsIn K mainGlobals "ratio" = some (some (.ref f_ratio))) (l_ratio : K.lookup f_ratio = some ⟨oc2, od2, .func (PySem.W.fnOf "ratio" "ratio" (defArgs s_ratio) (defBody s_ratio) (defScope s_ratio) .none kV2 dc2 pm2 an2 cd2 ct2), sl2⟩) (c_ratio : PySem.W.codeIn K cd2 "ratio" = true) (k_ratio : PySem.W.keepIn K (.ref f_ratio) = true)
    (a_plus : PySem.W.nsIn K mainGlobals "plus" = some (some (.ref f_plus))) (l_plus : K.lookup f_plus = some ⟨oc3, od3, .func (PySem.W.fnOf "plus" "plus" (defArgs s_plus) (defBody s_plus) (defScope s_plus) .none kV3 dc3 pm3 an3 cd3 ct3), sl3⟩) (c_plus : PySem.W.codeIn K cd3 "plus" = true) (k_plus : PySem.W.keepIn K (.ref f_plus) = true)
    (a_times : PySem.W.nsIn K mainGlobals "times" = some (some (.ref f_times))) (l_times : K.lookup f_times = some ⟨oc4, od4, .func (PySem.W.fnOf "times" "times" (defArgs s_times) (defBody s_times) (defScope s_times) .none kV4 dc4 pm4 an4 cd4 ct4), sl4⟩) (c_times : PySem.W.codeIn K cd4 "times" = true) (k_times : PySem.W.keepIn K (.ref f_times) = true)
    (a_over : PySem.W.nsIn K mainGlobals "over" = some (some (.ref f_over))) (l_over : K.lookup f_over = some ⟨oc5, od5, .func (PySem.W.fnOf "over" "over" (defArgs s_over) (defBody s_over) (defScope s_over) .none kV5 dc5 pm5 an5 cd5 ct5), sl5⟩) (c_over : PySem.W.codeIn K cd5 "over" = true) (k_over : PySem.W.keepIn K (.ref f_over) = true)
    (a_total : PySem.W.nsIn K mainGlobals "total" = some (some (.ref f_total))) (l_total : K.lookup f_total = some ⟨oc6, od6, .func (PySem.W.fnOf "total" "total" (defArgs s_total) (defBody s_total) (defScope s_total) .none kV6 dc6 pm6 an6 cd6 ct6), sl6⟩) (c_total : PySem.W.codeIn K cd6 "total" = true) (k_total : PySem.W.keepIn K (.ref f_total) = true)
    (a_web_of : PySem.W.nsIn K mainGlobals "web_of" = some (some (.ref f_web_of))) (l_web_of : K.lookup f_web_of = some ⟨oc7, od7, .func (PySem.W.fnOf "web_of" "web_of" (defArgs s_web_of) (defBody s_web_of) (defScope s_web_of) .none kV7 dc7 pm7 an7 cd7 ct7), sl7⟩) (c_web_of : PySem.W.codeIn K cd7 "web_of" = true) (k_web_of : PySem.W.keepIn K (.ref f_web_of) = true)
    (a_web_from : PySem.W.nsIn K mainGlobals "web_from" = some (some (.ref f_web_from))) (l_web_from : K.lookup f_web_from = some ⟨oc8, od8, .func (PySem.W.fnOf "web_from" "web_from" (defArgs s_web_from) (defBody s_web_from) (defScope s_web_from) .none kV8 dc8 pm8 an8 cd8 ct8), sl8⟩) (c_web_from : PySem.W.codeIn K cd8 "web_from" = true) (k_web_from : PySem.W.keepIn K (.ref f_web_from) = true)
    (a_without : PySem.W.nsIn K mainGlobals "without" = some (some (.ref f_without))) (l_without : K.lookup f_without = some ⟨oc9, od9, .func (PySem.W.fnOf "without" "without" (defArgs s_without) (defBody s_without) (defScope s_without) .none kV9 dc9 pm9 an9 cd9 ct9), sl9⟩) (c_without : PySem.W.codeIn K cd9 "without" = true) (k_without : PySem.W.keepIn K (.ref f_without) = true)
    (a_thinned : PySem.W.nsIn K mainGlobals "thinned" = some (some (.ref f_thinned))) (l_thinned : K.lookup f_thinned = some ⟨oc10, od10, .func (PySem.W.fnOf "thinned" "thinned" (defArgs s_thinned) (defBody s_thinned) (defScope s_thinned) .none kV10 dc10 pm10 an10 cd10 ct10), sl10⟩) (c_thinned : PySem.W.codeIn K cd10 "thinned" = true) (k_thinned : PySem.W.keepIn K (.ref f_thinned) = true)
    (a_least_joined : PySem.W.nsIn K mainGlobals "least_joined" = some (some (.ref f_least_joined))) (l_least_joined : K.lookup f_least_joined = some ⟨oc11, od11, .func (PySem.W.fnOf "least_joined" "least_joined" (defArgs s_least_joined) (defBody s_least_joined) (defScope s_least_joined) .none kV11 dc11 pm11 an11 cd11 ct11), sl11⟩) (c_least_joined : PySem.W.codeIn K cd11 "least_joined" = true) (k_least_joined : PySem.W.keepIn K (.ref f_least_joined) = true)
    (a_resistance : PySem.W.nsIn K mainGlobals "resistance" = some (some (.ref f_resistance))) (l_resistance : K.lookup f_resistance = some ⟨oc12, od12, .func (PySem.W.fnOf "resistance" "resistance" (defArgs s_resistance) (defBody s_resistance) (defScope s_resistance) .none kV12 dc12 pm12 an12 cd12 ct12), sl12⟩) (c_resistance : PySem.W.codeIn K cd12 "resistance" = true) (k_resistance : PySem.W.keepIn K (.ref f_resistance) = true)
    (a_l_pick : PySem.W.nsIn K mainGlobals "_law_pick" = some (some (.ref f_l_pick))) (l_l_pick : K.lookup f_l_pick = some ⟨oc13, od13, .func (PySem.W.fnOf "_law_pick" "_law_pick" (defArgs s_l_pick) (defBody s_l_pick) (defScope s_l_pick) .none kV13 dc13 pm13 an13 cd13 ct13), sl13⟩) (c_l_pick : PySem.W.codeIn K cd13 "_law_pick" = true) (k_l_pick : PySem.W.keepIn K (.ref f_l_pick) = true)
    (a_l_gcd : PySem.W.nsIn K mainGlobals "_law_gcd" = some (some (.ref f_l_gcd))) (l_l_gcd : K.lookup f_l_gcd = some ⟨oc14, od14, .func (PySem.W.fnOf "_law_gcd" "_law_gcd" (defArgs s_l_gcd) (defBody s_l_gcd) (defScope s_l_gcd) .none kV14 dc14 pm14 an14 cd14 ct14), sl14⟩) (c_l_gcd : PySem.W.codeIn K cd14 "_law_gcd" = true) (k_l_gcd : PySem.W.keepIn K (.ref f_l_gcd) = true)
    (a_l_ratio : PySem.W.nsIn K mainGlobals "_law_ratio" = some (some (.ref f_l_ratio))) (l_l_ratio : K.lookup f_l_ratio = some ⟨oc15, od15, .func (PySem.W.fnOf "_law_ratio" "_law_ratio" (defArgs s_l_ratio) (defBody s_l_ratio) (defScope s_l_ratio) .none kV15 dc15 pm15 an15 cd15 ct15), sl15⟩) (c_l_ratio : PySem.W.codeIn K cd15 "_law_ratio" = true) (k_l_ratio : PySem.W.keepIn K (.ref f_l_ratio) = true)
    (a_l_add : PySem.W.nsIn K mainGlobals "_law_add" = some (some (.ref f_l_add))) (l_l_add : K.lookup f_l_add = some ⟨oc16, od16, .func (PySem.W.fnOf "_law_add" "_law_add" (defArgs s_l_add) (defBody s_l_add) (defScope s_l_add) .none kV16 dc16 pm16 an16 cd16 ct16), sl16⟩) (c_l_add : PySem.W.codeIn K cd16 "_law_add" = true) (k_l_add : PySem.W.keepIn K (.ref f_l_add) = true)
    (a_l_sub : PySem.W.nsIn K mainGlobals "_law_sub" = some (some (.ref f_l_sub))) (l_l_sub : K.lookup f_l_sub = some ⟨oc17, od17, .func (PySem.W.fnOf "_law_sub" "_law_sub" (defArgs s_l_sub) (defBody s_l_sub) (defScope s_l_sub) .none kV17 dc17 pm17 an17 cd17 ct17), sl17⟩) (c_l_sub : PySem.W.codeIn K cd17 "_law_sub" = true) (k_l_sub : PySem.W.keepIn K (.ref f_l_sub) = true)
    (a_l_mul : PySem.W.nsIn K mainGlobals "_law_mul" = some (some (.ref f_l_mul))) (l_l_mul : K.lookup f_l_mul = some ⟨oc18, od18, .func (PySem.W.fnOf "_law_mul" "_law_mul" (defArgs s_l_mul) (defBody s_l_mul) (defScope s_l_mul) .none kV18 dc18 pm18 an18 cd18 ct18), sl18⟩) (c_l_mul : PySem.W.codeIn K cd18 "_law_mul" = true) (k_l_mul : PySem.W.keepIn K (.ref f_l_mul) = true)
    (a_l_div : PySem.W.nsIn K mainGlobals "_law_div" = some (some (.ref f_l_div))) (l_l_div : K.lookup f_l_div = some ⟨oc19, od19, .func (PySem.W.fnOf "_law_div" "_law_div" (defArgs s_l_div) (defBody s_l_div) (defScope s_l_div) .none kV19 dc19 pm19 an19 cd19 ct19), sl19⟩) (c_l_div : PySem.W.codeIn K cd19 "_law_div" = true) (k_l_div : PySem.W.keepIn K (.ref f_l_div) = true)
    (a_l_same : PySem.W.nsIn K mainGlobals "_law_same" = some (some (.ref f_l_same))) (l_l_same : K.lookup f_l_same = some ⟨oc20, od20, .func (PySem.W.fnOf "_law_same" "_law_same" (defArgs s_l_same) (defBody s_l_same) (defScope s_l_same) .none kV20 dc20 pm20 an20 cd20 ct20), sl20⟩) (c_l_same : PySem.W.codeIn K cd20 "_law_same" = true) (k_l_same : PySem.W.keepIn K (.ref f_l_same) = true)
    (a_l_amount : PySem.W.nsIn K mainGlobals "_law_amount" = some (some (.ref f_l_amount))) (l_l_amount : K.lookup f_l_amount = some ⟨oc21, od21, .func (PySem.W.fnOf "_law_amount" "_law_amount" (defArgs s_l_amount) (defBody s_l_amount) (defScope s_l_amount) .none kV21 dc21 pm21 an21 cd21 ct21), sl21⟩) (c_l_amount : PySem.W.codeIn K cd21 "_law_amount" = true) (k_l_amount : PySem.W.keepIn K (.ref f_l_amount) = true)
    (a_l_at : PySem.W.nsIn K mainGlobals "_law_at" = some (some (.ref f_l_at))) (l_l_at : K.lookup f_l_at = some ⟨oc22, od22, .func (PySem.W.fnOf "_law_at" "_law_at" (defArgs s_l_at) (defBody s_l_at) (defScope s_l_at) .none kV22 dc22 pm22 an22 cd22 ct22), sl22⟩) (c_l_at : PySem.W.codeIn K cd22 "_law_at" = true) (k_l_at : PySem.W.keepIn K (.ref f_l_at) = true)
    (a_l_face : PySem.W.nsIn K mainGlobals "_law_face" = some (some (.ref f_l_face))) (l_l_face : K.lookup f_l_face = some ⟨oc23, od23, .func (PySem.W.fnOf "_law_face" "_law_face" (defArgs s_l_face) (defBody s_l_face) (defScope s_l_face) .none kV23 dc23 pm23 an23 cd23 ct23), sl23⟩) (c_l_face : PySem.W.codeIn K cd23 "_law_face" = true) (k_l_face : PySem.W.keepIn K (.ref f_l_face) = true)
    (a_l_grow : PySem.W.nsIn K mainGlobals "_law_grow" = some (some (.ref f_l_grow))) (l_l_grow : K.lookup f_l_grow = some ⟨oc24, od24, .func (PySem.W.fnOf "_law_grow" "_law_grow" (defArgs s_l_grow) (defBody s_l_grow) (defScope s_l_grow) .none kV24 dc24 pm24 an24 cd24 ct24), sl24⟩) (c_l_grow : PySem.W.codeIn K cd24 "_law_grow" = true) (k_l_grow : PySem.W.keepIn K (.ref f_l_grow) = true)
    (a_l_net : PySem.W.nsIn K mainGlobals "_law_net" = some (some (.ref f_l_net))) (l_l_net : K.lookup f_l_net = some ⟨oc25, od25, .func (PySem.W.fnOf "_law_net" "_law_net" (defArgs s_l_net) (defBody s_l_net) (defScope s_l_net) .none kV25 dc25 pm25 an25 cd25 ct25), sl25⟩) (c_l_net : PySem.W.codeIn K cd25 "_law_net" = true) (k_l_net : PySem.W.keepIn K (.ref f_l_net) = true)
    (a_l_ends : PySem.W.nsIn K mainGlobals "_law_ends" = some (some (.ref f_l_ends))) (l_l_ends : K.lookup f_l_ends = some ⟨oc26, od26, .func (PySem.W.fnOf "_law_ends" "_law_ends" (defArgs s_l_ends) (defBody s_l_ends) (defScope s_l_ends) .none kV26 dc26 pm26 an26 cd26 ct26), sl26⟩) (c_l_ends : PySem.W.codeIn K cd26 "_law_ends" = true) (k_l_ends : PySem.W.keepIn K (.ref f_l_ends) = true)
    (a_l_balance : PySem.W.nsIn K mainGlobals "_law_balance" = some (some (.ref f_l_balance))) (l_l_balance : K.lookup f_l_balance = some ⟨oc27, od27, .func (PySem.W.fnOf "_law_balance" "_law_balance" (defArgs s_l_balance) (defBody s_l_balance) (defScope s_l_balance) .none kV27 dc27 pm27 an27 cd27 ct27), sl27⟩) (c_l_balance : PySem.W.codeIn K cd27 "_law_balance" = true) (k_l_balance : PySem.W.keepIn K (.ref f_l_balance) = true)
    (a_l_left : PySem.W.nsIn K mainGlobals "_law_left" = some (some (.ref f_l_left))) (l_l_left : K.lookup f_l_left = some ⟨oc28, od28, .func (PySem.W.fnOf "_law_left" "_law_left" (defArgs s_l_left) (defBody s_l_left) (defScope s_l_left) .none kV28 dc28 pm28 an28 cd28 ct28), sl28⟩) (c_l_left : PySem.W.codeIn K cd28 "_law_left" = true) (k_l_left : PySem.W.keepIn K (.ref f_l_left) = true)
    (a_l_due : PySem.W.nsIn K mainGlobals "_law_due" = some (some (.ref f_l_due))) (l_l_due : K.lookup f_l_due = some ⟨oc29, od29, .func (PySem.W.fnOf "_law_due" "_law_due" (defArgs s_l_due) (defBody s_l_due) (defScope s_l_due) .none kV29 dc29 pm29 an29 cd29 ct29), sl29⟩) (c_l_due : PySem.W.codeIn K cd29 "_law_due" = true) (k_l_due : PySem.W.keepIn K (.ref f_l_due) = true)
    (a_law : PySem.W.nsIn K mainGlobals "law" = some (some (.ref f_law))) (l_law : K.lookup f_law = some ⟨oc30, od30, .func (PySem.W.fnOf "law" "law" (defArgs s_law) (defBody s_law) (defScope s_law) .none kV30 dc30 pm30 an30 cd30 ct30), sl30⟩) (c_law : PySem.W.codeIn K cd30 "law" = true) (k_law : PySem.W.keepIn K (.ref f_law) = true)
    (a_RimError : PySem.W.nsIn K mainGlobals "RimError" = some (some (.ref C_RimError)))
    (x_RimError : PySem.W.excIn K (C_RimError) [.type "ValueError", .type "Exception", .type "BaseException", .type "object"] "ValueError.__new__" = true)
    (k_RimError : PySem.W.keepIn K (.ref (C_RimError)) = true)
    (bb_RimError : PySem.W.subIn K (.ref (C_RimError)) (.type "BaseException") = some true)
    (t_RimError : PySem.W.typeIn K (.ref (C_RimError)) = some (.type "type"))
    (d_RimError : PySem.W.hasDictIn K (C_RimError) = true)
    (hg_RimError : PySem.W.findIn K (.ref (C_RimError)) "__getattribute__" = some (some (.builtin "BaseException.__getattribute__")))
    (hk_RimError : PySem.W.findIn K (.ref (C_RimError)) "__getattr__" = some none)
    (ha_RimError : PySem.W.findIn K (.ref (C_RimError)) "__class__" = some (some (.builtin "object.__class__")))
    (hm_RimError : PySem.W.mroIn K (C_RimError) (.type "object") = some true)
    (v_RimError : PySem.W.kitOne K (.ref (C_RimError)) (.type "ValueError") = some true)
    (i_RimError_RimError : PySem.W.kitOne K (.ref (C_RimError)) (.ref (C_RimError)) = some true)
    (e_RimError_RimError : PySem.W.exmOne K (.ref (C_RimError)) (.ref (C_RimError)) = some true)
    (i_RatioError_RimError : PySem.W.kitOne K (.ref (C_RimError)) (.ref (C_RatioError)) = some false)
    (e_RatioError_RimError : PySem.W.exmOne K (.ref (C_RimError)) (.ref (C_RatioError)) = some false)
    (a_RatioError : PySem.W.nsIn K mainGlobals "RatioError" = some (some (.ref C_RatioError)))
    (x_RatioError : PySem.W.excIn K (C_RatioError) [.type "ValueError", .type "Exception", .type "BaseException", .type "object"] "ValueError.__new__" = true)
    (k_RatioError : PySem.W.keepIn K (.ref (C_RatioError)) = true)
    (bb_RatioError : PySem.W.subIn K (.ref (C_RatioError)) (.type "BaseException") = some true)
    (t_RatioError : PySem.W.typeIn K (.ref (C_RatioError)) = some (.type "type"))
    (d_RatioError : PySem.W.hasDictIn K (C_RatioError) = true)
    (hg_RatioError : PySem.W.findIn K (.ref (C_RatioError)) "__getattribute__" = some (some (.builtin "BaseException.__getattribute__")))
    (hk_RatioError : PySem.W.findIn K (.ref (C_RatioError)) "__getattr__" = some none)
    (ha_RatioError : PySem.W.findIn K (.ref (C_RatioError)) "__class__" = some (some (.builtin "object.__class__")))
    (hm_RatioError : PySem.W.mroIn K (C_RatioError) (.type "object") = some true)
    (v_RatioError : PySem.W.kitOne K (.ref (C_RatioError)) (.type "ValueError") = some true)
    (i_RimError_RatioError : PySem.W.kitOne K (.ref (C_RatioError)) (.ref (C_RimError)) = some true)
    (e_RimError_RatioError : PySem.W.exmOne K (.ref (C_RatioError)) (.ref (C_RimError)) = some true)
    (i_RatioError_RatioError : PySem.W.kitOne K (.ref (C_RatioError)) (.ref (C_RatioError)) = some true)
    (e_RatioError_RatioError : PySem.W.exmOne K (.ref (C_RatioError)) (.ref (C_RatioError)) = some true)
    (hn_ : PySem.W.specialIn K (.builtin "object.__class__") "__get__" = some (some (.builtin "getset_descriptor.__get__"))) (ht_ : PySem.W.takesIn K (.builtin "object.__class__") = some true)
    {odz0 : Option Addr} {nz0 : Nat} {slz0 : Array (Option Value)} (a_ZERO : PySem.W.nsIn K mainGlobals "ZERO" = some (some (.ref z_ZERO))) (l_ZERO : K.lookup z_ZERO = some ⟨.type "tuple", odz0, .seq #[.int 0 tk0_0, .int 1 tk0_1] nz0, slz0⟩)
    {odz1 : Option Addr} {nz1 : Nat} {slz1 : Array (Option Value)} (a_ONE : PySem.W.nsIn K mainGlobals "ONE" = some (some (.ref z_ONE))) (l_ONE : K.lookup z_ONE = some ⟨.type "tuple", odz1, .seq #[.int 1 tk1_0, .int 1 tk1_1] nz1, slz1⟩)
    (n_abs : PySem.W.nsIn K mainGlobals "abs" = some none)
    (n_all : PySem.W.nsIn K mainGlobals "all" = some none)
    (n_bool : PySem.W.nsIn K mainGlobals "bool" = some none)
    (n_enumerate : PySem.W.nsIn K mainGlobals "enumerate" = some none)
    (n_int : PySem.W.nsIn K mainGlobals "int" = some none)
    (n_isinstance : PySem.W.nsIn K mainGlobals "isinstance" = some none)
    (n_len : PySem.W.nsIn K mainGlobals "len" = some none)
    (n_list : PySem.W.nsIn K mainGlobals "list" = some none)
    (n_min : PySem.W.nsIn K mainGlobals "min" = some none)
    (n_range : PySem.W.nsIn K mainGlobals "range" = some none)
    (n_str : PySem.W.nsIn K mainGlobals "str" = some none)
    (n_tuple : PySem.W.nsIn K mainGlobals "tuple" = some none)
    (n_zip : PySem.W.nsIn K mainGlobals "zip" = some none)
    (g_combinations : PySem.W.nsIn K mainGlobals "combinations" = some (some (.type "itertools.combinations")))
    (g_gcd : PySem.W.nsIn K mainGlobals "gcd" = some (some (.builtin "math.gcd")))
    : ∃ fd : FuncData, (∀ (s : Shared) (v : Value), BindsTo s fd ⟨[v], []⟩ [("script", v)]) ∧ ∀ base : Heap, K.In base → base.Ns mainGlobals mg → LamX.TabB base mg c0 P0 → FnOk l.prog w K mg base CX0 11 fa fd ["script"] ((fun K P => Rz.spLawI K (LamX.Tabs (Rz.tbT P))) K P0) := by
  have e := hfa.symm.trans (PySem.W.mg_of X G a_law)
  cases e
  have F0 := fun_mk (st := s_homes_of) l_homes_of c_homes_of k_homes_of
  have b0 := F0.binds (ps := ["net"]) fun _ _ _ _ _ _ us hl => match us, hl with | [_], _ => rfl
  have F1 := fun_mk (st := s_ends_of) l_ends_of c_ends_of k_ends_of
  have b1 := F1.binds (ps := ["net"]) fun _ _ _ _ _ _ us hl => match us, hl with | [_], _ => rfl
  have F2 := fun_mk (st := s_ratio) l_ratio c_ratio k_ratio
  have b2 := F2.binds (ps := ["top", "bottom"]) fun _ _ _ _ _ _ us hl => match us, hl with | [_, _], _ => rfl
  have F3 := fun_mk (st := s_plus) l_plus c_plus k_plus
  have b3 := F3.binds (ps := ["left", "right"]) fun _ _ _ _ _ _ us hl => match us, hl with | [_, _], _ => rfl
  have F4 := fun_mk (st := s_times) l_times c_times k_times
  have b4 := F4.binds (ps := ["left", "right"]) fun _ _ _ _ _ _ us hl => match us, hl with | [_, _], _ => rfl
  have F5 := fun_mk (st := s_over) l_over c_over k_over
  have b5 := F5.binds (ps := ["left", "right"]) fun _ _ _ _ _ _ us hl => match us, hl with | [_, _], _ => rfl
  have F6 := fun_mk (st := s_total) l_total c_total k_total
  have b6 := F6.binds (ps := ["values"]) fun _ _ _ _ _ _ us hl => match us, hl with | [_], _ => rfl
  have F7 := fun_mk (st := s_web_of) l_web_of c_web_of k_web_of
  have b7 := F7.binds (ps := ["net"]) fun _ _ _ _ _ _ us hl => match us, hl with | [_], _ => rfl
  have F8 := fun_mk (st := s_web_from) l_web_from c_web_from k_web_from
  have b8 := F8.binds (ps := ["nodes", "joints"]) fun _ _ _ _ _ _ us hl => match us, hl with | [_, _], _ => rfl
  have F9 := fun_mk (st := s_without) l_without c_without k_without
  have b9 := F9.binds (ps := ["web", "node"]) fun _ _ _ _ _ _ us hl => match us, hl with | [_, _], _ => rfl
  have F10 := fun_mk (st := s_thinned) l_thinned c_thinned k_thinned
  have b10 := F10.binds (ps := ["web", "kept"]) fun _ _ _ _ _ _ us hl => match us, hl with | [_, _], _ => rfl
  have F11 := fun_mk (st := s_least_joined) l_least_joined c_least_joined k_least_joined
  have b11 := F11.binds (ps := ["web", "kept"]) fun _ _ _ _ _ _ us hl => match us, hl with | [_, _], _ => rfl
  have F12 := fun_mk (st := s_resistance) l_resistance c_resistance k_resistance
  have b12 := F12.binds (ps := ["net", "first", "second"]) fun _ _ _ _ _ _ us hl => match us, hl with | [_, _, _], _ => rfl
  have F13 := fun_mk (st := s_l_pick) l_l_pick c_l_pick k_l_pick
  have b13 := F13.binds (ps := ["state", "limit"]) fun _ _ _ _ _ _ us hl => match us, hl with | [_, _], _ => rfl
  have F14 := fun_mk (st := s_l_gcd) l_l_gcd c_l_gcd k_l_gcd
  have b14 := F14.binds (ps := ["left", "right"]) fun _ _ _ _ _ _ us hl => match us, hl with | [_, _], _ => rfl
  have F15 := fun_mk (st := s_l_ratio) l_l_ratio c_l_ratio k_l_ratio
  have b15 := F15.binds (ps := ["top", "bottom"]) fun _ _ _ _ _ _ us hl => match us, hl with | [_, _], _ => rfl
  have F16 := fun_mk (st := s_l_add) l_l_add c_l_add k_l_add
  have b16 := F16.binds (ps := ["left", "right"]) fun _ _ _ _ _ _ us hl => match us, hl with | [_, _], _ => rfl
  have F17 := fun_mk (st := s_l_sub) l_l_sub c_l_sub k_l_sub
  have b17 := F17.binds (ps := ["left", "right"]) fun _ _ _ _ _ _ us hl => match us, hl with | [_, _], _ => rfl
  have F18 := fun_mk (st := s_l_mul) l_l_mul c_l_mul k_l_mul
  have b18 := F18.binds (ps := ["left", "right"]) fun _ _ _ _ _ _ us hl => match us, hl with | [_, _], _ => rfl
  have F19 := fun_mk (st := s_l_div) l_l_div c_l_div k_l_div
  have b19 := F19.binds (ps := ["left", "right"]) fun _ _ _ _ _ _ us hl => match us, hl with | [_, _], _ => rfl
  have F20 := fun_mk (st := s_l_same) l_l_same c_l_same k_l_same
  have b20 := F20.binds (ps := ["actual", "due"]) fun _ _ _ _ _ _ us hl => match us, hl with | [_, _], _ => rfl
  have F21 := fun_mk (st := s_l_amount) l_l_amount c_l_amount k_l_amount
  have b21 := F21.binds (ps := ["state"]) fun _ _ _ _ _ _ us hl => match us, hl with | [_], _ => rfl
  have F22 := fun_mk (st := s_l_at) l_l_at c_l_at k_l_at
  have b22 := F22.binds (ps := ["turns", "dart"]) fun _ _ _ _ _ _ us hl => match us, hl with | [_, _], _ => rfl
  have F23 := fun_mk (st := s_l_face) l_l_face c_l_face k_l_face
  have b23 := F23.binds (ps := ["turns", "rim", "dart"]) fun _ _ _ _ _ _ us hl => match us, hl with | [_, _, _], _ => rfl
  have F24 := fun_mk (st := s_l_grow) l_l_grow c_l_grow k_l_grow
  have b24 := F24.binds (ps := ["state", "rim", "turns", "edges", "choice"]) fun _ _ _ _ _ _ us hl => match us, hl with | [_, _, _, _, _], _ => rfl
  have F25 := fun_mk (st := s_l_net) l_l_net c_l_net k_l_net
  have b25 := F25.binds (ps := ["state", "most_rim", "most_edges"]) fun _ _ _ _ _ _ us hl => match us, hl with | [_, _, _], _ => rfl
  have F26 := fun_mk (st := s_l_ends) l_l_ends c_l_ends k_l_ends
  have b26 := F26.binds (ps := ["net"]) fun _ _ _ _ _ _ us hl => match us, hl with | [_], _ => rfl
  have F27 := fun_mk (st := s_l_balance) l_l_balance c_l_balance k_l_balance
  have b27 := F27.binds (ps := ["net"]) fun _ _ _ _ _ _ us hl => match us, hl with | [_], _ => rfl
  have F28 := fun_mk (st := s_l_left) l_l_left c_l_left k_l_left
  have b28 := F28.binds (ps := ["rows", "kept"]) fun _ _ _ _ _ _ us hl => match us, hl with | [_, _], _ => rfl
  have F29 := fun_mk (st := s_l_due) l_l_due c_l_due k_l_due
  have b29 := F29.binds (ps := ["net", "first", "second"]) fun _ _ _ _ _ _ us hl => match us, hl with | [_, _, _], _ => rfl
  have F30 := fun_mk (st := s_law) l_law c_law k_law
  have b30 := F30.binds (ps := ["script"]) fun _ _ _ _ _ _ us hl => match us, hl with | [_], _ => rfl
  have T : Txt K mg { f_homes_of := f_homes_of, fd_homes_of := _, f_ends_of := f_ends_of, fd_ends_of := _, f_ratio := f_ratio, fd_ratio := _, f_plus := f_plus, fd_plus := _, f_times := f_times, fd_times := _, f_over := f_over, fd_over := _, f_total := f_total, fd_total := _, f_web_of := f_web_of, fd_web_of := _, f_web_from := f_web_from, fd_web_from := _, f_without := f_without, fd_without := _, f_thinned := f_thinned, fd_thinned := _, f_least_joined := f_least_joined, fd_least_joined := _, f_resistance := f_resistance, fd_resistance := _, f_l_pick := f_l_pick, fd_l_pick := _, f_l_gcd := f_l_gcd, fd_l_gcd := _, f_l_ratio := f_l_ratio, fd_l_ratio := _, f_l_add := f_l_add, fd_l_add := _, f_l_sub := f_l_sub, fd_l_sub := _, f_l_mul := f_l_mul, fd_l_mul := _, f_l_div := f_l_div, fd_l_div := _, f_l_same := f_l_same, fd_l_same := _, f_l_amount := f_l_amount, fd_l_amount := _, f_l_at := f_l_at, fd_l_at := _, f_l_face := f_l_face, fd_l_face := _, f_l_grow := f_l_grow, fd_l_grow := _, f_l_net := f_l_net, fd_l_net := _, f_l_ends := f_l_ends, fd_l_ends := _, f_l_balance := f_l_balance, fd_l_balance := _, f_l_left := f_l_left, fd_l_left := _, f_l_due := f_l_due, fd_l_due := _, f_law := fa, fd_law := _, C_RimError := C_RimError, C_RatioError := C_RatioError, z_ZERO := z_ZERO, z_ONE := z_ONE } := { g_homes_of := PySem.W.mg_of X G a_homes_of, F_homes_of := F0, b_homes_of := b0, g_ends_of := PySem.W.mg_of X G a_ends_of, F_ends_of := F1, b_ends_of := b1, g_ratio := PySem.W.mg_of X G a_ratio, F_ratio := F2, b_ratio := b2, g_plus := PySem.W.mg_of X G a_plus, F_plus := F3, b_plus := b3, g_times := PySem.W.mg_of X G a_times, F_times := F4, b_times := b4, g_over := PySem.W.mg_of X G a_over, F_over := F5, b_over := b5, g_total := PySem.W.mg_of X G a_total, F_total := F6, b_total := b6, g_web_of := PySem.W.mg_of X G a_web_of, F_web_of := F7, b_web_of := b7, g_web_from := PySem.W.mg_of X G a_web_from, F_web_from := F8, b_web_from := b8, g_without := PySem.W.mg_of X G a_without, F_without := F9, b_without := b9, g_thinned := PySem.W.mg_of X G a_thinned, F_thinned := F10, b_thinned := b10, g_least_joined := PySem.W.mg_of X G a_least_joined, F_least_joined := F11, b_least_joined := b11, g_resistance := PySem.W.mg_of X G a_resistance, F_resistance := F12, b_resistance := b12, g_l_pick := PySem.W.mg_of X G a_l_pick, F_l_pick := F13, b_l_pick := b13, g_l_gcd := PySem.W.mg_of X G a_l_gcd, F_l_gcd := F14, b_l_gcd := b14, g_l_ratio := PySem.W.mg_of X G a_l_ratio, F_l_ratio := F15, b_l_ratio := b15, g_l_add := PySem.W.mg_of X G a_l_add, F_l_add := F16, b_l_add := b16, g_l_sub := PySem.W.mg_of X G a_l_sub, F_l_sub := F17, b_l_sub := b17, g_l_mul := PySem.W.mg_of X G a_l_mul, F_l_mul := F18, b_l_mul := b18, g_l_div := PySem.W.mg_of X G a_l_div, F_l_div := F19, b_l_div := b19, g_l_same := PySem.W.mg_of X G a_l_same, F_l_same := F20, b_l_same := b20, g_l_amount := PySem.W.mg_of X G a_l_amount, F_l_amount := F21, b_l_amount := b21, g_l_at := PySem.W.mg_of X G a_l_at, F_l_at := F22, b_l_at := b22, g_l_face := PySem.W.mg_of X G a_l_face, F_l_face := F23, b_l_face := b23, g_l_grow := PySem.W.mg_of X G a_l_grow, F_l_grow := F24, b_l_grow := b24, g_l_net := PySem.W.mg_of X G a_l_net, F_l_net := F25, b_l_net := b25, g_l_ends := PySem.W.mg_of X G a_l_ends, F_l_ends := F26, b_l_ends := b26, g_l_balance := PySem.W.mg_of X G a_l_balance, F_l_balance := F27, b_l_balance := b27, g_l_left := PySem.W.mg_of X G a_l_left, F_l_left := F28, b_l_left := b28, g_l_due := PySem.W.mg_of X G a_l_due, F_l_due := F29, b_l_due := b29, g_law := PySem.W.mg_of X G a_law, F_law := F30, b_law := b30, g_RimError := PySem.W.mg_of X G a_RimError, x_RimError := x_RimError, k_RimError := k_RimError, bb_RimError := bb_RimError, t_RimError := t_RimError, d_RimError := d_RimError, hg_RimError := hg_RimError, hk_RimError := hk_RimError, ha_RimError := ha_RimError, hm_RimError := hm_RimError, v_RimError := v_RimError, i_RimError_RimError := i_RimError_RimError, e_RimError_RimError := e_RimError_RimError, i_RatioError_RimError := i_RatioError_RimError, e_RatioError_RimError := e_RatioError_RimError, g_RatioError := PySem.W.mg_of X G a_RatioError, x_RatioError := x_RatioError, k_RatioError := k_RatioError, bb_RatioError := bb_RatioError, t_RatioError := t_RatioError, d_RatioError := d_RatioError, hg_RatioError := hg_RatioError, hk_RatioError := hk_RatioError, ha_RatioError := ha_RatioError, hm_RatioError := hm_RatioError, v_RatioError := v_RatioError, i_RimError_RatioError := i_RimError_RatioError, e_RimError_RatioError := e_RimError_RatioError, i_RatioError_RatioError := i_RatioError_RatioError, e_RatioError_RatioError := e_RatioError_RatioError, c_ZERO := PySem.W.mg_of X G a_ZERO, q_ZERO := fun _ => .inr ⟨_, _, _, l_ZERO, rfl, rfl, (by show 2 ≤ sizeLine; decide), (.cons ⟨_, rfl⟩ (.cons ⟨_, rfl⟩ (.nil)))⟩, c_ONE := PySem.W.mg_of X G a_ONE, q_ONE := fun _ => .inr ⟨_, _, _, l_ONE, rfl, rfl, (by show 2 ≤ sizeLine; decide), (.cons ⟨_, rfl⟩ (.cons ⟨_, rfl⟩ (.nil)))⟩, n_abs := PySem.W.mg_none_of X G n_abs, n_all := PySem.W.mg_none_of X G n_all, n_bool := PySem.W.mg_none_of X G n_bool, n_enumerate := PySem.W.mg_none_of X G n_enumerate, n_int := PySem.W.mg_none_of X G n_int, n_isinstance := PySem.W.mg_none_of X G n_isinstance, n_len := PySem.W.mg_none_of X G n_len, n_list := PySem.W.mg_none_of X G n_list, n_min := PySem.W.mg_none_of X G n_min, n_range := PySem.W.mg_none_of X G n_range, n_str := PySem.W.mg_none_of X G n_str, n_tuple := PySem.W.mg_none_of X G n_tuple, n_zip := PySem.W.mg_none_of X G n_zip, g_combinations := PySem.W.mg_of X G g_combinations, g_gcd := PySem.W.mg_of X G g_gcd, hn_ := hn_, ht_ := ht_ }
  have hcode := hlj _ _ _ (PySem.W.mg_of X G a_least_joined) (X _ _ l_least_joined) rfl
  exact ⟨_, fun s v => .of_eq rfl, fun base _ _ TB => ok_law T hcode TB⟩
end K08
open PySem PySem.W PyProof.Rows
set_option maxRecDepth 100000 in
set_option maxHeartbeats 0 in
theorem PySem.Challenge.cw_rimohms_k08_resistances_holds : PySem.Challenge.rw_rimohms_k08_resistances.Holds := by
  w_on; o_law; k_head; (case hw => w_witness2)
  refine Rz.walk_T (l := PySem.Challenge.rw_rimohms_k08_resistances) (n := 63) (k := 11) (x := "script") (nm := "least_joined") (sp := (fun K P => Rz.spLawI K (LamX.Tabs (Rz.tbT P)))) rfl (by decide) rfl ⟨rfl, by decide, by decide⟩ (fun w h Y => PySem.W.km_in_of Y) ?hfr (by decide +kernel) ?F (fun K P H a ns hl hP hS => ⟨a, ns, rfl, hS, hl, (fun p hp => by rw [List.mem_singleton.mp hp]; exact LamX.TabS.nil hP), fun _ => rfl⟩)
  case hfr => exact fun _ => by kernel_rfl
  case F =>
    intro w mg fa h KX G hmg c P hlj
    refine' K08.all_mk KX G hmg hlj ?a_homes_of ?l_homes_of ?c_homes_of ?k_homes_of ?a_ends_of ?l_ends_of ?c_ends_of ?k_ends_of ?a_ratio ?l_ratio ?c_ratio ?k_ratio ?a_plus ?l_plus ?c_plus ?k_plus ?a_times ?l_times ?c_times ?k_times ?a_over ?l_over ?c_over ?k_over ?a_total ?l_total ?c_total ?k_total ?a_web_of ?l_web_of ?c_web_of ?k_web_of ?a_web_from ?l_web_from ?c_web_from ?k_web_from ?a_without ?l_without ?c_without ?k_without ?a_thinned ?l_thinned ?c_thinned ?k_thinned ?a_least_joined ?l_least_joined ?c_least_joined ?k_least_joined ?a_resistance ?l_resistance ?c_resistance ?k_resistance ?a_l_pick ?l_l_pick ?c_l_pick ?k_l_pick ?a_l_gcd ?l_l_gcd ?c_l_gcd ?k_l_gcd ?a_l_ratio ?l_l_ratio ?c_l_ratio ?k_l_ratio ?a_l_add ?l_l_add ?c_l_add ?k_l_add ?a_l_sub ?l_l_sub ?c_l_sub ?k_l_sub ?a_l_mul ?l_l_mul ?c_l_mul ?k_l_mul ?a_l_div ?l_l_div ?c_l_div ?k_l_div ?a_l_same ?l_l_same ?c_l_same ?k_l_same ?a_l_amount ?l_l_amount ?c_l_amount ?k_l_amount ?a_l_at ?l_l_at ?c_l_at ?k_l_at ?a_l_face ?l_l_face ?c_l_face ?k_l_face ?a_l_grow ?l_l_grow ?c_l_grow ?k_l_grow ?a_l_net ?l_l_net ?c_l_net ?k_l_net ?a_l_ends ?l_l_ends ?c_l_ends ?k_l_ends ?a_l_balance ?l_l_balance ?c_l_balance ?k_l_balance ?a_l_left ?l_l_left ?c_l_left ?k_l_left ?a_l_due ?l_l_due ?c_l_due ?k_l_due ?a_law ?l_law ?c_law ?k_law ?a_RimError ?x_RimError ?k_RimError ?bb_RimError ?t_RimError ?d_RimError ?hg_RimError ?hk_RimError ?ha_RimError ?hm_RimError ?v_RimError ?i_RimError_RimError ?e_RimError_RimError ?i_RatioError_RimError ?e_RatioError_RimError ?a_RatioError ?x_RatioError ?k_RatioError ?bb_RatioError ?t_RatioError ?d_RatioError ?hg_RatioError ?hk_RatioError ?ha_RatioError ?hm_RatioError ?v_RatioError ?i_RimError_RatioError ?e_RimError_RatioError ?i_RatioError_RatioError ?e_RatioError_RatioError ?hn_ ?ht_ ?a_ZERO ?l_ZERO ?a_ONE ?l_ONE ?n_abs ?n_all ?n_bool ?n_enumerate ?n_int ?n_isinstance ?n_len ?n_list ?n_min ?n_range ?n_str ?n_tuple ?n_zip ?g_combinations ?g_gcd
    (case a_RimError => first | k_is | rfl)
    (case a_RatioError => first | k_is | rfl)
    (case a_homes_of => first | k_is | rfl)
    (case l_homes_of => first | k_is | rfl)
    (case c_homes_of => first | k_is | rfl)
    (case k_homes_of => first | k_is | rfl)
    (case a_ends_of => first | k_is | rfl)
    (case l_ends_of => first | k_is | rfl)
    (case c_ends_of => first | k_is | rfl)
    (case k_ends_of => first | k_is | rfl)
    (case a_ratio => first | k_is | rfl)
    (case l_ratio => first | k_is | rfl)
    (case c_ratio => first | k_is | rfl)
    (case k_ratio => first | k_is | rfl)
    (case a_plus => first | k_is | rfl)
    (case l_plus => first | k_is | rfl)
    (case c_plus => first | k_is | rfl)
    (case k_plus => first | k_is | rfl)
    (case a_times => first | k_is | rfl)
    (case l_times => first | k_is | rfl)
    (case c_times => first | k_is | rfl)
    (case k_times => first | k_is | rfl)
    (case a_over => first | k_is | rfl)
    (case l_over => first | k_is | rfl)
    (case c_over => first | k_is | rfl)
    (case k_over => first | k_is | rfl)
    (case a_total => first | k_is | rfl)
    (case l_total => first | k_is | rfl)
    (case c_total => first | k_is | rfl)
    (case k_total => first | k_is | rfl)
    (case a_web_of => first | k_is | rfl)
    (case l_web_of => first | k_is | rfl)
    (case c_web_of => first | k_is | rfl)
    (case k_web_of => first | k_is | rfl)
    (case a_web_from => first | k_is | rfl)
    (case l_web_from => first | k_is | rfl)
    (case c_web_from => first | k_is | rfl)
    (case k_web_from => first | k_is | rfl)
    (case a_without => first | k_is | rfl)
    (case l_without => first | k_is | rfl)
    (case c_without => first | k_is | rfl)
    (case k_without => first | k_is | rfl)
    (case a_thinned => first | k_is | rfl)
    (case l_thinned => first | k_is | rfl)
    (case c_thinned => first | k_is | rfl)
    (case k_thinned => first | k_is | rfl)
    (case a_least_joined => first | k_is | rfl)
    (case l_least_joined => first | k_is | rfl)
    (case c_least_joined => first | k_is | rfl)
    (case k_least_joined => first | k_is | rfl)
    (case a_resistance => first | k_is | rfl)
    (case l_resistance => first | k_is | rfl)
    (case c_resistance => first | k_is | rfl)
    (case k_resistance => first | k_is | rfl)
    (case a_l_pick => first | k_is | rfl)
    (case l_l_pick => first | k_is | rfl)
    (case c_l_pick => first | k_is | rfl)
    (case k_l_pick => first | k_is | rfl)
    (case a_l_gcd => first | k_is | rfl)
    (case l_l_gcd => first | k_is | rfl)
    (case c_l_gcd => first | k_is | rfl)
    (case k_l_gcd => first | k_is | rfl)
    (case a_l_ratio => first | k_is | rfl)
    (case l_l_ratio => first | k_is | rfl)
    (case c_l_ratio => first | k_is | rfl)
    (case k_l_ratio => first | k_is | rfl)
    (case a_l_add => first | k_is | rfl)
    (case l_l_add => first | k_is | rfl)
    (case c_l_add => first | k_is | rfl)
    (case k_l_add => first | k_is | rfl)
    (case a_l_sub => first | k_is | rfl)
    (case l_l_sub => first | k_is | rfl)
    (case c_l_sub => first | k_is | rfl)
    (case k_l_sub => first | k_is | rfl)
    (case a_l_mul => first | k_is | rfl)
    (case l_l_mul => first | k_is | rfl)
    (case c_l_mul => first | k_is | rfl)
    (case k_l_mul => first | k_is | rfl)
    (case a_l_div => first | k_is | rfl)
    (case l_l_div => first | k_is | rfl)
    (case c_l_div => first | k_is | rfl)
    (case k_l_div => first | k_is | rfl)
    (case a_l_same => first | k_is | rfl)
    (case l_l_same => first | k_is | rfl)
    (case c_l_same => first | k_is | rfl)
    (case k_l_same => first | k_is | rfl)
    (case a_l_amount => first | k_is | rfl)
    (case l_l_amount => first | k_is | rfl)
    (case c_l_amount => first | k_is | rfl)
    (case k_l_amount => first | k_is | rfl)
    (case a_l_at => first | k_is | rfl)
    (case l_l_at => first | k_is | rfl)
    (case c_l_at => first | k_is | rfl)
    (case k_l_at => first | k_is | rfl)
    (case a_l_face => first | k_is | rfl)
    (case l_l_face => first | k_is | rfl)
    (case c_l_face => first | k_is | rfl)
    (case k_l_face => first | k_is | rfl)
    (case a_l_grow => first | k_is | rfl)
    (case l_l_grow => first | k_is | rfl)
    (case c_l_grow => first | k_is | rfl)
    (case k_l_grow => first | k_is | rfl)
    (case a_l_net => first | k_is | rfl)
    (case l_l_net => first | k_is | rfl)
    (case c_l_net => first | k_is | rfl)
    (case k_l_net => first | k_is | rfl)
    (case a_l_ends => first | k_is | rfl)
    (case l_l_ends => first | k_is | rfl)
    (case c_l_ends => first | k_is | rfl)
    (case k_l_ends => first | k_is | rfl)
    (case a_l_balance => first | k_is | rfl)
    (case l_l_balance => first | k_is | rfl)
    (case c_l_balance => first | k_is | rfl)
    (case k_l_balance => first | k_is | rfl)
    (case a_l_left => first | k_is | rfl)
    (case l_l_left => first | k_is | rfl)
    (case c_l_left => first | k_is | rfl)
    (case k_l_left => first | k_is | rfl)
    (case a_l_due => first | k_is | rfl)
    (case l_l_due => first | k_is | rfl)
    (case c_l_due => first | k_is | rfl)
    (case k_l_due => first | k_is | rfl)
    (case a_law => first | k_is | rfl)
    (case l_law => first | k_is | rfl)
    (case c_law => first | k_is | rfl)
    (case k_law => first | k_is | rfl)
    (case x_RimError => k_exc)
    (case k_RimError => first | k_is | rfl)
    (case bb_RimError => first | k_is | rfl)
    (case t_RimError => first | k_is | rfl)
    (case d_RimError => first | k_is | rfl)
    (case hg_RimError => first | k_is | rfl)
    (case hk_RimError => first | k_is | rfl)
    (case ha_RimError => first | k_is | rfl)
    (case hm_RimError => first | k_is | rfl)
    (case v_RimError => first | k_is | rfl)
    (case i_RimError_RimError => first | k_is | rfl)
    (case e_RimError_RimError => first | k_is | rfl)
    (case i_RatioError_RimError => first | k_is | rfl)
    (case e_RatioError_RimError => first | k_is | rfl)
    (case x_RatioError => k_exc)
    (case k_RatioError => first | k_is | rfl)
    (case bb_RatioError => first | k_is | rfl)
    (case t_RatioError => first | k_is | rfl)
    (case d_RatioError => first | k_is | rfl)
    (case hg_RatioError => first | k_is | rfl)
    (case hk_RatioError => first | k_is | rfl)
    (case ha_RatioError => first | k_is | rfl)
    (case hm_RatioError => first | k_is | rfl)
    (case v_RatioError => first | k_is | rfl)
    (case i_RimError_RatioError => first | k_is | rfl)
    (case e_RimError_RatioError => first | k_is | rfl)
    (case i_RatioError_RatioError => first | k_is | rfl)
    (case e_RatioError_RatioError => first | k_is | rfl)
    (case hn_ => first | k_is | rfl)
    (case ht_ => first | k_is | rfl)
    (case a_ZERO => first | k_is | rfl)
    (case l_ZERO => first | k_is | rfl)
    (case a_ONE => first | k_is | rfl)
    (case l_ONE => first | k_is | rfl)
    (case n_abs => first | k_is | rfl)
    (case n_all => first | k_is | rfl)
    (case n_bool => first | k_is | rfl)
    (case n_enumerate => first | k_is | rfl)
    (case n_int => first | k_is | rfl)
    (case n_isinstance => first | k_is | rfl)
    (case n_len => first | k_is | rfl)
    (case n_list => first | k_is | rfl)
    (case n_min => first | k_is | rfl)
    (case n_range => first | k_is | rfl)
    (case n_str => first | k_is | rfl)
    (case n_tuple => first | k_is | rfl)
    (case n_zip => first | k_is | rfl)
    (case g_combinations => first | k_is | rfl)
    (case g_gcd => first | k_is | rfl)
#print axioms PySem.Challenge.cw_rimohms_k08_resistances_holds
