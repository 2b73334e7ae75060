import PyProof.Rows.All
import Wide.All
import OpenK.AllK
import Wide.FinOn
import HandS.ForMost
import HandS.ForExc
import HandS.Gcd
import HandS.Wide
import HandS.IsInst
import HandS.ExcIs
import HandS.CallLocal
import HandS.CallSlots
import HandS.More
import HandS.DictComp
import KE.GoesEnumKw
import HandS.TupAny
import HandS.Small
import HandS.Text
import HandS.Star
import HandS.Sort
import HandS.SortInts
import HandS.ExcValue
import HandS.RaiseMore
import HandS.FStr
import KE.KSetDisp
import HandS.TupSets
import HandS.SetIn
import KE.KDictZip
import KE.KTurns
import PySem.Challenge.RW_rimohms_k17_stars
set_option Elab.async false
set_option linter.all false
set_option maxRecDepth 100000
set_option maxHeartbeats 8000000
namespace Rz
open PySem PySem.Spec PyProof.Rows L2

/-! ### numbers -/
def CMulB (i j : Int) : Prop := ∃ a b : Nat, i.natAbs < 2 ^ a ∧ j.natAbs < 2 ^ b ∧ a + b ≤ 100000000
theorem CMulB.ok {i j : Int} (h : CMulB i j) : IntMulOk i j := by
  obtain ⟨a, b, h1, h2, h3⟩ := h
  have key : ∀ (x : Int) (n : Nat), x.natAbs < 2 ^ n → Builtin.Int.intBits x ≤ n := fun x n hx => by
    unfold Builtin.Int.intBits
    split
    · omega
    · rename_i h0
      have hne : x.natAbs ≠ 0 := fun z => h0 (by
        have : x = 0 := Int.natAbs_eq_zero.mp z
        rw [this]
        rfl)
      have := (Nat.log2_lt hne).mpr hx
      omega
  have k1 := key i a h1
  have k2 := key j b h2
  have e : bitsLine = 134217728 := by decide
  unfold IntMulOk
  intro z
  rw [Bool.and_eq_true] at z
  have z2 := z.2
  unfold Builtin.Int.intTooBig at z2
  have z3 := of_decide_eq_true z2
  rw [e] at z3
  omega
section
variable {X : Cx}
theorem op_mulB : OpR X (binaryOp .Mult) (rI CMulB fun i j => .int (i * j)) := opI fun _ _ _ _ _ _ _ hc q => mul_int q hc.ok
/-- // by a divisor of less than 9000 bits, of either sign -/
def CDivZ (_ j : Int) : Prop := j ≠ 0 ∧ j.natAbs < 2 ^ 9000
theorem op_fdivZ : OpR X (binaryOp .FloorDiv) (rI CDivZ fun i j => .int (i.fdiv j)) := opI fun i j _ _ _ _ _ hc q =>
  floordiv_int hc.1 q (.inl (PyProof.noPylong_of_log2 ((Nat.log2_lt (fun z => hc.1 (Int.natAbs_eq_zero.mp z))).mpr hc.2)))
end

/-! ### a statement, then the rest, with a word between them -/
def tCutZ (t u : TS) : TS := fun D σ H => ∃ Mid : L2.St → Hp → Prop, t { D with nx := Mid } σ H ∧ ∀ σ' H', Mid σ' H' → u D σ' H'
section
variable {X : Cx}
theorem pss_cutZ {st : Stmt} {rest : List Stmt} {t u : TS} (h1 : PS X st t) (h2 : PSs X rest u) : PSs X (st :: rest) (tCutZ t u) := by
  refine ⟨fun pins s σ H D I h => ?_⟩
  obtain ⟨Mid, hm, hu⟩ := h
  refine wpAny_execs_cons (thn (h1.run pins s σ H { D with nx := Mid } I hm) fun f s1 q => ?_)
  cases f with
  | next =>
    obtain ⟨σ', H', I', q⟩ := q
    exact h2.run pins s1 σ' H' D I' (hu σ' H' q)
  | ret v => exact q
  | brk => exact q
  | cont => exact q
end
theorem g_cut {t u : TS} {D : Ends} {σ : L2.St} {H : Hp} (Mid : L2.St → Hp → Prop) (h1 : t { D with nx := Mid } σ H) (h2 : ∀ σ' H', Mid σ' H' → u D σ' H') : tCutZ t u D σ H := ⟨Mid, h1, h2⟩
/-! ### built-in calls by named relations -/
def rInt1 : List V → Hp → VK → Prop := fun xs H Q => (∃ i, xs = [.int i] ∧ Q (.int i) H) ∨ ∃ k, xs = [.bl k] ∧ Q (.int (if k then 1 else 0)) H
def rAbs : List V → Hp → VK → Prop := fun xs H Q => ∃ i, xs = [.int i] ∧ Q (.int (if i < 0 then -i else i)) H
def rLenQ (K : PySem.W.Frag) : List V → Hp → VK → Prop := fun xs H Q => ∃ p ys, xs = [.ref p] ∧ (SqL K H p ys ∨ SqT K H p ys) ∧ Q (.int ys.length) H
def rListOf (K : PySem.W.Frag) : List V → Hp → VK → Prop := fun xs H Q => ∃ p ys, xs = [.ref p] ∧ (SqL K H p ys ∨ SqT K H p ys) ∧ ∀ l, H l = none → Q (.ref l) (upd H l (.lst ys))
def rTupleOf (K : PySem.W.Frag) : List V → Hp → VK → Prop := fun xs H Q => ∃ p ys, xs = [.ref p] ∧ ((SqL K H p ys ∧ ∀ l, H l = none → Q (.ref l) (upd H l (.tup ys))) ∨ (SqT K H p ys ∧ Q (.ref p) H))
def rIsNz : R2 := fun x y H Q => y = .non ∧ Q (.bl (decide (x = .non))) H
def rNotNz : R2 := fun x y H Q => y = .non ∧ Q (.bl (!decide (x = .non))) H
section
variable {X : Cx}
theorem zo_isN : OpR X (compareOp .Is) rIsNz := op_isN
theorem zo_notN : OpR X (compareOp .IsNot) rNotNz := op_notN
end
def rNewT (Q : VK) : List V → Hp → Prop := fun xs H1 => xs.length ≤ sizeLine ∧ ∀ p, H1 p = none → Q (.ref p) (upd H1 p (.tup xs))
def rNewL (Q : VK) : List V → Hp → Prop := fun xs H1 => xs.length ≤ sizeLine ∧ ∀ p, H1 p = none → Q (.ref p) (upd H1 p (.lst xs))
/-- a call of a local name that holds a def, where what is raised is wished for -/
def tCallLS (i : Nat) (f : Addr) (sp : Sp) (E : L2.St → XK) (t : TA) : TE := fun σ H Q => σ[i]? = some (some (.ref f)) ∧ t σ H fun vs H1 => sp vs H1 Q (E σ)
section
variable {X : Cx} {CX : CXT} {k i : Nat} {f : Addr} {fd : FuncData} {ps : List Str} {sp : Sp} {E : L2.St → XK} {x : Str} {p pos : Pos} {e : Expr} {es : List Expr} {t : TA}
theorem pe_callLS (F : FnOk X.prog X.w X.K X.mg X.base CX k f fd ps sp) (hr : Room k X.A) (hN : X.N[i]? = some x) (hv : Vis X.env.scope x) (hk : PySem.W.keepIn X.K (.ref f) = true) (hb : L2.Binds X.K fd ps []) (hx : ∀ σ, PassesAt CX X σ (E σ)) (ha : PA X (e :: es) t)
    (hdb : (x == ("__debug__" : Str)) = false := by decide) (hcd : (x == ("__classdict__" : Str)) = false := by decide)
    (he : starEach (e :: es) X.env = (false, eval e X.env) :: starEach es X.env := by rfl) (hpl : (backTo pos (starEach es X.env)).any (·.1) = false := by rfl) : PE X (.Call (.Name x p) (e :: es) [] pos) (tCallLS i f sp E t) := by
  refine ⟨fun pins s σ H Q I h => ?_⟩
  obtain ⟨hs, ht⟩ := h
  refine wpAny_Call_Name_kw (thn ((pe_var (pos := p) hN hv hdb hcd).run pins s σ H (fun v H1 => v = .ref f ∧ H1 = H) I ⟨.ref f, hs, rfl, rfl⟩) fun u s1 ⟨v, H1, I1, r1, q1⟩ => ?_)
  obtain ⟨rfl, rfl⟩ := q1
  cases r1
  refine PySem.W.callWith_K (h₀ := X.base) I.ok.mod.kin hk (thn (ha.run pos pins s1 σ _ _ I1 ht) fun us s2 ⟨vs, H2, I2, r, q⟩ => ⟨I2.kIn, ?_⟩) he hpl
  exact run_fnS F hr hb (hx σ) I2 r q
end
/-- isinstance(e, c), e the exception that a suite holds -/
def rIsEG (K : PySem.W.Frag) (cls : Value) (d : Option Addr) (a : Addr) : List V → Hp → VK → Prop := fun xs H Q => ∃ D, cls = .ref D ∧ d = none ∧ ExcC K D ∧ rIsE K D a xs H Q
theorem call_isEG {X : Cx} {a : Addr} {oe : Obj} {cls : Value} {d : Option Addr} {pn : List (Addr × Obj)} (hz : Zc cls d oe) (hf : ∃ vs, oe.data = .fields vs) : CallR (X.suite a ((a, oe) :: pn)) (.builtin "isinstance") (rIsEG X.K cls d a) := by
  intro pins s σ H xs us Q I r h
  obtain ⟨D, rfl, rfl, C, h⟩ := h
  exact call_isE C hz hf pins s σ H xs us Q I r h
def rTwo (P : V → V → Hp → Prop) : List V → Hp → Prop := fun vs H1 => ∃ v w, vs = [v, w] ∧ P v w H1
section
variable {X : Cx}
theorem zc_int : CallR X (.type "int") rInt1 := call_int1
theorem zc_abs : CallR X (.builtin "abs") rAbs := call_abs
theorem zc_len : CallR X (.builtin "len") (rLenQ X.K) := call_len_seq
theorem zc_list : CallR X (.type "list") (rListOf X.K) := call_list_of
theorem zc_tuple : CallR X (.type "tuple") (rTupleOf X.K) := call_tuple_of
end
/-! ### rules with the written part by name -/
section
variable {X : Cx} {K : PySem.W.Frag}
theorem ix_tupK (h : X.K = K) : IxR X (rIxT K) := h ▸ ix_tup
theorem ix_listK (h : X.K = K) : IxR X (rIxL K) := h ▸ ix_list
theorem zc_lenK (h : X.K = K) : CallR X (.builtin "len") (rLenQ K) := h ▸ zc_len
theorem zc_listK (h : X.K = K) : CallR X (.type "list") (rListOf K) := h ▸ zc_list
theorem zc_tupleK (h : X.K = K) : CallR X (.type "tuple") (rTupleOf K) := h ▸ zc_tuple
theorem call_isiK' (h : X.K = K) : CallR X (.builtin "isinstance") (rIsi K) := h ▸ call_isi
theorem cr_allK (h : X.K = K) (hc : X.calm = true) : CallR X (.builtin "all") (rAll K) := h ▸ cr_all hc
theorem cr_anyK (h : X.K = K) (hc : X.calm = true) : CallR X (.builtin "any") (rAny K) := h ▸ cr_any hc
theorem sl_tupK (h : X.K = K) : SlR X (rSlT K) := h ▸ sl_tup
theorem sl_listK (h : X.K = K) : SlR X (rSlL K) := h ▸ sl_list
theorem op_catTK (h : X.K = K) : OpR X (binaryOp .Add) (rCatT K) := h ▸ op_catT
theorem op_inK (h : X.K = K) : OpR X (compareOp .In) (rIn K false) := h ▸ op_in_seq
theorem op_ninK (h : X.K = K) : OpR X (compareOp .NotIn) (rIn K true) := h ▸ op_notIn_seq
theorem op_eqDK (h : X.K = K) (hu : X.A.units + 64 < cLine) : OpR X (compareOp .Eq) (rEqD K) := h ▸ op_eqD hu
theorem op_neDK (h : X.K = K) (hu : X.A.units + 64 < cLine) : OpR X (compareOp .NotEq) (rNeD K) := h ▸ op_neD hu
theorem mt_indexK (h : X.K = K) : MtR X "list.index" (rIndex K) := h ▸ mt_index
theorem pi_listK {tg l : Expr} {tl : TE} (h : X.K = K) (hl : PE X l tl) : PI X tg l (iList K tl) := h ▸ pi_list hl
theorem pi_tupK {tg l : Expr} {tl : TE} (h : X.K = K) (hl : PE X l tl) : PI X tg l (iTup K tl) := h ▸ pi_tup hl
theorem pg_lstK {pos : Pos} {es : List Expr} {k : Nat} {t : TGs} {n : Nat} (hK : X.K = K) (hc : X.calm = true) (h : PGs X es t) (hn : (assignEach es X.env).length = n := by rfl) (hst : (assignEach es X.env).findIdx? (·.1) = none := by rfl) : PG X (.Tuple es k pos) (gLst K n t) := hK ▸ pg_lst hc h hn hst
theorem pg_tupK {pos : Pos} {es : List Expr} {k : Nat} {t : TGs} {n : Nat} (hK : X.K = K) (hc : X.calm = true) (h : PGs X es t) (hn : (assignEach es X.env).length = n := by rfl) (hst : (assignEach es X.env).findIdx? (·.1) = none := by rfl) : PG X (.Tuple es k pos) (gTup K n t) := hK ▸ pg_tup hc h hn hst
end
/-! ### steps: the head of a reading -/
section
variable {t u : TS} {D : Ends} {σ : L2.St} {H : Hp} {te ta tb : TE} {g : TG} {i : Nat} {v x y : V} {Q : VK} {r : R2} {tt c : TT} {tas : TA}
theorem g_seq (h : t { D with nx := u D } σ H) : tSeq t u D σ H := h
theorem g_asg (h : te σ H fun x H1 => g x σ H1 D.nx) : tAsg te g D σ H := h
theorem g_name {Q : L2.St → Hp → Prop} (h : Q (σ.set i (some v)) H) : gName i v σ H Q := h
theorem g_var (e : σ[i]? = some (some v)) (h : Q v H) : tVar i σ H Q := ⟨v, e, h⟩
theorem g_c (h : Q v H) : tC v σ H Q := h
theorem g_op (h : ta σ H fun x H1 => tb σ H1 fun y H2 => r x y H2 Q) : tOp r ta tb σ H Q := h
theorem g_un {r : V → Hp → VK → Prop} (h : ta σ H fun x H1 => r x H1 Q) : tUn r ta σ H Q := h
theorem g_I {C : Int → Int → Prop} {f : Int → Int → V} {a b : Int} (hc : C a b) (h : Q (f a b) H) : rI C f (.int a) (.int b) H Q := ⟨a, b, rfl, rfl, hc, h⟩
theorem g_I0 {f : Int → Int → V} {a b : Int} (h : Q (f a b) H) : rI0 f (.int a) (.int b) H Q := ⟨a, b, rfl, rfl, h⟩
theorem g_U {f : Int → V} {a : Int} (h : Q (f a) H) : rU f (.int a) H Q := ⟨a, rfl, h⟩
theorem g_ret (h : te σ H D.rt) : tRet te D σ H := h
theorem g_drop (h : te σ H fun _ H1 => D.nx σ H1) : tDrop te D σ H := h
theorem g_next (h : D.nx σ H) : tNext D σ H := h
theorem g_ifs (h : c σ H fun b H1 => if b = true then t D σ H1 else u D σ H1) : tIfS c t u D σ H := h
theorem g_test {Q : Bool → Hp → Prop} (h : te σ H fun x H' => ∃ k, x = .bl k ∧ Q k H') : tTest te σ H Q := h
theorem g_B {Q : Bool → Hp → Prop} (h : te σ H fun x H' => ∃ k, x = .bl k ∧ Q k H') : tB te σ H Q := h
theorem g_bl {P : Bool → Prop} {b : Bool} (h : P b) : ∃ k, V.bl b = .bl k ∧ P k := ⟨b, rfl, h⟩
theorem g_and {a b : TT} {Q : Bool → Hp → Prop} (h : a σ H fun c H1 => if c = true then b σ H1 Q else Q false H1) : tAnd a b σ H Q := h
theorem g_or {a b : TT} {Q : Bool → Hp → Prop} (h : a σ H fun c H1 => if c = true then Q true H1 else b σ H1 Q) : tOr a b σ H Q := h
theorem g_not {a : TT} {Q : Bool → Hp → Prop} (h : a σ H fun c H1 => Q (!c) H1) : tNot a σ H Q := h
theorem g_andV (h : ta σ H fun x H1 => ∃ c, x = .bl c ∧ if c = true then tb σ H1 Q else Q (.bl false) H1) : tAndV ta tb σ H Q := h
theorem g_orV (h : ta σ H fun x H1 => ∃ c, x = .bl c ∧ if c = true then Q (.bl true) H1 else tb σ H1 Q) : tOrV ta tb σ H Q := h
theorem g_notV (h : ta σ H fun x H1 => ∃ c, x = .bl c ∧ Q (.bl (!c)) H1) : tNotV ta σ H Q := h
theorem g_ifE (h : tt σ H fun c H1 => if c = true then ta σ H1 Q else tb σ H1 Q) : tIf tt ta tb σ H Q := h
theorem g_call {sp : Sp} {dvs : List V} {E : XK} (h : tas σ H fun vs H1 => sp (vs ++ dvs) H1 Q E) : tCall sp dvs E tas σ H Q := h
theorem g_cb {r : List V → Hp → VK → Prop} (h : tas σ H fun vs H1 => r vs H1 Q) : tCB r tas σ H Q := h
theorem g_nil {Q : List V → Hp → Prop} (h : Q [] H) : tNil σ H Q := h
theorem g_cons {tr : TA} {Q : List V → Hp → Prop} (h : ta σ H fun x H1 => tr σ H1 fun xs H2 => Q (x :: xs) H2) : tCons ta tr σ H Q := h
theorem g_tup (h : tas σ H (rNewT Q)) : tTup tas σ H Q := h
theorem g_lst (h : tas σ H (rNewL Q)) : tLst tas σ H Q := h
theorem g_par {i j : Nat} (h : tas σ H (rTwo fun v w H1 => D.nx ((σ.set i (some v)).set j (some w)) H1)) : tPar i j tas D σ H := h
theorem g_two {P : V → V → Hp → Prop} {a b : V} (h : P a b H) : rTwo P [a, b] H := ⟨a, b, rfl, h⟩
theorem g_isN (h : Q (.bl (decide (x = .non))) H) : rIsNz x .non H Q := ⟨rfl, h⟩
theorem g_notN (h : Q (.bl (!decide (x = .non))) H) : rNotNz x .non H Q := ⟨rfl, h⟩
theorem g_isi {K : PySem.W.Frag} {a b' : String} {b : Bool} (ty : TyX K H x (.type a)) (e : kitB a b' = some b) (h : Q (.bl b) H) : rIsi K [x, .ty b'] H Q := ⟨x, .ty b', .type a, .type b', b, rfl, .ty b', ty, kit_ty e, h⟩
theorem g_isE {K : PySem.W.Frag} {D a : Addr} {c : V} {cv : Value} {b : Bool} (C : ExcC K D) (hc : ∀ u, RelV c u → u = cv) (e : PySem.W.kitOne K (.ref D) cv = some b) (h : Q (.bl b) H) : rIsEG K (.ref D) none a [.ref a, c] H Q := ⟨D, rfl, rfl, C, c, cv, b, rfl, hc, e, h⟩
theorem g_callLS {i : Nat} {f : Addr} {sp : Sp} {E : L2.St → XK} (e : σ[i]? = some (some (.ref f))) (h : tas σ H fun vs H1 => sp vs H1 Q (E σ)) : tCallLS i f sp E tas σ H Q := ⟨e, h⟩
theorem g_eq (s : scal x y = true) (h : Q (.bl (decide (x = y))) H) : rEq x y H Q := ⟨s, h⟩
theorem g_ne (s : scal x y = true) (h : Q (.bl (!decide (x = y))) H) : rNe x y H Q := ⟨s, h⟩
theorem g_ixT {K : PySem.W.Frag} {p : Addr} {xs : List V} {i : Int} (h : SqT K H p xs) (e : atI xs i = some v) (q : Q v H) : rIxT K (.ref p) (.int i) H Q := ⟨p, xs, i, v, rfl, rfl, h, e, q⟩
theorem g_ixL {K : PySem.W.Frag} {p : Addr} {xs : List V} {i : Int} (h : SqL K H p xs) (e : atI xs i = some v) (q : Q v H) : rIxL K (.ref p) (.int i) H Q := ⟨p, xs, i, v, rfl, rfl, h, e, q⟩
theorem g_sub {to ti : TE} {t : TSet} {Q : L2.St → Hp → Prop} (h : to σ H fun o H1 => ti σ H1 fun i H2 => t o i v H2 fun H3 => Q σ H3) : gSub to ti t v σ H Q := h
theorem g_setL {p : Addr} {xs : List V} {k : Int} {j : Nat} {Q : Hp → Prop} (h : H p = some (.lst xs)) (e : ixN xs.length k = some j) (q : Q (upd H p (.lst (xs.set j v)))) : rSetL (.ref p) (.int k) v H Q := ⟨p, xs, k, j, rfl, rfl, h, e, q⟩
theorem g_int1 {a : Int} (h : Q (.int a) H) : rInt1 [.int a] H Q := .inl ⟨a, rfl, h⟩
theorem g_int1b {a : Bool} (h : Q (.int (if a then 1 else 0)) H) : rInt1 [.bl a] H Q := .inr ⟨a, rfl, h⟩
theorem g_abs {a : Int} (h : Q (.int (if a < 0 then -a else a)) H) : rAbs [.int a] H Q := ⟨a, rfl, h⟩
theorem g_lenL {K : PySem.W.Frag} {p : Addr} {xs : List V} (h : SqL K H p xs) (q : Q (.int xs.length) H) : rLenQ K [.ref p] H Q := ⟨p, xs, rfl, .inl h, q⟩
theorem g_lenT {K : PySem.W.Frag} {p : Addr} {xs : List V} (h : SqT K H p xs) (q : Q (.int xs.length) H) : rLenQ K [.ref p] H Q := ⟨p, xs, rfl, .inr h, q⟩
theorem g_listL {K : PySem.W.Frag} {p : Addr} {xs : List V} (h : SqL K H p xs) (q : ∀ l, H l = none → Q (.ref l) (upd H l (.lst xs))) : rListOf K [.ref p] H Q := ⟨p, xs, rfl, .inl h, q⟩
theorem g_listT {K : PySem.W.Frag} {p : Addr} {xs : List V} (h : SqT K H p xs) (q : ∀ l, H l = none → Q (.ref l) (upd H l (.lst xs))) : rListOf K [.ref p] H Q := ⟨p, xs, rfl, .inr h, q⟩
theorem g_tupleL {K : PySem.W.Frag} {p : Addr} {xs : List V} (h : SqL K H p xs) (q : ∀ l, H l = none → Q (.ref l) (upd H l (.tup xs))) : rTupleOf K [.ref p] H Q := ⟨p, xs, rfl, .inl ⟨h, q⟩⟩
theorem g_tupleT {K : PySem.W.Frag} {p : Addr} {xs : List V} (h : SqT K H p xs) (q : Q (.ref p) H) : rTupleOf K [.ref p] H Q := ⟨p, xs, rfl, .inr ⟨h, q⟩⟩
theorem if_t {A B : Prop} {b : Bool} (e : b = true) (h : A) : if b = true then A else B := by rw [if_pos e]; exact h
theorem if_f {A B : Prop} {b : Bool} (e : b = false) (h : B) : if b = true then A else B := by rw [if_neg (by rw [e]; exact Bool.false_ne_true)]; exact h
theorem if_2 {A B : Prop} {b : Bool} (h1 : b = true → A) (h2 : b = false → B) : if b = true then A else B := by
  cases b with
  | true => exact if_t rfl (h1 rfl)
  | false => exact if_f rfl (h2 rfl)
end

/-! ### loops and comprehensions, by named parts -/
def forW (g : TG) (tb : TS) (D : Ends) (σ : L2.St) : It → Hp → Prop := fun J H1 => ∃ W : Nat → Nat → L2.St → Hp → Prop, (∃ m, W 0 m σ H1) ∧ ∀ i m σ H, W i m σ H →
  (J.stop i H ∧ D.nx σ H) ∨ (J.go i H ∧ ∃ N : L2.St → Hp → Prop, (∀ σ' H', N σ' H' → ∃ m', m' < m ∧ W (i + 1) m' σ' H') ∧ ∀ x H', J.yld i H x H' → g x σ H' fun σ2 H2 => tb { D with nx := N, ct := N, bk := D.nx } σ2 H2)
def lcW (g : TG) (tt : TT) (te : TE) (vs : List Nat) (σ : L2.St) (Q : VK) : It → Hp → Prop := fun J H1 => ∀ D, H1 D = none → ∃ W : Nat → Nat → Hp → Prop, (∃ m, W 0 m (upd H1 D (.lst []))) ∧ ∀ i m H, W i m H →
      (J.stop i H ∧ Q (.ref D) H) ∨ (J.go i H ∧ ∃ Nx : Hp → Prop, (∀ H', Nx H' → ∃ m', m' < m ∧ W (i + 1) m' H') ∧ ∀ x H', J.yld i H x H' → g x (wipe σ vs) H' fun σ2 H2 => wipe σ2 vs = wipe σ vs ∧ tt σ2 H2 fun b H3 =>
        if b = true then te σ2 H3 fun y H4 => ∃ acc, H4 D = some (.lst acc) ∧ acc.length < sizeLine ∧ Nx (upd H4 D (.lst (acc ++ [y]))) else Nx H3)
def rRng1 (R : It → Hp → Prop) : List V → Hp → Prop := fun vs H1 => ∃ j : Int, vs = [.int j] ∧ -(2 ^ 62) ≤ j ∧ j < 2 ^ 62 ∧ R (Itr 0 j.toNat) H1
def rItL (K : PySem.W.Frag) (R : It → Hp → Prop) : V → Hp → Prop := fun x H1 => ∃ a, x = .ref a ∧ (∃ xs, SqL K H1 a xs) ∧ R (Itl K a) H1
def rItT (K : PySem.W.Frag) (R : It → Hp → Prop) : V → Hp → Prop := fun x H1 => ∃ a, x = .ref a ∧ (∃ xs, SqT K H1 a xs) ∧ R (Itt K a) H1
section
variable {K : PySem.W.Frag} {D : Ends} {σ : L2.St} {H : Hp} {g : TG} {tb : TS} {ta : TA} {te tl : TE} {tt : TT} {vs : List Nat} {Q : VK} {c : TT}
theorem g_forR1 (h : ta σ H (rRng1 (forW g tb D σ))) : tFor (iRng1 ta) g tb D σ H := h
theorem g_forL (h : tl σ H (rItL K (forW g tb D σ))) : tFor (iList K tl) g tb D σ H := h
theorem g_forT (h : tl σ H (rItT K (forW g tb D σ))) : tFor (iTup K tl) g tb D σ H := h
theorem g_lcR1 (h : ta σ H (rRng1 (lcW g tt te vs σ Q))) : tLc (iRng1 ta) g tt te vs σ H Q := h
theorem g_lcL (h : tl σ H (rItL K (lcW g tt te vs σ Q))) : tLc (iList K tl) g tt te vs σ H Q := h
theorem g_lcT (h : tl σ H (rItT K (lcW g tt te vs σ Q))) : tLc (iTup K tl) g tt te vs σ H Q := h
theorem g_rng {j : Int} (n : Nat) (e : j = (n : Int)) (hb : n < 1000000) (Pv : Nat → L2.St → Hp → Prop) (h0 : Pv 0 σ H)
    (hs : ∀ (i : Nat) σ H, i < n → Pv i σ H → g (.int (i : Int)) σ H fun σ2 H2 => tb { D with nx := Pv (i + 1), ct := Pv (i + 1), bk := D.nx } σ2 H2) (hd : ∀ σ H, Pv n σ H → D.nx σ H) :
    rRng1 (forW g tb D σ) [.int j] H := by
  subst e
  refine ⟨(n : Int), rfl, by omega, by omega, ?_⟩
  rw [Int.toNat_natCast]
  refine for_range (lo := 0) (n := n) Pv h0 (fun i σ H hi p => ?_) hd
  have := hs i σ H hi p
  rw [show (0 : Int) + (i : Int) = (i : Int) by omega]
  exact this
theorem g_itL {a : Addr} {xs : List V} (h : SqL K H a xs) (Pv : Nat → L2.St → Hp → Prop) (h0 : Pv 0 σ H) (hl : ∀ i σ H, i ≤ xs.length → Pv i σ H → SqL K H a xs)
    (hs : ∀ i x σ H, xs[i]? = some x → Pv i σ H → g x σ H fun σ2 H2 => tb { D with nx := Pv (i + 1), ct := Pv (i + 1), bk := D.nx } σ2 H2) (hd : ∀ σ H, Pv xs.length σ H → D.nx σ H) : rItL K (forW g tb D σ) (.ref a) H :=
  ⟨a, rfl, ⟨xs, h⟩, for_list Pv h0 hl hs hd⟩
theorem g_itT {a : Addr} {xs : List V} (h : SqT K H a xs) (Pv : Nat → L2.St → Hp → Prop) (h0 : Pv 0 σ H) (hl : ∀ i σ H, i ≤ xs.length → Pv i σ H → SqT K H a xs)
    (hs : ∀ i x σ H, xs[i]? = some x → Pv i σ H → g x σ H fun σ2 H2 => tb { D with nx := Pv (i + 1), ct := Pv (i + 1), bk := D.nx } σ2 H2) (hd : ∀ σ H, Pv xs.length σ H → D.nx σ H) : rItT K (forW g tb D σ) (.ref a) H :=
  ⟨a, rfl, ⟨xs, h⟩, for_tup Pv h0 hl hs hd⟩
/-- behind a turn of a comprehension: y is laid behind what the new list at p holds -/
def lcN (Pv : Nat → List V → Hp → Prop) (p : Addr) (i : Nat) : VK := fun y H4 => ∃ acc, H4 p = some (.lst acc) ∧ acc.length < sizeLine ∧ ∃ acc2, Pv (i + 1) acc2 (upd H4 p (.lst (acc ++ [y])))
theorem lcN_of {Pv : Nat → List V → Hp → Prop} {p : Addr} {i : Nat} {y : V} {H4 : Hp} {acc : List V} (h : H4 p = some (.lst acc)) (hl : acc.length ≤ 1000000) (q : Pv (i + 1) (acc ++ [y]) (upd H4 p (.lst (acc ++ [y])))) : lcN Pv p i y H4 :=
  ⟨acc, h, by have := sizeLine_eq; omega, _, q⟩
/-- a comprehension over a range, no test -/
theorem g_lcRng {j : Int} {i₀ : Nat} (n : Nat) (e : j = (n : Int)) (hb : n < 1000000) (Pv : Addr → Nat → List V → Hp → Prop) (hw : ∀ x, wipe ((wipe σ vs).set i₀ (some x)) vs = wipe σ vs)
    (h0 : ∀ p, H p = none → Pv p 0 [] (upd H p (.lst [])))
    (hs : ∀ p (i : Nat) acc H', H p = none → i < n → Pv p i acc H' → te ((wipe σ vs).set i₀ (some (.int (i : Int)))) H' (lcN (Pv p) p i))
    (hd : ∀ p acc H', H p = none → Pv p n acc H' → Q (.ref p) H') : rRng1 (lcW (gName i₀) tYes te vs σ Q) [.int j] H := by
  subst e
  refine ⟨(n : Int), rfl, by omega, by omega, fun p hp => ?_⟩
  rw [Int.toNat_natCast]
  refine lc_range (lo := 0) (n := n) (fun i H' => ∃ acc, Pv p i acc H') ⟨[], h0 p hp⟩ (fun i H' hi ⟨acc, q⟩ => ?_) (fun H' ⟨acc, q⟩ => hd p acc H' hp q)
  rw [show (0 : Int) + (i : Int) = (i : Int) by omega]
  exact ⟨hw _, hs p i acc H' hp hi q⟩
theorem g_lcLst {a : Addr} {xs : List V} {i₀ : Nat} (h : SqL K H a xs) (Pv : Addr → Nat → List V → Hp → Prop) (hw : ∀ x, wipe ((wipe σ vs).set i₀ (some x)) vs = wipe σ vs)
    (h0 : ∀ p, H p = none → Pv p 0 [] (upd H p (.lst []))) (hl : ∀ p i acc H', H p = none → Pv p i acc H' → SqL K H' a xs)
    (hs : ∀ p (i : Nat) x acc H', H p = none → xs[i]? = some x → Pv p i acc H' → te ((wipe σ vs).set i₀ (some x)) H' (lcN (Pv p) p i))
    (hd : ∀ p acc H', H p = none → Pv p xs.length acc H' → Q (.ref p) H') : rItL K (lcW (gName i₀) tYes te vs σ Q) (.ref a) H := by
  refine ⟨a, rfl, ⟨xs, h⟩, fun p hp => ?_⟩
  refine lc_list (K := K) (xs := xs) (fun i H' => ∃ acc, Pv p i acc H') ⟨[], h0 p hp⟩ (fun i H' _ ⟨acc, q⟩ => hl p i acc H' hp q) (fun i x H' hi ⟨acc, q⟩ => ?_) (fun H' ⟨acc, q⟩ => hd p acc H' hp q)
  exact ⟨hw _, hs p i x acc H' hp hi q⟩
theorem g_lcTup {a : Addr} {xs : List V} {i₀ : Nat} (h : SqT K H a xs) (Pv : Addr → Nat → List V → Hp → Prop) (hw : ∀ x, wipe ((wipe σ vs).set i₀ (some x)) vs = wipe σ vs)
    (h0 : ∀ p, H p = none → Pv p 0 [] (upd H p (.lst []))) (hl : ∀ p i acc H', H p = none → Pv p i acc H' → SqT K H' a xs)
    (hs : ∀ p (i : Nat) x acc H', H p = none → xs[i]? = some x → Pv p i acc H' → te ((wipe σ vs).set i₀ (some x)) H' (lcN (Pv p) p i))
    (hd : ∀ p acc H', H p = none → Pv p xs.length acc H' → Q (.ref p) H') : rItT K (lcW (gName i₀) tYes te vs σ Q) (.ref a) H := by
  refine ⟨a, rfl, ⟨xs, h⟩, fun p hp => ?_⟩
  refine lc_tup (K := K) (xs := xs) (fun i H' => ∃ acc, Pv p i acc H') ⟨[], h0 p hp⟩ (fun i H' _ ⟨acc, q⟩ => hl p i acc H' hp q) (fun i x H' hi ⟨acc, q⟩ => ?_) (fun H' ⟨acc, q⟩ => hd p acc H' hp q)
  exact ⟨hw _, hs p i x acc H' hp hi q⟩
theorem g_while (W : Nat → L2.St → Hp → Prop) (m : Nat) (h0 : W m σ H) (hs : ∀ m σ H, W m σ H → c σ H fun b H1 => if b = true then ∃ N : L2.St → Hp → Prop, (∀ σ' H', N σ' H' → ∃ m', m' < m ∧ W m' σ' H') ∧ tb { D with nx := N, ct := N, bk := D.nx } σ H1 else D.nx σ H1) :
    tWhile c tb D σ H := ⟨W, ⟨m, h0⟩, hs⟩
end

/-! ### heaps -/
theorem up_same {H : Hp} {p : Addr} {o : HO} (h : H p = none) : Same H (upd H p o) := fun b x e => by
  rw [upd_ne (ne_of_none e h)]
  exact e
/-- all but what stands at S is kept -/
def Kp (S : Addr) (H H' : Hp) : Prop := ∀ b o, b ≠ S → H b = some o → H' b = some o
theorem Kp.refl (S : Addr) (H : Hp) : Kp S H H := fun _ _ _ e => e
theorem Kp.trans {S : Addr} {H H1 H2 : Hp} (a : Kp S H H1) (b : Kp S H1 H2) : Kp S H H2 := fun c o n e => b c o n (a c o n e)
theorem Kp.of {S : Addr} {H H' : Hp} (a : Same H H') : Kp S H H' := fun c o _ e => a c o e
theorem Kp.upd {S : Addr} {H : Hp} {o : HO} : Kp S H (upd H S o) := fun b x n e => by
  rw [upd_ne n]
  exact e
/-- the newest object laid past what is asked for -/
theorem ua {H : Hp} {p q : Addr} {o u : HO} (h : H p = some o) (n : H q = none) : upd H q u p = some o := by
  rw [upd_ne (ne_of_none h n)]
  exact h
theorem Same.sqt {K : PySem.W.Frag} {H H' : Hp} {a : Addr} {xs : List V} (e : Same H H') (h : SqT K H a xs) : SqT K H' a xs := by
  rcases h with (h | ⟨o, h⟩) | h
  · exact .inl (.inl (e _ _ h))
  · exact .inl (.inr ⟨o, e _ _ h⟩)
  · exact .inr h
theorem Kp.sqt {K : PySem.W.Frag} {S : Addr} {H H' : Hp} {a : Addr} {xs ys : List V} (e : Kp S H H') (hS : H S = some (.lst ys)) (h : SqT K H a xs) : SqT K H' a xs := by
  rcases h with (h | ⟨o, h⟩) | h
  · exact .inl (.inl (e _ _ (ne_of h hS (fun z => nomatch z)) h))
  · exact .inl (.inr ⟨o, e _ _ (ne_of h hS (fun z => nomatch z)) h⟩)
  · exact .inr h
theorem Kp.free {S p : Addr} {H H' : Hp} {o : HO} (e : Kp S H H') (hS : H S = some o) (hp : H' p = none) (hp2 : p ≠ S) : H p = none := by
  cases h1 : H p with
  | none => rfl
  | some o =>
    rw [e p o hp2 h1] at hp
    cases hp

/-! ### a displayed tuple, a displayed list -/
theorem g_newT {xs : List V} {Q : VK} {H : Hp} (hl : xs.length ≤ 1000000) (h : ∀ p, H p = none → Q (.ref p) (upd H p (.tup xs))) : rNewT Q xs H := ⟨by have := sizeLine_eq; omega, h⟩
theorem g_newL {xs : List V} {Q : VK} {H : Hp} (hl : xs.length ≤ 1000000) (h : ∀ p, H p = none → Q (.ref p) (upd H p (.lst xs))) : rNewL Q xs H := ⟨by have := sizeLine_eq; omega, h⟩
/-! ### a ratio -/
def RatV (K : PySem.W.Frag) (H : Hp) (v : V) (q : Rat) : Prop := ∃ p, v = .ref p ∧ SqT K H p [.int q.num, .int (q.den : Int)]
theorem RatV.same {K : PySem.W.Frag} {H H' : Hp} {v : V} {q : Rat} (h : RatV K H v q) (e : Same H H') : RatV K H' v q := by
  obtain ⟨p, rfl, h⟩ := h
  exact ⟨p, rfl, Same.sqt e h⟩
theorem RatV.kp {K : PySem.W.Frag} {S : Addr} {ys : List V} {H H' : Hp} {v : V} {q : Rat} (h : RatV K H v q) (e : Kp S H H') (hS : H S = some (.lst ys)) : RatV K H' v q := by
  obtain ⟨p, rfl, h⟩ := h
  exact ⟨p, rfl, Kp.sqt e hS h⟩
theorem RatV.new {K : PySem.W.Frag} {H : Hp} {p : Addr} {q : Rat} : RatV K (upd H p (.tup [.int q.num, .int (q.den : Int)])) (.ref p) q := ⟨p, rfl, SqT.of upd_same⟩
/-- both parts below 2 ^ n -/
def Bd (n : Nat) (q : Rat) : Prop := q.num.natAbs < 2 ^ n ∧ q.den < 2 ^ n
end Rz

namespace Rz
open PySem PySem.Spec PyProof.Rows L2

/-! ### ratios: integers' words and Rat's -/
def gcdI (a b : Int) : Int := (Nat.gcd a.natAbs b.natAbs : Nat)
def comI (a b : Int) : Int := if b < 0 then -gcdI a b else gcdI a b
theorem gcdI_pos {a b : Int} (hb : b ≠ 0) : 0 < gcdI a b := by
  unfold gcdI
  have : 0 < Nat.gcd a.natAbs b.natAbs := Nat.gcd_pos_of_pos_right _ (by omega)
  omega
theorem gcdI_dvd_l (a b : Int) : gcdI a b ∣ a := Int.ofNat_dvd_left.mpr (Nat.gcd_dvd_left _ _)
theorem gcdI_dvd_r (a b : Int) : gcdI a b ∣ b := Int.ofNat_dvd_left.mpr (Nat.gcd_dvd_right _ _)
theorem gcdI_le {a b : Int} (hb : b ≠ 0) : (gcdI a b).natAbs ≤ b.natAbs := by
  unfold gcdI
  have := Nat.gcd_le_right a.natAbs (n := b.natAbs) (by omega)
  omega
theorem comI_ne {a b : Int} (hb : b ≠ 0) : comI a b ≠ 0 := by
  have := gcdI_pos (a := a) hb
  unfold comI
  split <;> omega
theorem comI_abs (a b : Int) : (comI a b).natAbs = (gcdI a b).natAbs := by
  unfold comI
  split <;> omega
theorem gcd_int (a b : Int) : ((Int.gcd b a : Nat) : Int) = gcdI a b := by
  unfold gcdI
  rw [Int.gcd_eq_natAbs_gcd_natAbs, Nat.gcd_comm]
theorem fdiv_num {a b : Int} (hb : b ≠ 0) : a.fdiv (comI a b) = (Rat.divInt a b).num := by
  have hg := gcdI_pos (a := a) hb
  have hd := gcdI_dvd_l a b
  rw [Rat.num_divInt, gcd_int]
  unfold comI
  split
  · rename_i h
    rw [Int.fdiv_neg (by omega), if_pos hd, Int.sign_eq_neg_one_of_neg h, Int.fdiv_eq_ediv_of_nonneg _ (by omega)]
    rw [Int.neg_mul, Int.one_mul, Int.neg_ediv_of_dvd hd]
  · rename_i h
    rw [Int.sign_eq_one_of_pos (by omega), Int.one_mul, Int.fdiv_eq_ediv_of_nonneg _ (by omega)]
theorem fdiv_den {a b : Int} (hb : b ≠ 0) : b.fdiv (comI a b) = ((Rat.divInt a b).den : Int) := by
  have hg := gcdI_pos (a := a) hb
  have hd := gcdI_dvd_r a b
  rw [Rat.den_divInt, if_neg hb, Int.natCast_ediv, gcd_int]
  unfold comI
  split
  · rename_i h
    rw [Int.fdiv_neg (by omega), if_pos hd, Int.fdiv_eq_ediv_of_nonneg _ (by omega)]
    have : (b.natAbs : Int) = -b := by omega
    rw [this, Int.neg_ediv_of_dvd hd]
  · rename_i h
    rw [Int.fdiv_eq_ediv_of_nonneg _ (by omega)]
    have : (b.natAbs : Int) = b := by omega
    rw [this]
theorem num_le {a b : Int} : (Rat.divInt a b).num.natAbs ≤ a.natAbs := by
  by_cases hb : b = 0
  · rw [hb, Rat.divInt_zero]
    exact Nat.zero_le _
  · rw [← fdiv_num hb]
    have hd := gcdI_dvd_l a b
    obtain ⟨k, e⟩ := hd
    have hg := gcdI_pos (a := a) hb
    have e2 : comI a b ∣ a := by
      unfold comI
      split
      · exact Int.neg_dvd.mpr (gcdI_dvd_l a b)
      · exact gcdI_dvd_l a b
    rw [Int.fdiv_eq_ediv_of_dvd e2]
    exact Int.natAbs_ediv_le_natAbs _ _
theorem den_le {a b : Int} (hb : b ≠ 0) : (Rat.divInt a b).den ≤ b.natAbs := by
  rw [Rat.den_divInt, if_neg hb]
  exact Nat.div_le_self _ _
theorem rat_plus (p q : Rat) : Rat.divInt (p.num * (q.den : Int) + q.num * (p.den : Int)) ((p.den : Int) * (q.den : Int)) = p + q := by
  rw [Rat.add_def', ← Rat.divInt_ofNat, Int.natCast_mul]
theorem rat_minus (p q : Rat) : Rat.divInt (p.num * (q.den : Int) - q.num * (p.den : Int)) ((p.den : Int) * (q.den : Int)) = p - q := by
  rw [Rat.sub_def', ← Rat.divInt_ofNat, Int.natCast_mul]
theorem rat_times (p q : Rat) : Rat.divInt (p.num * q.num) ((p.den : Int) * (q.den : Int)) = p * q := by
  rw [Rat.mul_def', ← Rat.divInt_ofNat, Int.natCast_mul]
theorem rat_over (p q : Rat) : Rat.divInt (p.num * (q.den : Int)) ((p.den : Int) * q.num) = p / q := by
  rw [Rat.div_def, Rat.inv_def]
  conv => rhs; rw [← Rat.num_divInt_den p]
  rw [Rat.divInt_mul_divInt]
theorem den_pos (q : Rat) : (0 : Int) < (q.den : Int) := by
  have := q.den_pos
  omega
theorem den_mul_ne (p q : Rat) : (p.den : Int) * (q.den : Int) ≠ 0 := by
  have := Int.mul_pos (den_pos p) (den_pos q)
  omega
theorem pow_mul_lt {x y : Nat} {a b : Nat} (h1 : x < 2 ^ a) (h2 : y < 2 ^ b) : x * y < 2 ^ (a + b) := by
  rw [Nat.pow_add]
  exact Nat.mul_lt_mul'' h1 h2
theorem pow_mono {x a b : Nat} (h : x < 2 ^ a) (l : a ≤ b) : x < 2 ^ b := Nat.lt_of_lt_of_le h (Nat.pow_le_pow_right (by decide) l)
theorem Bd.mono {a b : Nat} {q : Rat} (h : Bd a q) (l : a ≤ b) : Bd b q := ⟨pow_mono h.1 l, pow_mono h.2 l⟩
theorem abs_mul_lt {x y : Int} {a b : Nat} (h1 : x.natAbs < 2 ^ a) (h2 : y.natAbs < 2 ^ b) : (x * y).natAbs < 2 ^ (a + b) := by
  rw [Int.natAbs_mul]
  exact pow_mul_lt h1 h2
theorem abs_add_lt {x y : Int} {a : Nat} (h1 : x.natAbs < 2 ^ a) (h2 : y.natAbs < 2 ^ a) : (x + y).natAbs < 2 ^ (a + 1) := by
  rw [Nat.pow_succ]
  omega
theorem abs_sub_lt {x y : Int} {a : Nat} (h1 : x.natAbs < 2 ^ a) (h2 : y.natAbs < 2 ^ a) : (x - y).natAbs < 2 ^ (a + 1) := by
  rw [Nat.pow_succ]
  omega
theorem Bd.add {a b : Nat} {p q : Rat} (h : Bd a p) (k : Bd b q) : Bd (a + b + 1) (p + q) := by
  rw [← rat_plus]
  have e1 := abs_mul_lt (x := p.num) (y := (q.den : Int)) h.1 k.2
  have e2 := abs_mul_lt (x := q.num) (y := (p.den : Int)) k.1 h.2
  rw [Nat.add_comm b a] at e2
  refine ⟨Nat.lt_of_le_of_lt num_le (abs_add_lt e1 e2), Nat.lt_of_le_of_lt (den_le (den_mul_ne p q)) ?_⟩
  exact pow_mono (abs_mul_lt (x := (p.den : Int)) (y := (q.den : Int)) h.2 k.2) (by omega)
theorem Bd.sub {a b : Nat} {p q : Rat} (h : Bd a p) (k : Bd b q) : Bd (a + b + 1) (p - q) := by
  rw [← rat_minus]
  have e1 := abs_mul_lt (x := p.num) (y := (q.den : Int)) h.1 k.2
  have e2 := abs_mul_lt (x := q.num) (y := (p.den : Int)) k.1 h.2
  rw [Nat.add_comm b a] at e2
  refine ⟨Nat.lt_of_le_of_lt num_le (abs_sub_lt e1 e2), Nat.lt_of_le_of_lt (den_le (den_mul_ne p q)) ?_⟩
  exact pow_mono (abs_mul_lt (x := (p.den : Int)) (y := (q.den : Int)) h.2 k.2) (by omega)
theorem Bd.mul {a b : Nat} {p q : Rat} (h : Bd a p) (k : Bd b q) : Bd (a + b) (p * q) := by
  rw [← rat_times]
  exact ⟨Nat.lt_of_le_of_lt num_le (abs_mul_lt h.1 k.1), Nat.lt_of_le_of_lt (den_le (den_mul_ne p q)) (abs_mul_lt (x := (p.den : Int)) (y := (q.den : Int)) h.2 k.2)⟩
theorem Bd.div {a b : Nat} {p q : Rat} (h : Bd a p) (k : Bd b q) (hq : q ≠ 0) : Bd (a + b) (p / q) := by
  have hn : q.num ≠ 0 := fun z => hq (Rat.num_eq_zero.mp z)
  have hm : (p.den : Int) * q.num ≠ 0 := Int.mul_ne_zero (by have := den_pos p; omega) hn
  rw [← rat_over]
  exact ⟨Nat.lt_of_le_of_lt num_le (abs_mul_lt (x := p.num) (y := (q.den : Int)) h.1 k.2), Nat.lt_of_le_of_lt (den_le hm) (abs_mul_lt (x := (p.den : Int)) (y := q.num) h.2 k.1)⟩
theorem Bd.neg {a : Nat} {p : Rat} (h : Bd a p) : Bd a (-p) := by
  refine ⟨?_, ?_⟩
  · rw [Rat.neg_num, Int.natAbs_neg]
    exact h.1
  · rw [Rat.neg_den]
    exact h.2
theorem Bd.of {n : Nat} {a b : Int} (h : a.natAbs < 2 ^ n) (k : b.natAbs < 2 ^ n) (hb : b ≠ 0) : Bd n (Rat.divInt a b) := ⟨Nat.lt_of_le_of_lt num_le h, Nat.lt_of_le_of_lt (den_le hb) k⟩
theorem Bd.zero : Bd 1 0 := ⟨by decide, by decide⟩
theorem Bd.one : Bd 1 1 := ⟨by decide, by decide⟩
theorem mulB_of {x y : Int} {a b : Nat} (h1 : x.natAbs < 2 ^ a) (h2 : y.natAbs < 2 ^ b) (h : a + b ≤ 8000) : CMulB x y := ⟨a, b, h1, h2, by omega⟩
theorem lt9000 {x : Nat} {n : Nat} (h : x < 2 ^ n) (l : n ≤ 9000) : x < 2 ^ 9000 := pow_mono h l

/-! ### the same data -/
def isSc : V → Bool
  | .int _ => true
  | .bl _ => true
  | .str _ => true
  | .non => true
  | _ => false
inductive Eqv (K : PySem.W.Frag) (H : Hp) : Nat → V → V → Prop
  | sc {n : Nat} {x : V} (h : isSc x = true) : Eqv K H (n + 1) x x
  | tup {n : Nat} {p q : Addr} {xs ys : List V} (hx : SqT K H p xs) (hy : SqT K H q ys) (hl : xs.length = ys.length) (hb : ys.length < 1000000) (h : ∀ (i : Nat) (x y : V), xs[i]? = some x → ys[i]? = some y → Eqv K H n x y) : Eqv K H (n + 1) (.ref p) (.ref q)
  | lst {n : Nat} {p q : Addr} {xs ys : List V} (hx : SqL K H p xs) (hy : SqL K H q ys) (hl : xs.length = ys.length) (hb : ys.length < 1000000) (h : ∀ (i : Nat) (x y : V), xs[i]? = some x → ys[i]? = some y → Eqv K H n x y) : Eqv K H (n + 2) (.ref p) (.ref q)
theorem Eqv.same {K : PySem.W.Frag} {H H' : Hp} {n : Nat} {x y : V} (e : Same H H') (h : Eqv K H n x y) : Eqv K H' n x y := by
  induction h with
  | sc h => exact .sc h
  | tup hx hy hl hb h ih => exact .tup (Same.sqt e hx) (Same.sqt e hy) hl hb ih
  | lst hx hy hl hb h ih => exact .lst (e.seq hx) (e.seq hy) hl hb ih
theorem Eqv.rat {K : PySem.W.Frag} {H : Hp} {n : Nat} {x y : V} {q : Rat} (h : RatV K H x q) (k : RatV K H y q) : Eqv K H (n + 2) x y := by
  obtain ⟨p, rfl, h⟩ := h
  obtain ⟨p', rfl, k⟩ := k
  refine .tup h k rfl (by show 2 < 1000000; decide) fun i x y e1 e2 => ?_
  rw [e1] at e2
  cases e2
  match i, e1 with
  | 0, e1 => cases e1; exact .sc rfl
  | 1, e1 => cases e1; exact .sc rfl
  | i + 2, e1 => simp at e1
theorem tyT {K : PySem.W.Frag} {H : Hp} {p : Addr} {xs : List V} (h : SqT K H p xs) : TyX K H (.ref p) (.type "tuple") := by
  rcases h with (h | ⟨o, h⟩) | ⟨o, its, n, h, hc, _⟩
  · exact .base (.tup h)
  · exact .fTuple h
  · exact .kTuple h hc
theorem tyL {K : PySem.W.Frag} {H : Hp} {p : Addr} {xs : List V} (h : SqL K H p xs) : TyX K H (.ref p) (.type "list") := by
  rcases h with (h | ⟨o, h⟩) | ⟨o, its, n, h, hc, _⟩
  · exact .base (.lst h)
  · exact .base (.frz h)
  · exact .kList h hc
def tyS : V → String
  | .int _ => "int"
  | .bl _ => "bool"
  | .str _ => "str"
  | _ => "NoneType"
theorem tySc {K : PySem.W.Frag} {H : Hp} {x : V} (h : isSc x = true) : TyX K H x (.type (tyS x)) := by
  cases x with
  | int i => exact .base (.int i)
  | bl i => exact .base (.bl i)
  | str i => exact .base (.str i)
  | non => exact .base .non
  | byt _ => cases h
  | flt _ => cases h
  | ref _ => cases h
  | ty _ => cases h
end Rz

namespace Rz
open PySem PySem.Spec PyProof.Rows L2
/-! ### promises -/
def StAt (H : Hp) (S c : Addr) : Prop := c ≠ S ∧ ∃ (i h n : Int) (cs : List Int), H S = some (.lst [.ref c, .int i, .int h, .int n]) ∧ H c = some (.lst (cs.map V.int)) ∧ 0 ≤ i ∧ 0 ≤ h
theorem StAt.upd {H : Hp} {S c p : Addr} {o : HO} (h : StAt H S c) (h1 : p ≠ S) (h2 : p ≠ c) : StAt (upd H p o) S c := by
  obtain ⟨n, i, x, m, cs, e1, e2, e3⟩ := h
  exact ⟨n, i, x, m, cs, by rw [upd_ne h1.symm]; exact e1, by rw [upd_ne h2.symm]; exact e2, e3⟩
theorem StAt.same {H H' : Hp} {S c : Addr} (h : StAt H S c) (e : Same H H') : StAt H' S c := by
  obtain ⟨n, i, x, m, cs, e1, e2, e3⟩ := h
  exact ⟨n, i, x, m, cs, e _ _ e1, e _ _ e2, e3⟩
theorem StAt.neS {H : Hp} {S c p : Addr} (h : StAt H S c) (hp : H p = none) : p ≠ S := by
  obtain ⟨n, i, x, m, cs, e1, e2, e3⟩ := h
  exact (ne_of_none e1 hp).symm
theorem StAt.nec {H : Hp} {S c p : Addr} (h : StAt H S c) (hp : H p = none) : p ≠ c := by
  obtain ⟨n, i, x, m, cs, e1, e2, e3⟩ := h
  exact (ne_of_none e2 hp).symm
theorem StAt.lst {H : Hp} {S c : Addr} (h : StAt H S c) : ∃ ys, H S = some (.lst ys) := by
  obtain ⟨n, i, x, m, cs, e1, e2, e3⟩ := h
  exact ⟨_, e1⟩
theorem RatV.st {K : PySem.W.Frag} {H H' : Hp} {S c : Addr} {v : V} {q : Rat} (h : RatV K H v q) (e : Kp S H H') (hS : StAt H S c) : RatV K H' v q := by
  obtain ⟨ys, hy⟩ := hS.lst
  exact h.kp e hy
def spPick : Sp := fun vs H Q _ => ∃ (S c : Addr) (lim : Int), vs = [.ref S, .int lim] ∧ StAt H S c ∧ 0 < lim ∧ lim.natAbs < 2 ^ 9000 ∧ ∀ v H', 0 ≤ v → v < lim → StAt H' S c → Kp S H H' → Q (.int v) H'
def spGcd : Sp := fun vs H Q _ => ∃ a b : Int, vs = [.int a, .int b] ∧ 0 ≤ a ∧ 0 ≤ b ∧ Q (.int (gcdI a b)) H
def spLRatio (K : PySem.W.Frag) : Sp := fun vs H Q _ => ∃ a b : Int, vs = [.int a, .int b] ∧ b ≠ 0 ∧ b.natAbs < 2 ^ 9000 ∧ ∀ v H', Same H H' → RatV K H' v (Rat.divInt a b) → Q v H'
def spBin (K : PySem.W.Frag) (f : Rat → Rat → Rat) : Sp := fun vs H Q _ => ∃ (x y : V) (p q : Rat) (n m : Nat), vs = [x, y] ∧ RatV K H x p ∧ RatV K H y q ∧ Bd n p ∧ Bd m q ∧ n + m ≤ 8000 ∧ ∀ v H', Same H H' → RatV K H' v (f p q) → Q v H'
theorem gcdI_step {a b : Int} (ha : 0 ≤ a) (hb : 0 ≤ b) (h : b ≠ 0) : gcdI b (a.fmod b) = gcdI a b := by
  have e1 : a.fmod b = ((a.toNat % b.toNat : Nat) : Int) := by
    rw [Int.fmod_eq_emod_of_nonneg _ hb, Int.natCast_emod, Int.toNat_of_nonneg ha, Int.toNat_of_nonneg hb]
  unfold gcdI
  rw [e1, Int.natAbs_natCast]
  have e2 : a.natAbs = a.toNat := by omega
  have e3 : b.natAbs = b.toNat := by omega
  rw [e2, e3]
  congr 1
  conv => rhs; rw [Nat.gcd_comm, Nat.gcd_rec]
  rw [Nat.gcd_comm]
theorem gcdI_zero {a : Int} (ha : 0 ≤ a) : gcdI a 0 = a := by
  unfold gcdI
  rw [Int.natAbs_zero, Nat.gcd_zero_right]
  omega
theorem abs_gcd (a b : Int) : gcdI (if a < 0 then -a else a) (if b < 0 then -b else b) = gcdI a b := by
  unfold gcdI
  have e1 : (if a < 0 then -a else a).natAbs = a.natAbs := by split <;> omega
  have e2 : (if b < 0 then -b else b).natAbs = b.natAbs := by split <;> omega
  rw [e1, e2]
def spDiv (K : PySem.W.Frag) : Sp := fun vs H Q _ => ∃ (x y : V) (p q : Rat) (n m : Nat), vs = [x, y] ∧ RatV K H x p ∧ RatV K H y q ∧ Bd n p ∧ Bd m q ∧ n + m ≤ 8000 ∧ q ≠ 0 ∧ ∀ v H', Same H H' → RatV K H' v (p / q) → Q v H'
theorem den_num_ne {p q : Rat} (h : q ≠ 0) : (p.den : Int) * q.num ≠ 0 := Int.mul_ne_zero (by have := den_pos p; omega) fun z => h (Rat.num_eq_zero.mp z)
def spRatio (K : PySem.W.Frag) (C : Addr) : Sp := fun vs H Q E => ∃ a b : Int, vs = [.int a, .int b] ∧ b.natAbs < 2 ^ 9000 ∧ (b = 0 → E (.ref C) none H) ∧ (b ≠ 0 → ∀ v H', Same H H' → RatV K H' v (Rat.divInt a b) → Q v H')
def spSame (K : PySem.W.Frag) (n : Nat) : Sp := fun vs H Q _ => ∃ x y, vs = [x, y] ∧ Eqv K H n x y ∧ ∀ H', Same H H' → Q (.bl true) H'
theorem fn_false {P : Program} {w : World} {K : PySem.W.Frag} {mg : Str → Option Value} {base : Heap} {f : Addr} {fd : FuncData} {ps : List Str} {k : Nat} {sp : Sp} (h : ∀ vs H Q E, ¬ sp vs H Q E) : FnOk P w K mg base CX0 k f fd ps sp := ⟨fun vs H Q E q => absurd q (h vs H Q E), fun A outer s H args us vs Q E _ _ _ _ q => absurd q (h vs H Q E)⟩
def spWhole : Sp := fun vs H Q _ => ∃ S c : Addr, vs = [.ref S] ∧ StAt H S c ∧ ∀ (v : Int) H', v.natAbs < 2 ^ 50 → StAt H' S c → Kp S H H' → Q (.int v) H'
def spOver (K : PySem.W.Frag) (C : Addr) : Sp := fun vs H Q E => ∃ (x y : V) (p q : Rat) (n m : Nat), vs = [x, y] ∧ RatV K H x p ∧ RatV K H y q ∧ Bd n p ∧ Bd m q ∧ n + m ≤ 8000 ∧ (q = 0 → E (.ref C) none H) ∧ (q ≠ 0 → ∀ v H', Same H H' → RatV K H' v (p / q) → Q v H')
def spNeg (K : PySem.W.Frag) : Sp := fun vs H Q _ => ∃ (x : V) (p : Rat), vs = [x] ∧ RatV K H x p ∧ ∀ v H', Same H H' → RatV K H' v (-p) → Q v H'
def spLess (K : PySem.W.Frag) : Sp := fun vs H Q _ => ∃ (x y : V) (p q : Rat) (n m : Nat), vs = [x, y] ∧ RatV K H x p ∧ RatV K H y q ∧ Bd n p ∧ Bd m q ∧ n + m ≤ 8000 ∧ Q (.bl (decide (p.num * (q.den : Int) < q.num * (p.den : Int)))) H
def spIsRatio (K : PySem.W.Frag) : Sp := fun vs H Q _ => ∃ (p : Addr) (a b : Int), vs = [.ref p] ∧ SqT K H p [.int a, .int b] ∧ Q (.bl (decide (0 < b) && decide (gcdI a b = 1))) H
/-- the sum of ratios, from the left -/
def sumR (qs : List Rat) : Rat := qs.foldl (fun a b => a + b) 0
theorem sumR_snoc (qs : List Rat) (q : Rat) : sumR (qs ++ [q]) = sumR qs + q := by
  unfold sumR
  rw [List.foldl_append]
  rfl
theorem fold_bd {n : Nat} : ∀ (qs : List Rat) (b : Rat) (m : Nat), Bd m b → (∀ q ∈ qs, Bd n q) → Bd (m + qs.length * (n + 1)) (qs.foldl (fun a b => a + b) b)
  | [], b, m, h, _ => by
    rw [List.length_nil, Nat.zero_mul]
    exact h
  | q :: qs, b, m, h, k => by
    have h1 := Bd.add h (k q List.mem_cons_self)
    refine (fold_bd qs (b + q) (m + n + 1) h1 fun x hx => k x (List.mem_cons_of_mem _ hx)).mono ?_
    rw [List.length_cons, Nat.succ_mul]
    omega
theorem sumR_bd {n : Nat} (qs : List Rat) (h : ∀ q ∈ qs, Bd n q) : Bd (1 + qs.length * (n + 1)) (sumR qs) := fold_bd qs 0 1 Bd.zero h
theorem sumR_take {qs : List Rat} {i : Nat} {q : Rat} (h : qs[i]? = some q) : sumR (qs.take (i + 1)) = sumR (qs.take i) + q := by
  rw [List.take_add_one, h]
  exact sumR_snoc _ _
def spTotal (K : PySem.W.Frag) : Sp := fun vs H Q _ => ∃ (a : Addr) (xs : List V) (qs : List Rat) (n : Nat), vs = [.ref a] ∧ SqL K H a xs ∧ xs.length = qs.length ∧ (∀ (i : Nat) x q, xs[i]? = some x → qs[i]? = some q → RatV K H x q) ∧ (∀ q ∈ qs, Bd n q) ∧ 1 + qs.length * (n + 1) + n ≤ 8000 ∧
  ∀ v H', Same H H' → RatV K H' v (sumR qs) → Q v H'
/-- told: the def at f, and what it tells -/
def spTold (K : PySem.W.Frag) (C f : Addr) (spF : Sp) : Sp := fun vs H Q _ => ∃ x y, vs = [.ref f, x, y] ∧ spF [x, y] H (fun v H' => ∀ p, H' p = none → Q (.ref p) (upd H' p (.tup [.str "told", v])))
  (fun cls d H' => cls = .ref C ∧ d = none ∧ ∀ p, H' p = none → Q (.ref p) (upd H' p (.tup [.str "refused"])))
theorem dec_int (a b : Int) : decide (V.int a = V.int b) = decide (a = b) := by
  by_cases h : a = b
  · rw [h, decide_eq_true rfl, decide_eq_true rfl]
  · rw [decide_eq_false h, decide_eq_false fun z => h (V.int.inj z)]
theorem RatV.updL {K : PySem.W.Frag} {H : Hp} {p : Addr} {v : V} {q : Rat} {ys : List V} {o : HO} (h : RatV K H v q) (e : H p = some (.lst ys)) : RatV K (upd H p o) v q := h.kp Kp.upd e
/-- the i-th of xs stands for the i-th of qs -/
structure Rats (K : PySem.W.Frag) (H : Hp) (xs : List V) (qs : List Rat) : Prop where
  len : xs.length = qs.length
  at_ : ∀ (i : Nat) x q, xs[i]? = some x → qs[i]? = some q → RatV K H x q
theorem Rats.nil {K : PySem.W.Frag} {H : Hp} : Rats K H [] [] := ⟨rfl, fun i x q h => by simp at h⟩
theorem Rats.same {K : PySem.W.Frag} {H H' : Hp} {xs : List V} {qs : List Rat} (h : Rats K H xs qs) (e : Same H H') : Rats K H' xs qs := ⟨h.len, fun i x q a b => (h.at_ i x q a b).same e⟩
theorem Rats.kp {K : PySem.W.Frag} {S : Addr} {ys : List V} {H H' : Hp} {xs : List V} {qs : List Rat} (h : Rats K H xs qs) (e : Kp S H H') (hS : H S = some (.lst ys)) : Rats K H' xs qs := ⟨h.len, fun i x q a b => (h.at_ i x q a b).kp e hS⟩
theorem Rats.snoc {K : PySem.W.Frag} {H : Hp} {xs : List V} {qs : List Rat} {x : V} {q : Rat} (h : Rats K H xs qs) (k : RatV K H x q) : Rats K H (xs ++ [x]) (qs ++ [q]) := by
  refine ⟨by rw [List.length_append, List.length_append, h.len]; rfl, fun i x' q' a b => ?_⟩
  by_cases hi : i < xs.length
  · rw [List.getElem?_append_left hi] at a
    rw [List.getElem?_append_left (h.len ▸ hi)] at b
    exact h.at_ i x' q' a b
  · rw [List.getElem?_append_right (by omega)] at a
    rw [List.getElem?_append_right (by rw [← h.len]; omega), ← h.len] at b
    by_cases h0 : i - xs.length = 0
    · rw [h0] at a b
      cases a
      cases b
      exact k
    · obtain ⟨j, hj⟩ : ∃ j, i - xs.length = j + 1 := ⟨i - xs.length - 1, by omega⟩
      rw [hj] at a
      simp at a
end Rz

namespace Rz

/-! ### sums -/
def sumN : Nat → (Nat → Rat) → Rat
  | 0, _ => 0
  | n + 1, f => sumN n f + f n
theorem sumN_congr {n : Nat} {f g : Nat → Rat} (h : ∀ i, i < n → f i = g i) : sumN n f = sumN n g := by
  induction n with
  | zero => rfl
  | succ n ih => rw [sumN, sumN, ih fun i hi => h i (by omega), h n (by omega)]
theorem sumN_add {n : Nat} {f g : Nat → Rat} {c : Rat} : sumN n (fun i => f i + c * g i) = sumN n f + c * sumN n g := by
  induction n with
  | zero => simp only [sumN]; grind
  | succ n ih => simp only [sumN, ih]; grind
theorem sumN_mul {n : Nat} {f : Nat → Rat} {c : Rat} : sumN n (fun i => c * f i) = c * sumN n f := by
  induction n with
  | zero => simp only [sumN]; grind
  | succ n ih => simp only [sumN, ih]; grind
theorem sumN_zero {n : Nat} {f : Nat → Rat} (h : ∀ i, i < n → f i = 0) : sumN n f = 0 := by
  induction n with
  | zero => rfl
  | succ n ih => rw [sumN, ih fun i hi => h i (by omega), h n (by omega)]; grind
/-- two terms alone -/
theorem sumN_two {n i : Nat} {f : Nat → Rat} (hi : i + 1 < n) (h : ∀ k, k < n → k ≠ i → k ≠ i + 1 → f k = 0) : sumN n f = f i + f (i + 1) := by
  induction n with
  | zero => omega
  | succ n ih =>
    rw [sumN]
    by_cases e : n = i + 1
    · subst e
      rw [sumN, sumN_zero fun k hk => h k (by omega) (by omega) (by omega)]
      grind
    · rw [ih (by omega) fun k hk => h k (by omega), h n (by omega) (by omega) (by omega)]
      grind
theorem sumN_one {n i : Nat} {f : Nat → Rat} (hi : i < n) (h : ∀ k, k < n → k ≠ i → f k = 0) : sumN n f = f i := by
  induction n with
  | zero => omega
  | succ n ih =>
    rw [sumN]
    by_cases e : n = i
    · subst e
      rw [sumN_zero fun k hk => h k (by omega) (by omega)]
      grind
    · rw [ih (by omega) fun k hk => h k (by omega), h n (by omega) (by omega)]
      grind

/-! ### determinants, by the last column -/
abbrev Row := List Rat
abbrev Mat := List Row
def ent (r : Row) (j : Nat) : Rat := r.getD j 0
def rw' (m : Mat) (i : Nat) : Row := m.getD i []
def sgn (k : Nat) : Rat := if k % 2 = 0 then 1 else -1
def det : Nat → Mat → Rat
  | 0, _ => 1
  | n + 1, m => sumN (n + 1) fun i => sgn (n - i) * ent (rw' m i) n * det n (m.eraseIdx i)
theorem rw_set_eq {m : Mat} {i : Nat} {u : Row} (h : i < m.length) : rw' (m.set i u) i = u := by
  unfold rw'
  rw [List.getD_eq_getElem?_getD, List.getElem?_set_self h, Option.getD_some]
theorem rw_set_ne {m : Mat} {i k : Nat} {u : Row} (h : i ≠ k) : rw' (m.set i u) k = rw' m k := by
  unfold rw'
  rw [List.getD_eq_getElem?_getD, List.getElem?_set_ne h, ← List.getD_eq_getElem?_getD]
theorem set_self {m : Mat} {i : Nat} (h : i < m.length) : m.set i (rw' m i) = m := by
  unfold rw'
  rw [List.getD_eq_getElem?_getD, List.getElem?_eq_getElem h, Option.getD_some]
  exact List.set_getElem_self h
theorem rw_erase_lt {m : Mat} {i k : Nat} (h : k < i) : rw' (m.eraseIdx i) k = rw' m k := by
  unfold rw'
  rw [List.getD_eq_getElem?_getD, List.getElem?_eraseIdx_of_lt h, ← List.getD_eq_getElem?_getD]
theorem rw_erase_ge {m : Mat} {i k : Nat} (h : i ≤ k) : rw' (m.eraseIdx i) k = rw' m (k + 1) := by
  unfold rw'
  rw [List.getD_eq_getElem?_getD, List.getElem?_eraseIdx_of_ge h, ← List.getD_eq_getElem?_getD]
theorem mat_ext {a b : Mat} (hl : a.length = b.length) (h : ∀ i, i < a.length → rw' a i = rw' b i) : a = b := by
  refine List.ext_getElem hl fun i h1 h2 => ?_
  have := h i h1
  unfold rw' at this
  rw [List.getD_eq_getElem?_getD, List.getD_eq_getElem?_getD, List.getElem?_eq_getElem h1, List.getElem?_eq_getElem h2] at this
  exact this
theorem erase_set_eq {m : Mat} {i : Nat} {u : Row} : (m.set i u).eraseIdx i = m.eraseIdx i := by
  by_cases h : i < m.length
  · refine mat_ext (by rw [List.length_eraseIdx, List.length_eraseIdx, List.length_set]) fun k hk => ?_
    rcases Nat.lt_or_ge k i with z | z
    · rw [rw_erase_lt z, rw_erase_lt z, rw_set_ne (by omega)]
    · rw [rw_erase_ge z, rw_erase_ge z, rw_set_ne (by omega)]
  · rw [List.set_eq_of_length_le (by omega)]
theorem erase_set_lt {m : Mat} {i k : Nat} {u : Row} (h : k < i) : (m.set i u).eraseIdx k = (m.eraseIdx k).set (i - 1) u := by
  by_cases hi : i < m.length
  · have hl : ((m.set i u).eraseIdx k).length = m.length - 1 := by rw [List.length_eraseIdx, List.length_set, if_pos (by omega)]
    refine mat_ext (by rw [hl, List.length_set, List.length_eraseIdx, if_pos (by omega)]) fun j hj => ?_
    rw [hl] at hj
    by_cases e : j = i - 1
    · subst e
      rw [rw_set_eq (by rw [List.length_eraseIdx, if_pos (by omega)]; omega), rw_erase_ge (by omega), show i - 1 + 1 = i by omega, rw_set_eq hi]
    · rw [rw_set_ne (by omega)]
      rcases Nat.lt_or_ge j k with z | z
      · rw [rw_erase_lt z, rw_erase_lt z, rw_set_ne (by omega)]
      · rw [rw_erase_ge z, rw_erase_ge z, rw_set_ne (by omega)]
  · rw [List.set_eq_of_length_le (by omega), List.set_eq_of_length_le (by rw [List.length_eraseIdx]; split <;> omega)]
theorem erase_set_gt {m : Mat} {i k : Nat} {u : Row} (h : i < k) : (m.set i u).eraseIdx k = (m.eraseIdx k).set i u := by
  have hl : ((m.set i u).eraseIdx k).length = ((m.eraseIdx k).set i u).length := by rw [List.length_set, List.length_eraseIdx, List.length_eraseIdx, List.length_set]
  refine mat_ext hl fun j hj => ?_
  have hj2 : j < m.length := by
    rw [List.length_eraseIdx, List.length_set] at hj
    split at hj <;> omega
  by_cases e : j = i
  · subst e
    rw [rw_erase_lt h, rw_set_eq hj2, rw_set_eq]
    rw [List.length_eraseIdx]
    split <;> omega
  · rw [rw_set_ne (by omega)]
    rcases Nat.lt_or_ge j k with z | z
    · rw [rw_erase_lt z, rw_erase_lt z, rw_set_ne (by omega)]
    · rw [rw_erase_ge z, rw_erase_ge z, rw_set_ne (by omega)]
/-- linear in each row -/
theorem det_lin : ∀ {n : Nat} {m : Mat} {i : Nat} {u v w : Row} {c : Rat}, i < n → m.length = n → (∀ j, j < n → ent u j = ent v j + c * ent w j) → det n (m.set i u) = det n (m.set i v) + c * det n (m.set i w)
  | 0, m, i, u, v, w, c, hi, hl, h => by omega
  | n + 1, m, i, u, v, w, c, hi, hl, h => by
    simp only [det]
    rw [← sumN_add]
    refine sumN_congr fun k hk => ?_
    by_cases e : k = i
    · subst e
      rw [erase_set_eq, erase_set_eq, erase_set_eq, rw_set_eq (by omega), rw_set_eq (by omega), rw_set_eq (by omega), h n (by omega)]
      grind
    · have hl2 : (m.eraseIdx k).length = n := by rw [List.length_eraseIdx, if_pos (by omega)]; omega
      rw [rw_set_ne (by omega), rw_set_ne (by omega), rw_set_ne (by omega)]
      rcases Nat.lt_or_ge k i with z | z
      · rw [erase_set_lt z, erase_set_lt z, erase_set_lt z, det_lin (u := u) (v := v) (w := w) (c := c) (by omega) hl2 fun j hj => h j (by omega)]
        grind
      · rw [erase_set_gt (by omega), erase_set_gt (by omega), erase_set_gt (by omega), det_lin (u := u) (v := v) (w := w) (c := c) (by omega) hl2 fun j hj => h j (by omega)]
        grind
theorem sgn_succ {k : Nat} : sgn (k + 1) = - sgn k := by
  unfold sgn
  rcases Nat.mod_two_eq_zero_or_one k with z | z
  · rw [if_neg (by omega), if_pos z]
  · rw [if_pos (by omega), if_neg (by omega)]
    grind
/-- two rows side by side are the same -/
theorem det_adj : ∀ {n : Nat} {m : Mat} {i : Nat}, i + 1 < n → m.length = n → rw' m i = rw' m (i + 1) → det n m = 0
  | 0, m, i, hi, hl, h => by omega
  | n + 1, m, i, hi, hl, h => by
    simp only [det]
    have hl2 : ∀ k, k < n + 1 → (m.eraseIdx k).length = n := fun k hk => by rw [List.length_eraseIdx, if_pos (by omega)]; omega
    rw [sumN_two (i := i) hi fun k hk h1 h2 => ?_]
    · have e : m.eraseIdx i = m.eraseIdx (i + 1) := by
        refine mat_ext (by rw [hl2 i (by omega), hl2 (i + 1) (by omega)]) fun k hk => ?_
        rcases Nat.lt_trichotomy k i with z | z | z
        · rw [rw_erase_lt z, rw_erase_lt (by omega)]
        · subst z
          rw [rw_erase_ge (Nat.le_refl _), rw_erase_lt (by omega), h]
        · rw [rw_erase_ge (by omega), rw_erase_ge (by omega)]
      rw [e, h, show n - i = n - (i + 1) + 1 by omega, sgn_succ]
      grind
    · have : det n (m.eraseIdx k) = 0 := by
        rcases Nat.lt_or_ge k i with z | z
        · refine det_adj (i := i - 1) (by omega) (hl2 k hk) ?_
          rw [rw_erase_ge (by omega), rw_erase_ge (by omega), show i - 1 + 1 = i by omega]
          exact h
        · refine det_adj (i := i) (by omega) (hl2 k hk) ?_
          rw [rw_erase_lt (by omega), rw_erase_lt (by omega)]
          exact h
      rw [this]
      grind
def addR (n : Nat) (u v : Row) (c : Rat) : Row := (List.range n).map fun j => ent u j + c * ent v j
theorem ent_addR {n j : Nat} {u v : Row} {c : Rat} (h : j < n) : ent (addR n u v c) j = ent u j + c * ent v j := by
  unfold addR ent
  rw [List.getD_eq_getElem?_getD, List.getElem?_map, List.getElem?_range h]
  rfl
def swp (m : Mat) (i k : Nat) : Mat := (m.set i (rw' m k)).set k (rw' m i)
theorem swp_len {m : Mat} {i k : Nat} : (swp m i k).length = m.length := by unfold swp; rw [List.length_set, List.length_set]
theorem rw_swp {m : Mat} {i k j : Nat} (hi : i < m.length) (hk : k < m.length) : rw' (swp m i k) j = if j = k then rw' m i else if j = i then rw' m k else rw' m j := by
  unfold swp
  by_cases e : j = k
  · subst e
    rw [if_pos rfl, rw_set_eq (by rw [List.length_set]; exact hk)]
  · rw [if_neg e, rw_set_ne (by omega)]
    by_cases e2 : j = i
    · subst e2
      rw [if_pos rfl, rw_set_eq hi]
    · rw [if_neg e2, rw_set_ne (by omega)]
theorem set_comm {m : Mat} {i k : Nat} {u v : Row} (h : i ≠ k) : (m.set i u).set k v = (m.set k v).set i u := List.set_comm _ _ h
theorem det_swp_adj {n : Nat} {m : Mat} {i : Nat} (hi : i + 1 < n) (hl : m.length = n) : det n (swp m i (i + 1)) = - det n m := by
  have ne : i ≠ i + 1 := by omega
  -- rows u, v at i and i + 1
  have key : ∀ u v : Row, det n ((m.set i u).set (i + 1) v) = - det n ((m.set i v).set (i + 1) u) := fun u v => by
    have same : ∀ x : Row, det n ((m.set i x).set (i + 1) x) = 0 := fun x => by
      refine det_adj hi (by rw [List.length_set, List.length_set]; exact hl) ?_
      rw [rw_set_ne (by omega), rw_set_eq (by omega), rw_set_eq (by rw [List.length_set]; omega)]
    have h0 := same (addR n u v 1)
    rw [det_lin (u := addR n u v 1) (v := u) (w := v) (c := 1) hi (by rw [List.length_set]; exact hl) fun j hj => ent_addR hj] at h0
    have ex : ∀ x : Row, det n ((m.set i (addR n u v 1)).set (i + 1) x) = det n ((m.set i u).set (i + 1) x) + 1 * det n ((m.set i v).set (i + 1) x) := fun x => by
      rw [set_comm ne, det_lin (u := addR n u v 1) (v := u) (w := v) (c := 1) (by omega) (by rw [List.length_set]; exact hl) fun j hj => ent_addR hj, set_comm (Ne.symm ne), set_comm (Ne.symm ne)]
    rw [ex u, ex v, same u, same v] at h0
    grind
  have := key (rw' m (i + 1)) (rw' m i)
  rw [set_self (m := m) (by omega)] at this
  unfold swp
  rw [this]
  congr 2
  exact set_self (by omega)
theorem mul_swp {m : Mat} {i j k : Nat} (hi : i < m.length) (hj : j < m.length) (hk : k < m.length) (h1 : i ≠ j) (h2 : j ≠ k) (h3 : i ≠ k) : swp (swp (swp m j k) i j) j k = swp m i k := by
  have l1 : (swp m j k).length = m.length := swp_len
  have l2 : (swp (swp m j k) i j).length = m.length := by rw [swp_len, l1]
  refine mat_ext (by rw [swp_len, l2, swp_len]) fun x hx => ?_
  have A := fun y => rw_swp (m := m) (i := j) (k := k) (j := y) hj hk
  have B := fun y => rw_swp (m := swp m j k) (i := i) (k := j) (j := y) (by omega) (by omega)
  have C := fun y => rw_swp (m := swp (swp m j k) i j) (i := j) (k := k) (j := y) (by omega) (by omega)
  have D := fun y => rw_swp (m := m) (i := i) (k := k) (j := y) hi hk
  simp only [C, B, A, D]
  by_cases e1 : x = k
  · subst e1
    simp [h1, h2, h3, Ne.symm h1, Ne.symm h2, Ne.symm h3]
  · by_cases e2 : x = j
    · subst e2
      simp [h1, h2, h3, Ne.symm h1, Ne.symm h2, Ne.symm h3]
    · by_cases e3 : x = i
      · subst e3
        simp [h1, h2, h3, Ne.symm h1, Ne.symm h2, Ne.symm h3]
      · simp [e1, e2, e3]
theorem det_swp : ∀ {d n : Nat} {m : Mat} {i : Nat}, i + d + 1 < n → m.length = n → det n (swp m i (i + d + 1)) = - det n m
  | 0, n, m, i, hi, hl => det_swp_adj hi hl
  | d + 1, n, m, i, hi, hl => by
    have a := det_swp_adj (m := m) (i := i + d + 1) hi hl
    have b := det_swp (n := n) (d := d) (m := swp m (i + d + 1) (i + d + 2)) (i := i) (by omega) (by rw [swp_len]; exact hl)
    have c := det_swp_adj (m := swp (swp m (i + d + 1) (i + d + 2)) i (i + d + 1)) (i := i + d + 1) hi (by rw [swp_len, swp_len]; exact hl)
    have e := mul_swp (m := m) (i := i) (j := i + d + 1) (k := i + d + 2) (by omega) (by omega) (by omega) (by omega) (by omega) (by omega)
    rw [show i + (d + 1) + 1 = i + d + 2 by omega, ← e]
    rw [show i + d + 1 + 1 = i + d + 2 by omega] at a c
    rw [c, b, a]
    grind
theorem det_swap {n i k : Nat} {m : Mat} (h : i < k) (hk : k < n) (hl : m.length = n) : det n (swp m i k) = - det n m := by
  obtain ⟨d, rfl⟩ : ∃ d, k = i + d + 1 := ⟨k - i - 1, by omega⟩
  exact det_swp hk hl
/-- two rows are the same -/
theorem det_same {n i k : Nat} {m : Mat} (h : i < k) (hk : k < n) (hl : m.length = n) (e : rw' m i = rw' m k) : det n m = 0 := by
  have s := det_swap h hk hl
  have : swp m i k = m := by
    refine mat_ext swp_len fun x hx => ?_
    rw [rw_swp (by omega) (by omega)]
    by_cases e1 : x = k
    · subst e1
      rw [if_pos rfl, e]
    · rw [if_neg e1]
      by_cases e2 : x = i
      · subst e2
        rw [if_pos rfl, e]
      · rw [if_neg e2]
  rw [this] at s
  grind
/-- as much of one row added to another one -/
theorem det_add {n i k : Nat} {m : Mat} {u : Row} {c : Rat} (hi : i < n) (hk : k < n) (hne : i ≠ k) (hl : m.length = n) (h : ∀ j, j < n → ent u j = ent (rw' m i) j + c * ent (rw' m k) j) : det n (m.set i u) = det n m := by
  rw [det_lin (u := u) (v := rw' m i) (w := rw' m k) (c := c) hi hl h, set_self (by omega)]
  have z : det n (m.set i (rw' m k)) = 0 := by
    have e1 : rw' (m.set i (rw' m k)) i = rw' m k := rw_set_eq (by omega)
    have e2 : rw' (m.set i (rw' m k)) k = rw' m k := rw_set_ne hne
    rcases Nat.lt_or_gt_of_ne hne with z | z
    · exact det_same z hk (by rw [List.length_set]; exact hl) (e1.trans e2.symm)
    · exact det_same z hi (by rw [List.length_set]; exact hl) (e2.trans e1.symm)
  rw [z]
  grind
/-- only the entries count -/
theorem det_ent {n : Nat} {a b : Mat} (h : ∀ i j, i < n → j < n → ent (rw' a i) j = ent (rw' b i) j) : det n a = det n b := by
  induction n generalizing a b with
  | zero => rfl
  | succ n ih =>
    simp only [det]
    refine sumN_congr fun k hk => ?_
    rw [h k n hk (by omega), ih (a := a.eraseIdx k) (b := b.eraseIdx k) fun i j hi hj => ?_]
    rcases Nat.lt_or_ge i k with z | z
    · rw [rw_erase_lt z, rw_erase_lt z]
      exact h i j (by omega) (by omega)
    · rw [rw_erase_ge z, rw_erase_ge z]
      exact h (i + 1) j (by omega) (by omega)
theorem det_zrow {n i : Nat} {m : Mat} (hi : i < n) (hl : m.length = n) (h : ∀ j, j < n → ent (rw' m i) j = 0) : det n m = 0 := by
  have := det_lin (m := m) (u := rw' m i) (v := rw' m i) (w := rw' m i) (c := 1) hi hl fun j hj => by
    rw [h j hj]
    grind
  rw [set_self (by omega)] at this
  grind
/-- rows from number a on are 0 in the columns up to a -/
theorem det_flat : ∀ {n a : Nat} {m : Mat}, a < n → m.length = n → (∀ k j, a ≤ k → k < n → j ≤ a → ent (rw' m k) j = 0) → det n m = 0
  | 0, a, m, ha, hl, h => by omega
  | n + 1, a, m, ha, hl, h => by
    by_cases e : a = n
    · exact det_zrow (i := a) ha hl fun j hj => h a j (Nat.le_refl _) ha (by omega)
    · simp only [det]
      refine sumN_zero fun k hk => ?_
      have hl2 : (m.eraseIdx k).length = n := by rw [List.length_eraseIdx, if_pos (by omega)]; omega
      rw [det_flat (a := a) (by omega) hl2 fun i j h1 h2 h3 => ?_]
      · grind
      · rcases Nat.lt_or_ge i k with z | z
        · rw [rw_erase_lt z]
          exact h i j h1 (by omega) h3
        · rw [rw_erase_ge z]
          exact h (i + 1) j (by omega) (by omega) h3
def prodN : Nat → (Nat → Rat) → Rat
  | 0, _ => 1
  | n + 1, f => prodN n f * f n
theorem prodN_congr {n : Nat} {f g : Nat → Rat} (h : ∀ i, i < n → f i = g i) : prodN n f = prodN n g := by
  induction n with
  | zero => rfl
  | succ n ih => rw [prodN, prodN, ih fun i hi => h i (by omega), h n (by omega)]
theorem prodN_ne {n : Nat} {f : Nat → Rat} (h : ∀ i, i < n → f i ≠ 0) : prodN n f ≠ 0 := by
  induction n with
  | zero => simp only [prodN]; grind
  | succ n ih =>
    have := ih fun i hi => h i (by omega)
    have := h n (by omega)
    simp only [prodN]
    grind
theorem det_tri : ∀ {n : Nat} {m : Mat}, m.length = n → (∀ k j, k < n → j < k → ent (rw' m k) j = 0) → det n m = prodN n fun i => ent (rw' m i) i
  | 0, m, hl, h => rfl
  | n + 1, m, hl, h => by
    have hl2 : ∀ k, k < n + 1 → (m.eraseIdx k).length = n := fun k hk => by rw [List.length_eraseIdx, if_pos (by omega)]; omega
    simp only [det]
    rw [sumN_one (i := n) (by omega) fun k hk hne => ?_]
    · rw [det_tri (hl2 n (by omega)) fun k j hk hj => ?_]
      · rw [show sgn (n - n) = 1 by rw [Nat.sub_self]; rfl]
        simp only [prodN]
        rw [prodN_congr (g := fun i => ent (rw' m i) i) fun i hi => by rw [rw_erase_lt (by omega)]]
        grind
      · rw [rw_erase_lt (by omega)]
        exact h k j (by omega) hj
    · have : det n (m.eraseIdx k) = 0 := by
        refine det_zrow (i := n - 1) (by omega) (hl2 k hk) fun j hj => ?_
        rw [rw_erase_ge (by omega), show n - 1 + 1 = n by omega]
        exact h n j (by omega) hj
      rw [this]
      grind
end Rz

namespace Rz

/-! ### matrices by their rows, chosen columns -/
def mkM (n : Nat) (f : Nat → Row) : Mat := (List.range n).map f
theorem mkM_len {n : Nat} {f : Nat → Row} : (mkM n f).length = n := by unfold mkM; rw [List.length_map, List.length_range]
theorem rw_mkM {n i : Nat} {f : Nat → Row} (h : i < n) : rw' (mkM n f) i = f i := by
  unfold rw' mkM
  rw [List.getD_eq_getElem?_getD, List.getElem?_map, List.getElem?_range h]
  rfl
def sel (N : Nat) (cs : Nat → Nat) (r : Row) : Row := (List.range N).map fun t => ent r (cs t)
theorem ent_sel {N t : Nat} {cs : Nat → Nat} {r : Row} (h : t < N) : ent (sel N cs r) t = ent r (cs t) := by
  unfold ent sel
  rw [List.getD_eq_getElem?_getD, List.getElem?_map, List.getElem?_range h]
  rfl

/-! ### r is s with as much of some rows of O -/
inductive Comb (n : Nat) (O : Mat) (P : Nat → Prop) : Row → Row → Prop
  | base {r s : Row} (h : ∀ j, j < n → ent r j = ent s j) : Comb n O P r s
  | step {r r' s : Row} (i : Nat) (c : Rat) (hi : P i) (h : Comb n O P r s) (e : ∀ j, j < n → ent r' j = ent r j + c * ent (rw' O i) j) : Comb n O P r' s
theorem Comb.refl {n : Nat} {O : Mat} {P : Nat → Prop} {r : Row} : Comb n O P r r := .base fun _ _ => rfl
theorem Comb.move {n : Nat} {O O' : Mat} {P P' : Nat → Prop} {r s : Row} (h : Comb n O P r s) (hp : ∀ i, P i → P' i ∧ rw' O' i = rw' O i) : Comb n O' P' r s := by
  induction h with
  | base h => exact .base h
  | step i c hi _ e ih =>
    obtain ⟨a, b⟩ := hp i hi
    exact .step i c a ih fun j hj => by rw [b]; exact e j hj
theorem Comb.cut {n n' : Nat} {O : Mat} {P : Nat → Prop} {r s : Row} (h : Comb n O P r s) (hn : n' ≤ n) : Comb n' O P r s := by
  induction h with
  | base h => exact .base fun j hj => h j (by omega)
  | step i c hi _ e ih => exact .step i c hi ih fun j hj => e j (by omega)
theorem Comb.add {n : Nat} {O : Mat} {P Q : Nat → Prop} {x y s : Row} {a : Nat} (hx : Comb n O Q x y) (hQ : ∀ i, Q i → P i) (ha : P a) (hy : y = rw' O a) : ∀ {r r' : Row} {c : Rat}, Comb n O P r s → (∀ j, j < n → ent r' j = ent r j + c * ent x j) → Comb n O P r' s := by
  induction hx with
  | base h =>
    intro r r' c hr e
    exact .step a c ha hr fun j hj => by rw [e j hj, h j hj, hy]
  | step i d hi _ e2 ih =>
    rename_i x0 x1 y0 hx0
    intro r r' c hr e
    have h1 := ih hy hr (r' := addR n r x0 c) (c := c) fun j hj => ent_addR hj
    refine .step i (c * d) (hQ i hi) h1 fun j hj => ?_
    rw [e j hj, e2 j hj, ent_addR hj]
    grind
theorem Comb.sel {n N : Nat} {O A : Mat} {P Q : Nat → Prop} {r s : Row} {cs : Nat → Nat} (h : Comb n O P r s) (hc : ∀ t, t < N → cs t < n) (hp : ∀ i, P i → Q i ∧ rw' A i = Rz.sel N cs (rw' O i)) : Comb N A Q (Rz.sel N cs r) (Rz.sel N cs s) := by
  induction h with
  | base h => exact .base fun j hj => by rw [ent_sel hj, ent_sel hj, h _ (hc j hj)]
  | step i c hi _ e ih =>
    obtain ⟨a, b⟩ := hp i hi
    exact .step i c a ih fun j hj => by rw [b, ent_sel hj, ent_sel hj, ent_sel hj, e _ (hc j hj)]
/-- a row is another one with as much of other rows that stand there -/
theorem comb_set {n k : Nat} {A H : Mat} {P : Nat → Prop} {r s : Row} (hk : k < n) (hl : H.length = n) (hP : ∀ i, P i → i < n ∧ i ≠ k ∧ rw' H i = rw' A i) (h : Comb n A P r s) : det n (H.set k r) = det n (H.set k s) := by
  induction h with
  | base h =>
    refine det_ent fun i j hi hj => ?_
    by_cases e : i = k
    · subst e
      rw [rw_set_eq (by omega), rw_set_eq (by omega), h j hj]
    · rw [rw_set_ne (by omega), rw_set_ne (by omega)]
  | step i c hi _ e ih =>
    rename_i r0 r1 s0 h0
    obtain ⟨a1, a2, a3⟩ := hP i hi
    rw [← ih]
    have := det_add (m := H.set k r0) (u := r1) (c := c) (i := k) (k := i) hk a1 (Ne.symm a2) (by rw [List.length_set]; exact hl) fun j hj => by
      rw [rw_set_eq (by omega), rw_set_ne (Ne.symm a2), a3]
      exact e j hj
    rw [List.set_set] at this
    exact this
/-- each row is one of A with as much of rows ahead -/
theorem det_down {n : Nat} {A B : Mat} (hA : A.length = n) (hB : B.length = n) (h : ∀ k, k < n → Comb n A (fun i => i < k) (rw' B k) (rw' A k)) : det n B = det n A := by
  have key : ∀ d, d ≤ n → det n (mkM n fun i => if i < d then rw' A i else rw' B i) = det n A := by
    intro d hd
    induction hk : n - d generalizing d with
    | zero =>
      have : d = n := by omega
      subst this
      exact det_ent fun i j hi hj => by rw [rw_mkM hi, if_pos hi]
    | succ m ih =>
      have h1 := ih (d + 1) (by omega) (by omega)
      rw [← h1]
      have hdn : d < n := by omega
      have c := comb_set (n := n) (k := d) (A := A) (H := mkM n fun i => if i < d + 1 then rw' A i else rw' B i) (P := fun i => i < d) hdn mkM_len (fun i hi => ⟨by omega, by omega, by rw [rw_mkM (by omega), if_pos (by omega)]⟩) (h d hdn)
      have e1 : (mkM n fun i => if i < d + 1 then rw' A i else rw' B i).set d (rw' B d) = mkM n fun i => if i < d then rw' A i else rw' B i := by
        refine mat_ext (by rw [List.length_set, mkM_len, mkM_len]) fun i hi => ?_
        rw [List.length_set, mkM_len] at hi
        by_cases e : i = d
        · subst e
          rw [rw_set_eq (by rw [mkM_len]; exact hi), rw_mkM hi, if_neg (by omega)]
        · rw [rw_set_ne (by omega), rw_mkM hi, rw_mkM hi]
          by_cases z : i < d
          · rw [if_pos z, if_pos (by omega)]
          · rw [if_neg z, if_neg (by omega)]
      have e2 : (mkM n fun i => if i < d + 1 then rw' A i else rw' B i).set d (rw' A d) = mkM n fun i => if i < d + 1 then rw' A i else rw' B i := by
        refine mat_ext (by rw [List.length_set]) fun i hi => ?_
        rw [List.length_set, mkM_len] at hi
        by_cases e : i = d
        · subst e
          rw [rw_set_eq (by rw [mkM_len]; exact hi), rw_mkM hi, if_pos (by omega)]
        · rw [rw_set_ne (by omega)]
      rw [e1, e2] at c
      exact c
  have h0 := key 0 (Nat.zero_le _)
  rw [← h0]
  exact det_ent fun i j hi hj => by rw [rw_mkM hi, if_neg (by omega)]
/-- .. of rows behind -/
theorem det_up {n : Nat} {A B : Mat} (hA : A.length = n) (hB : B.length = n) (h : ∀ k, k < n → Comb n A (fun i => k < i ∧ i < n) (rw' B k) (rw' A k)) : det n B = det n A := by
  have key : ∀ d, d ≤ n → det n (mkM n fun i => if i < d then rw' B i else rw' A i) = det n A := by
    intro d
    induction d with
    | zero =>
      intro _
      exact det_ent fun i j hi hj => by rw [rw_mkM hi, if_neg (by omega)]
    | succ d ih =>
      intro hd
      rw [← ih (by omega)]
      have hdn : d < n := by omega
      have c := comb_set (n := n) (k := d) (A := A) (H := mkM n fun i => if i < d then rw' B i else rw' A i) (P := fun i => d < i ∧ i < n) hdn mkM_len (fun i hi => ⟨hi.2, by omega, by rw [rw_mkM hi.2, if_neg (by omega)]⟩) (h d hdn)
      have e1 : (mkM n fun i => if i < d then rw' B i else rw' A i).set d (rw' B d) = mkM n fun i => if i < d + 1 then rw' B i else rw' A i := by
        refine mat_ext (by rw [List.length_set, mkM_len, mkM_len]) fun i hi => ?_
        rw [List.length_set, mkM_len] at hi
        by_cases e : i = d
        · subst e
          rw [rw_set_eq (by rw [mkM_len]; exact hi), rw_mkM hi, if_pos (by omega)]
        · rw [rw_set_ne (by omega), rw_mkM hi, rw_mkM hi]
          by_cases z : i < d
          · rw [if_pos z, if_pos (by omega)]
          · rw [if_neg z, if_neg (by omega)]
      have e2 : (mkM n fun i => if i < d then rw' B i else rw' A i).set d (rw' A d) = mkM n fun i => if i < d then rw' B i else rw' A i := by
        refine mat_ext (by rw [List.length_set]) fun i hi => ?_
        rw [List.length_set, mkM_len] at hi
        by_cases e : i = d
        · subst e
          rw [rw_set_eq (by rw [mkM_len]; exact hi), rw_mkM hi, if_neg (by omega)]
        · rw [rw_set_ne (by omega)]
      rw [e1, e2] at c
      exact c
  have h0 := key n (Nat.le_refl _)
  rw [← h0]
  exact det_ent fun i j hi hj => by rw [rw_mkM hi, if_pos hi]

/-! ### elimination, downwards -/
structure Gs (n nc : Nat) (O W : Mat) (a : Nat) : Prop where
  lo : O.length = n
  lw : W.length = n
  comb : ∀ k, k < n → Comb nc O (fun i => i < k ∧ i < a) (rw' W k) (rw' O k)
  tri : ∀ k j, k < n → j < a → j < k → ent (rw' W k) j = 0
  piv : ∀ i, i < a → ent (rw' W i) i ≠ 0
theorem Gs.start {n nc : Nat} {O : Mat} (h : O.length = n) : Gs n nc O O 0 := ⟨h, h, fun _ _ => .refl, fun _ _ _ z => absurd z (Nat.not_lt_zero _), fun _ z => absurd z (Nat.not_lt_zero _)⟩
theorem Gs.swap {n nc : Nat} {O W : Mat} {a f : Nat} (h : Gs n nc O W a) (hf : a ≤ f) (hfn : f < n) : Gs n nc (swp O a f) (swp W a f) a := by
  have hO := fun j => rw_swp (m := O) (i := a) (k := f) (j := j) (by rw [h.lo]; omega) (by rw [h.lo]; omega)
  have hW := fun j => rw_swp (m := W) (i := a) (k := f) (j := j) (by rw [h.lw]; omega) (by rw [h.lw]; omega)
  have same : ∀ i, i < a → rw' (swp O a f) i = rw' O i := fun i hi => by rw [hO, if_neg (by omega), if_neg (by omega)]
  refine ⟨by rw [swp_len]; exact h.lo, by rw [swp_len]; exact h.lw, fun k hk => ?_, fun k j hk hj hjk => ?_, fun i hi => ?_⟩
  · rw [hO k, hW k]
    by_cases e1 : k = f
    · subst e1
      rw [if_pos rfl, if_pos rfl]
      exact (h.comb a (by omega)).move fun i hi => ⟨⟨by omega, hi.2⟩, same i hi.2⟩
    · rw [if_neg e1, if_neg e1]
      by_cases e2 : k = a
      · subst e2
        rw [if_pos rfl, if_pos rfl]
        exact (h.comb f hfn).move fun i hi => ⟨⟨hi.2, hi.2⟩, same i hi.2⟩
      · rw [if_neg e2, if_neg e2]
        exact (h.comb k hk).move fun i hi => ⟨hi, same i hi.2⟩
  · rw [hW]
    by_cases e1 : k = f
    · rw [if_pos e1]
      exact h.tri a j (by omega) hj hj
    · rw [if_neg e1]
      by_cases e2 : k = a
      · rw [if_pos e2]
        exact h.tri f j hfn hj (by omega)
      · rw [if_neg e2]
        exact h.tri k j hk hj hjk
  · rw [hW, if_neg (by omega), if_neg (by omega)]
    exact h.piv i hi
/-- a row less as much of another one as makes it 0 in column a -/
def clr (row p : Row) (a : Nat) : Row := if ent row a = 0 then row else List.zipWith (fun v q => v - ent row a / ent p a * q) row p
theorem clr_len {row p : Row} {a : Nat} (h : p.length = row.length) : (clr row p a).length = row.length := by
  unfold clr
  split
  · rfl
  · rw [List.length_zipWith, h, Nat.min_self]
theorem ent_clr {row p : Row} {a j : Nat} (h : p.length = row.length) : ent (clr row p a) j = ent row j + (- (ent row a / ent p a)) * ent p j := by
  unfold clr
  split
  · rename_i e
    rw [e, Rat.div_def, Rat.zero_mul]
    grind
  · by_cases hj : j < row.length
    · simp only [ent, List.getD_eq_getElem?_getD]
      rw [List.getElem?_zipWith, List.getElem?_eq_getElem hj, List.getElem?_eq_getElem (by omega)]
      simp only [Option.getD_some]
      grind
    · simp only [ent, List.getD_eq_getElem?_getD]
      have z : ∀ f : Rat → Rat → Rat, (List.zipWith f row p)[j]? = none := fun f => List.getElem?_eq_none (by rw [List.length_zipWith]; omega)
      rw [z, List.getElem?_eq_none (show row.length ≤ j by omega), List.getElem?_eq_none (show p.length ≤ j by omega)]
      simp only [Option.getD_none]
      grind
def clrG (W : Mat) (a : Nat) : Mat := mkM W.length fun k => if a < k then clr (rw' W k) (rw' W a) a else rw' W k
def Wide (nc : Nat) (W : Mat) : Prop := ∀ k, k < W.length → (rw' W k).length = nc
theorem Wide.swp {nc : Nat} {W : Mat} {a f : Nat} (h : Wide nc W) (ha : a < W.length) (hf : f < W.length) : Wide nc (swp W a f) := fun k hk => by
  rw [swp_len] at hk
  rw [rw_swp ha hf]
  split
  · exact h a ha
  · split
    · exact h f hf
    · exact h k hk
theorem Wide.clrG {nc : Nat} {W : Mat} {a : Nat} (h : Wide nc W) (ha : a < W.length) : Wide nc (clrG W a) := fun k hk => by
  unfold Rz.clrG at hk ⊢
  rw [mkM_len] at hk
  rw [rw_mkM hk]
  split
  · rw [clr_len (by rw [h a ha, h k hk]), h k hk]
  · exact h k hk
theorem Gs.clear {n nc : Nat} {O W : Mat} {a : Nat} (h : Gs n nc O W a) (hw : Wide nc W) (ha : a < n) (hac : a < nc) (hp : ent (rw' W a) a ≠ 0) : Gs n nc O (clrG W a) (a + 1) := by
  have hr : ∀ k, k < n → rw' (clrG W a) k = if a < k then clr (rw' W k) (rw' W a) a else rw' W k := fun k hk => by
    unfold clrG
    rw [rw_mkM (by rw [h.lw]; exact hk)]
  have hl : ∀ k, k < n → (rw' W a).length = (rw' W k).length := fun k hk => by rw [hw a (by rw [h.lw]; exact ha), hw k (by rw [h.lw]; exact hk)]
  refine ⟨h.lo, by unfold clrG; rw [mkM_len]; exact h.lw, fun k hk => ?_, fun k j hk hj hjk => ?_, fun i hi => ?_⟩
  · rw [hr k hk]
    split
    · rename_i hak
      refine Comb.add (a := a) (h.comb a ha) (fun i hi => ⟨by omega, by omega⟩) ⟨hak, by omega⟩ rfl (c := - (ent (rw' W k) a / ent (rw' W a) a)) ((h.comb k hk).move fun i hi => ⟨⟨hi.1, by omega⟩, rfl⟩) fun j hj => ent_clr (hl k hk)
    · rename_i hak
      exact (h.comb k hk).move fun i hi => ⟨⟨hi.1, by omega⟩, rfl⟩
  · rw [hr k hk]
    split
    · rename_i hak
      rw [ent_clr (hl k hk)]
      by_cases e : j = a
      · subst e
        have : ent (rw' W k) j / ent (rw' W j) j * ent (rw' W j) j = ent (rw' W k) j := Rat.div_mul_cancel hp
        grind
      · rw [h.tri k j hk (by omega) hjk, h.tri a j ha (by omega) (by omega)]
        grind
    · exact h.tri k j hk (by omega) hjk
  · rw [hr i (by omega), if_neg (by omega)]
    by_cases e : i = a
    · subst e
      exact hp
    · exact h.piv i (by omega)
/-- what stands at an entry: a quotient of minors -/
theorem Gs.lead {n nc : Nat} {O W : Mat} {a m : Nat} (h : Gs n nc O W a) (hm : m ≤ a) (hmn : m ≤ n) (hac : a ≤ nc) : det m (mkM m fun t => Rz.sel m id (rw' O t)) = prodN m fun t => ent (rw' W t) t := by
  have e1 := det_down (n := m) (A := mkM m fun t => Rz.sel m id (rw' O t)) (B := mkM m fun t => Rz.sel m id (rw' W t)) mkM_len mkM_len fun k hk => by
    rw [rw_mkM hk, rw_mkM hk]
    exact (h.comb k (by omega)).sel (fun t ht => by show t < nc; omega) fun i hi => ⟨hi.1, by rw [rw_mkM (by omega)]⟩
  rw [← e1, det_tri mkM_len fun k j hk hj => ?_]
  · exact prodN_congr fun i hi => by rw [rw_mkM hi, ent_sel hi]; rfl
  · rw [rw_mkM hk, ent_sel (by omega)]
    exact h.tri k j (by omega) (by omega) hj
theorem Gs.entry {n nc : Nat} {O W : Mat} {a m k j : Nat} (h : Gs n nc O W a) (hk : k < n) (hm : m = min k a) (hj : j < nc) (hac : a ≤ nc) :
    det (m + 1) (mkM (m + 1) fun t => Rz.sel (m + 1) (fun s => if s < m then s else j) (rw' O (if t < m then t else k))) = (prodN m fun t => ent (rw' W t) t) * ent (rw' W k) j := by
  have e1 := det_down (n := m + 1) (A := mkM (m + 1) fun t => Rz.sel (m + 1) (fun s => if s < m then s else j) (rw' O (if t < m then t else k))) (B := mkM (m + 1) fun t => Rz.sel (m + 1) (fun s => if s < m then s else j) (rw' W (if t < m then t else k))) mkM_len mkM_len fun t ht => by
    rw [rw_mkM ht, rw_mkM ht]
    refine (h.comb _ (by split <;> omega)).sel (fun s hs => by split <;> omega) fun i hi => ?_
    have hit : i < t ∧ i < m := by
      split at hi <;> omega
    exact ⟨hit.1, by rw [rw_mkM (by omega), if_pos hit.2]⟩
  rw [← e1, det_tri mkM_len fun t s ht hs => ?_]
  · simp only [prodN]
    rw [rw_mkM (Nat.lt_succ_self _), ent_sel (Nat.lt_succ_self _), if_neg (Nat.lt_irrefl _), if_neg (Nat.lt_irrefl _)]
    rw [prodN_congr (g := fun t => ent (rw' W t) t) fun i hi => by rw [rw_mkM (by omega), ent_sel (by omega), if_pos hi, if_pos hi]]
  · rw [rw_mkM ht, ent_sel (by omega), if_pos (show s < m by omega)]
    split
    · exact h.tri t s (by omega) (by omega) hs
    · exact h.tri k s hk (by omega) (by omega)
end Rz

namespace Rz

/-! ### sizes: as much as L of it is an integer of at most B -/
def Sc (L B : Nat) (q : Rat) : Prop := ∃ z : Int, q * ((L : Int) : Rat) = (z : Rat) ∧ z.natAbs ≤ B
theorem Sc.mul {L B L' B' : Nat} {p q : Rat} (h : Sc L B p) (k : Sc L' B' q) : Sc (L * L') (B * B') (p * q) := by
  obtain ⟨z, e, b⟩ := h
  obtain ⟨z', e', b'⟩ := k
  refine ⟨z * z', ?_, by rw [Int.natAbs_mul]; exact Nat.mul_le_mul b b'⟩
  rw [Int.natCast_mul, Rat.intCast_mul, Rat.intCast_mul, ← e, ← e']
  grind
theorem Sc.add {L B B' : Nat} {p q : Rat} (h : Sc L B p) (k : Sc L B' q) : Sc L (B + B') (p + q) := by
  obtain ⟨z, e, b⟩ := h
  obtain ⟨z', e', b'⟩ := k
  refine ⟨z + z', ?_, by omega⟩
  rw [Rat.intCast_add, ← e, ← e']
  grind
theorem Sc.neg {L B : Nat} {p : Rat} (h : Sc L B p) : Sc L B (-p) := by
  obtain ⟨z, e, b⟩ := h
  refine ⟨-z, ?_, by omega⟩
  rw [Rat.intCast_neg, ← e]
  grind
theorem Sc.sgn {L B k : Nat} {p : Rat} (h : Sc L B p) : Sc L B (Rz.sgn k * p) := by
  unfold Rz.sgn
  split
  · rw [Rat.one_mul]
    exact h
  · have := h.neg
    rw [show (-1 : Rat) * p = -p by grind]
    exact this
theorem Sc.zero {L B : Nat} : Sc L B 0 := ⟨0, by rw [Rat.zero_mul]; rfl, Nat.zero_le _⟩
theorem Sc.one {B : Nat} (h : 1 ≤ B) : Sc 1 B 1 := ⟨1, by rw [Rat.one_mul]; rfl, h⟩
theorem Sc.mono {L B B' : Nat} {p : Rat} (h : Sc L B p) (l : B ≤ B') : Sc L B' p := let ⟨z, e, b⟩ := h; ⟨z, e, Nat.le_trans b l⟩
theorem sumN_sc {L B : Nat} : ∀ {n : Nat} {f : Nat → Rat}, (∀ i, i < n → Sc L B (f i)) → Sc L (n * B) (sumN n f)
  | 0, f, _ => Sc.zero
  | n + 1, f, h => by
    rw [Nat.succ_mul]
    exact (sumN_sc fun i hi => h i (by omega)).add (h n (by omega))
def fct : Nat → Nat
  | 0 => 1
  | n + 1 => (n + 1) * fct n
theorem det_sc {L B : Nat} : ∀ {n : Nat} {m : Mat}, m.length = n → (∀ i j, i < n → j < n → Sc L B (ent (rw' m i) j)) → Sc (L ^ n) (fct n * B ^ n) (det n m)
  | 0, m, _, _ => Sc.one (by simp [fct])
  | n + 1, m, hl, h => by
    have key : ∀ i, i < n + 1 → Sc (L ^ (n + 1)) (B * (fct n * B ^ n)) (sgn (n - i) * ent (rw' m i) n * det n (m.eraseIdx i)) := fun i hi => by
      have hl2 : (m.eraseIdx i).length = n := by rw [List.length_eraseIdx, if_pos (by omega)]; omega
      have h1 := h i n hi (by omega)
      have h2 := det_sc (L := L) (B := B) hl2 fun k j hk hj => by
        rcases Nat.lt_or_ge k i with z | z
        · rw [rw_erase_lt z]
          exact h k j (by omega) (by omega)
        · rw [rw_erase_ge z]
          exact h (k + 1) j (by omega) (by omega)
      have h3 := (h1.mul h2).sgn (k := n - i)
      rw [Rat.mul_assoc, Nat.pow_succ, Nat.mul_comm (L ^ n) L]
      exact h3
    simp only [det]
    have := sumN_sc key
    rw [show fct (n + 1) * B ^ (n + 1) = (n + 1) * (B * (fct n * B ^ n)) by
      show (n + 1) * fct n * B ^ (n + 1) = _
      rw [Nat.pow_succ]
      simp only [Nat.mul_assoc, Nat.mul_comm, Nat.mul_left_comm]]
    exact this
theorem Sc.bd {L B k : Nat} {q : Rat} (h : Sc L B q) (hL : 0 < L) (h1 : L < 2 ^ k) (h2 : B < 2 ^ k) : Bd k q := by
  obtain ⟨z, e, b⟩ := h
  have hL0 : ((L : Int) : Rat) ≠ 0 := fun z => by
    have := Rat.intCast_eq_zero_iff.mp z
    omega
  have e2 : q = Rat.divInt z (L : Int) := by
    rw [Rat.divInt_eq_div, ← e, Rat.div_def, Rat.mul_assoc, Rat.mul_inv_cancel _ hL0, Rat.mul_one]
  rw [e2]
  exact Bd.of (by omega) (by omega) (by omega)
theorem fct_mono : ∀ {m n : Nat}, m ≤ n → fct m ≤ fct n
  | m, 0, h => by
    have : m = 0 := by omega
    subst this
    exact Nat.le_refl _
  | m, n + 1, h => by
    rcases Nat.lt_or_eq_of_le h with z | z
    · exact Nat.le_trans (show fct m ≤ fct n from fct_mono (by omega)) (show fct n ≤ (n + 1) * fct n from Nat.le_mul_of_pos_left _ (by omega))
    · rw [z]
      exact Nat.le_refl _
/-- the sizes of all minors -/
structure Small (n nc L B k : Nat) (O : Mat) : Prop where
  sc : ∀ i j, i < n → j < nc → Sc L B (ent (rw' O i) j)
  L0 : 0 < L
  B0 : 0 < B
  hL : L ^ n < 2 ^ k
  hB : fct n * B ^ n < 2 ^ k
theorem Small.minor {n nc L B k m : Nat} {O : Mat} (h : Small n nc L B k O) (hm : m ≤ n) {f : Nat → Row} (hf : ∀ i j, i < m → j < m → ∃ i' j', i' < n ∧ j' < nc ∧ ent (f i) j = ent (rw' O i') j') : Bd k (det m (mkM m f)) := by
  have := det_sc (L := L) (B := B) (m := mkM m f) mkM_len fun i j hi hj => by
    rw [rw_mkM hi]
    obtain ⟨i', j', a, b, e⟩ := hf i j hi hj
    rw [e]
    exact h.sc i' j' a b
  refine this.bd (Nat.pow_pos h.L0) (Nat.lt_of_le_of_lt (Nat.pow_le_pow_right h.L0 hm) h.hL) (Nat.lt_of_le_of_lt ?_ h.hB)
  exact Nat.mul_le_mul (fct_mono hm) (Nat.pow_le_pow_right h.B0 hm)
theorem Gs.leadBd {n nc L B k : Nat} {O W : Mat} {a m : Nat} (h : Gs n nc O W a) (s : Small n nc L B k O) (hm : m ≤ a) (hmn : m ≤ n) (hac : a ≤ nc) : Bd k (prodN m fun t => ent (rw' W t) t) := by
  rw [← h.lead hm hmn hac]
  exact s.minor hmn fun i j hi hj => ⟨i, j, by omega, by omega, by rw [ent_sel hj]; rfl⟩
theorem Gs.leadNe {n nc : Nat} {O W : Mat} {a m : Nat} (h : Gs n nc O W a) (hm : m ≤ a) : (prodN m fun t => ent (rw' W t) t) ≠ 0 := prodN_ne fun i hi => h.piv i (by omega)
theorem Gs.bd {n nc L B k : Nat} {O W : Mat} {a i j : Nat} (h : Gs n nc O W a) (s : Small n nc L B k O) (hi : i < n) (hj : j < nc) (hac : a ≤ nc) : Bd (k + k) (ent (rw' W i) j) := by
  have e := h.entry (m := min i a) hi rfl hj hac
  have b1 : Bd k (det (min i a + 1) (mkM (min i a + 1) fun t => Rz.sel (min i a + 1) (fun s => if s < min i a then s else j) (rw' O (if t < min i a then t else i)))) := by
    refine s.minor (by omega) fun i' j' hi' hj' => ⟨if i' < min i a then i' else i, if j' < min i a then j' else j, by split <;> omega, by split <;> omega, by rw [ent_sel hj']⟩
  have b2 := h.leadBd s (m := min i a) (by omega) (by omega) hac
  have n2 := h.leadNe (m := min i a) (by omega)
  have : ent (rw' W i) j = det (min i a + 1) (mkM (min i a + 1) fun t => Rz.sel (min i a + 1) (fun s => if s < min i a then s else j) (rw' O (if t < min i a then t else i))) / prodN (min i a) fun t => ent (rw' W t) t := by
    rw [e]
    grind
  rw [this]
  exact b1.div b2 n2

/-! ### elimination, in both directions -/
structure Js (n nc : Nat) (O U W : Mat) (a : Nat) : Prop where
  g : Gs n nc O U a
  lw : W.length = n
  low : ∀ k, a ≤ k → k < n → rw' W k = rw' U k
  up : ∀ k, k < a → k < n → Comb nc U (fun i => k < i ∧ i < a) (rw' W k) (rw' U k)
  dg : ∀ k j, k < n → j < a → k ≠ j → ent (rw' W k) j = 0
def clrJ (W : Mat) (a : Nat) : Mat := mkM W.length fun k => if k = a then rw' W k else clr (rw' W k) (rw' W a) a
theorem Js.start {n nc : Nat} {O : Mat} (h : O.length = n) : Js n nc O O O 0 := ⟨.start h, h, fun _ _ _ => rfl, fun _ z => absurd z (Nat.not_lt_zero _), fun _ _ _ z => absurd z (Nat.not_lt_zero _)⟩
theorem Js.swap {n nc : Nat} {O U W : Mat} {a f : Nat} (h : Js n nc O U W a) (hf : a ≤ f) (hfn : f < n) : Js n nc (swp O a f) (swp U a f) (swp W a f) a := by
  have hU := fun j => rw_swp (m := U) (i := a) (k := f) (j := j) (by rw [h.g.lw]; omega) (by rw [h.g.lw]; omega)
  have hW := fun j => rw_swp (m := W) (i := a) (k := f) (j := j) (by rw [h.lw]; omega) (by rw [h.lw]; omega)
  refine ⟨h.g.swap hf hfn, by rw [swp_len]; exact h.lw, fun k hk hkn => ?_, fun k hk hkn => ?_, fun k j hk hj hne => ?_⟩
  · rw [hU, hW, h.low a (Nat.le_refl _) (by omega), h.low f hf hfn, h.low k hk hkn]
  · rw [hU k, hW k, if_neg (by omega), if_neg (by omega), if_neg (by omega), if_neg (by omega)]
    exact (h.up k hk hkn).move fun i hi => ⟨hi, by rw [hU, if_neg (by omega), if_neg (by omega)]⟩
  · rw [hW]
    by_cases e1 : k = f
    · rw [if_pos e1]
      exact h.dg a j (by omega) hj (by omega)
    · rw [if_neg e1]
      by_cases e2 : k = a
      · rw [if_pos e2]
        exact h.dg f j hfn hj (by omega)
      · rw [if_neg e2]
        exact h.dg k j hk hj hne
theorem Wide.clrJ {nc : Nat} {W : Mat} {a : Nat} (h : Wide nc W) (ha : a < W.length) : Wide nc (clrJ W a) := fun k hk => by
  unfold Rz.clrJ at hk ⊢
  rw [mkM_len] at hk
  rw [rw_mkM hk]
  split
  · exact h k hk
  · rw [clr_len (by rw [h a ha, h k hk]), h k hk]
theorem Js.clear {n nc : Nat} {O U W : Mat} {a : Nat} (h : Js n nc O U W a) (hw : Wide nc W) (hu : Wide nc U) (ha : a < n) (hac : a < nc) (hp : ent (rw' W a) a ≠ 0) : Js n nc O (clrG U a) (clrJ W a) (a + 1) := by
  have ea := h.low a (Nat.le_refl _) ha
  have hrU : ∀ k, k < n → rw' (clrG U a) k = if a < k then clr (rw' U k) (rw' U a) a else rw' U k := fun k hk => by
    unfold clrG
    rw [rw_mkM (by rw [h.g.lw]; exact hk)]
  have hrW : ∀ k, k < n → rw' (clrJ W a) k = if k = a then rw' W k else clr (rw' W k) (rw' W a) a := fun k hk => by
    unfold clrJ
    rw [rw_mkM (by rw [h.lw]; exact hk)]
  have hl : ∀ k, k < n → (rw' W a).length = (rw' W k).length := fun k hk => by rw [hw a (by rw [h.lw]; exact ha), hw k (by rw [h.lw]; exact hk)]
  refine ⟨h.g.clear hu ha hac (by rw [← ea]; exact hp), by unfold clrJ; rw [mkM_len]; exact h.lw, fun k hk hkn => ?_, fun k hk hkn => ?_, fun k j hk hj hne => ?_⟩
  · rw [hrU k hkn, hrW k hkn, if_neg (by omega), if_pos (by omega), h.low k (by omega) hkn, ea]
  · rw [hrU k hkn, if_neg (show ¬ a < k by omega), hrW k hkn]
    by_cases e : k = a
    · rw [if_pos e, e, ea]
      exact .refl
    · rw [if_neg e]
      have c := (h.up k (by omega) hkn).move (O' := clrG U a) (P' := fun i => k < i ∧ i < a + 1) fun i hi => ⟨⟨hi.1, by omega⟩, by rw [hrU i (by omega), if_neg (by omega)]⟩
      refine .step a (- (ent (rw' W k) a / ent (rw' W a) a)) ⟨by omega, by omega⟩ c fun j hj => ?_
      rw [ent_clr (hl k hkn), hrU a ha, if_neg (by omega), ← ea]
  · rw [hrW k hk]
    by_cases e : k = a
    · rw [if_pos e]
      exact h.dg k j hk (by omega) hne
    · rw [if_neg e, ent_clr (hl k hk)]
      by_cases e2 : j = a
      · subst e2
        have : ent (rw' W k) j / ent (rw' W j) j * ent (rw' W j) j = ent (rw' W k) j := Rat.div_mul_cancel hp
        grind
      · rw [h.dg k j hk (by omega) hne, h.dg a j ha (by omega) (by omega)]
        grind
/-- the diagonal is that of the one direction -/
theorem Js.diag {n nc : Nat} {O U W : Mat} {a k : Nat} (h : Js n nc O U W a) (hk : k < a) (hkn : k < n) (han : a ≤ n) (hac : a ≤ nc) : ent (rw' W k) k = ent (rw' U k) k := by
  have key : ∀ {r s : Row}, Comb nc U (fun i => k < i ∧ i < a) r s → ent r k = ent s k := fun c => by
    induction c with
    | base h => exact h k (by omega)
    | step i c hi _ e ih =>
      rw [e k (by omega), ih, h.g.tri i k (by omega) hk hi.1]
      grind
  exact key (h.up k hk hkn)
theorem prodN_at {n k : Nat} {f : Nat → Rat} {x : Rat} (hk : k < n) : (prodN n fun t => if t = k then x else f t) * f k = prodN n f * x := by
  induction n with
  | zero => omega
  | succ n ih =>
    simp only [prodN]
    by_cases e : n = k
    · subst e
      rw [if_pos rfl, prodN_congr (g := f) fun i hi => if_neg (by omega)]
      grind
    · rw [if_neg e]
      have := ih (by omega)
      grind
theorem Js.bd {n nc L B k : Nat} {O U W : Mat} {a i j : Nat} (h : Js n nc O U W a) (s : Small n nc L B k O) (hi : i < n) (hj : j < nc) (han : a ≤ n) (hac : a ≤ nc) : Bd (4 * k) (ent (rw' W i) j) := by
  by_cases hia : a ≤ i
  · rw [h.low i hia hi]
    exact (h.g.bd s hi hj hac).mono (by omega)
  · have hia : i < a := by omega
    obtain ⟨b, rfl⟩ : ∃ b, a = b + 1 := ⟨a - 1, by omega⟩
    -- the minor with column j in the place of column i
    have DO : Bd k (det (b + 1) (mkM (b + 1) fun t => Rz.sel (b + 1) (fun s => if s = b then j else if s = i then b else s) (rw' O t))) := by
      refine s.minor han fun i' j' hi' hj' => ⟨i', if j' = b then j else if j' = i then b else j', by omega, ?_, by rw [ent_sel hj']⟩
      split
      · exact hj
      · split <;> omega
    have hcs : ∀ t, t < b + 1 → (if t = b then j else if t = i then b else t) < nc := fun t ht => by
      split
      · exact hj
      · split <;> omega
    have e1 := det_down (n := b + 1) (A := mkM (b + 1) fun t => Rz.sel (b + 1) (fun s => if s = b then j else if s = i then b else s) (rw' O t)) (B := mkM (b + 1) fun t => Rz.sel (b + 1) (fun s => if s = b then j else if s = i then b else s) (rw' U t)) mkM_len mkM_len fun t ht => by
      rw [rw_mkM ht, rw_mkM ht]
      exact (h.g.comb t (by omega)).sel hcs fun i' hi' => ⟨hi'.1, by rw [rw_mkM (by omega)]⟩
    have e2 := det_up (n := b + 1) (A := mkM (b + 1) fun t => Rz.sel (b + 1) (fun s => if s = b then j else if s = i then b else s) (rw' U t)) (B := mkM (b + 1) fun t => Rz.sel (b + 1) (fun s => if s = b then j else if s = i then b else s) (rw' W t)) mkM_len mkM_len fun t ht => by
      rw [rw_mkM ht, rw_mkM ht]
      exact (h.up t ht (by omega)).sel hcs fun i' hi' => ⟨hi', by rw [rw_mkM (by omega)]⟩
    have lead := h.g.lead (m := b + 1) (Nat.le_refl _) han hac
    have leadW : (prodN (b + 1) fun t => ent (rw' U t) t) = prodN (b + 1) fun t => ent (rw' W t) t := prodN_congr fun t ht => (h.diag ht (by omega) han hac).symm
    have l2 := h.g.leadBd s (m := b + 1) (Nat.le_refl _) han hac
    have l3 := h.g.leadNe (m := b + 1) (Nat.le_refl _)
    have wii : Bd (k + k) (ent (rw' W i) i) := by
      rw [h.diag hia hi han hac]
      exact h.g.bd s hi (by omega) hac
    have sq : ∀ t, t < b + 1 → ∀ q, q < b + 1 → ent (Rz.sel (b + 1) (fun s => if s = b then j else if s = i then b else s) (rw' W t)) q = ent (rw' W t) (if q = b then j else if q = i then b else q) := fun t ht q hq => ent_sel hq
    by_cases eb : i = b
    · subst eb
      have tr := det_tri (n := i + 1) (m := mkM (i + 1) fun t => Rz.sel (i + 1) (fun s => if s = i then j else if s = i then i else s) (rw' W t)) mkM_len fun t q ht hq => by
        rw [rw_mkM ht, sq t ht q (by omega), if_neg (by omega), if_neg (by omega)]
        exact h.dg t q (by omega) (by omega) (by omega)
      simp only [prodN] at tr
      rw [prodN_congr (g := fun t => ent (rw' W t) t) fun t ht => by rw [rw_mkM (by omega), sq t (by omega) t (by omega), if_neg (by omega), if_neg (by omega)], rw_mkM (Nat.lt_succ_self _), sq i (by omega) i (by omega), if_pos rfl] at tr
      have fin : ent (rw' W i) j = det (i + 1) (mkM (i + 1) fun t => Rz.sel (i + 1) (fun s => if s = i then j else if s = i then i else s) (rw' O t)) * ent (rw' W i) i / prodN (i + 1) fun t => ent (rw' U t) t := by
        rw [← e1, ← e2, tr, leadW]
        rw [leadW] at l3
        simp only [prodN] at l3 ⊢
        grind
      rw [fin]
      exact ((DO.mul wii).div l2 l3).mono (by omega)
    · have lM : (mkM (b + 1) fun t => Rz.sel (b + 1) (fun s => if s = b then j else if s = i then b else s) (rw' W t)).length = b + 1 := mkM_len
      have sw := det_swap (n := b + 1) (i := i) (k := b) (m := mkM (b + 1) fun t => Rz.sel (b + 1) (fun s => if s = b then j else if s = i then b else s) (rw' W t)) (by omega) (by omega) lM
      have hS := fun t => rw_swp (m := mkM (b + 1) fun t => Rz.sel (b + 1) (fun s => if s = b then j else if s = i then b else s) (rw' W t)) (i := i) (k := b) (j := t) (by rw [lM]; omega) (by rw [lM]; omega)
      have tr := det_tri (n := b + 1) (m := swp (mkM (b + 1) fun t => Rz.sel (b + 1) (fun s => if s = b then j else if s = i then b else s) (rw' W t)) i b) (by rw [swp_len]; exact lM) fun t q ht hq => by
        rw [hS]
        by_cases z1 : t = b
        · rw [if_pos z1, rw_mkM (by omega), sq i (by omega) q (by omega), if_neg (by omega)]
          split
          · exact h.dg i b (by omega) (by omega) eb
          · exact h.dg i q (by omega) (by omega) (by omega)
        · rw [if_neg z1]
          by_cases z2 : t = i
          · rw [if_pos z2, rw_mkM (by omega), sq b (by omega) q (by omega), if_neg (by omega), if_neg (by omega)]
            exact h.dg b q (by omega) (by omega) (by omega)
          · rw [if_neg z2, rw_mkM (by omega), sq t ht q (by omega), if_neg (by omega)]
            split
            · exact h.dg t b (by omega) (by omega) z1
            · exact h.dg t q (by omega) (by omega) (by omega)
      simp only [prodN] at tr
      rw [prodN_congr (g := fun t => if t = i then ent (rw' W b) b else ent (rw' W t) t) fun t ht => by
        rw [hS, if_neg (by omega)]
        by_cases z2 : t = i
        · rw [if_pos z2, if_pos z2, rw_mkM (by omega), sq b (by omega) t (by omega), if_neg (by omega), if_pos z2]
        · rw [if_neg z2, if_neg z2, rw_mkM (by omega), sq t (by omega) t (by omega), if_neg (by omega), if_neg z2], hS, if_pos rfl, rw_mkM (by omega), sq i (by omega) b (by omega), if_pos rfl] at tr
      have pa := prodN_at (n := b) (k := i) (f := fun t => ent (rw' W t) t) (x := ent (rw' W b) b) (by omega)
      have fin : ent (rw' W i) j = (- det (b + 1) (mkM (b + 1) fun t => Rz.sel (b + 1) (fun s => if s = b then j else if s = i then b else s) (rw' O t))) * ent (rw' W i) i / prodN (b + 1) fun t => ent (rw' U t) t := by
        rw [← e1, ← e2, ← sw, tr, leadW]
        rw [leadW] at l3
        simp only [prodN] at l3 ⊢
        rw [← pa] at l3 ⊢
        grind
      rw [fin]
      exact ((DO.neg.mul wii).div l2 l3).mono (by omega)
/-- what solves the rows that came out solves the rows there were -/
def Sol (n : Nat) (x : Nat → Rat) (r : Row) : Prop := sumN n (fun j => ent r j * x j) = ent r n
theorem Sol.comb {n : Nat} {x : Nat → Rat} {O : Mat} {P : Nat → Prop} {r s : Row} (c : Comb (n + 1) O P r s) (hO : ∀ i, P i → Sol n x (rw' O i)) (hr : Sol n x r) : Sol n x s := by
  induction c with
  | base h =>
    unfold Sol at hr ⊢
    rw [← h n (by omega), ← hr]
    exact sumN_congr fun j hj => by rw [h j (by omega)]
  | step i c hi _ e ih =>
    refine ih ?_
    have hi2 := hO i hi
    unfold Sol at hr hi2 ⊢
    rename_i r0 r1 s0 h0
    have e3 : sumN n (fun j => ent r1 j * x j) = sumN n (fun j => ent r0 j * x j) + c * sumN n fun j => ent (rw' O i) j * x j := by
      rw [← sumN_add]
      exact sumN_congr fun j hj => by
        rw [e j (by omega)]
        grind
    rw [e3, hi2, e n (by omega)] at hr
    grind
theorem Js.sol {n : Nat} {x : Nat → Rat} {O U W : Mat} (h : Js n (n + 1) O U W n) (hW : ∀ k, k < n → Sol n x (rw' W k)) : ∀ k, k < n → Sol n x (rw' O k) := by
  have hU : ∀ d k, n - k = d → k < n → Sol n x (rw' U k) := by
    intro d
    induction d using Nat.strongRecOn with
    | ind d ih =>
      intro k hd hk
      exact Sol.comb (h.up k hk hk) (fun i hi => ih (n - i) (by omega) i rfl hi.2) (hW k hk)
  intro k
  induction k using Nat.strongRecOn with
  | ind k ih =>
    intro hk
    exact Sol.comb (h.g.comb k hk) (fun i hi => ih i hi.1 hi.2) (hU _ k rfl hk)
theorem Js.ends {n : Nat} {O U W : Mat} (h : Js n (n + 1) O U W n) {k : Nat} (hk : k < n) : Sol n (fun j => ent (rw' W j) n / ent (rw' W j) j) (rw' W k) := by
  unfold Sol
  rw [sumN_one (i := k) hk fun j hj hne => ?_]
  · have : ent (rw' W k) k ≠ 0 := by
      rw [h.diag hk hk (Nat.le_refl _) (by omega)]
      exact h.g.piv k hk
    grind
  · rw [h.dg k j hk hj (Ne.symm hne)]
    grind
/-- where there is no pivot, the determinant is 0 -/
theorem Gs.none {n nc : Nat} {O W : Mat} {a : Nat} (h : Gs n nc O W a) (ha : a < n) (hn : n ≤ nc) (hz : ∀ k, a ≤ k → k < n → ent (rw' W k) a = 0) : det n O = 0 := by
  rw [← det_down h.lo h.lw fun k hk => ((h.comb k hk).move (P' := fun i => i < k) fun i hi => ⟨hi.1, rfl⟩).cut hn]
  refine det_flat ha h.lw fun k j h1 h2 h3 => ?_
  rcases Nat.lt_or_eq_of_le h3 with z | z
  · exact h.tri k j h2 z (by omega)
  · rw [z]
    exact hz k h1 h2
end Rz

namespace Rz
open PySem PySem.Spec PyProof.Rows L2

/-! ### methods of lists, by named parts -/
def rInsert : V → List V → Hp → VK → Prop := fun x vs H Q => ∃ (l : Addr) (xs : List V) (i : Int) (y : V), x = .ref l ∧ vs = [.int i, y] ∧ H l = some (.lst xs) ∧ xs.length < sizeLine ∧ 0 ≤ i ∧ i < 2 ^ 63 ∧ Q .non (upd H l (.lst (xs.take i.toNat ++ [y] ++ xs.drop i.toNat)))
theorem zm_insert {X : Cx} : MtR X "list.insert" rInsert := mt_insert
def rBM (K : PySem.W.Frag) (T : String) (r : V → List V → Hp → VK → Prop) (t : TA) (σ : L2.St) (Q : VK) : V → Hp → Prop := fun x H1 => tyV K T x H1 ∧ t σ H1 fun xs H2 => r x xs H2 Q
section
variable {K : PySem.W.Frag} {H : Hp} {σ : L2.St} {t : TA} {Q : VK} {p : Addr} {xs : List V} {r : V → List V → Hp → VK → Prop} {to : TE} {T : String} {v x y : V}
theorem g_bm (h : to σ H (rBM K T r t σ Q)) : tBM K T r to t σ H Q := h
theorem g_bmL (h : SqL K H p xs) (q : t σ H fun vs H2 => r (.ref p) vs H2 Q) : rBM K "list" r t σ Q (.ref p) H := ⟨.inl ⟨rfl, xs, h⟩, q⟩
theorem g_append (h : H p = some (.lst xs)) (hl : xs.length ≤ 1000000) (q : Q .non (upd H p (.lst (xs ++ [y])))) : rAppend (.ref p) [y] H Q := ⟨p, xs, y, rfl, rfl, h, by have := sizeLine_eq; omega, q⟩
theorem g_insert {i : Nat} (h : H p = some (.lst xs)) (hl : xs.length ≤ 1000000) (hi : i ≤ 1000000) (q : Q .non (upd H p (.lst (xs.take i ++ y :: xs.drop i)))) : rInsert (.ref p) [.int (i : Int), y] H Q := by
  refine ⟨p, xs, (i : Int), y, rfl, rfl, h, by have := sizeLine_eq; omega, by omega, by omega, ?_⟩
  rw [Int.toNat_natCast, List.append_assoc]
  exact q
theorem flat_ints (ns : List Int) : (ns.map V.int).all flatV = true := by
  rw [List.all_eq_true]
  intro x hx
  obtain ⟨n, _, rfl⟩ := List.mem_map.mp hx
  rfl
theorem inV_ints (d : Int) (ns : List Int) : inV (.int d) (ns.map V.int) = decide (d ∈ ns) := by
  unfold inV
  induction ns with
  | nil => rfl
  | cons n ns ih =>
    rw [List.map_cons, List.any_cons, ih]
    show ((n == d) || decide (d ∈ ns)) = decide (d ∈ n :: ns)
    by_cases h : n = d
    · subst h
      simp
    · have h' : ¬ d = n := fun z => h z.symm
      simp [h, h']
theorem g_inL {d : Int} {ns : List Int} (h : SqL K H p (ns.map V.int)) (q : Q (.bl (decide (d ∈ ns))) H) : rIn K false (.int d) (.ref p) H Q :=
  ⟨p, _, rfl, .inl h, rfl, flat_ints ns, by rw [inV_ints]; exact q⟩
theorem g_index {d : Int} {ns : List Int} (h : SqL K H p (ns.map V.int)) (hd : d ∈ ns) (q : Q (.int (ns.idxOf d : Nat)) H) : rIndex K (.ref p) [.int d] H Q := by
  have hlt : ns.idxOf d < ns.length := List.idxOf_lt_length_of_mem hd
  refine ⟨p, ns.map V.int, .int d, ns.idxOf d, .int d, rfl, rfl, h, rfl, flat_ints ns, ?_, ?_, fun m z hm hz => ?_, q⟩
  · rw [List.getElem?_map, List.getElem?_eq_getElem hlt, List.getElem_idxOf]
    rfl
  · show (d == d) = true
    exact beq_self_eq_true d
  · rw [List.getElem?_map] at hz
    have hml : m < ns.length := by omega
    rw [List.getElem?_eq_getElem hml] at hz
    cases hz
    show (ns[m] == d) = false
    exact List.not_of_lt_findIdx (p := fun x => x == d) (xs := ns) (i := m) hm
end

/-! ### the rows of darts -/
abbrev Rows := List (List Int)
def twin (d : Int) : Int := d + 1 - 2 * (d % 2)
def atM (rows : Rows) (d : Int) : Nat × Nat :=
  let k := rows.findIdx fun r => decide (d ∈ r)
  if k < rows.length then (k, (rows.getD k []).idxOf d) else (0, 0)
def ins (i : Nat) (x : Int) (l : List Int) : List Int := l.take i ++ x :: l.drop i
def modRow (rows : Rows) (n : Nat) (f : List Int → List Int) : Rows := rows.set n (f (rows.getD n []))
/-- the next dart of the face to the left, none at the rim -/
def nxt (rows : Rows) (rim : Nat) (d : Int) : Option Int :=
  let q := atM rows (twin d)
  let row := rows.getD q.1 []
  if q.1 < rim ∧ q.2 + 1 = row.length then none else row[(q.2 + 1) % row.length]?
def walkF (rows : Rows) (rim : Nat) : Nat → List Int → Int → List Int
  | 0, found, _ => found
  | n + 1, found, d => match nxt rows rim d with
    | none => found
    | some d' => if some d' = found.head? then found else walkF rows rim n (found ++ [d']) d'
def faceM (rows : Rows) (rim : Nat) (d : Int) : List Int := walkF rows rim 200 [d] d
structure WF (rows : Rows) (E : Nat) : Prop where
  nd : rows.flatten.Nodup
  mem : ∀ d : Int, d ∈ rows.flatten ↔ 0 ≤ d ∧ d < 2 * (E : Int)
theorem mem_flat {rows : Rows} {d : Int} : d ∈ rows.flatten ↔ ∃ (k : Nat) (row : List Int), rows[k]? = some row ∧ d ∈ row := by
  rw [List.mem_flatten]
  constructor
  · rintro ⟨l, hl, hd⟩
    obtain ⟨k, hk⟩ := List.mem_iff_getElem?.mp hl
    exact ⟨k, l, hk, hd⟩
  · rintro ⟨k, row, hk, hd⟩
    exact ⟨row, List.mem_of_getElem? hk, hd⟩
/-- where a dart stands -/
theorem at_spec {rows : Rows} {d : Int} (h : d ∈ rows.flatten) : ∃ row, rows[(atM rows d).1]? = some row ∧ row[(atM rows d).2]? = some d := by
  obtain ⟨k, row, hk, hd⟩ := mem_flat.mp h
  have hlt : rows.findIdx (fun r => decide (d ∈ r)) < rows.length := List.findIdx_lt_length.mpr ⟨row, List.mem_of_getElem? hk, decide_eq_true hd⟩
  have hp := List.findIdx_getElem (xs := rows) (p := fun r => decide (d ∈ r)) (w := hlt)
  have hmem : d ∈ rows[rows.findIdx (fun r => decide (d ∈ r))] := of_decide_eq_true hp
  unfold atM
  simp only [hlt, if_true]
  refine ⟨_, List.getElem?_eq_getElem hlt, ?_⟩
  rw [List.getD_eq_getElem?_getD, List.getElem?_eq_getElem hlt, Option.getD_some]
  have h2 := List.idxOf_lt_length_of_mem hmem
  rw [List.getElem?_eq_getElem h2, List.getElem_idxOf]

/-! ### rows in the heap -/
structure RowsAt (H : Hp) (T : Addr) (rs : List Addr) (rows : Rows) : Prop where
  top : H T = some (.lst (rs.map V.ref))
  len : rs.length = rows.length
  at_ : ∀ (i : Nat) r row, rs[i]? = some r → rows[i]? = some row → H r = some (.lst (row.map V.int))
  nd : rs.Nodup
theorem RowsAt.get {H : Hp} {T : Addr} {rs : List Addr} {rows : Rows} (h : RowsAt H T rs rows) {i : Nat} {row : List Int} (e : rows[i]? = some row) : ∃ r, rs[i]? = some r ∧ H r = some (.lst (row.map V.int)) := by
  have hi : i < rs.length := by
    rw [h.len]
    exact (List.getElem?_eq_some_iff.mp e).1
  exact ⟨rs[i], List.getElem?_eq_getElem hi, h.at_ i _ row (List.getElem?_eq_getElem hi) e⟩
theorem RowsAt.neT {H : Hp} {T : Addr} {rs : List Addr} {rows : Rows} (h : RowsAt H T rs rows) {r : Addr} (hr : r ∈ rs) : r ≠ T := by
  intro e
  subst e
  obtain ⟨i, hi⟩ := List.mem_iff_getElem?.mp hr
  have hl : i < rows.length := by
    rw [← h.len]
    exact (List.getElem?_eq_some_iff.mp hi).1
  have h1 := h.at_ i r _ hi (List.getElem?_eq_getElem hl)
  have h2 := h.top
  rw [h1] at h2
  have h3 : (rows[i].map V.int) = rs.map V.ref := by
    injection h2 with h2
    injection h2
  cases hrs : rs with
  | nil =>
    rw [hrs] at hr
    cases hr
  | cons r' rs' =>
    rw [hrs] at h3
    cases hrow : rows[i] with
    | nil =>
      rw [hrow] at h3
      cases h3
    | cons z zs =>
      rw [hrow] at h3
      injection h3 with h3 _
      cases h3
theorem RowsAt.keep {H H' : Hp} {T : Addr} {rs : List Addr} {rows : Rows} (h : RowsAt H T rs rows) (k : ∀ b, b = T ∨ b ∈ rs → ∀ o, H b = some o → H' b = some o) : RowsAt H' T rs rows :=
  ⟨k T (.inl rfl) _ h.top, h.len, fun i r row a b => k r (.inr (List.mem_of_getElem? a)) _ (h.at_ i r row a b), h.nd⟩
theorem RowsAt.same {H H' : Hp} {T : Addr} {rs : List Addr} {rows : Rows} (h : RowsAt H T rs rows) (e : Same H H') : RowsAt H' T rs rows := h.keep fun b _ o z => e b o z
/-- a row is written -/
theorem RowsAt.row {H : Hp} {T : Addr} {rs : List Addr} {rows : Rows} (h : RowsAt H T rs rows) {n : Nat} {r : Addr} (hr : rs[n]? = some r) (row' : List Int) : RowsAt (upd H r (.lst (row'.map V.int))) T rs (rows.set n row') := by
  have hm := List.mem_of_getElem? hr
  refine ⟨by rw [upd_ne (h.neT hm).symm]; exact h.top, by rw [List.length_set]; exact h.len, fun i r' row a b => ?_, h.nd⟩
  by_cases hi : n = i
  · subst hi
    rw [hr] at a
    cases a
    have hl : n < rows.length := by
      rw [← h.len]
      exact (List.getElem?_eq_some_iff.mp hr).1
    rw [List.getElem?_set_self hl] at b
    cases b
    exact upd_same
  · rw [List.getElem?_set_ne hi] at b
    have hne : r' ≠ r := by
      intro e
      subst e
      exact hi (nd_ix h.nd hr a)
    rw [upd_ne hne]
    exact h.at_ i r' row a b
/-- a row more -/
theorem RowsAt.push {H : Hp} {T : Addr} {rs : List Addr} {rows : Rows} (h : RowsAt H T rs rows) {r : Addr} {row : List Int} (hr : H r = some (.lst (row.map V.int))) (hn : r ∉ rs) (hT : r ≠ T) :
    RowsAt (upd H T (.lst (rs.map V.ref ++ [.ref r]))) T (rs ++ [r]) (rows ++ [row]) := by
  refine ⟨by rw [upd_same, List.map_append]; rfl, by rw [List.length_append, List.length_append, h.len]; rfl, fun i r' row' a b => ?_, ?_⟩
  · by_cases hi : i < rs.length
    · rw [List.getElem?_append_left hi] at a
      rw [List.getElem?_append_left (h.len ▸ hi)] at b
      rw [upd_ne (h.neT (List.mem_of_getElem? a))]
      exact h.at_ i r' row' a b
    · rw [List.getElem?_append_right (by omega)] at a
      rw [List.getElem?_append_right (by rw [← h.len]; omega), ← h.len] at b
      by_cases h0 : i - rs.length = 0
      · rw [h0] at a b
        cases a
        cases b
        rw [upd_ne hT]
        exact hr
      · obtain ⟨j, hj⟩ : ∃ j, i - rs.length = j + 1 := ⟨i - rs.length - 1, by omega⟩
        rw [hj] at a
        simp at a
  · rw [List.nodup_append]
    refine ⟨h.nd, by simp, ?_⟩
    intro a ha b hb e
    rw [List.mem_singleton.mp hb] at e
    exact hn (e ▸ ha)
/-- a row is another object from now on -/
theorem RowsAt.swap {H : Hp} {T : Addr} {rs : List Addr} {rows : Rows} (h : RowsAt H T rs rows) {n : Nat} {r : Addr} {row : List Int} (hr : H r = some (.lst (row.map V.int))) (hn : r ∉ rs) (hT : r ≠ T) (hl : n < rs.length) :
    RowsAt (upd H T (.lst ((rs.map V.ref).set n (.ref r)))) T (rs.set n r) (rows.set n row) := by
  refine ⟨by rw [upd_same, List.map_set], by rw [List.length_set, List.length_set, h.len], fun i r' row' a b => ?_, ?_⟩
  · by_cases hi : n = i
    · subst hi
      rw [List.getElem?_set_self hl] at a
      rw [List.getElem?_set_self (h.len ▸ hl)] at b
      cases a
      cases b
      rw [upd_ne hT]
      exact hr
    · rw [List.getElem?_set_ne hi] at a
      rw [List.getElem?_set_ne hi] at b
      rw [upd_ne (h.neT (List.mem_of_getElem? a))]
      exact h.at_ i r' row' a b
  · refine List.pairwise_iff_getElem.mpr fun i j hi hj hij => ?_
    have hi' : i < rs.length := by rw [List.length_set] at hi; exact hi
    have hj' : j < rs.length := by rw [List.length_set] at hj; exact hj
    have key := List.pairwise_iff_getElem.mp h.nd i j hi' hj' hij
    rw [List.getElem_set, List.getElem_set]
    split
    · rename_i e1
      split
      · omega
      · intro e
        exact hn (e ▸ List.getElem_mem hj')
    · split
      · intro e
        exact hn (e ▸ List.getElem_mem hi')
      · exact key
theorem twin_range {d : Int} {E : Nat} (h : 0 ≤ d ∧ d < 2 * (E : Int)) : 0 ≤ twin d ∧ twin d < 2 * (E : Int) := by
  unfold twin
  omega
theorem twin_py (d : Int) : d + 1 - 2 * d.fmod 2 = twin d := by
  unfold twin
  rw [Int.fmod_eq_emod_of_nonneg _ (by decide)]
theorem fmod_nat (a b : Nat) : ((a : Int)).fmod (b : Int) = ((a % b : Nat) : Int) := by
  rw [Int.fmod_eq_emod_of_nonneg _ (by omega), Int.natCast_emod]
/-- the next dart is a dart -/
theorem nxt_mem {rows : Rows} {rim : Nat} {d d' : Int} (h : nxt rows rim d = some d') : d' ∈ rows.flatten := by
  unfold nxt at h
  simp only at h
  split at h
  · cases h
  · have hm := List.mem_of_getElem? h
    rw [List.getD_eq_getElem?_getD] at hm
    cases e : rows[(atM rows (twin d)).1]? with
    | none =>
      rw [e] at hm
      cases hm
    | some row =>
      rw [e, Option.getD_some] at hm
      exact mem_flat.mpr ⟨_, row, e, hm⟩
def Few (rows : Rows) : Prop := rows.length ≤ 10000 ∧ ∀ row ∈ rows, row.length ≤ 10000
def spAt : Sp := fun vs H Q _ => ∃ (T : Addr) (d : Int) (rs : List Addr) (rows : Rows), vs = [.ref T, .int d] ∧ RowsAt H T rs rows ∧ d ∈ rows.flatten ∧ Few rows ∧
  ∀ p, H p = none → Q (.ref p) (upd H p (.lst [.int ((atM rows d).1 : Nat), .int ((atM rows d).2 : Nat)]))
def spFace : Sp := fun vs H Q _ => ∃ (T : Addr) (rim E : Nat) (d : Int) (rs : List Addr) (rows : Rows), vs = [.ref T, .int (rim : Int), .int d] ∧ RowsAt H T rs rows ∧ WF rows E ∧ 0 ≤ d ∧ d < 2 * (E : Int) ∧ Few rows ∧
  ∀ p H', Same H H' → H p = none → H' p = some (.lst ((faceM rows rim d).map V.int)) → Q (.ref p) H'
end Rz

namespace Rz
open PySem PySem.Spec PyProof.Rows L2

/-! ### a list of ints is the empty list -/
theorem canLay_ints : ∀ ns : List Int, PyData.canLayAll0 (ns.map PyData.int) = true
  | [] => rfl
  | n :: ns => by
    show (PyData.canLay0 (.int n) && PyData.canLayAll0 (ns.map PyData.int)) = true
    rw [canLay_ints ns]
    rfl
theorem depth_ints : ∀ ns : List Int, PyData.depthAll (ns.map PyData.int) = 0
  | [] => rfl
  | n :: ns => by
    show max (PyData.depth (.int n)) (PyData.depthAll (ns.map PyData.int)) = 0
    rw [depth_ints ns]
    rfl
theorem shaped_ints (ns : List Int) : SeqAt.shaped (.list (ns.map PyData.int)) = true := by
  unfold SeqAt.shaped
  rw [Bool.and_eq_true]
  refine ⟨canLay_ints ns, decide_eq_true ?_⟩
  show PyData.depthAll (ns.map PyData.int) + 1 ≤ 64
  rw [depth_ints ns]
  decide
theorem dp_ints {K : PySem.W.Frag} {H : Hp} : ∀ ns : List Int, DpAll K H (ns.map V.int) (ns.map PyData.int)
  | [] => .nil
  | n :: ns => .cons (.int n) (dp_ints ns)
theorem g_eqNil {K : PySem.W.Frag} {H : Hp} {p q : Addr} {ns : List Int} {Q : VK} (h : SqL K H p (ns.map V.int)) (h2 : SqL K H q []) (k : Q (.bl (decide (ns = []))) H) : rEqD K (.ref p) (.ref q) H Q := by
  refine ⟨.list (ns.map PyData.int), .list [], .lst h (dp_ints ns), .lst h2 .nil, shaped_ints ns, by decide, ?_⟩
  have e : PyData.eqv (.list (ns.map PyData.int)) (.list []) = decide (ns = []) := by
    cases ns with
    | nil => rfl
    | cons n ns => rfl
  rw [e]
  exact k

/-! ### how the rows of a drawing grow -/
inductive Grow (rim E : Nat) (rows : Rows) : Rows → Prop
  | rimEdge (n o j : Nat) (hn : n < rim) (ho : o = (n + 1 + j) % rim) (hs : ∀ i, i < j → (n + 1 + i) % rim ≠ n ∧ rows.getD ((n + 1 + i) % rim) [] = []) :
      Grow rim E rows (modRow (modRow rows n (ins 0 (2 * (E : Int)))) o (fun row => row ++ [2 * (E : Int) + 1]))
  | before (n : Nat) (hn : n < rim) : Grow rim E rows ((rows ++ [rows.getD n [] ++ [2 * (E : Int) + 1]]).set n [2 * (E : Int)])
  | within (e : Nat) (he : e < E) : Grow rim E rows ((rows ++ [[2 * (e : Int) + 1, 2 * (E : Int)]]).set (atM rows (2 * (e : Int) + 1)).1 ((rows.getD (atM rows (2 * (e : Int) + 1)).1 []).set (atM rows (2 * (e : Int) + 1)).2 (2 * (E : Int) + 1)))
  | beside (e : Nat) (he : e < E) (r1 : Rows) (h1 : r1 = modRow rows (atM rows (2 * (e : Int))).1 (ins ((atM rows (2 * (e : Int))).2 + 1) (2 * (E : Int)))) :
      Grow rim E rows (modRow r1 (atM r1 (2 * (e : Int) + 1)).1 (ins (atM r1 (2 * (e : Int) + 1)).2 (2 * (E : Int) + 1)))
  | twig (n p : Nat) (hn : n < rows.length) (hp : p ≤ (rows.getD n []).length) : Grow rim E rows (modRow rows n (ins p (2 * (E : Int))) ++ [[2 * (E : Int) + 1]])
  | loop (n p : Nat) (hn : n < rows.length) (hp : p ≤ (rows.getD n []).length) : Grow rim E rows (modRow (modRow rows n (ins p (2 * (E : Int)))) n (ins (p + 1) (2 * (E : Int) + 1)))
  | across (d x y : Int) (hd : 0 ≤ d ∧ d < 2 * (E : Int)) (hx : x ∈ faceM rows rim d) (hy : y ∈ faceM rows rim d) (r1 : Rows) (h1 : r1 = modRow rows (atM rows x).1 (ins (atM rows x).2 (2 * (E : Int)))) :
      Grow rim E rows (modRow r1 (atM r1 y).1 (ins (atM r1 y).2 (2 * (E : Int) + 1)))

/-! ### the darts stay each once -/
theorem ins_perm (i : Nat) (x : Int) (l : List Int) : (ins i x l).Perm (x :: l) := by
  unfold ins
  have h := List.perm_middle (a := x) (l₁ := l.take i) (l₂ := l.drop i)
  rw [List.take_append_drop] at h
  exact h
theorem flatten_set : ∀ (rows : Rows) (n : Nat) (row row' : List Int) (zs : List Int), rows[n]? = some row → row'.Perm (zs ++ row) → (rows.set n row').flatten.Perm (zs ++ rows.flatten)
  | [], n, row, row', zs, h, _ => by simp at h
  | r :: rows, 0, row, row', zs, h, p => by
    have e : r = row := Option.some.inj h
    subst e
    show (row' ++ rows.flatten).Perm (zs ++ (r ++ rows.flatten))
    rw [← List.append_assoc]
    exact List.Perm.append_right _ p
  | r :: rows, n + 1, row, row', zs, h, p => by
    show (r ++ (rows.set n row').flatten).Perm (zs ++ (r ++ rows.flatten))
    refine (List.Perm.append_left r (flatten_set rows n row row' zs h p)).trans ?_
    rw [← List.append_assoc, ← List.append_assoc]
    exact List.Perm.append_right _ List.perm_append_comm
theorem modRow_perm {rows : Rows} {n : Nat} {f : List Int → List Int} {zs : List Int} (hn : n < rows.length) (hf : ∀ row, (f row).Perm (zs ++ row)) : (modRow rows n f).flatten.Perm (zs ++ rows.flatten) := by
  unfold modRow
  refine flatten_set rows n _ _ zs (List.getElem?_eq_getElem hn) ?_
  rw [List.getD_eq_getElem?_getD, List.getElem?_eq_getElem hn, Option.getD_some]
  exact hf _
theorem modRow_len {rows : Rows} {n : Nat} {f : List Int → List Int} : (modRow rows n f).length = rows.length := List.length_set ..
theorem WF.of_perm {rows rows' : Rows} {E : Nat} (h : WF rows E) (p : rows'.flatten.Perm ((2 * (E : Int)) :: (2 * (E : Int) + 1) :: rows.flatten)) : WF rows' (E + 1) := by
  have hm : ∀ d : Int, d ∈ rows.flatten → 0 ≤ d ∧ d < 2 * (E : Int) := fun d => (h.mem d).mp
  refine ⟨p.nodup_iff.mpr (List.nodup_cons.mpr ⟨fun q => ?_, List.nodup_cons.mpr ⟨fun q => ?_, h.nd⟩⟩), fun d => ?_⟩
  · rcases List.mem_cons.mp q with q | q
    · omega
    · have := hm _ q
      omega
  · have := hm _ q
    omega
  · rw [p.mem_iff, List.mem_cons, List.mem_cons, h.mem d]
    omega
theorem face_sub {rows : Rows} {rim : Nat} : ∀ (n : Nat) (found : List Int) (d : Int), (∀ x ∈ found, x ∈ rows.flatten) → ∀ x ∈ walkF rows rim n found d, x ∈ rows.flatten
  | 0, found, d, h => h
  | n + 1, found, d, h => by
    unfold walkF
    cases e : nxt rows rim d with
    | none => exact h
    | some d' =>
      simp only
      split
      · exact h
      · refine face_sub n _ _ fun x hx => ?_
        rcases List.mem_append.mp hx with hx | hx
        · exact h x hx
        · rw [List.mem_singleton.mp hx]
          exact nxt_mem e
theorem faceM_sub {rows : Rows} {rim : Nat} {d : Int} (h : d ∈ rows.flatten) : ∀ x ∈ faceM rows rim d, x ∈ rows.flatten := face_sub _ _ _ fun x hx => by
  rw [List.mem_singleton.mp hx]
  exact h
theorem at_lt {rows : Rows} {d : Int} (h : d ∈ rows.flatten) : (atM rows d).1 < rows.length := by
  obtain ⟨row, h1, _⟩ := at_spec h
  exact (List.getElem?_eq_some_iff.mp h1).1
theorem set_perm {l : List Int} {i : Nat} {x y : Int} (h : l[i]? = some x) : (x :: l.set i y).Perm (y :: l) := by
  have hi := (List.getElem?_eq_some_iff.mp h).1
  have e1 : l = l.take i ++ x :: l.drop (i + 1) := by
    have := List.take_append_drop i l
    rw [List.drop_eq_getElem_cons hi, (List.getElem?_eq_some_iff.mp h).2] at this
    exact this.symm
  have e2 : l.set i y = l.take i ++ y :: l.drop (i + 1) := by rw [List.set_eq_take_append_cons_drop, if_pos hi]
  rw [e2]
  refine ((List.Perm.cons x List.perm_middle).trans (List.Perm.swap y x _)).trans ?_
  refine List.Perm.cons y ?_
  conv => rhs; rw [e1]
  exact List.perm_middle.symm
theorem Grow.wf {rim E : Nat} {rows rows' : Rows} (g : Grow rim E rows rows') (hW : WF rows E) (hrim : rim ≤ rows.length) (h0 : 0 < rim) : WF rows' (E + 1) := by
  have hin : ∀ (i : Nat) (x : Int) (row : List Int), (ins i x row).Perm ([x] ++ row) := fun i x row => ins_perm i x row
  have two : ∀ {r1 r2 : Rows} {n : Nat} {f : List Int → List Int}, r1.flatten.Perm ([2 * (E : Int)] ++ rows.flatten) → n < r1.length → (∀ row, (f row).Perm ([2 * (E : Int) + 1] ++ row)) → WF (modRow r1 n f) (E + 1) := fun {r1 r2 n f} p1 hn hf => by
    refine hW.of_perm ((modRow_perm hn hf).trans ?_)
    exact (List.Perm.cons _ p1).trans (List.Perm.swap _ _ _)
  cases g with
  | rimEdge n o j hn ho hs =>
    refine two (r2 := []) (modRow_perm (by omega) (hin _ _)) (by rw [modRow_len, ho]; have := Nat.mod_lt (n + 1 + j) h0; omega) fun row => ?_
    exact List.perm_append_comm
  | before n hn =>
    refine hW.of_perm ?_
    have hl : n < (rows ++ [rows.getD n [] ++ [2 * (E : Int) + 1]]).length := by
      rw [List.length_append]
      omega
    have hrow : rows[n]? = some (rows.getD n []) := by
      rw [List.getD_eq_getElem?_getD, List.getElem?_eq_getElem (by omega), Option.getD_some]
    rw [List.set_append_left _ _ (by omega)]
    rw [List.flatten_append]
    show ((rows.set n [2 * (E : Int)]).flatten ++ ((rows.getD n [] ++ [2 * (E : Int) + 1]) ++ [])).Perm _
    rw [List.append_nil]
    -- the row goes from its place to the end
    have key : ∀ (rs : Rows) (m : Nat) (row : List Int), rs[m]? = some row → ((rs.set m [2 * (E : Int)]).flatten ++ row).Perm ((2 * (E : Int)) :: rs.flatten) := by
      intro rs
      induction rs with
      | nil => intro m row h; simp at h
      | cons r rs ih =>
        intro m row h
        cases m with
        | zero =>
          have e : r = row := Option.some.inj h
          subst e
          show ([2 * (E : Int)] ++ rs.flatten ++ r).Perm ((2 * (E : Int)) :: (r ++ rs.flatten))
          exact List.Perm.cons _ List.perm_append_comm
        | succ m =>
          show (r ++ (rs.set m [2 * (E : Int)]).flatten ++ row).Perm ((2 * (E : Int)) :: (r ++ rs.flatten))
          rw [List.append_assoc]
          exact (List.Perm.append_left r (ih m row h)).trans List.perm_middle
    rw [← List.append_assoc]
    refine (List.Perm.append_right _ (key rows n _ hrow)).trans ?_
    show ((2 * (E : Int)) :: (rows.flatten ++ [2 * (E : Int) + 1])).Perm _
    exact List.Perm.cons _ List.perm_append_comm
  | within e he =>
    refine hW.of_perm ?_
    have hd : (2 * (e : Int) + 1) ∈ rows.flatten := (hW.mem _).mpr (by omega)
    obtain ⟨row, h1, h2⟩ := at_spec hd
    have hl := (List.getElem?_eq_some_iff.mp h1).1
    rw [List.set_append_left _ _ hl, List.flatten_append]
    have hg : rows.getD (atM rows (2 * (e : Int) + 1)).1 [] = row := by rw [List.getD_eq_getElem?_getD, h1, Option.getD_some]
    rw [hg]
    have hp := set_perm (y := 2 * (E : Int) + 1) h2
    -- the set of rows, with the old dart beside it
    have key : ∀ (rs : Rows) (m : Nat) (row row' : List Int) (x y : Int), rs[m]? = some row → (x :: row').Perm (y :: row) → (x :: (rs.set m row').flatten).Perm (y :: rs.flatten) := by
      intro rs
      induction rs with
      | nil => intro m row row' x y h; simp at h
      | cons r rs ih =>
        intro m row row' x y h p
        cases m with
        | zero =>
          have e : r = row := Option.some.inj h
          subst e
          exact List.Perm.append_right rs.flatten p
        | succ m =>
          show (x :: (r ++ (rs.set m row').flatten)).Perm (y :: (r ++ rs.flatten))
          refine (List.perm_middle.symm.trans (List.Perm.append_left r (ih m row row' x y h p))).trans List.perm_middle
    have k1 := key rows _ row _ _ _ h1 hp
    refine List.perm_append_comm.trans ?_
    show ((2 * (e : Int) + 1) :: (2 * (E : Int)) :: _).Perm _
    refine (List.Perm.swap _ _ _).trans (List.Perm.cons _ k1)
  | beside e he r1 h1 =>
    subst h1
    have hd : (2 * (e : Int)) ∈ rows.flatten := (hW.mem _).mpr (by omega)
    have p1 := modRow_perm (f := ins ((atM rows (2 * (e : Int))).2 + 1) (2 * (E : Int))) (at_lt hd) (hin _ _)
    refine two (r2 := []) p1 (at_lt ?_) (hin _ _)
    rw [p1.mem_iff]
    exact List.mem_cons_of_mem _ ((hW.mem _).mpr (by omega))
  | twig n p hn hp =>
    refine hW.of_perm ?_
    rw [List.flatten_append]
    show ((modRow rows n (ins p (2 * (E : Int)))).flatten ++ [2 * (E : Int) + 1]).Perm _
    refine List.perm_append_comm.trans ?_
    exact (List.Perm.cons _ (modRow_perm hn (hin _ _))).trans (List.Perm.swap _ _ _)
  | loop n p hn hp =>
    exact two (r2 := []) (modRow_perm hn (hin _ _)) (by rw [modRow_len]; exact hn) (hin _ _)
  | across d x y hd hx hy r1 h1 =>
    subst h1
    have hdm := (hW.mem d).mpr hd
    have hxm := faceM_sub hdm x hx
    have hym := faceM_sub hdm y hy
    have p1 := modRow_perm (f := ins (atM rows x).2 (2 * (E : Int))) (at_lt hxm) (hin _ _)
    refine two (r2 := []) p1 (at_lt ?_) (hin _ _)
    rw [p1.mem_iff]
    exact List.mem_cons_of_mem _ hym
theorem Grow.len {rim E : Nat} {rows rows' : Rows} (g : Grow rim E rows rows') : rows.length ≤ rows'.length ∧ rows'.length ≤ rows.length + 1 := by
  cases g <;> simp only [modRow_len, List.length_set, List.length_append, List.length_singleton] <;> first | omega | (subst_vars; simp only [modRow_len]; omega)

/-! ### the law's state and the rows, over the heap at the start -/
structure NS (H0 H : Hp) (S c T : Addr) (rs : List Addr) (rows : Rows) : Prop where
  st : StAt H S c
  ro : RowsAt H T rs rows
  kp : Kp S H0 H
  T0 : H0 T = none
  r0 : ∀ r, r ∈ rs → H0 r = none
  s0 : StAt H0 S c
section
variable {H0 H H' : Hp} {S c T : Addr} {rs : List Addr} {rows : Rows}
theorem NS.nTS (h : NS H0 H S c T rs rows) : T ≠ S := h.s0.neS h.T0
theorem NS.nTc (h : NS H0 H S c T rs rows) : T ≠ c := h.s0.nec h.T0
theorem NS.nrS (h : NS H0 H S c T rs rows) {r : Addr} (hr : r ∈ rs) : r ≠ S := h.s0.neS (h.r0 r hr)
theorem NS.nrc (h : NS H0 H S c T rs rows) {r : Addr} (hr : r ∈ rs) : r ≠ c := h.s0.nec (h.r0 r hr)
theorem NS.same (h : NS H0 H S c T rs rows) (e : Same H H') : NS H0 H' S c T rs rows := ⟨h.st.same e, h.ro.same e, h.kp.trans (Kp.of e), h.T0, h.r0, h.s0⟩
theorem NS.pick (h : NS H0 H S c T rs rows) (hS : StAt H' S c) (k : Kp S H H') : NS H0 H' S c T rs rows :=
  ⟨hS, h.ro.keep fun b hb o e => k b o (by
    rcases hb with rfl | hb
    · exact h.nTS
    · exact h.nrS hb) e, h.kp.trans k, h.T0, h.r0, h.s0⟩
theorem NS.fresh (h : NS H0 H S c T rs rows) {r : Addr} (hr : H r = none) : H0 r = none := by
  obtain ⟨n, i, x, m, cs, e1, _⟩ := h.st
  exact h.kp.free h.s0.lst.choose_spec hr (ne_of_none e1 hr).symm
theorem kp_updN {p : Addr} {o : HO} (h : Kp S H0 H) (hp : H0 p = none) : Kp S H0 (upd H p o) := fun b x n e => by
  rw [upd_ne (ne_of_none e hp)]
  exact h b x n e
theorem NS.row (h : NS H0 H S c T rs rows) {n : Nat} {r : Addr} (hr : rs[n]? = some r) (row' : List Int) : NS H0 (upd H r (.lst (row'.map V.int))) S c T rs (rows.set n row') := by
  have hm := List.mem_of_getElem? hr
  exact ⟨h.st.upd (h.nrS hm) (h.nrc hm), h.ro.row hr row', kp_updN h.kp (h.r0 r hm), h.T0, h.r0, h.s0⟩
theorem NS.push (h : NS H0 H S c T rs rows) {r : Addr} {row : List Int} (hr : H r = some (.lst (row.map V.int))) (hr0 : H0 r = none) (hn : r ∉ rs) (hT : r ≠ T) : NS H0 (upd H T (.lst (rs.map V.ref ++ [.ref r]))) S c T (rs ++ [r]) (rows ++ [row]) :=
  ⟨h.st.upd h.nTS h.nTc, h.ro.push hr hn hT, kp_updN h.kp h.T0, h.T0, fun x hx => by
    rcases List.mem_append.mp hx with hx | hx
    · exact h.r0 x hx
    · rw [List.mem_singleton.mp hx]
      exact hr0, h.s0⟩
theorem NS.swap (h : NS H0 H S c T rs rows) {n : Nat} {r : Addr} {row : List Int} (hr : H r = some (.lst (row.map V.int))) (hr0 : H0 r = none) (hn : r ∉ rs) (hT : r ≠ T) (hl : n < rs.length) :
    NS H0 (upd H T (.lst ((rs.map V.ref).set n (.ref r)))) S c T (rs.set n r) (rows.set n row) :=
  ⟨h.st.upd h.nTS h.nTc, h.ro.swap hr hn hT hl, kp_updN h.kp h.T0, h.T0, fun x hx => by
    rcases List.mem_or_eq_of_mem_set hx with hx | hx
    · exact h.r0 x hx
    · rw [hx]
      exact hr0, h.s0⟩
/-- a fresh address is none of ours -/
theorem NS.nr (h : NS H0 H S c T rs rows) {p : Addr} (hp : H p = none) : p ∉ rs := fun hm => by
  obtain ⟨i, hi⟩ := List.mem_iff_getElem?.mp hm
  have hl : i < rows.length := by
    rw [← h.ro.len]
    exact (List.getElem?_eq_some_iff.mp hi).1
  rw [h.ro.at_ i p _ hi (List.getElem?_eq_getElem hl)] at hp
  cases hp
theorem NS.nT (h : NS H0 H S c T rs rows) {p : Addr} (hp : H p = none) : p ≠ T := (ne_of_none h.ro.top hp).symm
/-- the row at n: its address -/
theorem NS.get (h : NS H0 H S c T rs rows) {n : Nat} (hn : n < rows.length) : ∃ r, (rs.map V.ref)[n]? = some (.ref r) ∧ rs[n]? = some r ∧ H r = some (.lst ((rows.getD n []).map V.int)) := by
  obtain ⟨r, h1, h2⟩ := h.ro.get (List.getElem?_eq_getElem hn)
  refine ⟨r, by rw [List.getElem?_map, h1]; rfl, h1, ?_⟩
  rw [List.getD_eq_getElem?_getD, List.getElem?_eq_getElem hn, Option.getD_some]
  exact h2
theorem NS.sqT {K : PySem.W.Frag} (h : NS H0 H S c T rs rows) : SqL K H T (rs.map V.ref) := SqL.of h.ro.top
end
theorem map_ins (i : Nat) (x : Int) (l : List Int) : (l.map V.int).take i ++ V.int x :: (l.map V.int).drop i = (ins i x l).map V.int := by
  unfold ins
  rw [List.map_append, List.map_cons, List.map_take, List.map_drop]
/-- the rows are few and short -/
theorem WF.len {rows : Rows} {E : Nat} (h : WF rows E) : rows.flatten.length = 2 * E := by
  have p : rows.flatten.Perm ((List.range (2 * E)).map Int.ofNat) := by
    refine (List.perm_ext_iff_of_nodup h.nd ?_).mpr fun d => ?_
    · refine List.Pairwise.map _ (fun a b hab e => hab (Int.ofNat.inj e)) List.nodup_range
    · rw [h.mem d, List.mem_map]
      constructor
      · intro hd
        exact ⟨d.toNat, List.mem_range.mpr (by omega), by show ((d.toNat : Nat) : Int) = d; omega⟩
      · rintro ⟨n, hn, rfl⟩
        have := List.mem_range.mp hn
        show 0 ≤ (n : Int) ∧ (n : Int) < _
        omega
  rw [p.length_eq, List.length_map, List.length_range]
theorem row_le {rows : Rows} {row : List Int} (h : row ∈ rows) : row.length ≤ rows.flatten.length := by
  obtain ⟨a, b, rfl⟩ := List.append_of_mem h
  rw [List.flatten_append, List.flatten_cons, List.length_append, List.length_append]
  omega
theorem WF.row {rows : Rows} {E : Nat} (h : WF rows E) {n : Nat} : (rows.getD n []).length ≤ 2 * E := by
  by_cases hn : n < rows.length
  · rw [List.getD_eq_getElem?_getD, List.getElem?_eq_getElem hn, Option.getD_some, ← h.len]
    exact row_le (List.getElem_mem hn)
  · rw [List.getD_eq_getElem?_getD, List.getElem?_eq_none (by omega)]
    exact Nat.zero_le _
theorem walkF_len {rows : Rows} {rim : Nat} : ∀ (n : Nat) (found : List Int) (d : Int), found.length ≤ (walkF rows rim n found d).length ∧ (walkF rows rim n found d).length ≤ found.length + n
  | 0, found, d => ⟨Nat.le_refl _, Nat.le_refl _⟩
  | n + 1, found, d => by
    unfold walkF
    cases e : nxt rows rim d with
    | none => exact ⟨Nat.le_refl _, Nat.le_add_right _ _⟩
    | some d' =>
      simp only
      split
      · exact ⟨Nat.le_refl _, Nat.le_add_right _ _⟩
      · have := walkF_len (rows := rows) (rim := rim) n (found ++ [d']) d'
        rw [List.length_append, List.length_singleton] at this
        omega
theorem faceM_len (rows : Rows) (rim : Nat) (d : Int) : 1 ≤ (faceM rows rim d).length ∧ (faceM rows rim d).length ≤ 201 := by
  have := walkF_len (rows := rows) (rim := rim) 200 [d] d
  rw [List.length_singleton] at this
  unfold faceM
  omega
/-- a test that gives b and leaves the heap -/
theorem g_ifb {c : TT} {t u : TS} {D : Ends} {σ : L2.St} {H : Hp} (b : Bool) (h : ∀ Q : Bool → Hp → Prop, Q b H → c σ H Q) (h2 : if b = true then t D σ H else u D σ H) : tIfS c t u D σ H := h _ h2
theorem lim_ok {n : Nat} (h : n ≤ 100000) : ((n : Int)).natAbs < 2 ^ 9000 := pow_mono (a := 20) (by omega) (by decide)
theorem modRow_get {rows : Rows} {n m : Nat} {f : List Int → List Int} (hn : n < rows.length) (hm : m = n) : (modRow rows n f).getD m [] = f (rows.getD n []) := by
  subst hm
  unfold modRow
  rw [List.getD_eq_getElem?_getD, List.getElem?_set_self hn, Option.getD_some]
def spGrow : Sp := fun vs H Q _ => ∃ (H0 : Hp) (S c T : Addr) (rim E : Nat) (ch : Int) (rs : List Addr) (rows : Rows), vs = [.ref S, .int (rim : Int), .ref T, .int (E : Int), .int ch] ∧ NS H0 H S c T rs rows ∧ WF rows E ∧ 0 < rim ∧ rim ≤ rows.length ∧ rows.length ≤ 1000 ∧ E ≤ 1000 ∧
  ∀ rs' rows' H', Grow rim E rows rows' → NS H0 H' S c T rs' rows' → Q (.int ((E + 1 : Nat) : Int)) H'
theorem g_cat {H : Hp} {l b : Addr} {xs zs : List V} {Q : VK} (h1 : H l = some (.lst xs)) (h2 : H b = some (.lst zs)) (hz : xs.length + zs.length ≤ 1000000) (q : ∀ p, H p = none → Q (.ref p) (upd H p (.lst (xs ++ zs)))) : rCat (.ref l) (.ref b) H Q :=
  ⟨l, b, xs, zs, rfl, rfl, h1, h2, by have := sizeLine_eq; omega, q⟩
theorem ixN_of {n j : Nat} (hj : j < n) : ixN n (j : Int) = some j := by
  unfold ixN
  rw [if_pos (by omega), if_pos (by omega), Int.toNat_natCast]
theorem few_of {rows : Rows} (h1 : rows.length ≤ 10000) (h2 : rows.flatten.length ≤ 10000) : Few rows := ⟨h1, fun row hr => Nat.le_trans (row_le hr) h2⟩
theorem lim_ok2 {n : Nat} (h : n ≤ 10000) : (2 * (n : Int)).natAbs < 2 ^ 9000 := pow_mono (a := 20) (by omega) (by decide)
theorem getD_at {rows : Rows} {n : Nat} {row : List Int} (h : rows[n]? = some row) : rows.getD n [] = row := by rw [List.getD_eq_getElem?_getD, h, Option.getD_some]
inductive Built (rim : Nat) : Nat → Rows → Prop
  | start : Built rim 0 (List.replicate rim [])
  | grow {E : Nat} {rows rows' : Rows} : Built rim E rows → Grow rim E rows rows' → Built rim (E + 1) rows'
theorem Built.all {rim E : Nat} {rows : Rows} (h : Built rim E rows) (h0 : 0 < rim) : WF rows E ∧ rim ≤ rows.length ∧ rows.length ≤ rim + E := by
  induction h with
  | start =>
    have e : (List.replicate rim ([] : List Int)).flatten = [] := by simp
    refine ⟨⟨by rw [e]; exact List.nodup_nil, fun d => ?_⟩, by simp, by simp⟩
    rw [e]
    constructor
    · intro h
      cases h
    · intro h
      omega
  | grow hb g ih =>
    obtain ⟨w, l1, l2⟩ := ih
    have := g.len
    exact ⟨g.wf w l1 h0, by omega, by omega⟩
theorem NS.other {H0 H : Hp} {S c T : Addr} {rs : List Addr} {rows : Rows} (h : NS H0 H S c T rs rows) {p : Addr} {o : HO} (hp0 : H0 p = none) (hT : p ≠ T) (hr : p ∉ rs) : NS H0 (upd H p o) S c T rs rows :=
  ⟨h.st.upd (h.s0.neS hp0) (h.s0.nec hp0), h.ro.keep fun b hb o' e => by
    have : b ≠ p := by
      rintro rfl
      rcases hb with hb | hb
      · exact hT hb
      · exact hr hb
    rw [upd_ne this]
    exact e, kp_updN h.kp hp0, h.T0, h.r0, h.s0⟩
/-- a net's value -/
structure NetAt (K : PySem.W.Frag) (H : Hp) (p t m : Addr) (ts : List Addr) (as : List V) (rim : Nat) (rows : Rows) (qs : List Rat) : Prop where
  top : SqT K H p [.int (rim : Int), .ref t, .ref m]
  turns : SqT K H t (ts.map V.ref)
  len : ts.length = rows.length
  row : ∀ (i : Nat) r row, ts[i]? = some r → rows[i]? = some row → SqT K H r (row.map V.int)
  ams : SqT K H m as
  rats : Rats K H as qs
def NetV (K : PySem.W.Frag) (H : Hp) (v : V) (rim : Nat) (rows : Rows) (qs : List Rat) : Prop := ∃ p t m ts as, v = .ref p ∧ NetAt K H p t m ts as rim rows qs
theorem NetAt.same {K : PySem.W.Frag} {H H' : Hp} {p t m : Addr} {ts : List Addr} {as : List V} {rim : Nat} {rows : Rows} {qs : List Rat} (h : NetAt K H p t m ts as rim rows qs) (e : Same H H') : NetAt K H' p t m ts as rim rows qs :=
  ⟨Same.sqt e h.top, Same.sqt e h.turns, h.len, fun i r row a b => Same.sqt e (h.row i r row a b), Same.sqt e h.ams, h.rats.same e⟩
theorem NetAt.kp {K : PySem.W.Frag} {S : Addr} {ys : List V} {H H' : Hp} {p t m : Addr} {ts : List Addr} {as : List V} {rim : Nat} {rows : Rows} {qs : List Rat} (h : NetAt K H p t m ts as rim rows qs) (e : Kp S H H') (hS : H S = some (.lst ys)) : NetAt K H' p t m ts as rim rows qs :=
  ⟨Kp.sqt e hS h.top, Kp.sqt e hS h.turns, h.len, fun i r row a b => Kp.sqt e hS (h.row i r row a b), Kp.sqt e hS h.ams, h.rats.kp e hS⟩
def spAmount (K : PySem.W.Frag) : Sp := fun vs H Q _ => ∃ S c : Addr, vs = [.ref S] ∧ StAt H S c ∧ ∀ v H' q, StAt H' S c → Kp S H H' → RatV K H' v q → 0 < q → Bd 5 q → Q v H'
def spNet (K : PySem.W.Frag) : Sp := fun vs H Q _ => ∃ (S c : Addr) (R M : Nat), vs = [.ref S, .int (R : Int), .int (M : Int)] ∧ StAt H S c ∧ 1 ≤ R ∧ R ≤ 100 ∧ M ≤ 500 ∧
  ∀ v H' rim rows E qs, 1 ≤ rim → rim ≤ R → E ≤ M → Built rim E rows → qs.length = E → (∀ q ∈ qs, 0 < q ∧ Bd 5 q) → StAt H' S c → Kp S H H' → NetV K H' v rim rows qs → Q v H'
theorem divInt_pos {a b : Int} (ha : 0 < a) (hb : 0 < b) : 0 < Rat.divInt a b := by
  have hb' : (Rat.divInt a b).den = b.natAbs / Int.gcd b a := by rw [Rat.den_divInt, if_neg (by omega)]
  have : 0 < (Rat.divInt a b).num := by
    rw [Rat.num_divInt, Int.sign_eq_one_of_pos hb, Int.one_mul]
    have hg : 0 < Int.gcd b a := Int.gcd_pos_of_ne_zero_left _ (by omega)
    exact Int.ediv_pos_of_pos_of_dvd ha (by omega) (Int.gcd_dvd_right ..)
  rw [Rat.lt_iff]
  show (0 : Int) * _ < _ * ((1 : Nat) : Int)
  omega
end Rz

namespace Rz
open PySem PySem.Spec PyProof.Rows L2

/-! ### {k: v for t0 in i0 for t1 in i1}: its two loops by one lemma -/
/-- what one turn does behind its store, then k -/
def deedIn (kx vx : Expr) (D : Addr) (env : Env) (k : Sem Fin) : Sem Fin := do
  (do
    let a ← eval kx env
    let b ← holding [a] (eval vx env)
    standAt { kx.pos with endLine := vx.pos.endLine, endCol := vx.pos.endCol }
    holding [a, b] (dictSet D a b))
  k
def deedOut (whole i1 : Expr) (acc : Value) (env : Env) (k : Sem Fin) : Sem Fin := do
  let src ← eval i1 env
  standAt i1.pos
  let src ← foldedSetIterable i1 env src
  let _ ← runOwn (.compStart whole 1 (← holding [src] (pyIter src)) acc env) env
  k
def turnWith (whole : Expr) (dep : Nat) (t : Expr) (p : Pos) (it acc : Value) (env : Env) (deed : Sem Fin → Sem Fin) : Sem Fin := do
  standAt p
  match ← pyNext it with
  | none => pure (.done .next)
  | some v =>
    letOwnedTupleGo t it v
    assign t env v
    deed (again (.compLoop whole dep it acc env))
abbrev dc2 (kx vx t0 i0 t1 i1 : Expr) (sc : Scope) (pos : Pos) : Expr := .DictComp kx vx [⟨t0, i0, [], 0⟩, ⟨t1, i1, [], 0⟩] sc pos
theorem turn_in (kx vx t0 i0 t1 i1 : Expr) (sc : Scope) (pos : Pos) (it : Value) (D : Addr) (env : Env) :
    compTurn (dc2 kx vx t0 i0 t1 i1 sc pos) 1 it (.ref D) env = turnWith (dc2 kx vx t0 i0 t1 i1 sc pos) 1 t1 i1.pos it (.ref D) env (deedIn kx vx D env) := by rfl
theorem turn_out (kx vx t0 i0 t1 i1 : Expr) (sc : Scope) (pos : Pos) (it : Value) (D : Addr) (env : Env) :
    compTurn (dc2 kx vx t0 i0 t1 i1 sc pos) 0 it (.ref D) env = turnWith (dc2 kx vx t0 i0 t1 i1 sc pos) 0 t0 i0.pos it (.ref D) env (deedOut (dc2 kx vx t0 i0 t1 i1 sc pos) i1 (.ref D) env) := by rfl
/-- a deed keeps the slots' knowledge and brings Nx -/
def Deed (X : Cx) (fs : List Nat) (deed : Sem Fin → Sem Fin) (ta : L2.St → Hp → (Hp → Prop) → Prop) : Prop :=
  ∀ (pins : List (Addr × Obj)) (s : Shared) (σ : L2.St) (H : Hp) (Nx : Hp → Prop) (k : Sem Fin) (R : Fin → Shared → Prop), Inv X pins σ H s → ta σ H Nx →
    (∀ s' H', Inv X pins (wipe σ fs) H' s' → Nx H' → wpAny (model X.prog X.w) X.A k R (fun _ _ => False) s') → wpAny (model X.prog X.w) X.A (deed k) R (fun _ _ => False) s
theorem noRaise {M : Model} {A : Around} {α : Type} {t : Sem α} {Q : α → Shared → Prop} {E : Value → Shared → Prop} {s : Shared} (h : wpAny M A t Q (fun _ _ => False) s) : wpAny M A t Q E s := wpAny_mono h (fun _ _ z => z) fun _ _ z => z.elim
/-- one loop of a comprehension's block -/
theorem loopWith {X : Cx} (hx : X.xe = fun _ _ => False) (hc : X.calm = true) {kx vx t0 i0 t1 i1 t : Expr} {sc : Scope} {pos : Pos} {dep : Nat} {p : Pos} {acc : Value} {it : Addr} {deed : Sem Fin → Sem Fin} {fs : List Nat} {g : TG} {ta : L2.St → Hp → (Hp → Prop) → Prop}
    (heq : compTurn (dc2 kx vx t0 i0 t1 i1 sc pos) dep (.ref it) acc X.env = turnWith (dc2 kx vx t0 i0 t1 i1 sc pos) dep t p (.ref it) acc X.env deed) (pg : PG X t g) (da : Deed X fs deed ta)
    {pins : List (Addr × Obj)} {σ : L2.St} {J : It} {fp : List Addr} {tn : Nat → Heap → Prop} (T : Turn X.prog X.w X.K t J fp it tn)
    {H : Hp} {s : Shared} (I : Inv X pins (wipe σ fs) H s) (st : tn 0 s.heap) (nf : ∀ b ∈ fp, H b = none) (fpo : ∀ (H' : Hp), (∀ b ∈ fp, H' b = none) → ∀ b ∈ fp, FpOk X pins H' b)
    (W : Nat → Nat → Hp → Prop) (m₀ : Nat) (w0 : W 0 m₀ H) (Z : Hp → Prop)
    (turn : ∀ i m H, W i m H → (J.stop i H ∧ Z H) ∨ (J.go i H ∧ ∃ Nx : Hp → Prop, (∀ H', Nx H' → ∃ m', m' < m ∧ W (i + 1) m' H') ∧ ∀ x H', J.yld i H x H' → g x (wipe σ fs) H' fun σ2 H2 => wipe σ2 fs = wipe σ fs ∧ ta σ2 H2 Nx)) :
    codeAny (model X.prog X.w) X.A (.compLoop (dc2 kx vx t0 i0 t1 i1 sc pos) dep (.ref it) acc X.env) (fun r s' => match r with
      | .ok f => f = .next ∧ ∃ H', Inv X pins (wipe σ fs) H' s' ∧ Z H'
      | .error _ => False) s := by
  refine codeAny_loop rfl (fun n q => ∃ i G, Inv X pins (wipe σ fs) G q ∧ tn i q.heap ∧ (∀ b ∈ fp, G b = none) ∧ W i n G) (fun n q ⟨i, G, Iq, sq, nq, wq⟩ => ?_) m₀ ⟨0, H, I, st, nf, w0⟩
  show wpAny _ X.A ((compTurn (dc2 kx vx t0 i0 t1 i1 sc pos) dep (.ref it) acc X.env).onRaise fun x => do noteFrame x X.env; theTreesLotGoes x) _ _ q
  refine wpAny_noted ?_
  rw [heq]
  refine wpAny_bind (wpAny_standAt (wpAny_bind ?_))
  rcases turn i n G wq with ⟨hstop, hz⟩ | ⟨hgo, Nx, hNx, hstep⟩
  · refine wpAny_mono (T.done X rfl rfl rfl hc i pins q (wipe σ fs) G (fun _ _ => False) Iq (fpo G nq) sq hstop) (fun r q1 ⟨er, I1⟩ => ?_) fun _ _ z => z.elim
    subst er
    exact wpAny_pure ⟨rfl, G, I1, hz⟩
  · refine wpAny_mono (T.item X rfl rfl rfl hc i pins q (wipe σ fs) G (fun _ _ => False) Iq (fpo G nq) sq hgo) (fun r q1 ⟨u, er, h1⟩ => ?_) fun _ _ z => z.elim
    subst er
    refine wpAny_bind (wpAny_mono h1 (fun _ q2 ⟨x, G2, I2, r2, y2, s2, n2⟩ => ?_) fun _ _ z => z.elim)
    have I2' := I2.pinned (fpo G2 n2) (T.obj _ _ s2)
    have hg := pg.run _ q2 _ G2 x u _ I2' r2 (hstep x G2 y2)
    rw [hx] at hg
    refine wpAny_bind (wpAny_mono hg (fun _ q3 ⟨σ3, G3, I3, hw3, h3⟩ => ?_) fun _ _ z => z.elim)
    refine noRaise (da _ q3 σ3 G3 Nx _ _ I3 h3 fun q4 G4 I4 hn4 => ?_)
    obtain ⟨m', hm, w'⟩ := hNx G4 hn4
    have back : ∀ b, b ∈ fp → ∀ o, q2.heap.get? b = some o → q4.heap.get? b = some o ∧ G4 b = none := fun b hb o e => by
      have z := I4.pin (b, o) (List.mem_append_right _ (List.mem_append_right _ (mem_pinsAt hb e)))
      exact ⟨z.1, z.2.1⟩
    rw [hw3] at I4
    refine wpAny_pure ⟨rfl, m', hm, i + 1, G4, I4.unpinned, T.keep _ _ _ s2 fun b hb o e => (back b hb o e).1, fun b hb => ?_, w'⟩
    obtain ⟨o, e, _⟩ := T.obj _ _ s2 b hb
    exact (back b hb o e).2

/-! ### the two deeds -/
def tPut (tk tv : TE) (D : Addr) : L2.St → Hp → (Hp → Prop) → Prop := fun σ H Nx => tk σ H fun y H1 => tv σ H1 fun z H2 => ∃ kvs k, y = kV k ∧ H2 D = some (.dK kvs) ∧ kvs.length < sizeLine ∧ Nx (upd H2 D (.dK (putK kvs k z)))
def inW (fs1 : List Nat) (g1 : TG) (ta1 : L2.St → Hp → (Hp → Prop) → Prop) (σ : L2.St) (Nx : Hp → Prop) : It → Hp → Prop := fun J H1 => ∃ W : Nat → Nat → Hp → Prop, (∃ m, W 0 m H1) ∧ ∀ i m H, W i m H →
  (J.stop i H ∧ Nx H) ∨ (J.go i H ∧ ∃ Nx1 : Hp → Prop, (∀ H', Nx1 H' → ∃ m', m' < m ∧ W (i + 1) m' H') ∧ ∀ x H', J.yld i H x H' → g1 x (wipe σ fs1) H' fun σ2 H2 => wipe σ2 fs1 = wipe σ fs1 ∧ ta1 σ2 H2 Nx1)
def tInner (fs1 : List Nat) (wi1 : TI) (g1 : TG) (ta1 : L2.St → Hp → (Hp → Prop) → Prop) : L2.St → Hp → (Hp → Prop) → Prop := fun σ H Nx => wi1 σ H (inW fs1 g1 ta1 σ Nx)
theorem deed_in {X : Cx} (hx : X.xe = fun _ _ => False) {fs : List Nat} {kx vx : Expr} {tk tv : TE} {D : Addr} (pk : PE X kx tk) (pv : PE X vx tv) : Deed X fs (deedIn kx vx D X.env) (tPut tk tv D) := by
  intro pins s σ H Nx k R I h hk
  unfold deedIn
  have h1 := pk.run pins s σ H _ I h
  rw [hx] at h1
  refine wpAny_bind (wpAny_bind (wpAny_mono h1 (fun u s1 ⟨y, H1, I1, r1, q1⟩ => ?_) fun _ _ z => z))
  have h2 := pv.run pins s1 σ H1 _ I1 q1
  rw [hx] at h2
  refine wpAny_bind (wpAny_holding (wpAny_mono h2 (fun u2 s2 ⟨z, H2, I2, r2, kvs, kk, ey, hD, hz, nx⟩ => ?_) fun _ _ z => z))
  subst ey
  refine wpAny_bind (wpAny_standAt (wpAny_holding (d_dictSet I2 hD hz r1 r2 fun s3 I3 => ?_)))
  exact hk s3 _ (I3.weak (wipe_length _ _) fun j v e => (wipe_some e).1) nx
theorem start_in {prog : Program} {w : World} {A : Around} {R : Result → Shared → Prop} {s : Shared} {kx vx t0 i0 t1 i1 : Expr} {sc : Scope} {pos : Pos} {it acc : Value} {env : Env}
    (h0 : codeAny (model prog w) A (.compLoop (dc2 kx vx t0 i0 t1 i1 sc pos) 1 it acc env) R s)
    (h : wpAny (model prog w) A (pyIter it) (fun it2 s2 => codeAny (model prog w) A (.compLoop (dc2 kx vx t0 i0 t1 i1 sc pos) 1 it2 acc env) R s2) (notedBy (model prog w) A env fun x s2 => R (.error x) s2) s) :
    codeAny (model prog w) A (.compStart (dc2 kx vx t0 i0 t1 i1 sc pos) 1 it acc env) R s := by
  refine codeAny_of_tree ?_
  show wpAny _ _ ((compStart (dc2 kx vx t0 i0 t1 i1 sc pos) 1 it acc env).onRaise (fun x => do noteFrame x env; standAt theWindowsPlace)) _ _ s
  refine wpAny_notedAt ?_
  unfold compStart
  show wpAny _ _ (ask >>= _) _ _ s
  refine wpAny_bind (wpAny_askSetting (wpAny_ite ?_))
  split
  · first
      | exact wpAny_bind (wpAny_pure (wpAny_pure (And.intro rfl h0)))
      | exact wpAny_pure (And.intro rfl h0)
  · first
      | exact wpAny_bind (wpAny_rule (wpAny_bind (wpAny_standAt (wpAny_bind (wpAny_mono h (fun it2 s2 z => wpAny_pure (And.intro rfl z)) fun _ _ x => x)))))
      | (refine wpAny_bind (wpAny_rule ?_); show wpAny _ _ (standAt i1.pos >>= _) _ _ s; exact wpAny_bind (wpAny_standAt (wpAny_bind (wpAny_mono h (fun it2 s2 z => wpAny_pure (And.intro rfl z)) fun _ _ x => x))))
theorem deed_out {X : Cx} (hx : X.xe = fun _ _ => False) (hc : X.calm = true) {fs fs1 : List Nat} (hsub : ∀ i ∈ fs1, i ∈ fs) {kx vx t0 i0 t1 i1 : Expr} {sc : Scope} {pos : Pos} {D : Addr} {wi1 : TI} {g1 : TG} {ta1 : L2.St → Hp → (Hp → Prop) → Prop}
    (hs1 : ∀ x, foldedSetIterable i1 X.env x = pure x) (pi1 : PI X t1 i1 wi1) (pg1 : PG X t1 g1) (da : Deed X fs1 (deedIn kx vx D X.env) ta1) :
    Deed X fs (deedOut (dc2 kx vx t0 i0 t1 i1 sc pos) i1 (.ref D) X.env) (tInner fs1 wi1 g1 ta1) := by
  intro pins s σ H Nx k R I h hk
  unfold deedOut
  have h1 := pi1.run pins s σ H _ I h
  rw [hx] at h1
  refine wpAny_bind (wpAny_mono h1 (fun u s1 h2 => ?_) fun _ _ z => z)
  refine wpAny_bind (wpAny_standAt (wpAny_bind (wpAny_of_eq (hs1 u) (wpAny_bind (wpAny_holding (wpAny_mono h2 (fun itv s2 h3 => ?_) fun _ _ z => z))))))
  obtain ⟨it, fp, tn, J, H1, e, I1, T, st, hf, W, ⟨m, w0⟩, turn⟩ := h3
  subst e
  have loop := loopWith hx hc (turn_in kx vx t0 i0 t1 i1 sc pos (.ref it) D X.env) pg1 da T (I1.weak (wipe_length _ _) fun j v e => (wipe_some e).1) st (fun b hb => (hf b hb).1) (fun H' hn b hb => ⟨hn b hb, (hf b hb).2⟩) W m w0 Nx turn
  refine wpAny_bind (wpAny_runOwn ?_)
  rw [Around.mark_none]
  refine codeAny_mono (start_in loop (T.self X.A 0 _ _ _ st loop)) fun r s' hr => ?_
  cases r with
  | ok f =>
    obtain ⟨_, H', I', nx⟩ := hr
    have I2 : Inv X pins (wipe σ fs) H' s' := I'.weak ((wipe_length _ _).trans (wipe_length _ _).symm) fun j v e => by
      obtain ⟨e1, e2⟩ := wipe_some e
      rw [wipe_out fun z => e2 (hsub j z)]
      exact e1
    first
      | exact hk s' H' I2 nx
      | exact wpAny_bind (wpAny_pure (hk s' H' I2 nx))
  | error e => exact hr.elim

/-! ### the whole -/
def outW (g : TG) (fs fs1 : List Nat) (wi1 : TI) (g1 : TG) (tk tv : TE) (σ : L2.St) (Q : VK) : It → Hp → Prop := fun J H1 => ∀ D, H1 D = none → ∃ W : Nat → Nat → Hp → Prop, (∃ m, W 0 m (upd H1 D (.dK []))) ∧ ∀ i m H, W i m H →
  (J.stop i H ∧ Q (.ref D) H) ∨ (J.go i H ∧ ∃ Nx : Hp → Prop, (∀ H', Nx H' → ∃ m', m' < m ∧ W (i + 1) m' H') ∧ ∀ x H', J.yld i H x H' → g x (wipe σ fs) H' fun σ2 H2 => wipe σ2 fs = wipe σ fs ∧ tInner fs1 wi1 g1 (tPut tk tv D) σ2 H2 Nx)
def tDc2 (wi : TI) (g : TG) (fs fs1 : List Nat) (wi1 : TI) (g1 : TG) (tk tv : TE) : TE := fun σ H Q => wi σ H (outW g fs fs1 wi1 g1 tk tv σ Q)
abbrev BlkA (X : Cx) (scope : Scope) (p : Cx → Prop) : Prop := ∀ (s : Shared) (H : Hp) (C : Addr) (cl : List (Str × Addr)) (fp : List Addr), p (X.blk s H scope (compEnvC scope cl C X.env) fp)
section
variable {X : Cx} {kx vx t0 i0 t1 i1 : Expr} {scope : Scope} {own : List (Str × Nat)} {fs1 : List Nat} {pos pos' : Pos} {wi wi1 : TI} {g g1 : TG} {tk tv : TE}
theorem dc2_core {pins : List (Addr × Obj)} {s : Shared} {σ : L2.St} {H : Hp} {Q : VK} {use : Option (Value → Sem Unit)} {Qf : Value → Shared → Prop} (hc : X.calm = true) (hN : X.N.Nodup) (I : Inv X pins σ H s) (hi : PI X t0 i0 wi) (ok : BlkOk X.N X.env.scope scope own) (hv : ∀ i ∈ fs1, i ∈ own.map (·.2))
    (hg : BlkA X scope fun Y => PG Y t0 g) (hi1 : BlkA X scope fun Y => PI Y t1 i1 wi1) (hg1 : BlkA X scope fun Y => PG Y t1 g1) (hk : BlkA X scope fun Y => PE Y kx tk) (he : BlkA X scope fun Y => PE Y vx tv)
    (hs : ∀ x, foldedSetIterable i0 X.env x = pure x) (hs1 : ∀ env x, foldedSetIterable i1 env x = pure x) (h : tDc2 wi g (own.map (·.2)) fs1 wi1 g1 tk tv σ H Q)
    (hRR : ∀ D C s' m H', Inv X pins σ H' s' → Q (.ref D) H' → s'.heap.Ns C m → FpOk X pins H' C → compPost (model X.prog X.w) X.A X.xe use Qf (.ref D) C (.ok .next) s') :
    wpAny (model X.prog X.w) X.A (comprehension (dc2 kx vx t0 i0 t1 i1 scope pos) scope X.env pos' newDict false (eval i0 X.env) use) Qf X.xe s := by
  have hclo := closure_ok (scope := scope) (env := X.env) fun y hy e => I.ok.has y.1 (ok.free y hy e)
  refine wpAny_comprehension_free (use := use) rfl hs hclo ok.kind (fun y hy e => by rw [ok.uniq y hy, e]) (thn (hi.run pins s σ H _ I h) fun xv s1 hx => thn hx fun itv s2 h2 => ?_)
  obtain ⟨it, fp, tn, J, H2, rfl, I2, T, st2, f2, q⟩ := h2
  refine wpAny_newObj_type (newEnv_comp ?_)
  obtain ⟨D, hD⟩ : ∃ D, D = s2.heap.objs.size := ⟨_, rfl⟩
  rw [← hD]
  have hDn : H2 D = none := I2.hok.fresh (by rw [hD]; exact Nat.le_refl _)
  obtain ⟨W, ⟨m0, w0⟩, turn⟩ := q D hDn
  obtain ⟨s3, hs3⟩ : ∃ s3 : Shared, s3 = { s2 with heap := s2.heap.push { cls := .type "dict", data := .dict #[] } } := ⟨_, rfl⟩
  rw [← hs3]
  have keep3 : ∀ b o, s2.heap.get? b = some o → s3.heap.get? b = some o := fun b o e => by rw [hs3]; exact Heap.get?_push_of_some _ e
  obtain ⟨H3, hH3⟩ : ∃ H3 : Hp, H3 = upd H2 D (.dK []) := ⟨_, rfl⟩
  have I3 : Inv X pins σ H3 s3 := by
    rw [hs3, hH3, hD]
    exact I2.laid (t' := s2.toks) (fun b o e => Heap.get?_push_of_some _ e) (Nat.le_refl _) (dk_empty s2.heap I2.big)
  have hlt3 : ∀ b ∈ fp, b < s2.heap.objs.size := fun b hb => let ⟨_, e, _⟩ := T.obj _ _ st2 b hb; Heap.lt_size e
  have f3 : ∀ b ∈ fp, FpOk X pins H3 b ∧ b < s3.heap.objs.size := fun b hb => by
    have hb3 := hlt3 b hb
    refine ⟨⟨?_, (f2 b hb).2⟩, ?_⟩
    · rw [hH3, upd_ne (by rw [hD]; exact Nat.ne_of_lt hb3)]
      exact (f2 b hb).1
    · rw [hs3]
      show b < (s2.heap.push _).objs.size
      rw [Heap.size_push]
      exact Nat.lt_succ_of_lt hb3
  have I4 := block_start I3 ok hN f3
  have zg := hg s3 H3 s3.heap.objs.size (cellsFrom (s3.heap.objs.size + 1) scope.names (cloFrom X.env.cells scope.names [])) fp
  have zi := hi1 s3 H3 s3.heap.objs.size (cellsFrom (s3.heap.objs.size + 1) scope.names (cloFrom X.env.cells scope.names [])) fp
  have zg1 := hg1 s3 H3 s3.heap.objs.size (cellsFrom (s3.heap.objs.size + 1) scope.names (cloFrom X.env.cells scope.names [])) fp
  have zk := hk s3 H3 s3.heap.objs.size (cellsFrom (s3.heap.objs.size + 1) scope.names (cloFrom X.env.cells scope.names [])) fp
  have zv := he s3 H3 s3.heap.objs.size (cellsFrom (s3.heap.objs.size + 1) scope.names (cloFrom X.env.cells scope.names [])) fp
  show codeAny _ _ (.compStart (dc2 kx vx t0 i0 t1 i1 scope pos) 0 (.ref it) (.ref D) (compEnvC scope (cellsFrom (s3.heap.objs.size + 1) scope.names (cloFrom X.env.cells scope.names [])) s3.heap.objs.size X.env)) (compPost (model X.prog X.w) X.A X.xe use Qf (.ref D) s3.heap.objs.size) _
  obtain ⟨ce, hce⟩ : ∃ ce, ce = compEnvC scope (cellsFrom (s3.heap.objs.size + 1) scope.names (cloFrom X.env.cells scope.names [])) s3.heap.objs.size X.env := ⟨_, rfl⟩
  have hcl : ce.locals = s3.heap.objs.size := by rw [hce]; rfl
  rw [← hce] at I4 zg zi zg1 zk zv ⊢
  rw [← hH3] at w0
  obtain ⟨s4, hs4⟩ : ∃ s4 : Shared, s4 = { s3 with heap := pushCells (s3.heap.push { cls := .type "dict", data := .dict #[] }) scope.names } := ⟨_, rfl⟩
  rw [← hs4] at I4 ⊢
  have st4 : tn 0 s4.heap := T.keep _ _ _ st2 fun b _ o e => by
    rw [hs4]
    exact pushCells_keeps _ _ _ _ (Heap.get?_push_of_some _ (keep3 b o e))
  have fpo : ∀ H' : Hp, (∀ b ∈ fp, H' b = none) → ∀ b ∈ fp, FpOk (X.blk s3 H3 scope ce fp) [] H' b := fun H' hn b hb =>
    ⟨hn b hb, (I4.ok.exf b hb).1, I4.ok.exfs b hb, .inl hb, fun x c e => (I4.ok.exf b hb).2 x c e, fun p hp => absurd (show p ∈ ([] : List (Addr × Obj)) ++ [] from hp) (by simp)⟩
  have loop := loopWith (X := X.blk s3 H3 scope ce fp) rfl hc (turn_out kx vx t0 i0 t1 i1 scope pos (.ref it) D ce) zg
    (deed_out (X := X.blk s3 H3 scope ce fp) rfl hc hv (fun x => hs1 ce x) zi zg1 (deed_in (X := X.blk s3 H3 scope ce fp) rfl zk zv)) T (σ := σ) (fs := own.map (·.2)) I4 st4 (fun b hb => (f3 b hb).1.1) fpo W m0 w0 (Q (.ref D)) turn
  have loop2 : codeAny (model X.prog X.w) X.A (.compLoop (dc2 kx vx t0 i0 t1 i1 scope pos) 0 (.ref it) (.ref D) ce) (compPost (model X.prog X.w) X.A X.xe use Qf (.ref D) s3.heap.objs.size) s4 := by
    refine codeAny_mono loop fun r s6 hr => ?_
    cases r with
    | error e => exact hr.elim
    | ok f =>
      obtain ⟨rfl, H6, I6, q6⟩ := hr
      have I7 : Inv X pins σ H6 s6 := I3.call' (ch := fp) I6.os I6.base I6.hok I6.bare fun b hb => ⟨(f3 b hb).1.2.2.2.1, (f3 b hb).1.2.1, (f3 b hb).1.2.2.2.2.1, (f3 b hb).1.2.2.2.2.2⟩
      obtain ⟨m, hn, _⟩ := I6.loc
      have nC : H6 ce.locals = none := I6.free
      have hn : s6.heap.Ns ce.locals m := hn
      rw [hcl] at hn nC
      exact hRR D s3.heap.objs.size s6 m H6 I7 q6 hn (I3.fpOk (Nat.le_refl _) nC)
  exact codeAny_compStart_dict loop2 (T.self X.A 0 _ _ _ st4 loop2)
theorem pe_dc2 (hc : X.calm = true) (hN : X.N.Nodup) (hi : PI X t0 i0 wi) (ok : BlkOk X.N X.env.scope scope own) (hv : ∀ i ∈ fs1, i ∈ own.map (·.2))
    (hg : BlkA X scope fun Y => PG Y t0 g) (hi1 : BlkA X scope fun Y => PI Y t1 i1 wi1) (hg1 : BlkA X scope fun Y => PG Y t1 g1) (hk : BlkA X scope fun Y => PE Y kx tk) (he : BlkA X scope fun Y => PE Y vx tv)
    (hs : ∀ x, foldedSetIterable i0 X.env x = pure x := by intro _; rfl) (hs1 : ∀ env x, foldedSetIterable i1 env x = pure x := by intro _ _; rfl) : PE X (dc2 kx vx t0 i0 t1 i1 scope pos) (tDc2 wi g (own.map (·.2)) fs1 wi1 g1 tk tv) := by
  refine ⟨fun pins s σ H Q I h => ?_⟩
  rw [arm_eval_DictComp]
  refine dc2_core hc hN I hi ok hv hg hi1 hg1 hk he hs hs1 h fun D C s' m H' I' q hn f => ⟨m, hn, fun h2 sb => ?_⟩
  exact ⟨.ref D, H', I'.turned (t' := s'.toks) (fun b o hb e => (sb.2 b hb).trans e) f.1 f.2.1 f.2.2.2.1 f.2.2.2.2.1 f.2.2.2.2.2, rfl, q⟩
/-- name = {..}, on one line, the name a local -/
theorem ps_setDc2 {i : Nat} {y : Str} {py spos : Pos} (hc : X.calm = true) (hN : X.N.Nodup) (hy : X.N[i]? = some y) (hyl : X.env.scope.names.lookup y = some .local) (hsw : swapsWith (dc2 kx vx t0 i0 t1 i1 scope pos) (some (.Name y py)) spos.line X.env = pure true)
    (hi : PI X t0 i0 wi) (ok : BlkOk X.N X.env.scope scope own) (hv : ∀ i ∈ fs1, i ∈ own.map (·.2))
    (hg : BlkA X scope fun Y => PG Y t0 g) (hi1 : BlkA X scope fun Y => PI Y t1 i1 wi1) (hg1 : BlkA X scope fun Y => PG Y t1 g1) (hk : BlkA X scope fun Y => PE Y kx tk) (he : BlkA X scope fun Y => PE Y vx tv)
    (hs : ∀ x, foldedSetIterable i0 X.env x = pure x := by intro _; rfl) (hs1 : ∀ env x, foldedSetIterable i1 env x = pure x := by intro _ _; rfl) : PS X (.Assign [.Name y py] (dc2 kx vx t0 i0 t1 i1 scope pos) spos) (tAsg (tDc2 wi g (own.map (·.2)) fs1 wi1 g1 tk tv) (gName i)) := by
  refine ⟨fun pins s σ H D I h => ?_⟩
  rw [exec_Assign_Name_used _ _ _ _ hsw]
  refine wpAny_bind (wpAny_standAt (wpAny_bind ?_))
  show wpAny _ X.A (do let _ ← comprehension (dc2 kx vx t0 i0 t1 i1 scope pos) scope X.env (firstIterPos [⟨t0, i0, [], 0⟩, ⟨t1, i1, [], 0⟩] pos) newDict false (eval i0 X.env) (some (assign (.Name y py) X.env))) _ _ s
  have h2 : tDc2 wi g (own.map (·.2)) fs1 wi1 g1 tk tv σ H (fun x H1 => gName i x σ H1 D.nx) := h
  refine wpAny_bind (thn (dc2_core (Qf := fun _ s' => SP X pins D .next s') hc hN I hi ok hv hg hi1 hg1 hk he hs hs1 h2 fun L C s' m H' I' q hn f => ?_) fun _ s' hq => wpAny_pure (wpAny_pure hq))
  show wpAny _ _ (assign (.Name y py) X.env (.ref L)) _ _ _
  refine wpAny_assign_Name (store_ok2 (v := V.ref L) I' hN hy (.inl hyl) rfl (fun s2 I2 ⟨a, sb, ha⟩ => ?_) (.inr hyl))
  refine ⟨m, hn.sameBut sb ?_, fun h3 sb3 => ⟨_, H', I2.turned (t' := s2.toks) (fun b o hb e => (sb3.2 b hb).trans e) f.1 f.2.1 f.2.2.2.1 f.2.2.2.2.1 f.2.2.2.2.2, q⟩⟩
  rcases ha with z | z
  · rw [z]
    exact f.2.1
  · exact fun e => f.2.2.2.2.1 y a z e.symm
theorem sw_dict {kx vx : Expr} {gs : List Comprehension} {scope : Scope} {pos py : Pos} {y : Str} {l : Nat} {env : Env} (hk : env.scope.kind = .function) (hy : env.scope.names.lookup y = some .local) (hl : (py.line == pos.line) = true)
    (ha : (scope.names.any fun (n, k) => n == y && (k == .local || k == .cell)) = false) : swapsWith (.DictComp kx vx gs scope pos) (some (.Name y py)) l env = pure true := by
  have e1 : env.kindOf y = some .local := hy
  have e2 : env.blockKind = .function := by unfold Env.blockKind; rw [hk]; rfl
  unfold swapsWith
  simp only [e2, e1, ha, Expr.pos, hl]
  rfl
end
end Rz

namespace Rz
open PySem PySem.Spec PyProof.Rows L2

/-! ### enumerate(a tuple), enumerate(a tuple, start=c) -/
def ItE (K : PySem.W.Frag) (a : Addr) (c : Int) : It :=
  ⟨fun i H => ∃ (xs : List V) (x : V), SqT K H a xs ∧ xs[i]? = some x, fun i H v H' => ∃ T x, v = .ref T ∧ H T = none ∧ H' = upd H T (.tup [.int (c + (i : Int)), x]) ∧ ∀ xs, SqT K H a xs → xs[i]? = some x, fun i H => ∃ xs : List V, SqT K H a xs ∧ xs.length = i⟩
theorem turn_enumT {P : Program} {w : World} {K : PySem.W.Frag} {elts : List Expr} {kk : Nat} {tpos : Pos} (a e it : Addr) (c : Int) (hne : e ≠ it) (hea : e ≠ a) (hai : a ≠ it) :
    Turn P w K (.Tuple elts kk tpos) (ItE K a c) [e, it] e (fun i h => (∃ old, IsEnum h e it (c + (i : Int)) old) ∧ h.IsTupleIter it a i) where
  mem := List.mem_cons_self
  obj := fun i h st b hb => by
    obtain ⟨⟨old, he⟩, o, ho, hc, hd⟩ := st
    rcases List.mem_cons.mp hb with z | z
    · subst z
      exact ⟨_, he, fun v q => nomatch q⟩
    · exact ⟨o, List.mem_singleton.mp z ▸ ho, fun v q => by rw [hd] at q; cases q⟩
  keep := fun i h h' st k => ⟨st.1.imp fun old he => k e List.mem_cons_self _ he, st.2.at fun o q => k it (List.mem_cons_of_mem _ List.mem_cons_self) o q⟩
  item := by
    intro X hP hw hK hc i pins s σ H E I hf st hg
    subst hP hw hK
    obtain ⟨⟨old, he⟩, hit⟩ := st
    obtain ⟨xs, x, hq, hx⟩ := hg
    obtain ⟨its, rv, p, hz⟩ := I.tuple hq
    obtain ⟨u, hu, ru⟩ := rv.get hx
    have hu2 : its.toArray[i]? = some u := by simpa using hu
    have hin : i < its.toArray.size := (Array.getElem?_eq_some_iff.mp hu2).1
    have p2 : s.heap.IsTuple a its.toArray := p
    have Dr := Draws.tuple (prog := X.prog) (w := X.w) (A := X.A.in1) (show X.A.in1.handled = none from I.ok.hd hc) it a hai its.toArray
    have hel : e < s.heap.objs.size := Heap.lt_size he
    have hil : it < s.heap.objs.size := let ⟨_, q, _⟩ := hit; Heap.lt_size q
    refine wpAny_pyNext_enum_itemC Dr he ⟨hit, p2⟩ hin hne (fun z => ?_) fun y h' tk hy ho hst hT hsz hk => ?_
    · rcases List.mem_cons.mp z with z | z
      · exact hne z
      · exact hea (List.mem_singleton.mp z)
    rw [hu2] at hy
    cases hy
    refine ⟨_, rfl, wpAny_letOwnedTupleGo_enum (s := { s with heap := h', toks := tk + 1 }) ho fun h2 he2 sb => ?_⟩
    have hT2 : h2.get? s.heap.objs.size = some { cls := .type "tuple", data := .seq #[.int (c + (i : Int)) tk, u] } := (sb.2 _ (Nat.ne_of_gt hel)).trans hT
    have new : ObjOk X.prog X.w (upd H s.heap.objs.size (.tup [.int (c + (i : Int)), x])) h2 s.heap.objs.size (.tup [.int (c + (i : Int)), x]) :=
      ⟨by show 2 ≤ sizeLine; decide, [.int (c + (i : Int)) tk, u], .cons ⟨_, rfl⟩ (.cons ru .nil), ⟨_, hT2, rfl, _, rfl⟩⟩
    have I1 : Inv X pins σ (upd H s.heap.objs.size (.tup [.int (c + (i : Int)), x])) { s with heap := h2, toks := tk + 1 } :=
      I.turnedNew (ch := [e, it]) (fun b ob hb q => (sb.2 b fun z => hb (z ▸ List.mem_cons_self)).trans (hk b ob (fun z => hb (z ▸ List.mem_cons_self)) (fun z => hb (z ▸ List.mem_cons_of_mem _ List.mem_cons_self)) q)) hf (Nat.le_refl _) new
    refine ⟨.ref s.heap.objs.size, _, I1, rfl, ⟨_, x, rfl, I.hok.fresh (Nat.le_refl _), rfl, fun ys hy => by rw [I.tuple_inj hy hq]; exact hx⟩, ⟨⟨u, ?_⟩, hst.1.at fun o q => (sb.2 it hne.symm).trans q⟩, fun b hb => ?_⟩
    · have e1 : c + ((i + 1 : Nat) : Int) = c + (i : Int) + 1 := by omega
      rw [e1]
      exact he2
    · have hb2 : b < s.heap.objs.size := by
        rcases List.mem_cons.mp hb with z | z
        · exact z ▸ hel
        · exact List.mem_singleton.mp z ▸ hil
      rw [upd_ne (Nat.ne_of_lt hb2)]
      exact (hf b hb).1
  done := by
    intro X hP hw hK hc i pins s σ H E I hf st hg
    subst hP hw hK
    obtain ⟨⟨old, he⟩, hit⟩ := st
    obtain ⟨xs, hq, hx⟩ := hg
    obtain ⟨its, rv, p, hz⟩ := I.tuple hq
    have hl := rv.length
    have hsz : its.toArray.size = i := by rw [List.size_toArray, ← hl, hx]
    have Dr := Draws.tuple (prog := X.prog) (w := X.w) (A := X.A.in1) (show X.A.in1.handled = none from I.ok.hd hc) it a hai its.toArray
    have z := hf it (List.mem_cons_of_mem _ List.mem_cons_self)
    exact wpAny_pyNext_enum_endD Dr he ⟨by rw [hsz]; exact hit, p⟩ fun h' eb => ⟨rfl, I.turned (t' := s.toks) (fun b o hb q => eb b o hb q) z.1 z.2.1 z.2.2.2.1 z.2.2.2.2.1 z.2.2.2.2.2⟩
  self := fun A i s Q E st h => let ⟨⟨_, he⟩, _⟩ := st; wpAny_pyIter_enum he h
set_option maxHeartbeats 1000000 in
theorem meets_enum1 {v : Value} {o : Obj} {H : Heap → Prop} (B : Begins v o H) :
    Meets (Builtin.«enumerate.__new__» ⟨[.type "enumerate", v], []⟩) (fun _ R s => H s.heap ∧ R (.ok (.ret (.ref (s.heap.push o).objs.size)))
      { s with heap := (s.heap.push o).push { cls := .type "enumerate", data := .fields #[.none, .bool false, .ref s.heap.objs.size, rawInt 0, .none, .none] } }) :=
  .of_wp fun prog w A R s h => by
    obtain ⟨hp, g, d, tk, os⟩ := s
    obtain ⟨h1, h⟩ := h
    have hsub := sub_enumerate
    have it : ∀ {A2 : Around} {E : Value → Shared → Prop} {Q : Value → Shared → Prop}, Q (.ref hp.objs.size) ⟨hp.push o, g, d, tk, os⟩ → wpAny (model prog w) A2 (pyIter v) Q E ⟨hp, g, d, tk, os⟩ := fun q => B.iter prog w _ _ ⟨hp, g, d, tk, os⟩ _ h1 q
    wp_walk using it
    refine wpAny_stack_any fun st => wpAny_pure ?_
    split
    · rename_i c _ _ _ _ _
      cases (c == Value.type "enumerate")
      · wp_walk using it
        exact ⟨_, rfl, h⟩
      · wp_walk using it
        exact ⟨_, rfl, h⟩
    · wp_walk using it
      exact ⟨_, rfl, h⟩
theorem call_enum1 {prog : Program} {w : World} {A : Around} {E : Value → Shared → Prop} {s : Shared} {v : Value} {o : Obj} {H : Heap → Prop} {Q : Value → Shared → Prop} (B : Begins v o H) (h1 : H s.heap)
    (h : ∀ h', IsEnum h' (s.heap.objs.size + 1) s.heap.objs.size 0 .none → h'.get? s.heap.objs.size = some o → h'.objs.size = s.heap.objs.size + 2 → (∀ b u, s.heap.get? b = some u → h'.get? b = some u) → Q (.ref (s.heap.objs.size + 1)) { s with heap := h' }) :
    wpAny (model prog w) A (call (.type "enumerate") [v]) Q E s := by
  refine callType_new F.called_enumerate (by decide) (F.typeCall_enumerate_1 _) (F.newCall_enumerate_1 _) (fun obj => F.args_object_init_2 obj _) F.entry_enumerate_new (meets_enum1 B) ⟨h1, ?_⟩
  have hz : (s.heap.push o).objs.size = s.heap.objs.size + 1 := Heap.size_push ..
  have he : IsEnum ((s.heap.push o).push { cls := .type "enumerate", data := .fields #[.none, .bool false, .ref s.heap.objs.size, rawInt 0, .none, .none] }) (s.heap.objs.size + 1) s.heap.objs.size 0 .none := by
    rw [← hz]
    exact Heap.get?_push_size (s.heap.push o) rfl
  rw [hz]
  exact ⟨⟨_, he, rfl⟩, h _ he (Heap.get?_push_of_some _ (Heap.get?_push_size _ B.free)) (by rw [Heap.size_push, hz]) fun b u x => Heap.get?_push_of_some _ (Heap.get?_push_of_some _ x)⟩
def rEnT (K : PySem.W.Frag) (c : Int) (R : It → Hp → Prop) : List V → Hp → Prop := fun vs H1 => ∃ a, vs = [.ref a] ∧ (∃ xs, SqT K H1 a xs) ∧ R (ItE K a c) H1
def iEnT (K : PySem.W.Frag) (ta : TA) : TI := fun σ H R => ta σ H (rEnT K 0 R)
def rEnTk (K : PySem.W.Frag) (R : It → Hp → Prop) (vs : List V) : List V → Hp → Prop := fun zs H1 => ∃ c : Int, zs = [.int c] ∧ -(2 ^ 62) ≤ c ∧ c < 2 ^ 62 ∧ rEnT K c R vs H1
def iEnTk (K : PySem.W.Frag) (ta tk : TA) : TI := fun σ H R => ta σ H fun vs H1 => tk σ H1 (rEnTk K R vs)
section
variable {X : Cx}
theorem enum_pie {pins : List (Addr × Obj)} {σ : L2.St} {H : Hp} {s : Shared} {E : Value → Shared → Prop} {R : It → Hp → Prop} {a : Addr} {xs : List V} {c : Int} {h' : Heap} {elts : List Expr} {kk : Nat} {tpos : Pos} (I : Inv X pins σ H s) (hq : SqT X.K H a xs)
    (he : IsEnum h' (s.heap.objs.size + 1) s.heap.objs.size c .none) (ho : h'.get? s.heap.objs.size = some { cls := .type "tuple_iterator", data := .fields #[.ref a, .int 0 0] }) (hk : ∀ b u, s.heap.get? b = some u → h'.get? b = some u) (q : R (ItE X.K a c) H) :
    wpAny (model X.prog X.w) X.A (pyIter (.ref (s.heap.objs.size + 1))) (PIE X pins σ (.Tuple elts kk tpos) R) E { s with heap := h' } := by
  obtain ⟨its, rv, p, hz⟩ := I.tuple hq
  obtain ⟨oa, hoa, _⟩ := p
  have hal : a < s.heap.objs.size := Heap.lt_size hoa
  have I2 : Inv X pins σ H { s with heap := h' } := I.kept (t' := s.toks) hk
  have he0 : IsEnum h' (s.heap.objs.size + 1) s.heap.objs.size (c + ((0 : Nat) : Int)) .none := by
    rw [show c + ((0 : Nat) : Int) = c by omega]
    exact he
  refine wpAny_pyIter_enum he ⟨s.heap.objs.size + 1, [s.heap.objs.size + 1, s.heap.objs.size], _, _, H, rfl, I2, turn_enumT a (s.heap.objs.size + 1) s.heap.objs.size c (Nat.succ_ne_self _) (Nat.ne_of_gt (Nat.lt_succ_of_lt hal)) (Nat.ne_of_lt hal), ⟨⟨.none, he0⟩, ⟨_, ho, rfl, rfl⟩⟩, fun b hb => ?_, q⟩
  have hle : s.heap.objs.size ≤ b := by
    rcases List.mem_cons.mp hb with z | z
    · rw [z]
      exact Nat.le_succ _
    · rw [List.mem_singleton.mp z]
      exact Nat.le_refl _
  exact I.fpOk hle (I.hok.fresh hle)
theorem pi_enumT {K : PySem.W.Frag} {e : Expr} {ta : TA} {p pos tpos : Pos} {elts : List Expr} {kk : Nat} (hKK : X.K = K) (hg : Gl X "enumerate") (hm : X.mg "enumerate" = none) (ha : PA X [e] ta) (hs : starEach [e] X.env = [(false, eval e X.env)] := by rfl) :
    PI X (.Tuple elts kk tpos) (.Call (.Name "enumerate" p) [e] [] pos) (iEnT K ta) := by
  subst hKK
  refine ⟨fun pins s σ H R I h => Call_ (ld_blt I hg hm boot_enumerate (PyProof.Rows.callWith_type1 (thn (ha.run pos pins s σ H _ I h) fun us s1 ⟨vs, H1, I1, r1, q1⟩ => ?_) hs rfl))⟩
  obtain ⟨a, rfl, ⟨xs, hq⟩, q⟩ := q1
  obtain rfl := Vals.ref1 r1
  obtain ⟨its, rv, p2, hz⟩ := I1.tuple hq
  exact call_enum1 (begins_tuple a its.toArray) p2 fun h' he ho hsz hk => enum_pie I1 hq he ho hk q
theorem callWith_tyKw {M : Model} {Ar : Around} {E : Value → Shared → Prop} {s : Shared} {pos : Pos} {T : String} {first : List Value} {args : List (Bool × Sem Value)} {kws : List (Option Str × Sem Value)} {Q : Value → Shared → Prop} (hplain : (args.any (·.1) || kws.any (·.1.isNone)) = false)
    (h : wpAny M Ar (evalArgs (.type T) true args kws) (fun a s1 => wpAny M Ar (call (.type T) (first ++ a.pos) a.kw) Q E s1) E s) : wpAny M Ar (callWith pos (.type T) first args kws) Q E s := by
  unfold callWith
  refine wpAny_bind (wpAny_holding (wpAny_mono h (fun a s1 h1 => wpAny_bind (wpAny_standAt ?_)) fun _ _ z => z))
  simp only [hplain]
  refine wpAny_bind (wpAny_pure ?_)
  exact wpAny_bind (wpAny_mono h1 (fun r s2 hr => wpAny_bind (wpAny_holding (wpAny_point (wpAny_pure hr)))) fun _ _ z => z)
theorem pi_enumTk {K : PySem.W.Frag} {e : Expr} {ta tk : TA} {p pos tpos : Pos} {elts : List Expr} {kk : Nat} {kws : List Keyword} (hKK : X.K = K) (hg : Gl X "enumerate") (hm : X.mg "enumerate" = none) (ha : PA X [e] ta) (hkw : PK X kws tk)
    (hs : starEach [e] X.env = (false, eval e X.env) :: starEach [] X.env := by rfl) (hall : (backToKw pos (keywordEach kws X.env)).all (·.1.isSome) = true := by rfl)
    (hpl : ((backTo pos (starEach [e] X.env)).any (·.1) || (backToKw pos (keywordEach kws X.env)).any (·.1.isNone)) = false := by rfl) (hks : (backToKw pos (keywordEach kws X.env)).filterMap (·.1) = [Str.ofString "start"] := by rfl) :
    PI X (.Tuple elts kk tpos) (.Call (.Name "enumerate" p) [e] kws pos) (iEnTk K ta tk) := by
  subst hKK
  refine ⟨fun pins s σ H R I h => wpAny_Call_Name_kw (ld_blt I hg hm boot_enumerate (callWith_tyKw hpl (evalArgs_kw2 hall (thn (ha.run pos pins s σ H _ I h) fun us s1 ⟨vs, H1, I1, r1, q1⟩ => thn (hkw.run pos pins s1 σ H1 _ I1 q1) fun ws s2 ⟨zs, H2, I2, r2, q2⟩ => ?_) hs)))⟩
  obtain ⟨c, rfl, hc1, hc2, a, rfl, ⟨xs, hq⟩, q⟩ := q2
  obtain rfl := Vals.ref1 r1
  rw [hks]
  cases r2 with
  | cons r rr =>
    cases rr
    obtain ⟨t, rfl⟩ := r
    obtain ⟨its, rv, p2, hz⟩ := I2.tuple hq
    exact enum_begins_start (begins_tuple a its.toArray) p2 (by omega) (by omega) fun h' he ho hsz hk => enum_pie I2 hq he ho hk q
end
section
variable {K : PySem.W.Frag} {σ : L2.St} {H : Hp} {g g1 : TG} {fs fs1 : List Nat} {wi1 : TI} {ta ta2 : TA} {tk tv tl : TE} {Q : VK} {ta1 : L2.St → Hp → (Hp → Prop) → Prop} {Nx : Hp → Prop} {R : It → Hp → Prop} {vs : List V}
theorem g_dc2T (h : tl σ H (rItT K (outW g fs fs1 wi1 g1 tk tv σ Q))) : tDc2 (iTup K tl) g fs fs1 wi1 g1 tk tv σ H Q := h
theorem g_dc2E (h : ta σ H fun vs H1 => ta2 σ H1 (rEnTk K (outW g fs fs1 wi1 g1 tk tv σ Q) vs)) : tDc2 (iEnTk K ta ta2) g fs fs1 wi1 g1 tk tv σ H Q := h
theorem g_inT (h : tl σ H (rItT K (inW fs1 g1 ta1 σ Nx))) : tInner fs1 (iTup K tl) g1 ta1 σ H Nx := h
theorem g_inE (h : ta σ H (rEnT K 0 (inW fs1 g1 ta1 σ Nx))) : tInner fs1 (iEnT K ta) g1 ta1 σ H Nx := h
theorem g_enTk {c : Int} (h1 : -(2 ^ 62) ≤ c) (h2 : c < 2 ^ 62) (h : rEnT K c R vs H) : rEnTk K R vs [.int c] H := ⟨c, rfl, h1, h2, h⟩
/-- the dict's next entry -/
def putN (Nx : Hp → Prop) (D : Addr) (y z : V) (H2 : Hp) : Prop := ∃ kvs k, y = kV k ∧ H2 D = some (.dK kvs) ∧ kvs.length < sizeLine ∧ Nx (upd H2 D (.dK (putK kvs k z)))
theorem g_put {D : Addr} {Nx : Hp → Prop} (h : tk σ H fun y H1 => tv σ H1 fun z H2 => putN Nx D y z H2) : tPut tk tv D σ H Nx := h
theorem putN_int {D : Addr} {Nx : Hp → Prop} {d : Int} {z : V} {kvs : List (Key × V)} (h : H D = some (.dK kvs)) (hl : kvs.length ≤ 1000000) (q : Nx (upd H D (.dK (putK kvs (.inl d) z)))) : putN Nx D (.int d) z H := ⟨kvs, .inl d, rfl, h, by have := sizeLine_eq; omega, q⟩
theorem out_tup {a : Addr} {xs : List V} (h : SqT K H a xs) (Pv : Addr → Nat → Hp → Prop) (h0 : ∀ D, H D = none → Pv D 0 (upd H D (.dK []))) (hl : ∀ D i H', H D = none → Pv D i H' → SqT K H' a xs)
    (hs : ∀ D i x H', H D = none → xs[i]? = some x → Pv D i H' → g x (wipe σ fs) H' fun σ2 H2 => wipe σ2 fs = wipe σ fs ∧ tInner fs1 wi1 g1 (tPut tk tv D) σ2 H2 (Pv D (i + 1))) (hd : ∀ D H', H D = none → Pv D xs.length H' → Q (.ref D) H') :
    rItT K (outW g fs fs1 wi1 g1 tk tv σ Q) (.ref a) H := by
  refine ⟨a, rfl, ⟨xs, h⟩, fun D hD => ⟨fun i m H' => m = xs.length - i ∧ i ≤ xs.length ∧ Pv D i H', ⟨_, rfl, Nat.zero_le _, h0 D hD⟩, fun i m H' hw => ?_⟩⟩
  obtain ⟨rfl, hi, p⟩ := hw
  have q := hl D i H' hD p
  rcases Nat.lt_or_eq_of_le hi with hlt | heq
  · refine .inr ⟨⟨xs, xs[i], q, List.getElem?_eq_getElem hlt⟩, Pv D (i + 1), fun H2 p2 => ⟨xs.length - (i + 1), by omega, rfl, hlt, p2⟩, fun x H2 y => ?_⟩
    obtain ⟨rfl, y⟩ := y
    exact hs D i x _ hD (y xs q) p
  · subst heq
    exact .inl ⟨⟨xs, q, Nat.le_refl _⟩, hd D H' hD p⟩
theorem out_enum {a : Addr} {xs : List V} {c : Int} (h : SqT K H a xs) (Pv : Addr → Nat → Hp → Prop) (h0 : ∀ D, H D = none → Pv D 0 (upd H D (.dK []))) (hl : ∀ D i H', H D = none → Pv D i H' → SqT K H' a xs)
    (hs : ∀ D i x T H', H D = none → xs[i]? = some x → Pv D i H' → H' T = none → g (.ref T) (wipe σ fs) (upd H' T (.tup [.int (c + (i : Int)), x])) fun σ2 H2 => wipe σ2 fs = wipe σ fs ∧ tInner fs1 wi1 g1 (tPut tk tv D) σ2 H2 (Pv D (i + 1))) (hd : ∀ D H', H D = none → Pv D xs.length H' → Q (.ref D) H') :
    rEnT K c (outW g fs fs1 wi1 g1 tk tv σ Q) [.ref a] H := by
  refine ⟨a, rfl, ⟨xs, h⟩, fun D hD => ⟨fun i m H' => m = xs.length - i ∧ i ≤ xs.length ∧ Pv D i H', ⟨_, rfl, Nat.zero_le _, h0 D hD⟩, fun i m H' hw => ?_⟩⟩
  obtain ⟨rfl, hi, p⟩ := hw
  have q := hl D i H' hD p
  rcases Nat.lt_or_eq_of_le hi with hlt | heq
  · refine .inr ⟨⟨xs, xs[i], q, List.getElem?_eq_getElem hlt⟩, Pv D (i + 1), fun H2 p2 => ⟨xs.length - (i + 1), by omega, rfl, hlt, p2⟩, fun v H2 y => ?_⟩
    obtain ⟨T, x, rfl, hT, rfl, y⟩ := y
    exact hs D i x T _ hD (y xs q) p hT
  · subst heq
    exact .inl ⟨⟨xs, q, rfl⟩, hd D H' hD p⟩
theorem in_tup {a : Addr} {xs : List V} (h : SqT K H a xs) (Pv : Nat → Hp → Prop) (h0 : Pv 0 H) (hl : ∀ i H', Pv i H' → SqT K H' a xs)
    (hs : ∀ i x H', xs[i]? = some x → Pv i H' → g1 x (wipe σ fs1) H' fun σ2 H2 => wipe σ2 fs1 = wipe σ fs1 ∧ ta1 σ2 H2 (Pv (i + 1))) (hd : ∀ H', Pv xs.length H' → Nx H') : rItT K (inW fs1 g1 ta1 σ Nx) (.ref a) H := by
  refine ⟨a, rfl, ⟨xs, h⟩, fun i m H' => m = xs.length - i ∧ i ≤ xs.length ∧ Pv i H', ⟨_, rfl, Nat.zero_le _, h0⟩, fun i m H' hw => ?_⟩
  obtain ⟨rfl, hi, p⟩ := hw
  have q := hl i H' p
  rcases Nat.lt_or_eq_of_le hi with hlt | heq
  · refine .inr ⟨⟨xs, xs[i], q, List.getElem?_eq_getElem hlt⟩, Pv (i + 1), fun H2 p2 => ⟨xs.length - (i + 1), by omega, rfl, hlt, p2⟩, fun x H2 y => ?_⟩
    obtain ⟨rfl, y⟩ := y
    exact hs i x _ (y xs q) p
  · subst heq
    exact .inl ⟨⟨xs, q, Nat.le_refl _⟩, hd H' p⟩
theorem in_enum {a : Addr} {xs : List V} {c : Int} (h : SqT K H a xs) (Pv : Nat → Hp → Prop) (h0 : Pv 0 H) (hl : ∀ i H', Pv i H' → SqT K H' a xs)
    (hs : ∀ i x T H', xs[i]? = some x → Pv i H' → H' T = none → g1 (.ref T) (wipe σ fs1) (upd H' T (.tup [.int (c + (i : Int)), x])) fun σ2 H2 => wipe σ2 fs1 = wipe σ fs1 ∧ ta1 σ2 H2 (Pv (i + 1))) (hd : ∀ H', Pv xs.length H' → Nx H') : rEnT K c (inW fs1 g1 ta1 σ Nx) [.ref a] H := by
  refine ⟨a, rfl, ⟨xs, h⟩, fun i m H' => m = xs.length - i ∧ i ≤ xs.length ∧ Pv i H', ⟨_, rfl, Nat.zero_le _, h0⟩, fun i m H' hw => ?_⟩
  obtain ⟨rfl, hi, p⟩ := hw
  have q := hl i H' p
  rcases Nat.lt_or_eq_of_le hi with hlt | heq
  · refine .inr ⟨⟨xs, xs[i], q, List.getElem?_eq_getElem hlt⟩, Pv (i + 1), fun H2 p2 => ⟨xs.length - (i + 1), by omega, rfl, hlt, p2⟩, fun v H2 y => ?_⟩
    obtain ⟨T, x, rfl, hT, rfl, y⟩ := y
    exact hs i x T _ (y xs q) p hT
  · subst heq
    exact .inl ⟨⟨xs, q, rfl⟩, hd H' p⟩
/-- an entry of a dict -/
def rDG : R2 := fun x y H Q => ∃ a v, x = .ref a ∧ DGet H a y (some v) ∧ Q v H
theorem g_dget {td ty : TE} (h : td σ H fun x H1 => ty σ H1 fun y H2 => rDG x y H2 Q) : tDGet td ty σ H Q := h
theorem g_dgetI {a : Addr} {kvs : List (Key × V)} {d : Int} {v : V} (h : H a = some (.dK kvs)) (e : valV kvs (.inl d) = some v) (q : Q v H) : rDG (.ref a) (.int d) H Q := ⟨a, v, rfl, .inl ⟨kvs, .inl d, .inl h, rfl, e.symm⟩, q⟩
theorem g_setD {a : Addr} {kvs : List (Key × V)} {d : Int} {v : V} {Q : Hp → Prop} (h : H a = some (.dK kvs)) (hl : kvs.length ≤ 1000000) (q : Q (upd H a (.dK (putK kvs (.inl d) v)))) : rSetD (.ref a) (.int d) v H Q := ⟨a, _, rfl, .inl ⟨kvs, .inl d, h, rfl, by have := sizeLine_eq; omega, rfl⟩, q⟩
end
end Rz
namespace Rz
open PySem PySem.Spec PyProof.Rows L2
theorem room1 {k : Nat} {Ar : Around} (r : Room k Ar) : Ar.units + 1 < cLine := by
  have := r.units
  omega
theorem sl_tupAK {X : Cx} {K : PySem.W.Frag} (h : X.K = K) : SlR X (rSlA K) := h ▸ sl_tupA
end Rz

namespace Rz
open PySem PySem.Spec PyProof.Rows L2

/-! ### a dart stands at one place -/
theorem row_of {rows : Rows} {k : Nat} {row : List Int} (h : rows[k]? = some row) : rows.getD k [] = row := by rw [List.getD_eq_getElem?_getD, h, Option.getD_some]
theorem place_inj {rows : Rows} (nd : rows.flatten.Nodup) {k k' i i' : Nat} {row row' : List Int} {d : Int} (h1 : rows[k]? = some row) (h2 : row[i]? = some d) (h1' : rows[k']? = some row') (h2' : row'[i']? = some d) : k = k' ∧ i = i' := by
  have hf := List.pairwise_flatten.mp nd
  obtain ⟨hn, hp⟩ := hf
  have hk := (List.getElem?_eq_some_iff.mp h1)
  have hk' := (List.getElem?_eq_some_iff.mp h1')
  obtain ⟨l1, e1⟩ := hk
  obtain ⟨l1', e1'⟩ := hk'
  have m1 := List.mem_of_getElem? h2
  have m2 := List.mem_of_getElem? h2'
  have ek : k = k' := by
    rcases Nat.lt_trichotomy k k' with z | z | z
    · have := List.pairwise_iff_getElem.mp hp k k' l1 l1' z
      rw [e1, e1'] at this
      exact absurd rfl (this d m1 d m2)
    · exact z
    · have := List.pairwise_iff_getElem.mp hp k' k l1' l1 z
      rw [e1, e1'] at this
      exact absurd rfl (this d m2 d m1)
  subst ek
  rw [h1] at h1'
  cases h1'
  exact ⟨rfl, nd_ix (hn row (List.mem_of_getElem? h1)) h2 h2'⟩
theorem at_of {rows : Rows} (nd : rows.flatten.Nodup) {k i : Nat} {row : List Int} {d : Int} (h1 : rows[k]? = some row) (h2 : row[i]? = some d) : atM rows d = (k, i) := by
  obtain ⟨row', a, b⟩ := at_spec (mem_flat.mpr ⟨k, row, h1, List.mem_of_getElem? h2⟩)
  obtain ⟨e1, e2⟩ := place_inj nd a b h1 h2
  exact Prod.ext e1 e2

/-! ### the next dart clockwise, none behind the last dart of the first m nodes -/
def nxtAt (rows : Rows) (m : Nat) (x : Int) : Option Int :=
  if (atM rows x).1 < m ∧ (atM rows x).2 + 1 = (rows.getD (atM rows x).1 []).length then none else (rows.getD (atM rows x).1 [])[((atM rows x).2 + 1) % (rows.getD (atM rows x).1 []).length]?
theorem nxt_eq {rows : Rows} {m : Nat} {d : Int} : nxt rows m d = nxtAt rows m (twin d) := rfl
def optV : Option Int → V
  | none => .non
  | some d => .int d
def Ahead (kvs : List (Key × V)) (rows : Rows) (m : Nat) (P : Nat × Nat → Prop) : Prop := ∀ d ∈ rows.flatten, P (atM rows d) → valV kvs (.inl d) = some (optV (nxtAt rows m d))
theorem nxtAt_zero {rows : Rows} {k i : Nat} {row : List Int} {d x : Int} (nd : rows.flatten.Nodup) (h1 : rows[k]? = some row) (h2 : row[i]? = some d) (h3 : row[(i + 1) % row.length]? = some x) : nxtAt rows 0 d = some x := by
  unfold nxtAt
  rw [at_of nd h1 h2]
  simp only [row_of h1]
  rw [if_neg (fun z => Nat.not_lt_zero _ z.1)]
  exact h3
/-- an entry more -/
theorem Ahead.put {kvs : List (Key × V)} {rows : Rows} {k i : Nat} {row : List Int} {d x : Int} (nd : rows.flatten.Nodup) (h1 : rows[k]? = some row) (h2 : row[i]? = some d) (h3 : row[(i + 1) % row.length]? = some x) (h : Ahead kvs rows 0 fun q => q.1 < k ∨ q.1 = k ∧ q.2 < i) :
    Ahead (putK kvs (.inl d) (.int x)) rows 0 fun q => q.1 < k ∨ q.1 = k ∧ q.2 < i + 1 := fun y hy hp => by
  rw [valV_put]
  by_cases e : y = d
  · subst e
    rw [if_pos rfl, nxtAt_zero nd h1 h2 h3]
    rfl
  · rw [if_neg (fun z => e (Sum.inl.inj z))]
    refine h y hy ?_
    rcases hp with hp | ⟨hp1, hp2⟩
    · exact .inl hp
    · refine .inr ⟨hp1, ?_⟩
      rcases Nat.lt_or_eq_of_le (Nat.le_of_lt_succ hp2) with z | z
      · exact z
      · obtain ⟨row', a, b⟩ := at_spec hy
        rw [hp1, h1] at a
        cases a
        rw [z, h2] at b
        exact absurd (Option.some.inj b).symm e
theorem Ahead.row {kvs : List (Key × V)} {rows : Rows} {k : Nat} {row : List Int} (h1 : rows[k]? = some row) (h : Ahead kvs rows 0 fun q => q.1 < k ∨ q.1 = k ∧ q.2 < row.length) : Ahead kvs rows 0 fun q => q.1 < k + 1 := fun y hy hp => by
  refine h y hy ?_
  rcases Nat.lt_or_eq_of_le (Nat.le_of_lt_succ hp) with z | z
  · exact .inl z
  · obtain ⟨row', a, b⟩ := at_spec hy
    rw [z, h1] at a
    cases a
    exact .inr ⟨z, (List.getElem?_eq_some_iff.mp b).1⟩
theorem Ahead.whole {kvs : List (Key × V)} {rows : Rows} (h : Ahead kvs rows 0 fun q => q.1 < rows.length) : Ahead kvs rows 0 fun _ => True := fun y hy _ => h y hy (at_lt hy)
/-- the rim: none behind the last dart of a node more -/
theorem Ahead.rim {kvs : List (Key × V)} {rows : Rows} {k : Nat} {row : List Int} {d : Int} (nd : rows.flatten.Nodup) (h1 : rows[k]? = some row) (h2 : row[row.length - 1]? = some d) (h : Ahead kvs rows k fun _ => True) : Ahead (putK kvs (.inl d) .non) rows (k + 1) fun _ => True := fun y hy _ => by
  have hl : 0 < row.length := by
    have := (List.getElem?_eq_some_iff.mp h2).1
    omega
  rw [valV_put]
  by_cases e : y = d
  · subst e
    rw [if_pos rfl]
    unfold nxtAt
    rw [at_of nd h1 h2]
    simp only [row_of h1]
    rw [if_pos ⟨Nat.lt_succ_self _, by omega⟩]
    rfl
  · rw [if_neg (fun z => e (Sum.inl.inj z)), h y hy trivial]
    obtain ⟨row', a, b⟩ := at_spec hy
    unfold nxtAt
    have key : ((atM rows y).1 < k ∧ (atM rows y).2 + 1 = (rows.getD (atM rows y).1 []).length) ↔ ((atM rows y).1 < k + 1 ∧ (atM rows y).2 + 1 = (rows.getD (atM rows y).1 []).length) := by
      refine ⟨fun z => ⟨by omega, z.2⟩, fun z => ⟨?_, z.2⟩⟩
      rcases Nat.lt_or_eq_of_le (Nat.le_of_lt_succ z.1) with w | w
      · exact w
      · have z2 := z.2
        rw [w] at a z2
        rw [h1] at a
        cases a
        rw [row_of h1] at z2
        rw [show (atM rows y).2 = row.length - 1 by omega, h2] at b
        exact absurd (Option.some.inj b).symm e
    simp only [key]
theorem Ahead.rim0 {kvs : List (Key × V)} {rows : Rows} {k : Nat} (h1 : rows[k]? = some []) (h : Ahead kvs rows k fun _ => True) : Ahead kvs rows (k + 1) fun _ => True := fun y hy _ => by
  rw [h y hy trivial]
  obtain ⟨row', a, b⟩ := at_spec hy
  have key : ((atM rows y).1 < k ∧ (atM rows y).2 + 1 = (rows.getD (atM rows y).1 []).length) ↔ ((atM rows y).1 < k + 1 ∧ (atM rows y).2 + 1 = (rows.getD (atM rows y).1 []).length) := by
    refine ⟨fun z => ⟨by omega, z.2⟩, fun z => ⟨?_, z.2⟩⟩
    rcases Nat.lt_or_eq_of_le (Nat.le_of_lt_succ z.1) with w | w
    · exact w
    · rw [w, h1] at a
      cases a
      simp at b
  unfold nxtAt
  simp only [key]

/-! ### the walk of a face comes back -/
theorem twin_inj {a b : Int} (h : twin a = twin b) : a = b := by
  unfold twin at h
  omega
theorem nxt_inj {rows : Rows} {E rim : Nat} (hW : WF rows E) {a b x : Int} (ha : 0 ≤ a ∧ a < 2 * (E : Int)) (hb : 0 ≤ b ∧ b < 2 * (E : Int)) (h1 : nxt rows rim a = some x) (h2 : nxt rows rim b = some x) : a = b := by
  have go : ∀ {c : Int}, 0 ≤ c ∧ c < 2 * (E : Int) → nxt rows rim c = some x → ∃ (k i : Nat) (row : List Int), rows[k]? = some row ∧ row[i]? = some (twin c) ∧ row[(i + 1) % row.length]? = some x := fun {c} hc h => by
    obtain ⟨row, a1, a2⟩ := at_spec ((hW.mem (twin c)).mpr (twin_range hc))
    rw [nxt_eq] at h
    unfold nxtAt at h
    simp only [row_of a1] at h
    split at h
    · cases h
    · exact ⟨_, _, row, a1, a2, h⟩
  obtain ⟨k, i, row, p1, p2, p3⟩ := go ha h1
  obtain ⟨k', i', row', p1', p2', p3'⟩ := go hb h2
  obtain ⟨e1, e2⟩ := place_inj hW.nd p1 p3 p1' p3'
  subst e1
  rw [p1] at p1'
  cases p1'
  have l1 := (List.getElem?_eq_some_iff.mp p2).1
  have l2 := (List.getElem?_eq_some_iff.mp p2').1
  have e3 : i = i' := by
    rcases Nat.lt_or_eq_of_le (show i + 1 ≤ row.length from l1) with z | z
    · rw [Nat.mod_eq_of_lt z] at e2
      rcases Nat.lt_or_eq_of_le (show i' + 1 ≤ row.length from l2) with z' | z'
      · rw [Nat.mod_eq_of_lt z'] at e2
        omega
      · rw [z', Nat.mod_self] at e2
        omega
    · rw [z, Nat.mod_self] at e2
      rcases Nat.lt_or_eq_of_le (show i' + 1 ≤ row.length from l2) with z' | z'
      · rw [Nat.mod_eq_of_lt z'] at e2
        omega
      · omega
  subst e3
  rw [p2] at p2'
  exact twin_inj (Option.some.inj p2')
theorem nxt_range {rows : Rows} {E rim : Nat} (hW : WF rows E) {a x : Int} (h : nxt rows rim a = some x) : 0 ≤ x ∧ x < 2 * (E : Int) := (hW.mem x).mp (nxt_mem h)
/-- a stretch of the walk from d: each its darts once -/
structure Walk1 (rows : Rows) (rim E : Nat) (d : Int) (w : List Int) (l : Int) : Prop where
  hd : w.head? = some d
  last : w[w.length - 1]? = some l
  nd : w.Nodup
  rng : ∀ x ∈ w, 0 ≤ x ∧ x < 2 * (E : Int)
  link : ∀ (i : Nat) x y, w[i]? = some x → w[i + 1]? = some y → nxt rows rim x = some y
theorem Walk1.start {rows : Rows} {rim E : Nat} {d : Int} (h : 0 ≤ d ∧ d < 2 * (E : Int)) : Walk1 rows rim E d [d] d :=
  ⟨rfl, rfl, by simp, fun x hx => by rw [List.mem_singleton.mp hx]; exact h, fun i x y _ b => by simp at b⟩
theorem Walk1.pos {rows : Rows} {rim E : Nat} {d l : Int} {w : List Int} (h : Walk1 rows rim E d w l) : 1 ≤ w.length := by
  have := h.hd
  cases w with
  | nil => cases this
  | cons a b => simp
theorem Walk1.mem {rows : Rows} {rim E : Nat} {d l : Int} {w : List Int} (h : Walk1 rows rim E d w l) : l ∈ w := List.mem_of_getElem? h.last
theorem Walk1.step {rows : Rows} {rim E : Nat} {d l x : Int} {w : List Int} (hW : WF rows E) (h : Walk1 rows rim E d w l) (hn : nxt rows rim l = some x) (hne : x ≠ d) : Walk1 rows rim E d (w ++ [x]) x := by
  have hp := h.pos
  have hx : x ∉ w := fun hm => by
    obtain ⟨i, hi⟩ := List.mem_iff_getElem?.mp hm
    have hil := (List.getElem?_eq_some_iff.mp hi).1
    cases i with
    | zero =>
      have := h.hd
      rw [List.head?_eq_getElem?, hi] at this
      exact hne (Option.some.inj this)
    | succ i =>
      have hi2 : w[i]? = some w[i] := List.getElem?_eq_getElem (by omega)
      have k := h.link i _ _ hi2 hi
      have e := nxt_inj hW (h.rng _ (List.mem_of_getElem? hi2)) (h.rng _ h.mem) k hn
      rw [e] at hi2
      have := nd_ix h.nd hi2 h.last
      omega
  refine ⟨?_, ?_, ?_, fun y hy => ?_, fun i a b ha hb => ?_⟩
  · rw [List.head?_append, h.hd]
    rfl
  · rw [List.length_append, List.length_singleton, Nat.add_sub_cancel, List.getElem?_append_right (Nat.le_refl _), Nat.sub_self]
    rfl
  · rw [List.nodup_append]
    refine ⟨h.nd, by simp, fun a ha b hb e => ?_⟩
    rw [List.mem_singleton.mp hb] at e
    exact hx (e ▸ ha)
  · rcases List.mem_append.mp hy with hy | hy
    · exact h.rng y hy
    · rw [List.mem_singleton.mp hy]
      exact nxt_range hW hn
  · have hi : i + 1 < (w ++ [x]).length := (List.getElem?_eq_some_iff.mp hb).1
    rw [List.length_append, List.length_singleton] at hi
    rw [List.getElem?_append_left (by omega)] at ha
    rcases Nat.lt_or_eq_of_le (show i + 1 ≤ w.length by omega) with z | z
    · rw [List.getElem?_append_left z] at hb
      exact h.link i a b ha hb
    · rw [List.getElem?_append_right (by omega), z, Nat.sub_self] at hb
      have e : x = b := Option.some.inj hb
      have e2 : i = w.length - 1 := by omega
      rw [e2, h.last] at ha
      cases ha
      rw [← e]
      exact hn
theorem nodup_le : ∀ (w l : List Int), w.Nodup → (∀ x ∈ w, x ∈ l) → w.length ≤ l.length
  | [], l, _, _ => Nat.zero_le _
  | x :: w, l, hn, hs => by
    obtain ⟨h1, h2⟩ := List.nodup_cons.mp hn
    have hx := hs x List.mem_cons_self
    have := nodup_le w (l.erase x) h2 fun y hy => (List.mem_erase_of_ne (show y ≠ x from fun z => h1 (by rw [← z]; exact hy))).mpr (hs y (List.mem_cons_of_mem _ hy))
    rw [List.length_erase_of_mem hx] at this
    have := List.length_pos_of_mem hx
    rw [List.length_cons]
    omega
theorem Walk1.len {rows : Rows} {rim E : Nat} {d l : Int} {w : List Int} (h : Walk1 rows rim E d w l) : w.length ≤ 2 * E := by
  have := nodup_le w ((List.range (2 * E)).map Int.ofNat) h.nd fun x hx => by
    have hr := h.rng x hx
    rw [List.mem_map]
    exact ⟨x.toNat, List.mem_range.mpr (by omega), by show ((x.toNat : Nat) : Int) = x; omega⟩
  rw [List.length_map, List.length_range] at this
  exact this
/-- the end of the walk -/
theorem Walk1.face {rows : Rows} {rim E : Nat} {d l : Int} {w : List Int} (n : Nat) (h : Walk1 rows rim E d w l) (hE : 2 * E ≤ 200) (hw : faceM rows rim d = walkF rows rim (201 - w.length) w l) (he : nxt rows rim l = none ∨ nxt rows rim l = some d) : faceM rows rim d = w := by
  have := h.len
  have := h.pos
  obtain ⟨m, hm⟩ : ∃ m, 201 - w.length = m + 1 := ⟨200 - w.length, by omega⟩
  rw [hw, hm]
  show (match nxt rows rim l with
    | none => w
    | some d' => if some d' = w.head? then w else walkF rows rim m (w ++ [d']) d') = w
  rcases he with he | he
  · rw [he]
  · rw [he]
    simp only
    rw [if_pos h.hd.symm]
theorem Walk1.more {rows : Rows} {rim E : Nat} {d l x : Int} {w : List Int} (h : Walk1 rows rim E d w l) (hE : 2 * E ≤ 200) (hw : faceM rows rim d = walkF rows rim (201 - w.length) w l) (hn : nxt rows rim l = some x) (hne : x ≠ d) :
    faceM rows rim d = walkF rows rim (201 - (w ++ [x]).length) (w ++ [x]) x := by
  have := h.len
  have := h.pos
  obtain ⟨m, hm⟩ : ∃ m, 201 - w.length = m + 1 := ⟨200 - w.length, by omega⟩
  have hm2 : 201 - (w ++ [x]).length = m := by
    rw [List.length_append, List.length_singleton]
    omega
  rw [hw, hm, hm2]
  show (match nxt rows rim l with
    | none => w
    | some d' => if some d' = w.head? then w else walkF rows rim m (w ++ [d']) d') = _
  rw [hn]
  simp only
  rw [if_neg]
  rw [h.hd]
  exact fun z => hne (Option.some.inj z)
theorem xor_twin {d : Int} (h : 0 ≤ d) : Builtin.bitXor d 1 = twin d := by
  rw [Bits.bitXor_pp h (by decide)]
  obtain ⟨n, rfl⟩ : ∃ n : Nat, d = n := ⟨d.toNat, by omega⟩
  rw [Int.toNat_natCast]
  show ((n ^^^ 1 : Nat) : Int) = twin n
  have e1 : (n ^^^ 1) % 2 = (n % 2) ^^^ 1 := Nat.xor_mod_two_pow (a := n) (b := 1) (n := 1)
  have e2 : (n ^^^ 1) / 2 = n / 2 := by
    have := Nat.xor_div_two_pow (a := n) (b := 1) (n := 1)
    rw [show 1 / 2 ^ 1 = 0 from rfl, Nat.xor_zero] at this
    exact this
  unfold twin
  rcases Nat.mod_two_eq_zero_or_one n with z | z
  · rw [z] at e1
    have e3 : (n ^^^ 1) % 2 = 1 := e1
    omega
  · rw [z] at e1
    have e3 : (n ^^^ 1) % 2 = 0 := e1
    omega
end Rz
namespace Rz
open PySem PySem.Spec PyProof.Rows L2
theorem sqt_updD {K : PySem.W.Frag} {H : Hp} {D a : Addr} {kvs : List (Key × V)} {xs : List V} {o : HO} (hD : H D = some (.dK kvs)) (h : SqT K H a xs) : SqT K (upd H D o) a xs := by
  rcases h with (h | ⟨u, h⟩) | h
  · exact .inl (.inl (by rw [upd_ne (ne_of h hD (fun z => nomatch z))]; exact h))
  · exact .inl (.inr ⟨u, by rw [upd_ne (ne_of h hD (fun z => nomatch z))]; exact h⟩)
  · exact .inr h
def spOther : Sp := fun vs H Q _ => ∃ d : Int, vs = [.int d] ∧ 0 ≤ d ∧ Q (.int (twin d)) H
/-- the turns of a net, as tuples -/
structure TurnsAt (K : PySem.W.Frag) (H : Hp) (t : Addr) (ts : List Addr) (rows : Rows) : Prop where
  top : SqT K H t (ts.map V.ref)
  len : ts.length = rows.length
  row : ∀ (i : Nat) r row, ts[i]? = some r → rows[i]? = some row → SqT K H r (row.map V.int)
theorem TurnsAt.same {K : PySem.W.Frag} {H H' : Hp} {t : Addr} {ts : List Addr} {rows : Rows} (h : TurnsAt K H t ts rows) (e : Same H H') : TurnsAt K H' t ts rows := ⟨Same.sqt e h.top, h.len, fun i r row a b => Same.sqt e (h.row i r row a b)⟩
theorem TurnsAt.get {K : PySem.W.Frag} {H : Hp} {t : Addr} {ts : List Addr} {rows : Rows} (h : TurnsAt K H t ts rows) {i : Nat} {x : V} (e : (ts.map V.ref)[i]? = some x) : ∃ r, x = .ref r ∧ rows[i]? = some (rows.getD i []) ∧ SqT K H r ((rows.getD i []).map V.int) := by
  rw [List.getElem?_map] at e
  cases hr : ts[i]? with
  | none =>
    rw [hr] at e
    cases e
  | some r =>
    rw [hr] at e
    cases e
    have hl : i < rows.length := by
      rw [← h.len]
      exact (List.getElem?_eq_some_iff.mp hr).1
    have hg := List.getElem?_eq_getElem hl
    rw [row_of hg]
    exact ⟨r, rfl, hg, h.row i r _ hr hg⟩
theorem NetAt.tns {K : PySem.W.Frag} {H : Hp} {p t m : Addr} {ts : List Addr} {as : List V} {rim : Nat} {rows : Rows} {qs : List Rat} (h : NetAt K H p t m ts as rim rows qs) : TurnsAt K H t ts rows := ⟨h.turns, h.len, h.row⟩
def spNextC (K : PySem.W.Frag) : Sp := fun vs H Q _ => ∃ (t : Addr) (ts : List Addr) (rows : Rows) (E : Nat), vs = [.ref t] ∧ TurnsAt K H t ts rows ∧ WF rows E ∧ E ≤ 100 ∧ rows.length ≤ 1000 ∧
  ∀ D kvs H', Same H H' → H D = none → H' D = some (.dK kvs) → Ahead kvs rows 0 (fun _ => True) → kvs.length ≤ 300000 → Q (.ref D) H'
def spLeft (K : PySem.W.Frag) : Sp := fun vs H Q _ => ∃ (v : V) (d : Int) (rim : Nat) (rows : Rows) (qs : List Rat) (E : Nat), vs = [v, .int d] ∧ NetV K H v rim rows qs ∧ WF rows E ∧ E ≤ 100 ∧ rows.length ≤ 1000 ∧ rim ≤ rows.length ∧ (0 ≤ d ∧ d < 2 * (E : Int)) ∧
  ∀ p H', Same H H' → SqT K H' p ((faceM rows rim d).map V.int) → Q (.ref p) H'
def spEnds (K : PySem.W.Frag) : Sp := fun vs H Q _ => ∃ (v : V) (rim : Nat) (rows : Rows) (qs : List Rat) (E : Nat), vs = [v] ∧ NetV K H v rim rows qs ∧ WF rows E ∧ qs.length = E ∧ E ≤ 100 ∧ rows.length ≤ 1000 ∧
  ∀ l (ps : List Addr) H', Same H H' → H l = none → H' l = some (.lst (ps.map V.ref)) → ps.length = E → (∀ (e : Nat) q, ps[e]? = some q → SqT K H' q [.int (((atM rows (2 * (e : Int))).1 : Int) + 1), .int (((atM rows (2 * (e : Int) + 1)).1 : Int) + 1)]) → Q (.ref l) H'
/-- a tuple's cut -/
theorem g_slA {K : PySem.W.Frag} {H : Hp} {a : Addr} {xs : List V} {n : Nat} {Q : VK} (h : SqT K H a xs) (hn : n ≤ xs.length) (q : ∀ p H', Same H H' → SqT K H' p (xs.take n) → Q (.ref p) H') : rSlA K (.ref a) none (some (n : Int)) H Q := by
  have e1 : HT.sIx xs.length 0 none = 0 := rfl
  have e2 : HT.sIx xs.length xs.length (some (n : Int)) = n := by
    rw [HT.sIx_nat]
    omega
  refine ⟨a, xs, rfl, h, fun z => ?_, fun z p hp => ?_⟩
  · rw [e2] at z
    refine q a H (Same.refl _) ?_
    rw [z.2, List.take_length]
    exact h
  · have e3 : cutV xs none (some (n : Int)) = xs.take n := by
      unfold cutV
      rw [e1, e2, List.drop_zero, Nat.sub_zero]
    rw [e3]
    exact q p _ (up_same hp) (SqT.of upd_same)
def Home (kvs : List (Key × V)) (rows : Rows) (P : Nat × Nat → Prop) : Prop := ∀ d ∈ rows.flatten, P (atM rows d) → valV kvs (.inl d) = some (.int (((atM rows d).1 : Int) + 1))
theorem Home.put {kvs : List (Key × V)} {rows : Rows} {k i : Nat} {row : List Int} {d : Int} (nd : rows.flatten.Nodup) (h1 : rows[k]? = some row) (h2 : row[i]? = some d) (h : Home kvs rows fun q => q.1 < k ∨ q.1 = k ∧ q.2 < i) :
    Home (putK kvs (.inl d) (.int ((k : Int) + 1))) rows fun q => q.1 < k ∨ q.1 = k ∧ q.2 < i + 1 := fun y hy hp => by
  rw [valV_put]
  by_cases e : y = d
  · subst e
    rw [if_pos rfl, at_of nd h1 h2]
  · rw [if_neg (fun z => e (Sum.inl.inj z))]
    refine h y hy ?_
    rcases hp with hp | ⟨hp1, hp2⟩
    · exact .inl hp
    · refine .inr ⟨hp1, ?_⟩
      rcases Nat.lt_or_eq_of_le (Nat.le_of_lt_succ hp2) with z | z
      · exact z
      · obtain ⟨row', a, b⟩ := at_spec hy
        rw [hp1, h1] at a
        cases a
        rw [z, h2] at b
        exact absurd (Option.some.inj b).symm e
theorem Home.row {kvs : List (Key × V)} {rows : Rows} {k : Nat} {row : List Int} (h1 : rows[k]? = some row) (h : Home kvs rows fun q => q.1 < k ∨ q.1 = k ∧ q.2 < row.length) : Home kvs rows fun q => q.1 < k + 1 := fun y hy hp => by
  refine h y hy ?_
  rcases Nat.lt_or_eq_of_le (Nat.le_of_lt_succ hp) with z | z
  · exact .inl z
  · obtain ⟨row', a, b⟩ := at_spec hy
    rw [z, h1] at a
    cases a
    exact .inr ⟨z, (List.getElem?_eq_some_iff.mp b).1⟩
/-- n refs laid one after another, the i-th told by its facts -/
theorem int_at {row : List Int} {j : Nat} {x : V} (h : (row.map V.int)[j]? = some x) : ∃ d, row[j]? = some d ∧ x = .int d := by
  rw [List.getElem?_map] at h
  cases hz : row[j]? with
  | none =>
    rw [hz] at h
    cases h
  | some d =>
    rw [hz] at h
    cases h
    exact ⟨d, rfl, rfl⟩
theorem at_snoc {α : Type} {ps : List α} {q x : α} {e : Nat} (h : (ps ++ [q])[e]? = some x) : (e < ps.length ∧ ps[e]? = some x) ∨ (e = ps.length ∧ x = q) := by
  by_cases he : e < ps.length
  · rw [List.getElem?_append_left he] at h
    exact .inl ⟨he, h⟩
  · rw [List.getElem?_append_right (by omega)] at h
    by_cases h0 : e - ps.length = 0
    · rw [h0] at h
      cases h
      exact .inr ⟨by omega, rfl⟩
    · obtain ⟨j, hj⟩ : ∃ j, e - ps.length = j + 1 := ⟨e - ps.length - 1, by omega⟩
      rw [hj] at h
      simp at h
end Rz
namespace Rz
open PySem PySem.Spec PyProof.Rows L2
theorem Eqv.ints {K : PySem.W.Frag} {H : Hp} {n : Nat} {p q : Addr} {ns : List Int} (h1 : SqT K H p (ns.map V.int)) (h2 : SqT K H q (ns.map V.int)) (hl : ns.length < 1000000) : Eqv K H (n + 2) (.ref p) (.ref q) :=
  .tup h1 h2 rfl (by rw [List.length_map]; exact hl) fun i x y e1 e2 => by
    rw [e1] at e2
    cases e2
    obtain ⟨d, _, rfl⟩ := int_at e1
    exact .sc rfl
/-- [list(turn) for turn in turns] -/
theorem rows_lc {K : PySem.W.Frag} {σ : L2.St} {H : Hp} {vs : List Nat} {i₀ : Nat} {Q : VK} {t : Addr} {ts : List Addr} {rows : Rows} (hN : TurnsAt K H t ts rows) (hb : rows.length ≤ 1000) (hw : ∀ x, wipe ((wipe σ vs).set i₀ (some x)) vs = wipe σ vs) (hi : ∀ x, ((wipe σ vs).set i₀ (some x))[i₀]? = some (some x))
    (q : ∀ T rs H', Same H H' → H T = none → RowsAt H' T rs rows → (∀ r ∈ rs, H r = none) → Q (.ref T) H') : rItT K (lcW (gName i₀) tYes (tCB (rListOf K) (tCons (tVar i₀) tNil)) vs σ Q) (.ref t) H := by
  refine g_lcTup hN.top (fun T i acc H' => Same H H' ∧ H' T = some (.lst acc) ∧ ∃ rs : List Addr, rs.length = i ∧ acc = rs.map V.ref ∧ rs.Nodup ∧ (∀ r ∈ rs, H r = none ∧ r ≠ T) ∧ ∀ (j : Nat) r row, rs[j]? = some r → rows[j]? = some row → H' r = some (.lst (row.map V.int))) hw
    (fun T hT => ⟨up_same hT, upd_same, [], rfl, rfl, List.nodup_nil, (fun r hr => nomatch hr), fun j r row a => by simp at a⟩) (fun T i acc H' _ h => Same.sqt h.1 hN.top) ?_ ?_
  · rintro T i x acc H1 hT hx ⟨sm, eT, rs, hl, rfl, hnd, hfr, hrow⟩
    obtain ⟨r, rfl, hri, hr1⟩ := (hN.same sm).get hx
    have hil := (List.getElem?_eq_some_iff.mp hri).1
    refine g_cb (g_cons (g_var (hi _) (g_nil (g_listT hr1 fun l hl0 => ?_))))
    have s1 := up_same (H := H1) (o := .lst ((rows.getD i []).map V.int)) hl0
    have hlT : l ≠ T := (ne_of_none eT hl0).symm
    have hlr : ∀ r ∈ rs, r ≠ l := fun r hr => by
      obtain ⟨j, hj⟩ := List.mem_iff_getElem?.mp hr
      have hj2 : j < rows.length := by
        have := (List.getElem?_eq_some_iff.mp hj).1
        omega
      exact ne_of_none (hrow j r _ hj (List.getElem?_eq_getElem hj2)) hl0
    refine lcN_of (s1 _ _ eT) (by rw [List.length_map]; omega) ⟨fun b o h => ?_, upd_same, rs ++ [l], ?_, ?_, ?_, fun r' hr' => ?_, fun j r' row a b => ?_⟩
    · rw [upd_ne (ne_of_none h hT)]
      exact s1 _ _ (sm _ _ h)
    · rw [List.length_append, hl]
      rfl
    · rw [List.map_append]
      rfl
    · rw [List.nodup_append]
      refine ⟨hnd, by simp, fun a ha b hb2 e => ?_⟩
      rw [List.mem_singleton.mp hb2] at e
      exact hlr a ha e
    · rcases List.mem_append.mp hr' with z | z
      · exact hfr r' z
      · rw [List.mem_singleton.mp z]
        exact ⟨sm.free hl0, hlT⟩
    · rcases at_snoc a with ⟨h1, h2⟩ | ⟨h1, rfl⟩
      · rw [upd_ne (hfr r' (List.mem_of_getElem? h2)).2]
        exact s1 _ _ (hrow j r' row h2 b)
      · rw [h1, hl, hri] at b
        cases b
        rw [upd_ne hlT]
        exact upd_same
  · rintro T acc H1 hT ⟨sm, eT, rs, hl, rfl, hnd, hfr, hrow⟩
    refine q T rs H1 sm hT ⟨eT, ?_, hrow, hnd⟩ fun r hr => (hfr r hr).1
    rw [hl, List.length_map, hN.len]
/-- a law's promise: at every list of at most 63 ints it ends and gives True -/
def spLaw (K : PySem.W.Frag) : Sp := fun vs H Q _ => ∃ (a : Addr) (ns : List Int), vs = [.ref a] ∧ SqL K H a (ns.map V.int) ∧ ns.length ≤ 63 ∧ ∀ H', Q (.bl true) H'
/-- a list of the pairs of the nodes of the edges -/
structure EndsL (K : PySem.W.Frag) (H : Hp) (l : Addr) (ps : List Addr) (rows : Rows) (n : Nat) : Prop where
  top : H l = some (.lst (ps.map V.ref))
  len : ps.length = n
  at_ : ∀ (e : Nat) q, ps[e]? = some q → SqT K H q [.int (((atM rows (2 * (e : Int))).1 : Int) + 1), .int (((atM rows (2 * (e : Int) + 1)).1 : Int) + 1)]
theorem EndsL.same {K : PySem.W.Frag} {H H' : Hp} {l : Addr} {ps : List Addr} {rows : Rows} {n : Nat} (h : EndsL K H l ps rows n) (e : Same H H') : EndsL K H' l ps rows n := ⟨e _ _ h.top, h.len, fun i q z => Same.sqt e (h.at_ i q z)⟩
theorem EndsL.eqv {K : PySem.W.Frag} {H : Hp} {l l' : Addr} {ps ps' : List Addr} {rows : Rows} {n k : Nat} (h : EndsL K H l ps rows n) (h' : EndsL K H l' ps' rows n) (hn : n < 1000000) : Eqv K H (k + 4) (.ref l) (.ref l') := by
  refine .lst (SqL.of h.top) (SqL.of h'.top) (by rw [List.length_map, List.length_map, h.len, h'.len]) (by rw [List.length_map, h'.len]; exact hn) fun i x y e1 e2 => ?_
  rw [List.getElem?_map] at e1 e2
  cases hp : ps[i]? with
  | none =>
    rw [hp] at e1
    cases e1
  | some q =>
    cases hp' : ps'[i]? with
    | none =>
      rw [hp'] at e2
      cases e2
    | some q' =>
      rw [hp] at e1
      rw [hp'] at e2
      cases e1
      cases e2
      exact Eqv.ints (ns := [((atM rows (2 * (i : Int))).1 : Int) + 1, ((atM rows (2 * (i : Int) + 1)).1 : Int) + 1]) (h.at_ i q hp) (h'.at_ i q' hp') (by show 2 < 1000000; decide)
end Rz

namespace Rz
open PySem PySem.Spec PyProof.Rows L2

/-! ### ratios compared -/
def ratD (q : Rat) : PyData := .tuple [.int q.num, .int (q.den : Int)]
theorem RatV.dp {K : PySem.W.Frag} {H : Hp} {v : V} {q : Rat} (h : RatV K H v q) : Dp K H v (ratD q) := by
  obtain ⟨p, rfl, h⟩ := h
  exact .tup h (.cons (.int _) (.cons (.int _) .nil))
theorem rat_ext {p q : Rat} : p = q ↔ p.num = q.num ∧ (p.den : Int) = (q.den : Int) := ⟨fun h => by rw [h]; exact ⟨rfl, rfl⟩, fun h => Rat.ext h.1 (Int.ofNat.inj h.2)⟩
theorem ratD_eqv (p q : Rat) : PyData.eqv (ratD p) (ratD q) = decide (p = q) := by
  have e : PyData.eqv (ratD p) (ratD q) = ((p.num == q.num) && (((p.den : Int) == (q.den : Int)) && true)) := rfl
  rw [e, Bool.and_true]
  by_cases h : p = q
  · rw [decide_eq_true h, h, beq_self_eq_true, beq_self_eq_true]
    rfl
  · rw [decide_eq_false h]
    by_cases h1 : p.num = q.num
    · have h2 : ¬ (p.den : Int) = (q.den : Int) := fun z => h (rat_ext.mpr ⟨h1, z⟩)
      rw [beq_eq_false_iff_ne.mpr h2, Bool.and_false]
    · rw [beq_eq_false_iff_ne.mpr h1, Bool.false_and]
theorem g_neRat {K : PySem.W.Frag} {H : Hp} {x y : V} {p q : Rat} {Q : VK} (h1 : RatV K H x p) (h2 : RatV K H y q) (k : Q (.bl (!decide (p = q))) H) : rNeD K x y H Q := ⟨_, _, h1.dp, h2.dp, by rfl, by rfl, by rw [ratD_eqv]; exact k⟩
theorem g_eqRat {K : PySem.W.Frag} {H : Hp} {x y : V} {p q : Rat} {Q : VK} (h1 : RatV K H x p) (h2 : RatV K H y q) (k : Q (.bl (decide (p = q))) H) : rEqD K x y H Q := ⟨_, _, h1.dp, h2.dp, by rfl, by rfl, by rw [ratD_eqv]; exact k⟩

/-! ### more walks in comprehensions -/
section
variable {K : PySem.W.Frag} {σ : L2.St} {H : Hp} {g : TG} {tt : TT} {te : TE} {vs : List Nat} {Q : VK} {ta : TA} {R : It → Hp → Prop} {D : Ends} {tb : TS}
def rEnL (K : PySem.W.Frag) (R : It → Hp → Prop) : List V → Hp → Prop := fun us H1 => ∃ a xs, us = [.ref a] ∧ SqL K H1 a xs ∧ R (Ite K a) H1
def rZipL (K : PySem.W.Frag) (R : It → Hp → Prop) : List V → Hp → Prop := fun us H1 => ∃ a b xs ys, us = [.ref a, .ref b] ∧ SqL K H1 a xs ∧ SqL K H1 b ys ∧ R (Itz K a b) H1
def iEnL (K : PySem.W.Frag) (ta : TA) : TI := fun σ H R => ta σ H (rEnL K R)
def iZipL (K : PySem.W.Frag) (ta : TA) : TI := fun σ H R => ta σ H (rZipL K R)
theorem pi_enumLK {X : Cx} {e : Expr} {p pos tpos : Pos} {elts : List Expr} {kk : Nat} (hKK : X.K = K) (hg : Gl X "enumerate") (hm : X.mg "enumerate" = none) (ha : PA X [e] ta) (hs : starEach [e] X.env = [(false, eval e X.env)] := by rfl) :
    PI X (.Tuple elts kk tpos) (.Call (.Name "enumerate" p) [e] [] pos) (iEnL K ta) := hKK ▸ pi_enum hg hm ha hs
theorem pi_zipK {X : Cx} {e e2 : Expr} {p pos tpos : Pos} {elts : List Expr} {kk : Nat} (hKK : X.K = K) (hg : Gl X "zip") (hm : X.mg "zip" = none) (ha : PA X [e, e2] ta)
    (hs : starEach [e, e2] X.env = (false, eval e X.env) :: starEach [e2] X.env := by rfl) (hpl : (backTo pos (starEach [e2] X.env)).any (·.1) = false := by rfl) : PI X (.Tuple elts kk tpos) (.Call (.Name "zip" p) [e, e2] [] pos) (iZipL K ta) := hKK ▸ pi_zip hg hm ha hs hpl
theorem g_lcE (h : ta σ H (rEnL K (lcW g tt te vs σ Q))) : tLc (iEnL K ta) g tt te vs σ H Q := h
theorem g_lcZ (h : ta σ H (rZipL K (lcW g tt te vs σ Q))) : tLc (iZipL K ta) g tt te vs σ H Q := h
theorem lc_en {a : Addr} {xs : List V} (h : SqL K H a xs) (Pv : Addr → Nat → List V → Hp → Prop) (h0 : ∀ p, H p = none → Pv p 0 [] (upd H p (.lst []))) (hl : ∀ p i acc H', H p = none → Pv p i acc H' → SqL K H' a xs)
    (hs : ∀ p i x T acc H', H p = none → xs[i]? = some x → Pv p i acc H' → H' T = none → g (.ref T) (wipe σ vs) (upd H' T (.tup [.int (i : Nat), x])) fun σ2 H2 => wipe σ2 vs = wipe σ vs ∧ te σ2 H2 (lcN (Pv p) p i))
    (hd : ∀ p acc H', H p = none → Pv p xs.length acc H' → Q (.ref p) H') : rEnL K (lcW g tYes te vs σ Q) [.ref a] H := by
  refine ⟨a, xs, rfl, h, fun p hp => ⟨fun i m H' => m = xs.length - i ∧ i ≤ xs.length ∧ ∃ acc, Pv p i acc H', ⟨_, rfl, Nat.zero_le _, [], h0 p hp⟩, fun i m H' hw => ?_⟩⟩
  obtain ⟨rfl, hi, acc, pv⟩ := hw
  have q := hl p i acc H' hp pv
  rcases Nat.lt_or_eq_of_le hi with hlt | heq
  · refine .inr ⟨⟨xs, xs[i], q, List.getElem?_eq_getElem hlt⟩, fun H2 => ∃ acc2, Pv p (i + 1) acc2 H2, fun H2 p2 => ⟨xs.length - (i + 1), by omega, rfl, hlt, p2⟩, fun v H2 y => ?_⟩
    obtain ⟨T, x, rfl, hT, rfl, y⟩ := y
    exact hs p i x T acc _ hp (y xs q) pv hT
  · subst heq
    exact .inl ⟨⟨xs, q, Nat.le_refl _⟩, hd p acc H' hp pv⟩
theorem lc_zip {a b : Addr} {xs ys : List V} (h : SqL K H a xs) (h2 : SqL K H b ys) (hlen : xs.length = ys.length) (Pv : Addr → Nat → List V → Hp → Prop) (h0 : ∀ p, H p = none → Pv p 0 [] (upd H p (.lst []))) (hl : ∀ p i acc H', H p = none → Pv p i acc H' → SqL K H' a xs ∧ SqL K H' b ys)
    (hs : ∀ p i x z T acc H', H p = none → xs[i]? = some x → ys[i]? = some z → Pv p i acc H' → H' T = none → g (.ref T) (wipe σ vs) (upd H' T (.tup [x, z])) fun σ2 H2 => wipe σ2 vs = wipe σ vs ∧ te σ2 H2 (lcN (Pv p) p i))
    (hd : ∀ p acc H', H p = none → Pv p xs.length acc H' → Q (.ref p) H') : rZipL K (lcW g tYes te vs σ Q) [.ref a, .ref b] H := by
  refine ⟨a, b, xs, ys, rfl, h, h2, fun p hp => ⟨fun i m H' => m = xs.length - i ∧ i ≤ xs.length ∧ ∃ acc, Pv p i acc H', ⟨_, rfl, Nat.zero_le _, [], h0 p hp⟩, fun i m H' hw => ?_⟩⟩
  obtain ⟨rfl, hi, acc, pv⟩ := hw
  have q := hl p i acc H' hp pv
  rcases Nat.lt_or_eq_of_le hi with hlt | heq
  · refine .inr ⟨⟨xs, ys, xs[i], ys[i], q.1, q.2, List.getElem?_eq_getElem hlt, List.getElem?_eq_getElem _⟩, fun H2 => ∃ acc2, Pv p (i + 1) acc2 H2, fun H2 p2 => ⟨xs.length - (i + 1), by omega, rfl, hlt, p2⟩, fun v H2 y => ?_⟩
    obtain ⟨T, x, z, rfl, hT, rfl, y1, y2⟩ := y
    exact hs p i x z T acc _ hp (y1 xs q.1) (y2 ys q.2) pv hT
  · subst heq
    exact .inl ⟨⟨xs, ys, q.1, q.2, .inl (Nat.le_refl _)⟩, hd p acc H' hp pv⟩
end

section
variable {σ : L2.St} {H : Hp} {g : TG} {ta : TA} {D : Ends} {tb : TS}
def rRng2 (R : It → Hp → Prop) : List V → Hp → Prop := fun vs H1 => ∃ i j : Int, vs = [.int i, .int j] ∧ (-(2 ^ 62) ≤ i ∧ i < 2 ^ 62 ∧ -(2 ^ 62) ≤ j ∧ j < 2 ^ 62) ∧ R (Itr i (j - i).toNat) H1
theorem g_forR2 (h : ta σ H (rRng2 (forW g tb D σ))) : tFor (iRng2 ta) g tb D σ H := h
theorem g_rng2 {i j : Int} (a n : Nat) (ei : i = (a : Int)) (ej : j = (n : Int)) (hb : n < 1000000) (han : a ≤ n) (Pv : Nat → L2.St → Hp → Prop) (h0 : Pv a σ H)
    (hs : ∀ (k : Nat) σ H, a ≤ k → k < n → Pv k σ H → g (.int (k : Int)) σ H fun σ2 H2 => tb { D with nx := Pv (k + 1), ct := Pv (k + 1), bk := D.nx } σ2 H2) (hd : ∀ σ H, Pv n σ H → D.nx σ H) : rRng2 (forW g tb D σ) [.int i, .int j] H := by
  subst ei ej
  refine ⟨_, _, rfl, ⟨by omega, by omega, by omega, by omega⟩, ?_⟩
  rw [show ((n : Int) - (a : Int)).toNat = n - a by omega]
  refine for_range (lo := (a : Int)) (n := n - a) (fun k => Pv (a + k)) h0 (fun k σ H hk p => ?_) fun σ H p => hd σ H ?_
  · have := hs (a + k) σ H (by omega) (by omega) p
    rw [show (a : Int) + (k : Int) = ((a + k : Nat) : Int) by omega]
    exact this
  · rw [show n = a + (n - a) by omega]
    exact p
end
/-! ### rows and matrices in the heap -/
def RowV (K : PySem.W.Frag) (H : Hp) (v : V) (row : Row) : Prop := ∃ p xs, v = .ref p ∧ SqL K H p xs ∧ Rats K H xs row
theorem RowV.same {K : PySem.W.Frag} {H H' : Hp} {v : V} {row : Row} (h : RowV K H v row) (e : Same H H') : RowV K H' v row := let ⟨p, xs, a, b, c⟩ := h; ⟨p, xs, a, e.seq b, c.same e⟩
structure MatL (K : PySem.W.Frag) (H : Hp) (us : List V) (m : Mat) : Prop where
  len : us.length = m.length
  at_ : ∀ (i : Nat) v, us[i]? = some v → RowV K H v (rw' m i)
theorem MatL.same {K : PySem.W.Frag} {H H' : Hp} {us : List V} {m : Mat} (h : MatL K H us m) (e : Same H H') : MatL K H' us m := ⟨h.len, fun i v z => (h.at_ i v z).same e⟩
def MatV (K : PySem.W.Frag) (H : Hp) (v : V) (m : Mat) : Prop := ∃ p us, v = .ref p ∧ SqL K H p us ∧ MatL K H us m
theorem MatV.same {K : PySem.W.Frag} {H H' : Hp} {v : V} {m : Mat} (h : MatV K H v m) (e : Same H H') : MatV K H' v m := let ⟨p, us, a, b, c⟩ := h; ⟨p, us, a, e.seq b, c.same e⟩
theorem Rats.ent {K : PySem.W.Frag} {H : Hp} {xs : List V} {row : Row} (h : Rats K H xs row) {j : Nat} (hj : j < row.length) : ∃ x, xs[j]? = some x ∧ RatV K H x (Rz.ent row j) := by
  have hx : j < xs.length := by rw [h.len]; exact hj
  refine ⟨xs[j], List.getElem?_eq_getElem hx, ?_⟩
  have := h.at_ j _ _ (List.getElem?_eq_getElem hx) (List.getElem?_eq_getElem hj)
  unfold Rz.ent
  rw [List.getD_eq_getElem?_getD, List.getElem?_eq_getElem hj, Option.getD_some]
  exact this
theorem MatL.row {K : PySem.W.Frag} {H : Hp} {us : List V} {m : Mat} (h : MatL K H us m) {i : Nat} (hi : i < m.length) : ∃ p xs, us[i]? = some (.ref p) ∧ SqL K H p xs ∧ Rats K H xs (rw' m i) := by
  have hx : i < us.length := by rw [h.len]; exact hi
  obtain ⟨p, xs, e, b, c⟩ := h.at_ i _ (List.getElem?_eq_getElem hx)
  exact ⟨p, xs, by rw [List.getElem?_eq_getElem hx, e], b, c⟩
theorem MatL.of {K : PySem.W.Frag} {H : Hp} {us : List V} {m : Mat} (hl : us.length = m.length) (h : ∀ i, i < m.length → ∃ v, us[i]? = some v ∧ RowV K H v (rw' m i)) : MatL K H us m := ⟨hl, fun i v z => by
  have hi : i < m.length := by
    rw [← hl]
    exact (List.getElem?_eq_some_iff.mp z).1
  obtain ⟨w, a, b⟩ := h i hi
  rw [z] at a
  cases a
  exact b⟩
theorem MatL.swp {K : PySem.W.Frag} {H : Hp} {us : List V} {m : Mat} {i k : Nat} {x y : V} (h : MatL K H us m) (hi : i < m.length) (hk : k < m.length) (hx : us[k]? = some x) (hy : us[i]? = some y) : MatL K H ((us.set i x).set k y) (Rz.swp m i k) := by
  refine ⟨by rw [List.length_set, List.length_set, swp_len, h.len], fun j v z => ?_⟩
  rw [rw_swp hi hk]
  by_cases e1 : j = k
  · subst e1
    rw [if_pos rfl]
    rw [List.getElem?_set_self (by rw [List.length_set, h.len]; exact hk)] at z
    cases z
    exact h.at_ i _ hy
  · rw [if_neg e1]
    rw [List.getElem?_set_ne (Ne.symm e1)] at z
    by_cases e2 : j = i
    · subst e2
      rw [if_pos rfl]
      rw [List.getElem?_set_self (by rw [h.len]; exact hi)] at z
      cases z
      exact h.at_ k _ hx
    · rw [if_neg e2]
      rw [List.getElem?_set_ne (Ne.symm e2)] at z
      exact h.at_ j v z
theorem Small.swp {n nc L B k a f : Nat} {O : Mat} (h : Small n nc L B k O) (hl : O.length = n) (ha : a < n) (hf : f < n) : Small n nc L B k (Rz.swp O a f) := ⟨fun i j hi hj => by
  rw [rw_swp (by omega) (by omega)]
  split
  · exact h.sc a j ha hj
  · split
    · exact h.sc f j hf hj
    · exact h.sc i j hi hj, h.L0, h.B0, h.hL, h.hB⟩

/-! ### matrices made row by row -/
section
variable {K : PySem.W.Frag} {σ : L2.St} {H : Hp} {g : TG} {te : TE} {vs : List Nat} {Q : VK}
/-- a row that stands, whatever is written at p -/
def RowP (K : PySem.W.Frag) (H : Hp) (p : Addr) (v : V) (row : Row) : Prop := ∃ q xs, v = .ref q ∧ SqL K H q xs ∧ Rats K H xs row ∧ (q ≠ p ∨ ∀ H', SqL K H' q xs)
theorem RowP.v {p : Addr} {v : V} {row : Row} (h : RowP K H p v row) : RowV K H v row := let ⟨q, xs, a, b, c, _⟩ := h; ⟨q, xs, a, b, c⟩
theorem RowP.same {H' : Hp} {p : Addr} {v : V} {row : Row} (h : RowP K H p v row) (e : Same H H') : RowP K H' p v row := let ⟨q, xs, a, b, c, d⟩ := h; ⟨q, xs, a, e.seq b, c.same e, d⟩
theorem RowP.upd {p : Addr} {v : V} {row : Row} {acc : List V} {o : HO} (h : RowP K H p v row) (e : H p = some (.lst acc)) : RowP K (upd H p o) p v row := by
  obtain ⟨q, xs, rfl, a, b, d⟩ := h
  refine ⟨q, xs, rfl, ?_, b.kp Kp.upd e, d⟩
  rcases d with hq | d
  · rcases a with (a | ⟨u, a⟩) | a
    · exact .inl (.inl (by rw [upd_ne hq]; exact a))
    · exact .inl (.inr ⟨u, by rw [upd_ne hq]; exact a⟩)
    · exact .inr a
  · exact d _
theorem RowV.base {p : Addr} {v : V} {row : Row} (h : RowV K H v row) (hp : H p = none) : RowP K H p v row := by
  obtain ⟨q, xs, rfl, a, b⟩ := h
  refine ⟨q, xs, rfl, a, b, ?_⟩
  rcases a with (a | ⟨u, a⟩) | a
  · exact .inl (ne_of_none a hp)
  · exact .inl (ne_of_none a hp)
  · exact .inr fun _ => .inr a
/-- a row there was at H, or one laid behind H' -/
def Made (K : PySem.W.Frag) (H H' : Hp) (w : V) (row : Row) : Prop := RowV K H w row ∨ ∃ q, w = .ref q ∧ H' q = none
theorem Made.p {H' H3 : Hp} {p : Addr} {w : V} {row : Row} {acc : List V} (h : Made K H H' w row) (hp : H p = none) (ep : H' p = some (.lst acc)) (hs : Same H H3) (hr : RowV K H3 w row) : RowP K H3 p w row := by
  rcases h with h | ⟨q, rfl, hq⟩
  · exact (h.base hp).same hs
  · obtain ⟨q2, xs, e, a, b⟩ := hr
    cases e
    exact ⟨q, xs, rfl, a, b, .inl (ne_of_none ep hq).symm⟩
/-- the list that is being filled: i rows of m so far -/
def FillM (K : PySem.W.Frag) (H : Hp) (m : Mat) (p : Addr) (i : Nat) (acc : List V) (H' : Hp) : Prop := Same H H' ∧ H' p = some (.lst acc) ∧ acc.length = i ∧ ∀ (j : Nat) v, acc[j]? = some v → RowP K H' p v (rw' m j)
theorem FillM.start {m : Mat} {p : Addr} (hp : H p = none) : FillM K H m p 0 [] (upd H p (.lst [])) := ⟨up_same hp, upd_same, rfl, fun j v h => by simp at h⟩
theorem FillM.next {m : Mat} {p : Addr} {i : Nat} {acc : List V} {H' H3 : Hp} {w : V} (h : FillM K H m p i acc H') (hp : H p = none) (hs : Same H' H3) (hi : i ≤ 1000000) (hw : RowV K H3 w (rw' m i)) (hm : Made K H H' w (rw' m i)) : lcN (FillM K H m p) p i w H3 := by
  obtain ⟨sm, ep, hl, ha⟩ := h
  have ep3 := hs _ _ ep
  refine lcN_of ep3 (by omega) ⟨fun b o e => ?_, upd_same, by rw [List.length_append, hl]; rfl, fun j v z => ?_⟩
  · rw [upd_ne (ne_of_none e hp)]
    exact hs _ _ (sm _ _ e)
  · rcases at_snoc z with ⟨_, z2⟩ | ⟨z1, rfl⟩
    · exact ((ha j v z2).same hs).upd ep3
    · rw [z1, hl]
      exact (hm.p hp ep (sm.trans hs) hw).upd ep3
theorem FillM.done {m : Mat} {p : Addr} {acc : List V} {H' : Hp} (h : FillM K H m p m.length acc H') : H' p = some (.lst acc) ∧ MatL K H' acc m := ⟨h.2.1, h.2.2.1, fun j v z => (h.2.2.2 j v z).v⟩
theorem copy_rows {i₀ : Nat} {p : Addr} {us : List V} {m : Mat} (hp : SqL K H p us) (hM : MatL K H us m) (hb : m.length ≤ 1000) (hw : ∀ x, wipe ((wipe σ vs).set i₀ (some x)) vs = wipe σ vs) (hi : ∀ x, ((wipe σ vs).set i₀ (some x))[i₀]? = some (some x))
    (k : ∀ l us' H', Same H H' → H l = none → H' l = some (.lst us') → MatL K H' us' m → Q (.ref l) H') : rItL K (lcW (gName i₀) tYes (tCB (rListOf K) (tCons (tVar i₀) tNil)) vs σ Q) (.ref p) H := by
  refine g_lcLst hp (FillM K H m) hw (fun l hl => .start hl) (fun l i acc H' _ h => h.1.seq hp) ?_ ?_
  · intro l i x acc H' hl hx h
    have hil := (List.getElem?_eq_some_iff.mp hx).1
    obtain ⟨q, xs, rfl, a, b⟩ := (hM.at_ i x hx).same h.1
    refine g_cb (g_cons (g_var (hi _) (g_nil (g_listL a fun l2 hl2 => ?_))))
    exact h.next hl (up_same hl2) (by have := hM.len; omega) ⟨l2, xs, rfl, SqL.of upd_same, b.same (up_same hl2)⟩ (.inr ⟨l2, rfl, hl2⟩)
  · intro l acc H' hl h
    rw [hM.len] at h
    obtain ⟨a, b⟩ := h.done
    exact k l acc H' h.1 hl a b
theorem en_rows {p : Addr} {us : List V} {m m' : Mat} (hp : SqL K H p us) (hM : MatL K H us m) (hl : m'.length = m.length) (hb : m.length ≤ 1000)
    (hs : ∀ i v T H' (Qk : VK), Same H H' → us[i]? = some v → i < m.length → H' T = none → (∀ w H3, Same H' H3 → RowV K H3 w (rw' m' i) → Made K H H' w (rw' m' i) → Qk w H3) → g (.ref T) (wipe σ vs) (upd H' T (.tup [.int (i : Nat), v])) fun σ2 H2 => wipe σ2 vs = wipe σ vs ∧ te σ2 H2 Qk)
    (k : ∀ l us' H', Same H H' → H' l = some (.lst us') → MatL K H' us' m' → Q (.ref l) H') : rEnL K (lcW g tYes te vs σ Q) [.ref p] H := by
  refine lc_en hp (FillM K H m') (fun l hl => .start hl) (fun l i acc H' _ h => h.1.seq hp) ?_ ?_
  · intro l i x T acc H' hl0 hx h hT
    have hil := (List.getElem?_eq_some_iff.mp hx).1
    have hil2 : i < m.length := by
      rw [← hM.len]
      exact hil
    exact hs i x T H' _ h.1 hx hil2 hT fun w H3 sm hw hm => h.next hl0 sm (by omega) hw hm
  · intro l acc H' hl0 h
    rw [hM.len, ← hl] at h
    obtain ⟨a, b⟩ := h.done
    exact k l acc H' h.1 a b
theorem clrG_same {W : Mat} {a t : Nat} (h : t ≤ a) (ht : t < W.length) : rw' (clrG W a) t = rw' W t := by
  unfold clrG
  rw [rw_mkM ht, if_neg (by omega)]
end
theorem swp_self {m : Mat} {i : Nat} (h : i < m.length) : swp m i i = m := by
  unfold swp
  rw [set_self h, set_self h]
theorem atI_end {xs : List V} {v : V} (h : xs[xs.length - 1]? = some v) : atI xs (-1) = some v := by
  have hl := (List.getElem?_eq_some_iff.mp h).1
  have e : ixN xs.length (-1) = some (xs.length - 1) := by
    unfold ixN
    rw [if_neg (by decide)]
    rw [if_pos (by omega)]
    exact congrArg some (by omega)
  unfold atI
  rw [e]
  exact h
theorem pa_starK {X : Cx} {K : PySem.W.Frag} {e : Expr} {es : List Expr} {p : Pos} {te : TE} {t : TA} (hK : X.K = K) (he : PE X e te) (hr : PA X es t) : PA X (.Starred e p :: es) (StX.tStar K te t) := hK ▸ StX.pa_star he hr
theorem g_starL {K : PySem.W.Frag} {σ : L2.St} {H : Hp} {te : TE} {t : TA} {Q : List V → Hp → Prop} (h : te σ H fun x H1 => ∃ p xs, x = V.ref p ∧ (SqT K H1 p xs ∨ SqL K H1 p xs) ∧ t σ H1 fun ys H2 => Q (xs ++ ys) H2) : StX.tStar K te t σ H Q := h
def aug (m : Mat) (c : Row) : Mat := List.zipWith (fun r q => r ++ [q]) m c
theorem aug_len {m : Mat} {c : Row} (h : c.length = m.length) : (aug m c).length = m.length := by
  unfold aug
  rw [List.length_zipWith, h, Nat.min_self]
theorem rw_aug {m : Mat} {c : Row} {i : Nat} (h : c.length = m.length) (hi : i < m.length) : rw' (aug m c) i = rw' m i ++ [ent c i] := by
  unfold aug rw' ent
  rw [List.getD_eq_getElem?_getD, List.getElem?_zipWith, List.getElem?_eq_getElem hi, List.getElem?_eq_getElem (by omega)]
  rw [List.getD_eq_getElem?_getD, List.getElem?_eq_getElem hi, List.getD_eq_getElem?_getD, List.getElem?_eq_getElem (by omega)]
  rfl
theorem ent_snoc_lt {r : Row} {q : Rat} {j : Nat} (h : j < r.length) : ent (r ++ [q]) j = ent r j := by
  unfold ent
  rw [List.getD_eq_getElem?_getD, List.getElem?_append_left h, ← List.getD_eq_getElem?_getD]
theorem ent_snoc_eq {r : Row} {q : Rat} {j : Nat} (h : j = r.length) : ent (r ++ [q]) j = q := by
  unfold ent
  rw [List.getD_eq_getElem?_getD, List.getElem?_append_right (by omega), h, Nat.sub_self]
  rfl
theorem clrJ_same {W : Mat} {a : Nat} (ht : a < W.length) : rw' (clrJ W a) a = rw' W a := by
  unfold clrJ
  rw [rw_mkM ht, if_pos rfl]
/-! ### what the defs tell -/
def spPivot (K : PySem.W.Frag) : Sp := fun vs H Q _ => ∃ (v : V) (W : Mat) (a : Nat), vs = [v, .int (a : Int)] ∧ MatV K H v W ∧ a < W.length ∧ W.length ≤ 1000 ∧ (∀ k, k < W.length → a < (rw' W k).length) ∧
  (∀ f, a ≤ f → f < W.length → ent (rw' W f) a ≠ 0 → Q (.int (f : Int)) H) ∧ ((∀ k, a ≤ k → k < W.length → ent (rw' W k) a = 0) → Q .non H)
def spSwapped (K : PySem.W.Frag) : Sp := fun vs H Q _ => ∃ (v : V) (W : Mat) (i k : Nat), vs = [v, .int (i : Int), .int (k : Int)] ∧ MatV K H v W ∧ i < W.length ∧ k < W.length ∧ W.length ≤ 1000 ∧ ∀ v' H', Same H H' → MatV K H' v' (swp W i k) → Q v' H'
def spCleared (K : PySem.W.Frag) : Sp := fun vs H Q _ => ∃ (v u : V) (r p : Row) (a b : Nat), vs = [v, u, .int (a : Int)] ∧ RowV K H v r ∧ RowV K H u p ∧ p.length = r.length ∧ a < r.length ∧ r.length ≤ 1000 ∧ ent p a ≠ 0 ∧ 4 * b ≤ 8000 ∧ (∀ j, j < r.length → Bd b (ent r j) ∧ Bd b (ent p j)) ∧
  ∀ v' H', Same H H' → RowV K H' v' (clr r p a) → (v' = v ∧ clr r p a = r) ∨ (∃ q, v' = .ref q ∧ H q = none) → Q v' H'
def spDet (K : PySem.W.Frag) : Sp := fun vs H Q _ => ∃ (v : V) (m : Mat) (n L B k : Nat), vs = [v] ∧ MatV K H v m ∧ m.length = n ∧ n ≤ 100 ∧ Wide n m ∧ Small n n L B k m ∧ k ≤ 400 ∧ ∀ v' H', Same H H' → RatV K H' v' (det n m) → Q v' H'
def spSolved (K : PySem.W.Frag) : Sp := fun vs H Q _ => ∃ (v u : V) (m : Mat) (xs : List V) (c : Row) (n L B k : Nat) (p : Addr), vs = [v, u] ∧ MatV K H v m ∧ m.length = n ∧ n ≤ 100 ∧ Wide n m ∧ u = .ref p ∧ SqL K H p xs ∧ Rats K H xs c ∧ c.length = n ∧ Small n (n + 1) L B k (aug m c) ∧ k ≤ 400 ∧ det n m ≠ 0 ∧
  ∀ l ys x H', Same H H' → H' l = some (.lst ys) → Rats K H' ys x → x.length = n → (∀ j, j < n → Bd (8 * k) (ent x j)) → (∀ i, i < n → sumN n (fun j => ent (rw' m i) j * ent x j) = ent c i) → Q (.ref l) H'
end Rz

namespace Rz

/-! ### the sum over all orders of the columns -/
def insN (a k : Nat) (o : List Nat) : List Nat := o.take a ++ [k] ++ o.drop a
def sgnI (k : Nat) : Int := if k % 2 = 0 then 1 else -1
def ordM : Nat → List (List Nat × Int)
  | 0 => [([], 1)]
  | k + 1 => (ordM k).flatMap fun p => (List.range (k + 1)).map fun a => (insN a k p.1, if (k - a) % 2 = 0 then p.2 else -p.2)
def sumL (l : List Rat) : Rat := l.foldl (fun a b => a + b) 0
theorem foldl_add (l : List Rat) (a : Rat) : l.foldl (fun a b => a + b) a = a + sumL l := by
  unfold sumL
  induction l generalizing a with
  | nil => simp only [List.foldl_nil]; grind
  | cons x l ih =>
    rw [List.foldl_cons, List.foldl_cons, ih, ih (0 + x)]
    grind
theorem sumL_cons {x : Rat} {l : List Rat} : sumL (x :: l) = x + sumL l := by
  show (x :: l).foldl _ 0 = _
  rw [List.foldl_cons, foldl_add]
  grind
theorem sumL_nil : sumL [] = 0 := rfl
theorem sumL_append {l k : List Rat} : sumL (l ++ k) = sumL l + sumL k := by
  induction l with
  | nil => rw [List.nil_append, sumL_nil]; grind
  | cons x l ih => rw [List.cons_append, sumL_cons, sumL_cons, ih]; grind
theorem sumL_snoc {l : List Rat} {x : Rat} : sumL (l ++ [x]) = sumL l + x := by rw [sumL_append, sumL_cons, sumL_nil]; grind
theorem sumL_flat {α β : Type} {l : List α} {f : α → List β} {g : β → Rat} : sumL ((l.flatMap f).map g) = sumL (l.map fun p => sumL ((f p).map g)) := by
  induction l with
  | nil => rfl
  | cons x l ih => rw [List.flatMap_cons, List.map_append, sumL_append, List.map_cons, sumL_cons, ih]
theorem sumL_range {n : Nat} {f : Nat → Rat} : sumL ((List.range n).map f) = sumN n f := by
  induction n with
  | zero => rfl
  | succ n ih => rw [List.range_succ, List.map_append, List.map_cons, List.map_nil, sumL_snoc, ih]; rfl
theorem sumL_sumN {α : Type} {l : List α} {n : Nat} {f : α → Nat → Rat} : sumL (l.map fun p => sumN n (f p)) = sumN n fun i => sumL (l.map fun p => f p i) := by
  induction l with
  | nil => exact (sumN_zero fun i _ => rfl).symm
  | cons x l ih =>
    rw [List.map_cons, sumL_cons, ih]
    have : sumN n (fun i => sumL ((x :: l).map fun p => f p i)) = sumN n fun i => f x i + 1 * sumL (l.map fun p => f p i) := sumN_congr fun i _ => by
      rw [List.map_cons, sumL_cons]
      grind
    rw [this, sumN_add]
    grind
theorem sumL_mul {α : Type} {l : List α} {f : α → Rat} {c : Rat} : sumL (l.map fun p => c * f p) = c * sumL (l.map f) := by
  induction l with
  | nil => rw [List.map_nil, List.map_nil, sumL_nil]; grind
  | cons x l ih => rw [List.map_cons, List.map_cons, sumL_cons, sumL_cons, ih]; grind
theorem prodN_pull {n a : Nat} {f : Nat → Rat} (h : a ≤ n) : prodN (n + 1) f = f a * prodN n fun i => if i < a then f i else f (i + 1) := by
  induction n with
  | zero =>
    have : a = 0 := by omega
    subst this
    simp only [prodN]
    grind
  | succ n ih =>
    by_cases e : a = n + 1
    · subst e
      have := prodN_congr (n := n + 1) (f := fun i => if i < n + 1 then f i else f (i + 1)) (g := f) fun i hi => if_pos hi
      rw [this]
      simp only [prodN]
      grind
    · have e1 := ih (by omega)
      rw [show prodN (n + 1 + 1) f = prodN (n + 1) f * f (n + 1) from rfl, e1]
      rw [show (prodN (n + 1) fun i => if i < a then f i else f (i + 1)) = (prodN n fun i => if i < a then f i else f (i + 1)) * f (n + 1) by
        simp only [prodN]
        rw [if_neg (by omega)]]
      grind
def termM (m : Mat) (n : Nat) (p : List Nat × Int) : Rat := (p.2 : Rat) * prodN n fun i => ent (rw' m i) (p.1.getD i 0)
theorem insN_len {a k : Nat} {o : List Nat} : (insN a k o).length = o.length + 1 := by
  unfold insN
  rw [List.length_append, List.length_append, List.length_take, List.length_drop, List.length_singleton]
  omega
theorem insN_at {a k : Nat} {o : List Nat} (h : a ≤ o.length) {i : Nat} : (insN a k o).getD i 0 = if i < a then o.getD i 0 else if i = a then k else o.getD (i - 1) 0 := by
  unfold insN
  have hl : (o.take a).length = a := by rw [List.length_take]; omega
  rw [List.getD_eq_getElem?_getD]
  by_cases h1 : i < a
  · rw [if_pos h1, List.append_assoc, List.getElem?_append_left (by omega), List.getElem?_take, if_pos h1, ← List.getD_eq_getElem?_getD]
  · rw [if_neg h1]
    by_cases h2 : i = a
    · rw [if_pos h2, List.append_assoc, List.getElem?_append_right (by omega), hl, h2, Nat.sub_self]
      rfl
    · rw [if_neg h2, List.getElem?_append_right (by rw [List.length_append, hl]; show a + 1 ≤ i; omega), List.length_append, hl, List.getElem?_drop, List.length_singleton, show a + (i - (a + 1)) = i - 1 by omega, ← List.getD_eq_getElem?_getD]
theorem ordM_len : ∀ {n : Nat} {p : List Nat × Int}, p ∈ ordM n → p.1.length = n
  | 0, p, h => by
    rw [List.mem_singleton.mp h]
    rfl
  | n + 1, p, h => by
    obtain ⟨q, hq, hp⟩ := List.mem_flatMap.mp h
    obtain ⟨a, _, rfl⟩ := List.mem_map.mp hp
    show (insN a n q.1).length = n + 1
    rw [insN_len, ordM_len hq]
theorem ordM_lt : ∀ {n : Nat} {p : List Nat × Int}, p ∈ ordM n → ∀ x ∈ p.1, x < n
  | 0, p, h => by
    rw [List.mem_singleton.mp h]
    intro x hx
    cases hx
  | n + 1, p, h => by
    obtain ⟨q, hq, hp⟩ := List.mem_flatMap.mp h
    obtain ⟨a, _, rfl⟩ := List.mem_map.mp hp
    intro x hx
    have hx : x ∈ q.1.take a ++ [n] ++ q.1.drop a := hx
    rcases List.mem_append.mp hx with hx | hx
    · rcases List.mem_append.mp hx with hx | hx
      · have := ordM_lt hq x (List.mem_of_mem_take hx)
        omega
      · rw [List.mem_singleton.mp hx]
        omega
    · have := ordM_lt hq x (List.mem_of_mem_drop hx)
      omega
theorem ordM_sgn : ∀ {n : Nat} {p : List Nat × Int}, p ∈ ordM n → p.2 = 1 ∨ p.2 = -1
  | 0, p, h => by
    rw [List.mem_singleton.mp h]
    exact .inl rfl
  | n + 1, p, h => by
    obtain ⟨q, hq, hp⟩ := List.mem_flatMap.mp h
    obtain ⟨a, _, rfl⟩ := List.mem_map.mp hp
    have := ordM_sgn hq
    show (if (n - a) % 2 = 0 then q.2 else -q.2) = 1 ∨ (if (n - a) % 2 = 0 then q.2 else -q.2) = -1
    split <;> omega
theorem ordM_count : ∀ n : Nat, (ordM n).length = fct n
  | 0 => rfl
  | n + 1 => by
    have : ∀ l : List (List Nat × Int), (l.flatMap fun p => (List.range (n + 1)).map fun a => (insN a n p.1, if (n - a) % 2 = 0 then p.2 else -p.2)).length = (n + 1) * l.length := fun l => by
      induction l with
      | nil => rfl
      | cons x l ih =>
        rw [List.flatMap_cons, List.length_append, ih, List.length_map, List.length_range, List.length_cons, Nat.mul_succ]
        omega
    show (List.flatMap _ (ordM n)).length = (n + 1) * fct n
    rw [this, ordM_count n]
theorem leibniz : ∀ {n : Nat} {m : Mat}, m.length = n → sumL ((ordM n).map (termM m n)) = det n m
  | 0, m, h => by
    show sumL [termM m 0 ([], 1)] = 1
    rw [sumL_cons, sumL_nil]
    unfold termM
    simp only [prodN]
    show ((1 : Int) : Rat) * 1 + 0 = 1
    rw [show ((1 : Int) : Rat) = 1 from rfl]
    grind
  | n + 1, m, h => by
    show sumL (((ordM n).flatMap fun p => (List.range (n + 1)).map fun a => (insN a n p.1, if (n - a) % 2 = 0 then p.2 else -p.2)).map (termM m (n + 1))) = _
    rw [sumL_flat]
    have key : (ordM n).map (fun p => sumL (((List.range (n + 1)).map fun a => (insN a n p.1, if (n - a) % 2 = 0 then p.2 else -p.2)).map (termM m (n + 1)))) =
        (ordM n).map fun p => sumN (n + 1) fun a => (sgn (n - a) * ent (rw' m a) n) * termM (m.eraseIdx a) n p := by
      refine List.map_congr_left fun p hp => ?_
      have hpl := ordM_len hp
      rw [List.map_map, sumL_range]
      refine sumN_congr fun a ha => ?_
      show ((if (n - a) % 2 = 0 then p.2 else -p.2 : Int) : Rat) * (prodN (n + 1) fun i => ent (rw' m i) ((insN a n p.1).getD i 0)) = _
      rw [prodN_pull (a := a) (by omega), insN_at (show a ≤ p.1.length by omega), if_neg (Nat.lt_irrefl a), if_pos rfl]
      have e2 : (prodN n fun i => if i < a then ent (rw' m i) ((insN a n p.1).getD i 0) else ent (rw' m (i + 1)) ((insN a n p.1).getD (i + 1) 0)) = prodN n fun i => ent (rw' (m.eraseIdx a) i) (p.1.getD i 0) := prodN_congr fun i hi => by
        by_cases z : i < a
        · rw [if_pos z, rw_erase_lt z, insN_at (by omega), if_pos z]
        · rw [if_neg z, rw_erase_ge (by omega), insN_at (by omega), if_neg (by omega), if_neg (by omega), Nat.add_sub_cancel]
      rw [e2]
      unfold termM sgn
      split
      · grind
      · rw [Rat.intCast_neg]
        grind
    rw [key, sumL_sumN]
    show _ = sumN (n + 1) fun i => sgn (n - i) * ent (rw' m i) n * det n (m.eraseIdx i)
    refine sumN_congr fun a ha => ?_
    rw [sumL_mul, leibniz (by rw [List.length_eraseIdx, if_pos (by omega)]; omega)]
/-- the sizes of what is summed -/
theorem prodN_sc {L B : Nat} : ∀ {n : Nat} {f : Nat → Rat}, (∀ i, i < n → Sc L B (f i)) → Sc (L ^ n) (B ^ n) (prodN n f)
  | 0, f, _ => Sc.one (by simp)
  | n + 1, f, h => by
    rw [Nat.pow_succ, Nat.pow_succ]
    exact (prodN_sc fun i hi => h i (by omega)).mul (h n (by omega))
theorem sumL_sc {L B : Nat} : ∀ {l : List Rat}, (∀ x ∈ l, Sc L B x) → Sc L (l.length * B) (sumL l)
  | [], _ => Sc.zero
  | x :: l, h => by
    rw [sumL_cons, List.length_cons, Nat.succ_mul, Nat.add_comm]
    exact (h x List.mem_cons_self).add (sumL_sc fun y hy => h y (List.mem_cons_of_mem _ hy))
end Rz
namespace Rz
open PySem PySem.Spec PyProof.Rows L2
/-- an order and its sign, laid apart from p -/
def OrdAt (K : PySem.W.Frag) (H : Hp) (p : Addr) (v : V) (q : List Nat × Int) : Prop := ∃ a b, v = .ref a ∧ H a = some (.lst [.ref b, .int q.2]) ∧ H b = some (.lst (q.1.map fun x : Nat => V.int (x : Int))) ∧ a ≠ p ∧ b ≠ p
structure OrdL (K : PySem.W.Frag) (H : Hp) (p : Addr) (us : List V) (os : List (List Nat × Int)) : Prop where
  top : H p = some (.lst us)
  len : us.length = os.length
  at_ : ∀ (i : Nat) v q, us[i]? = some v → os[i]? = some q → OrdAt K H p v q
theorem OrdL.same {K : PySem.W.Frag} {H H' : Hp} {p : Addr} {us : List V} {os : List (List Nat × Int)} (h : OrdL K H p us os) (e : Same H H') : OrdL K H' p us os :=
  ⟨e _ _ h.top, h.len, fun i v q a b => let ⟨x, y, c, d, f, g, k⟩ := h.at_ i v q a b; ⟨x, y, c, e _ _ d, e _ _ f, g, k⟩⟩
theorem OrdL.snoc {K : PySem.W.Frag} {H : Hp} {p a b : Addr} {us : List V} {os : List (List Nat × Int)} {q : List Nat × Int} (h : OrdL K H p us os) (ha : H a = some (.lst [.ref b, .int q.2])) (hb : H b = some (.lst (q.1.map fun x : Nat => V.int (x : Int)))) (na : a ≠ p) (nb : b ≠ p) :
    OrdL K (upd H p (.lst (us ++ [.ref a]))) p (us ++ [.ref a]) (os ++ [q]) := by
  refine ⟨upd_same, by rw [List.length_append, List.length_append, h.len]; rfl, fun i v q' e1 e2 => ?_⟩
  rcases at_snoc e1 with ⟨h1, h2⟩ | ⟨h1, rfl⟩
  · rw [List.getElem?_append_left (by rw [← h.len]; exact h1)] at e2
    obtain ⟨x, y, c, d, f, g, k⟩ := h.at_ i v q' h2 e2
    exact ⟨x, y, c, by rw [upd_ne g]; exact d, by rw [upd_ne k]; exact f, g, k⟩
  · rw [List.getElem?_append_right (by rw [← h.len]; omega), h1, h.len, Nat.sub_self] at e2
    cases e2
    exact ⟨a, b, rfl, by rw [upd_ne na]; exact ha, by rw [upd_ne nb]; exact hb, na, nb⟩
/-- the orders that come of one -/
def growO (k j : Nat) (p : List Nat × Int) : List (List Nat × Int) := (List.range j).map fun a => (insN a k p.1, if (k - a) % 2 = 0 then p.2 else -p.2)
theorem growO_succ {k j : Nat} {p : List Nat × Int} : growO k (j + 1) p = growO k j p ++ [(insN j k p.1, if (k - j) % 2 = 0 then p.2 else -p.2)] := by
  unfold growO
  rw [List.range_succ, List.map_append]
  rfl
theorem growO_len {k j : Nat} {p : List Nat × Int} : (growO k j p).length = j := by
  unfold growO
  rw [List.length_map, List.length_range]
theorem flat_len {k i : Nat} {l : List (List Nat × Int)} (h : i ≤ l.length) : ((l.take i).flatMap (growO k (k + 1))).length = i * (k + 1) := by
  induction i with
  | zero => rw [List.take_zero, Nat.zero_mul]; rfl
  | succ i ih =>
    rw [List.take_succ, List.flatMap_append, List.length_append, ih (by omega), List.getElem?_eq_getElem (show i < l.length by omega)]
    show _ + ([l[i]].flatMap (growO k (k + 1))).length = _
    rw [List.flatMap_cons, List.flatMap_nil, List.append_nil, growO_len, Nat.succ_mul]
def spOrders (K : PySem.W.Frag) : Sp := fun vs H Q _ => ∃ n : Nat, vs = [.int (n : Int)] ∧ n ≤ 6 ∧ ∀ p us H', Same H H' → H p = none → OrdL K H' p us (ordM n) → Q (.ref p) H'
def spSum (K : PySem.W.Frag) : Sp := fun vs H Q _ => ∃ (v : V) (m : Mat) (n L B k : Nat), vs = [v] ∧ MatV K H v m ∧ m.length = n ∧ n ≤ 6 ∧ Wide n m ∧ Small n n L B k m ∧ k ≤ 400 ∧ ∀ v' H', Same H H' → RatV K H' v' (det n m) → Q v' H'
theorem g_slL {K : PySem.W.Frag} {H : Hp} {a : Addr} {xs : List V} {lo hi : Option Int} {Q : VK} (h : SqL K H a xs) (q : ∀ p, H p = none → Q (.ref p) (upd H p (.lst (cutV xs lo hi)))) : rSlL K (.ref a) lo hi H Q := ⟨a, xs, rfl, h, q⟩
theorem cutV_to {xs : List V} {n : Nat} (h : n ≤ xs.length) : cutV xs none (some (n : Int)) = xs.take n := by
  unfold cutV
  rw [HT.sIx_nat, HT.sIx_none, List.drop_zero, Nat.sub_zero, Nat.min_eq_left h]
theorem cutV_from {xs : List V} {n : Nat} (h : n ≤ xs.length) : cutV xs (some (n : Int)) none = xs.drop n := by
  unfold cutV
  rw [HT.sIx_nat, HT.sIx_none, Nat.min_eq_left h, List.take_of_length_le]
  rw [List.length_drop]
  omega
section
variable {te : TE} {tl th : TO} {σ : L2.St} {H : Hp} {Q : VK}
theorem g_slice {r : V → Option Int → Option Int → Hp → VK → Prop} (h : te σ H fun x H1 => tl σ H1 fun l H2 => th σ H2 fun u H3 => r x l u H3 Q) : tSl r te tl th σ H Q := h
theorem g_pNo {Q : Option Int → Hp → Prop} (h : Q none H) : tNoPart σ H Q := h
theorem g_pYes {Q : Option Int → Hp → Prop} (h : te σ H fun x H1 => ∃ i, x = .int i ∧ Q (some i) H1) : tPart te σ H Q := h
end
end Rz

namespace Rz
open PySem PySem.Spec PyProof.Rows L2

theorem op_catAK {X : Cx} {K : PySem.W.Frag} (h : X.K = K) : OpR X (binaryOp .Add) (rCatA K) := h ▸ op_catA
section
variable {K : PySem.W.Frag} {H : Hp} {Q : VK} {σ : L2.St} {vs : List Nat} {te : TE} {tt : TT}
theorem g_catA {a b : Addr} {xs ys : List V} (h1 : SqT K H a xs) (h2 : SqT K H b ys) (hl : xs.length + ys.length ≤ 1000000) (q : ∀ p H', Same H H' → SqT K H' p (xs ++ ys) → Q (.ref p) H') : rCatA K (.ref a) (.ref b) H Q := by
  refine ⟨a, b, xs, ys, rfl, rfl, h1, h2, by have := sizeLine_eq; omega, fun z => ?_, fun _ z => ?_, fun _ _ p hp => ?_⟩
  · rw [z] at q
    exact q b H (Same.refl _) h2
  · rw [z, List.append_nil] at q
    exact q a H (Same.refl _) h1
  · exact q p _ (up_same hp) (SqT.of upd_same)
theorem g_slA2 {a : Addr} {xs : List V} {lo hi : Option Int} (h : SqT K H a xs) (q : ∀ p H', Same H H' → SqT K H' p (cutV xs lo hi) → Q (.ref p) H') : rSlA K (.ref a) lo hi H Q := by
  refine ⟨a, xs, rfl, h, fun z => ?_, fun z p hp => q p _ (up_same hp) (SqT.of upd_same)⟩
  refine q a H (Same.refl _) ?_
  unfold cutV
  rw [z.1, z.2, List.drop_zero, Nat.sub_zero, List.take_length]
  exact h
theorem Rats.take {xs : List V} {qs : List Rat} (h : Rats K H xs qs) (n : Nat) : Rats K H (xs.take n) (qs.take n) := ⟨by rw [List.length_take, List.length_take, h.len], fun i x q a b => by
  rw [List.getElem?_take] at a b
  by_cases z : i < n
  · rw [if_pos z] at a b
    exact h.at_ i x q a b
  · rw [if_neg z] at a
    cases a⟩
theorem Rats.drop {xs : List V} {qs : List Rat} (h : Rats K H xs qs) (n : Nat) : Rats K H (xs.drop n) (qs.drop n) := ⟨by rw [List.length_drop, List.length_drop, h.len], fun i x q a b => by
  rw [List.getElem?_drop] at a b
  exact h.at_ _ x q a b⟩
theorem Rats.app {xs ys : List V} {qs rs : List Rat} (h : Rats K H xs qs) (k : Rats K H ys rs) : Rats K H (xs ++ ys) (qs ++ rs) := ⟨by rw [List.length_append, List.length_append, h.len, k.len], fun i x q a b => by
  by_cases z : i < xs.length
  · rw [List.getElem?_append_left z] at a
    rw [List.getElem?_append_left (h.len ▸ z)] at b
    exact h.at_ i x q a b
  · rw [List.getElem?_append_right (by omega)] at a
    rw [List.getElem?_append_right (by rw [← h.len]; omega), ← h.len] at b
    exact k.at_ _ x q a b⟩
theorem Rats.one {x : V} {q : Rat} (h : RatV K H x q) : Rats K H [x] [q] := by
  have := Rats.nil.snoc h
  exact this
/-- the turns at ts, without their tuple -/
structure TsL (K : PySem.W.Frag) (H : Hp) (ts : List Addr) (rows : Rows) : Prop where
  len : ts.length = rows.length
  row : ∀ (i : Nat) r row, ts[i]? = some r → rows[i]? = some row → SqT K H r (row.map V.int)
theorem TsL.take {ts : List Addr} {rows : Rows} (h : TsL K H ts rows) (n : Nat) : TsL K H (ts.take n) (rows.take n) := ⟨by rw [List.length_take, List.length_take, h.len], fun i r row a b => by
  rw [List.getElem?_take] at a b
  by_cases z : i < n
  · rw [if_pos z] at a b
    exact h.row i r row a b
  · rw [if_neg z] at a
    cases a⟩
theorem TsL.drop {ts : List Addr} {rows : Rows} (h : TsL K H ts rows) (n : Nat) : TsL K H (ts.drop n) (rows.drop n) := ⟨by rw [List.length_drop, List.length_drop, h.len], fun i r row a b => by
  rw [List.getElem?_drop] at a b
  exact h.row _ r row a b⟩
theorem TsL.app {ts us : List Addr} {rows rows' : Rows} (h : TsL K H ts rows) (k : TsL K H us rows') : TsL K H (ts ++ us) (rows ++ rows') := ⟨by rw [List.length_append, List.length_append, h.len, k.len], fun i r row a b => by
  by_cases z : i < ts.length
  · rw [List.getElem?_append_left z] at a
    rw [List.getElem?_append_left (h.len ▸ z)] at b
    exact h.row i r row a b
  · rw [List.getElem?_append_right (by omega)] at a
    rw [List.getElem?_append_right (by rw [← h.len]; omega), ← h.len] at b
    exact k.row _ r row a b⟩
theorem TsL.same {H' : Hp} {ts : List Addr} {rows : Rows} (h : TsL K H ts rows) (e : Same H H') : TsL K H' ts rows := ⟨h.len, fun i r row a b => Same.sqt e (h.row i r row a b)⟩
theorem TsL.updL {ts : List Addr} {rows : Rows} {S : Addr} {ys : List V} {o : HO} (h : TsL K H ts rows) (e : H S = some (.lst ys)) : TsL K (upd H S o) ts rows := ⟨h.len, fun i r row a b => Kp.sqt Kp.upd e (h.row i r row a b)⟩
theorem NetAt.ts {p t m : Addr} {ts : List Addr} {as : List V} {rim : Nat} {rows : Rows} {qs : List Rat} (h : NetAt K H p t m ts as rim rows qs) : TsL K H ts rows := ⟨h.len, h.row⟩
theorem netV_of {p t m : Addr} {ts : List Addr} {as : List V} {rim : Nat} {rows : Rows} {qs : List Rat} (hp : SqT K H p [.int (rim : Int), .ref t, .ref m]) (ht : SqT K H t (ts.map V.ref)) (h : TsL K H ts rows) (hm : SqT K H m as) (hr : Rats K H as qs) : NetV K H (.ref p) rim rows qs := ⟨p, t, m, ts, as, rfl, hp, ht, h.len, h.row, hm, hr⟩
/-- a comprehension over a tuple, with a test -/
theorem lc_tupIf {a : Addr} {xs : List V} {i₀ : Nat} (h : SqT K H a xs) (Pv : Addr → Nat → List V → Hp → Prop) (hw : ∀ x, wipe ((wipe σ vs).set i₀ (some x)) vs = wipe σ vs) (h0 : ∀ p, H p = none → Pv p 0 [] (upd H p (.lst []))) (hl : ∀ p i acc H', H p = none → Pv p i acc H' → SqT K H' a xs)
    (hs : ∀ p (i : Nat) x acc H', H p = none → xs[i]? = some x → Pv p i acc H' → tt ((wipe σ vs).set i₀ (some x)) H' fun b H3 => if b = true then te ((wipe σ vs).set i₀ (some x)) H3 (lcN (Pv p) p i) else ∃ acc2, Pv p (i + 1) acc2 H3)
    (hd : ∀ p acc H', H p = none → Pv p xs.length acc H' → Q (.ref p) H') : rItT K (lcW (gName i₀) tt te vs σ Q) (.ref a) H := by
  refine ⟨a, rfl, ⟨xs, h⟩, fun p hp => ?_⟩
  refine lc_tup (K := K) (xs := xs) (fun i H' => ∃ acc, Pv p i acc H') ⟨[], h0 p hp⟩ (fun i H' _ ⟨acc, q⟩ => hl p i acc H' hp q) (fun i x H' hi ⟨acc, q⟩ => ?_) (fun H' ⟨acc, q⟩ => hd p acc H' hp q)
  exact ⟨hw _, hs p i x acc H' hp hi q⟩
end
/-! ### nets after moves -/
def dropD (e : Nat) (row : List Int) : List Int := (row.filter fun d => decide (¬ d / 2 = (e : Int))).map fun d => if d > 2 * (e : Int) + 1 then d - 2 else d
def dropE (e : Nat) (rows : Rows) : Rows := rows.map (dropD e)
/-- the node (from 0 on) of a dart -/
def nodeOf (rows : Rows) (d : Int) : Nat := (atM rows d).1
def spLOther : Sp := fun vs H Q _ => ∃ d : Int, vs = [.int d] ∧ Q (.int (twin d)) H
/-- what is known of the ends when the darts ahead of place (i, j) have been gone through -/
def endV (rows : Rows) (i j : Nat) (d : Int) : Int := if (atM rows d).1 < i ∨ (atM rows d).1 = i ∧ (atM rows d).2 < j then ((atM rows d).1 : Int) else 0
def endRows (rows : Rows) (E i j : Nat) : Rows := (List.range E).map fun e : Nat => [endV rows i j (2 * (e : Int)), endV rows i j (2 * (e : Int) + 1)]
theorem endRows_len {rows : Rows} {E i j : Nat} : (endRows rows E i j).length = E := by
  unfold endRows
  rw [List.length_map, List.length_range]
theorem endRows_at {rows : Rows} {E i j e : Nat} (h : e < E) : (endRows rows E i j)[e]? = some [endV rows i j (2 * (e : Int)), endV rows i j (2 * (e : Int) + 1)] := by
  unfold endRows
  rw [List.getElem?_map, List.getElem?_range h]
  rfl
theorem endV_put {rows : Rows} {i j : Nat} {row : List Int} {d x : Int} (nd : rows.flatten.Nodup) (h1 : rows[i]? = some row) (h2 : row[j]? = some d) (hx : x ∈ rows.flatten) : endV rows i (j + 1) x = if x = d then (i : Int) else endV rows i j x := by
  unfold endV
  by_cases e : x = d
  · subst e
    rw [at_of nd h1 h2, if_pos (.inr ⟨rfl, Nat.lt_succ_self _⟩), if_pos rfl]
  · rw [if_neg e]
    obtain ⟨row', a, b⟩ := at_spec hx
    have key : ((atM rows x).1 < i ∨ (atM rows x).1 = i ∧ (atM rows x).2 < j + 1) ↔ ((atM rows x).1 < i ∨ (atM rows x).1 = i ∧ (atM rows x).2 < j) := by
      refine ⟨fun z => ?_, fun z => ?_⟩
      · rcases z with z | ⟨z1, z2⟩
        · exact .inl z
        · refine .inr ⟨z1, ?_⟩
          rcases Nat.lt_or_eq_of_le (Nat.le_of_lt_succ z2) with z3 | z3
          · exact z3
          · rw [z1, h1] at a
            cases a
            rw [z3, h2] at b
            exact absurd (Option.some.inj b).symm e
      · rcases z with z | ⟨z1, z2⟩
        · exact .inl z
        · exact .inr ⟨z1, by omega⟩
    simp only [key]
theorem endV_row {rows : Rows} {i : Nat} {row : List Int} {x : Int} (h1 : rows[i]? = some row) (hx : x ∈ rows.flatten) : endV rows (i + 1) 0 x = endV rows i row.length x := by
  unfold endV
  obtain ⟨row', a, b⟩ := at_spec hx
  have key : ((atM rows x).1 < i + 1 ∨ (atM rows x).1 = i + 1 ∧ (atM rows x).2 < 0) ↔ ((atM rows x).1 < i ∨ (atM rows x).1 = i ∧ (atM rows x).2 < row.length) := by
    refine ⟨fun z => ?_, fun z => ?_⟩
    · by_cases e : (atM rows x).1 = i
      · rw [e, h1] at a
        cases a
        exact .inr ⟨e, (List.getElem?_eq_some_iff.mp b).1⟩
      · exact .inl (by omega)
    · exact .inl (by omega)
  simp only [key]
theorem endV_end {rows : Rows} {x : Int} (hx : x ∈ rows.flatten) : endV rows rows.length 0 x = (nodeOf rows x : Int) := by
  unfold endV nodeOf
  rw [if_pos (.inl (at_lt hx))]
/-- the nodes (from 0 on) of the darts of the edges -/
def endsM (rows : Rows) (E : Nat) : Rows := (List.range E).map fun e : Nat => [(nodeOf rows (2 * (e : Int)) : Int), (nodeOf rows (2 * (e : Int) + 1) : Int)]
def spLEnds (K : PySem.W.Frag) : Sp := fun vs H Q _ => ∃ (v : V) (rim : Nat) (rows : Rows) (qs : List Rat) (E : Nat), vs = [v] ∧ NetV K H v rim rows qs ∧ WF rows E ∧ qs.length = E ∧ E ≤ 100 ∧ rows.length ≤ 1000 ∧
  ∀ l rs H', Same H H' → H l = none → RowsAt H' l rs (endsM rows E) → Q (.ref l) H'
def spLDrop (K : PySem.W.Frag) : Sp := fun vs H Q _ => ∃ (v : V) (e rim : Nat) (rows : Rows) (qs : List Rat), vs = [v, .int (e : Int)] ∧ NetV K H v rim rows qs ∧ e < qs.length ∧ qs.length ≤ 1000 ∧ rows.length ≤ 1000 ∧ (∀ row ∈ rows, row.length ≤ 1000) ∧
  ∀ v' H', Same H H' → NetV K H' v' rim (dropE e rows) (qs.take e ++ qs.drop (e + 1)) → Q v' H'
def spLDropN (K : PySem.W.Frag) : Sp := fun vs H Q _ => ∃ (v : V) (n rim : Nat) (rows : Rows) (qs : List Rat), vs = [v, .int (n : Int)] ∧ NetV K H v rim rows qs ∧ 1 ≤ n ∧ n ≤ rows.length ∧ rows.length ≤ 1000 ∧
  ∀ v' H', Same H H' → NetV K H' v' rim (rows.take (n - 1) ++ rows.drop n) qs → Q v' H'
def spLPut (K : PySem.W.Frag) : Sp := fun vs H Q _ => ∃ (v u : V) (e rim : Nat) (rows : Rows) (qs : List Rat) (q : Rat), vs = [v, .int (e : Int), u] ∧ NetV K H v rim rows qs ∧ RatV K H u q ∧ e < qs.length ∧ qs.length ≤ 1000 ∧
  ∀ v' H', Same H H' → NetV K H' v' rim rows (qs.take e ++ [q] ++ qs.drop (e + 1)) → Q v' H'
theorem find_none {P : Nat → Bool} {n : Nat} (h : ∀ j, j < n → P j = false) : (List.range n).find? P = none := by
  rw [List.find?_eq_none]
  intro x hx
  rw [h x (List.mem_range.mp hx)]
  exact Bool.false_ne_true
theorem find_first {P : Nat → Bool} {n i : Nat} (hi : i < n) (h1 : P i = true) (h0 : ∀ j, j < i → P j = false) : (List.range n).find? P = some i := by
  induction n with
  | zero => omega
  | succ n ih =>
    rw [List.range_succ, List.find?_append]
    by_cases z : i < n
    · rw [ih z]
      rfl
    · have e : i = n := by omega
      subst e
      rw [find_none h0]
      show [i].find? P = some i
      rw [List.find?_cons, h1]
/-! ### what a move makes of a net: none where it does not fit -/
def ResV (K : PySem.W.Frag) (H : Hp) (v : V) (rim : Nat) : Option (Rows × List Rat) → Prop
  | none => v = .non
  | some r => NetV K H v rim r.1 r.2
def loopM (rows : Rows) (qs : List Rat) (k : Int) : Option (Rows × List Rat) :=
  if 0 ≤ k ∧ k < (qs.length : Int) ∧ nodeOf rows (2 * k) = nodeOf rows (2 * k + 1) then some (dropE k.toNat rows, qs.take k.toNat ++ qs.drop (k.toNat + 1)) else none
def looseAt (rows : Rows) (rim : Nat) (k : Int) : Option Nat := (List.range rows.length).find? fun n => decide (rim ≤ n ∧ (rows.getD n []).length = 1 ∧ (rows.getD n []).getD 0 0 / 2 = k)
def looseM (rows : Rows) (rim : Nat) (qs : List Rat) (k : Int) : Option (Rows × List Rat) :=
  if 0 ≤ k ∧ k < (qs.length : Int) then (looseAt rows rim k).map fun n => ((dropE k.toNat rows).take n ++ (dropE k.toNat rows).drop (n + 1), qs.take k.toNat ++ qs.drop (k.toNat + 1)) else none
theorem NetV.same {K : PySem.W.Frag} {H H' : Hp} {v : V} {rim : Nat} {rows : Rows} {qs : List Rat} (h : NetV K H v rim rows qs) (e : Same H H') : NetV K H' v rim rows qs := let ⟨p, t, m, ts, as, a, b⟩ := h; ⟨p, t, m, ts, as, a, b.same e⟩
def spALoop (K : PySem.W.Frag) : Sp := fun vs H Q _ => ∃ (v : V) (e : Int) (rim : Nat) (rows : Rows) (qs : List Rat) (E : Nat), vs = [v, .int e] ∧ NetV K H v rim rows qs ∧ WF rows E ∧ qs.length = E ∧ E ≤ 100 ∧ rows.length ≤ 1000 ∧
  ∀ v' H', Same H H' → ResV K H' v' rim (loopM rows qs e) → Q v' H'
def spALoose (K : PySem.W.Frag) : Sp := fun vs H Q _ => ∃ (v : V) (e : Int) (rim : Nat) (rows : Rows) (qs : List Rat) (E : Nat), vs = [v, .int e] ∧ NetV K H v rim rows qs ∧ WF rows E ∧ qs.length = E ∧ E ≤ 100 ∧ rows.length ≤ 1000 ∧ rim ≤ rows.length ∧
  ∀ v' H', Same H H' → ResV K H' v' rim (looseM rows rim qs e) → Q v' H'
section
variable {K : PySem.W.Frag} {σ : L2.St} {H : Hp} {g : TG} {tb : TS} {D : Ends} {ta : TA} {te : TE} {tt : TT} {vs : List Nat} {Q : VK}
theorem g_lcR2 (h : ta σ H (rRng2 (lcW g tt te vs σ Q))) : tLc (iRng2 ta) g tt te vs σ H Q := h
theorem g_rngZ {lo hi : Int} (n : Nat) (e : hi = lo + (n : Int)) (hlo : -1000 ≤ lo) (hlo2 : lo ≤ 1000) (hn : n < 1000000) (Pv : Nat → L2.St → Hp → Prop) (h0 : Pv 0 σ H)
    (hs : ∀ (k : Nat) σ H, k < n → Pv k σ H → g (.int (lo + (k : Int))) σ H fun σ2 H2 => tb { D with nx := Pv (k + 1), ct := Pv (k + 1), bk := D.nx } σ2 H2) (hd : ∀ σ H, Pv n σ H → D.nx σ H) : rRng2 (forW g tb D σ) [.int lo, .int hi] H := by
  subst e
  refine ⟨_, _, rfl, ⟨by omega, by omega, by omega, by omega⟩, ?_⟩
  rw [show (lo + (n : Int) - lo).toNat = n by omega]
  exact for_range (lo := lo) (n := n) Pv h0 hs hd
theorem g_lcRZ {lo hi : Int} {i₀ : Nat} (n : Nat) (e : hi = lo + (n : Int)) (hlo : -1000 ≤ lo) (hlo2 : lo ≤ 1000) (hn : n < 1000000) (Pv : Addr → Nat → List V → Hp → Prop) (hw : ∀ x, wipe ((wipe σ vs).set i₀ (some x)) vs = wipe σ vs)
    (h0 : ∀ p, H p = none → Pv p 0 [] (upd H p (.lst []))) (hs : ∀ p (i : Nat) acc H', H p = none → i < n → Pv p i acc H' → te ((wipe σ vs).set i₀ (some (.int (lo + (i : Int))))) H' (lcN (Pv p) p i))
    (hd : ∀ p acc H', H p = none → Pv p n acc H' → Q (.ref p) H') : rRng2 (lcW (gName i₀) tYes te vs σ Q) [.int lo, .int hi] H := by
  subst e
  refine ⟨_, _, rfl, ⟨by omega, by omega, by omega, by omega⟩, fun p hp => ?_⟩
  rw [show (lo + (n : Int) - lo).toNat = n by omega]
  exact lc_range (lo := lo) (n := n) (fun i H' => ∃ acc, Pv p i acc H') ⟨[], h0 p hp⟩ (fun i H' hi ⟨acc, q⟩ => ⟨hw _, hs p i acc H' hp hi q⟩) (fun H' ⟨acc, q⟩ => hd p acc H' hp q)
end

/-! ### moves -/
inductive Mv
  | loop (k : Int)
  | loose (k : Int)
  | par (j k : Int)
  | series (v : Int)
  | star (v : Int)
  | num
  | tri (d : Int)
def Mv.items : Mv → List V
  | .loop k => [.str "loop", .int k]
  | .loose k => [.str "loose", .int k]
  | .par j k => [.str "parallel", .int j, .int k]
  | .series v => [.str "series", .int v]
  | .star v => [.str "star", .int v]
  | .num => [.str "number"]
  | .tri d => [.str "triangle", .int d]
def MovV (K : PySem.W.Frag) (H : Hp) (v : V) (mv : Mv) : Prop := ∃ p, v = .ref p ∧ SqT K H p mv.items
theorem MovV.same {K : PySem.W.Frag} {H H' : Hp} {v : V} {mv : Mv} (h : MovV K H v mv) (e : Same H H') : MovV K H' v mv := let ⟨p, a, b⟩ := h; ⟨p, a, Same.sqt e b⟩
/-- the numbers of a move are not great -/
def Mv.small : Mv → Prop
  | .loop k => k.natAbs < 2 ^ 60
  | .loose k => k.natAbs < 2 ^ 60
  | .par j k => j.natAbs < 2 ^ 60 ∧ k.natAbs < 2 ^ 60
  | .series v => v.natAbs < 2 ^ 60
  | .star v => v.natAbs < 2 ^ 60
  | .num => True
  | .tri d => d.natAbs < 2 ^ 60
def MovL (K : PySem.W.Frag) (H : Hp) (us : List V) : Prop := ∀ (i : Nat) v, us[i]? = some v → ∃ mv, MovV K H v mv ∧ mv.small
theorem MovL.same {K : PySem.W.Frag} {H H' : Hp} {us : List V} (h : MovL K H us) (e : Same H H') : MovL K H' us := fun i v z => let ⟨mv, a, b⟩ := h i v z; ⟨mv, a.same e, b⟩
theorem MovL.nil {K : PySem.W.Frag} {H : Hp} : MovL K H [] := fun i v z => by simp at z
theorem MovL.app {K : PySem.W.Frag} {H : Hp} {us ws : List V} (h : MovL K H us) (k : MovL K H ws) : MovL K H (us ++ ws) := fun i v z => by
  by_cases hi : i < us.length
  · rw [List.getElem?_append_left hi] at z
    exact h i v z
  · rw [List.getElem?_append_right (by omega)] at z
    exact k _ v z
theorem MovL.one {K : PySem.W.Frag} {H : Hp} {v : V} {mv : Mv} (h : MovV K H v mv) (hs : mv.small) : MovL K H [v] := fun i w z => by
  cases i with
  | zero =>
    cases z
    exact ⟨mv, h, hs⟩
  | succ i => simp at z
theorem MovL.upd {K : PySem.W.Frag} {H : Hp} {us : List V} {S : Addr} {ys : List V} {o : HO} (h : MovL K H us) (e : H S = some (.lst ys)) : MovL K (upd H S o) us := fun i v z => by
  obtain ⟨mv, ⟨p, a, b⟩, c⟩ := h i v z
  exact ⟨mv, ⟨p, a, Kp.sqt Kp.upd e b⟩, c⟩
def spMoves (K : PySem.W.Frag) : Sp := fun vs H Q _ => ∃ (v : V) (rim : Nat) (rows : Rows) (qs : List Rat), vs = [v] ∧ NetV K H v rim rows qs ∧ qs.length ≤ 100 ∧ rows.length ≤ 1000 ∧ ∀ p us H', Same H H' → H' p = some (.lst us) → us.length ≤ 900000 → MovL K H' us → Q (.ref p) H'
theorem Eqv.net {K : PySem.W.Frag} {H : Hp} {n : Nat} {x y : V} {rim : Nat} {rows : Rows} {qs : List Rat} (h : NetV K H x rim rows qs) (k : NetV K H y rim rows qs) (h1 : rows.length < 1000000) (h2 : ∀ row ∈ rows, row.length < 1000000) (h3 : qs.length < 1000000) : Eqv K H (n + 4) x y := by
  obtain ⟨p, t, m, ts, as, rfl, hN⟩ := h
  obtain ⟨p', t', m', ts', as', rfl, hN'⟩ := k
  refine .tup hN.top hN'.top rfl (by show 3 < 1000000; decide) fun i x y e1 e2 => ?_
  match i, e1, e2 with
  | 0, e1, e2 =>
    cases e1
    cases e2
    exact .sc rfl
  | 1, e1, e2 =>
    cases e1
    cases e2
    refine .tup hN.turns hN'.turns (by rw [List.length_map, List.length_map, hN.len, hN'.len]) (by rw [List.length_map, hN'.len]; exact h1) fun j a b a1 b1 => ?_
    obtain ⟨r, rfl, hr, hs⟩ := hN.tns.get a1
    obtain ⟨r', rfl, hr', hs'⟩ := hN'.tns.get b1
    exact Eqv.ints hs hs' (h2 _ (List.mem_of_getElem? hr))
  | 2, e1, e2 =>
    cases e1
    cases e2
    refine .tup hN.ams hN'.ams (by rw [hN.rats.len, hN'.rats.len]) (by rw [hN'.rats.len]; exact h3) fun j a b a1 b1 => ?_
    have hj : j < qs.length := by
      rw [← hN.rats.len]
      exact (List.getElem?_eq_some_iff.mp a1).1
    exact Eqv.rat (n := n) (hN.rats.at_ j a _ a1 (List.getElem?_eq_getElem hj)) (hN'.rats.at_ j b _ b1 (List.getElem?_eq_getElem hj))
  | i + 3, e1, e2 => simp at e1
/-- a move of a drawing, by F: a net, or an error of class C -/
def spApply (K : PySem.W.Frag) (C : Addr) (F : Nat → Rows → List Rat → Mv → Option (Rows × List Rat)) (S : Mv → Prop) (Emax : Nat) : Sp := fun vs H Q E => ∃ (v u : V) (rim : Nat) (rows : Rows) (qs : List Rat) (En : Nat) (mv : Mv), vs = [v, u] ∧ NetV K H v rim rows qs ∧ MovV K H u mv ∧ S mv ∧ 1 ≤ rim ∧ rim ≤ 7 ∧ Built rim En rows ∧ qs.length = En ∧ En ≤ Emax ∧ (∀ q ∈ qs, 0 < q ∧ Bd 5 q) ∧
  (F rim rows qs mv = none → ∀ H', Same H H' → E (.ref C) none H') ∧ ∀ r, F rim rows qs mv = some r → ∀ v' H', Same H H' → NetV K H' v' rim r.1 r.2 → Q v' H'
def spTolds (K : PySem.W.Frag) (C : Addr) (spF : Sp) : Sp := fun vs H Q _ => ∃ x y, vs = [x, y] ∧ spF [x, y] H (fun v H' => ∀ p, H' p = none → Q (.ref p) (upd H' p (.tup [.str "told", v])))
  (fun cls d H' => cls = .ref C ∧ d = none ∧ ∀ p, H' p = none → Q (.ref p) (upd H' p (.tup [.str "refused"])))
theorem mono_apply {K : PySem.W.Frag} {C : Addr} {F : Nat → Rows → List Rat → Mv → Option (Rows × List Rat)} {S : Mv → Prop} {Em : Nat} : ∀ vs H Q Q' E E', (∀ v H, Q v H → Q' v H) → (∀ c d H, E c d H → E' c d H) → spApply K C F S Em vs H Q E → spApply K C F S Em vs H Q' E' := by
  rintro vs H Q Q' E E' hQ hE ⟨v, u, rim, rows, qs, En, mv, a1, a2, a3, a4, a5, a6, a7, a8, a9, a10, a11, a12⟩
  exact ⟨v, u, rim, rows, qs, En, mv, a1, a2, a3, a4, a5, a6, a7, a8, a9, a10, fun z H' sm => hE _ _ _ (a11 z H' sm), fun r z v' H' sm hv => hQ _ _ (a12 r z v' H' sm hv)⟩
def afterM (rim : Nat) (rows : Rows) (qs : List Rat) : Mv → Option (Rows × List Rat)
  | .loop k => loopM rows qs k
  | .loose k => looseM rows rim qs k
  | _ => none
def isLL (mv : Mv) : Prop := (∃ k, mv = .loop k) ∨ ∃ k, mv = .loose k
def spAfter (K : PySem.W.Frag) (F : Nat → Rows → List Rat → Mv → Option (Rows × List Rat)) (S : Mv → Prop) : Sp := fun vs H Q _ => ∃ (v u : V) (rim : Nat) (rows : Rows) (qs : List Rat) (En : Nat) (mv : Mv), vs = [v, u] ∧ NetV K H v rim rows qs ∧ MovV K H u mv ∧ S mv ∧ WF rows En ∧ qs.length = En ∧ En ≤ 100 ∧ rows.length ≤ 1000 ∧ rim ≤ rows.length ∧
  ∀ v' H', Same H H' → ResV K H' v' rim (F rim rows qs mv) → Q v' H'
theorem g_callSD {sp : Sp} {dvs : List V} {E : L2.St → XK} {tas : TA} {σ : L2.St} {H : Hp} {Q : VK} (h : tas σ H fun vs H1 => sp (vs ++ dvs) H1 Q (E σ)) : tCallSD sp dvs E tas σ H Q := h
end Rz

set_option maxHeartbeats 4000000
/-! Moves, more: least and greatest of two numbers, sorted lists of two, the move of parallel edges. -/
namespace Rz
open PySem PySem.Spec PyProof.Rows L2
def rMin2n : List V → Hp → VK → Prop := fun xs H Q => ∃ i j, xs = [.int i, .int j] ∧ Q (.int (if j < i then j else i)) H
def rMax2n : List V → Hp → VK → Prop := fun xs H Q => ∃ i j, xs = [.int i, .int j] ∧ Q (.int (if j > i then j else i)) H
section
variable {X : Cx} {K : PySem.W.Frag}
theorem call_min2n (hc : X.calm = true) : CallR X (.builtin "min") rMin2n := call_min2 hc
theorem call_max2n (hc : X.calm = true) : CallR X (.builtin "max") rMax2n := call_max2 hc
theorem call_sortedK (h : X.K = K) : CallR X (.builtin "sorted") (rSorted K) := h ▸ cr_sorted
end
section
variable {K : PySem.W.Frag} {H : Hp} {Q : VK}
theorem g_min2 {i j : Int} (h : Q (.int (if j < i then j else i)) H) : rMin2n [.int i, .int j] H Q := ⟨i, j, rfl, h⟩
theorem g_max2 {i j : Int} (h : Q (.int (if j > i then j else i)) H) : rMax2n [.int i, .int j] H Q := ⟨i, j, rfl, h⟩
def lo2 (a b : Int) : Int := if b < a then b else a
def hi2 (a b : Int) : Int := if b < a then a else b
theorem sorted2 {a b : Int} {xs : List Int} (h : xs.Perm [a, b]) (s : xs.Pairwise (· ≤ ·)) : xs = [lo2 a b, hi2 a b] := by
  match xs, h, s with
  | [], h, _ => exact absurd h.length_eq (by simp)
  | [_], h, _ => exact absurd h.length_eq (by simp)
  | _ :: _ :: _ :: _, h, _ => exact absurd h.length_eq (by simp)
  | [x, y], h, s =>
    have hxy : x ≤ y := by
      cases s with
      | cons h _ => exact h y (List.mem_singleton.mpr rfl)
    have m1 : a = x ∨ a = y := by simpa using h.mem_iff.mpr (show a ∈ [a, b] by simp)
    have m2 : b = x ∨ b = y := by simpa using h.mem_iff.mpr (show b ∈ [a, b] by simp)
    have m3 : x = a ∨ x = b := by simpa using h.mem_iff.mp (show x ∈ [x, y] by simp)
    have m4 : y = a ∨ y = b := by simpa using h.mem_iff.mp (show y ∈ [x, y] by simp)
    unfold lo2 hi2
    have e1 : x = if b < a then b else a := by split <;> omega
    have e2 : y = if b < a then a else b := by split <;> omega
    rw [← e1, ← e2]
theorem g_sorted2 {p : Addr} {a b : Int} (h : SqL K H p [.int a, .int b]) (q : ∀ r, H r = none → Q (.ref r) (upd H r (.lst [.int (lo2 a b), .int (hi2 a b)]))) : rSorted K [.ref p] H Q :=
  ⟨p, [a, b], rfl, h, by show 2 < 64; decide, fun ns r hp hs hr => by
    rw [sorted2 hp hs]
    exact q r hr⟩
theorem pair_eqv (a b c d : Int) : PyData.eqv (.list [.int a, .int b]) (.list [.int c, .int d]) = decide (a = c ∧ b = d) := by
  have e : PyData.eqv (.list [.int a, .int b]) (.list [.int c, .int d]) = ((a == c) && ((b == d) && true)) := rfl
  rw [e, Bool.and_true]
  by_cases h1 : a = c
  · by_cases h2 : b = d
    · rw [decide_eq_true ⟨h1, h2⟩, h1, h2, beq_self_eq_true, beq_self_eq_true]
      rfl
    · rw [decide_eq_false (fun z => h2 z.2), beq_eq_false_iff_ne.mpr h2, Bool.and_false]
  · rw [decide_eq_false (fun z => h1 z.1), beq_eq_false_iff_ne.mpr h1, Bool.false_and]
theorem g_neP2 {p q : Addr} {a b c d : Int} (h : SqL K H p [.int a, .int b]) (h2 : SqL K H q [.int c, .int d]) (k : Q (.bl (!decide (a = c ∧ b = d))) H) : rNeD K (.ref p) (.ref q) H Q :=
  ⟨_, _, .lst h (.cons (.int _) (.cons (.int _) .nil)), .lst h2 (.cons (.int _) (.cons (.int _) .nil)), by rfl, by rfl, by rw [pair_eqv]; exact k⟩
end

/-! ### parallel edges -/
def endA (rows : Rows) (k : Int) : Int := (nodeOf rows (2 * k) : Int)
def endB (rows : Rows) (k : Int) : Int := (nodeOf rows (2 * k + 1) : Int)
def sameEnds (rows : Rows) (j k : Int) : Prop := lo2 (endA rows j) (endB rows j) = lo2 (endA rows k) (endB rows k) ∧ hi2 (endA rows j) (endB rows j) = hi2 (endA rows k) (endB rows k)
instance {rows : Rows} {j k : Int} : Decidable (sameEnds rows j k) := inferInstanceAs (Decidable (_ ∧ _))
def parQ (qs : List Rat) (j k : Nat) : List Rat :=
  let rs := qs.take j ++ [qs.getD j 0 + qs.getD k 0] ++ qs.drop (j + 1)
  rs.take k ++ rs.drop (k + 1)
def parM (rows : Rows) (qs : List Rat) (j k : Int) : Option (Rows × List Rat) :=
  if (0 ≤ j ∧ 0 ≤ k ∧ j < (qs.length : Int) ∧ k < (qs.length : Int) ∧ j ≠ k) ∧ sameEnds rows j k ∧ endA rows j ≠ endB rows j then some (dropE k.toNat rows, parQ qs j.toNat k.toNat) else none
def spAPar (K : PySem.W.Frag) : Sp := fun vs H Q _ => ∃ (v : V) (j k : Int) (rim : Nat) (rows : Rows) (qs : List Rat) (E : Nat), vs = [v, .int j, .int k] ∧ NetV K H v rim rows qs ∧ WF rows E ∧ qs.length = E ∧ E ≤ 100 ∧ rows.length ≤ 1000 ∧ (∀ q ∈ qs, Bd 5 q) ∧
  ∀ v' H', Same H H' → ResV K H' v' rim (parM rows qs j k) → Q v' H'
def afterP (rim : Nat) (rows : Rows) (qs : List Rat) : Mv → Option (Rows × List Rat)
  | .par j k => parM rows qs j k
  | _ => none
def isPar (mv : Mv) : Prop := ∃ j k, mv = .par j k
/-- as spAfter, with amounts of bounded size -/
def spAfter2 (K : PySem.W.Frag) (F : Nat → Rows → List Rat → Mv → Option (Rows × List Rat)) (S : Mv → Prop) : Sp := fun vs H Q _ => ∃ (v u : V) (rim : Nat) (rows : Rows) (qs : List Rat) (En : Nat) (mv : Mv), vs = [v, u] ∧ NetV K H v rim rows qs ∧ MovV K H u mv ∧ S mv ∧ WF rows En ∧ qs.length = En ∧ En ≤ 100 ∧ rows.length ≤ 1000 ∧ rim ≤ rows.length ∧ (∀ q ∈ qs, Bd 5 q) ∧
  ∀ v' H', Same H H' → ResV K H' v' rim (F rim rows qs mv) → Q v' H'
def mvName : Mv → Str
  | .loop _ => "loop"
  | .loose _ => "loose"
  | .par _ _ => "parallel"
  | .series _ => "series"
  | .star _ => "star"
  | .num => "number"
  | .tri _ => "triangle"
theorem mvName_at (mv : Mv) : atI mv.items 0 = some (.str (mvName mv)) := by cases mv <;> rfl
theorem small_dropE {rows : Rows} {e n : Nat} (h : ∀ row ∈ rows, row.length ≤ n) : ∀ row ∈ dropE e rows, row.length ≤ n := fun row hr => by
  obtain ⟨r, h1, rfl⟩ := List.mem_map.mp hr
  refine Nat.le_trans ?_ (h r h1)
  unfold dropD
  rw [List.length_map]
  exact List.length_filter_le ..
end Rz

set_option maxHeartbeats 4000000
/-! sorted(t), t a tuple of numbers. -/
namespace Rz
open PySem PySem.Spec PyProof.Rows L2
section
variable {prog : Program} {w : World} {A : Around} {E : Value → Shared → Prop} {s : Shared}
theorem sorted_tup {a : Addr} {vs : List Value} {ns : List Int} {Q : Value → Shared → Prop} (hl : IsTup s.heap a vs.toArray) (hI : IntsAre vs ns) (h64 : vs.length < 64)
    (h : ∀ (out : Array Value) (ns' : List Int) (h' : Heap) (p : Addr) (e : Nat), IntsAre out.toList ns' → ns'.Perm ns → ns'.Pairwise (· ≤ ·) → (∀ b o, s.heap.get? b = some o → h'.get? b = some o) → s.heap.get? p = none → h'.get? p = some (seqObj "list" out e) → Q (.ref p) { s with heap := h' }) :
    wpAny (model prog w) A (call (.builtin "sorted") [.ref a]) Q E s := by
  obtain ⟨o, ho, hc, n, hd⟩ := hl
  refine Calls.call_function_entry kind_sorted plain_sorted entry_sorted (args_sorted1 _) ?_
  unfold Builtin.«sorted»
  refine wpAny_bind (m := checkCount "sorted" 1 1 _) (wpAny_pure ?_)
  refine wpAny_bind (PySem.wpAny_collect_seq a (.inr rfl) ho hc hd (fun h1 k1 => ?_) (by have := sizeLine_eq; rw [List.size_toArray]; omega))
  have hsz : s.heap.get? h1.objs.size = none := by
    cases z : s.heap.get? h1.objs.size with
    | none => rfl
    | some o => exact absurd (Heap.lt_size (k1 _ _ z)) (Nat.lt_irrefl _)
  refine wpAny_bind (wpAny_newList ?_ (by have := sizeLine_eq; show vs.toArray.toList.length ≤ _; rw [List.toList_toArray]; omega))
  have hoL : (h1.push (seqObj "list" vs.toArray 0)).get? h1.objs.size = some (seqObj "list" vs.toArray 0) := Heap.get?_push_size _ rfl
  refine wpAny_bind (wpAny_holding (wpAny_call_entry slot_list_sort ⟨_, hoL, rfl⟩ entry_list_sort (list_sort_tree (s := { s with heap := h1.push (seqObj "list" vs.toArray 0) }) hoL hI h64 fun out ns' a1 a2 a3 => ⟨_, rfl, ?_⟩) (args_list_sort _)))
  obtain ⟨e, he⟩ := sortedHeap_at (vs := vs) (out := out) hoL
  refine wpAny_pure ⟨_, rfl, h out ns' _ _ e a1 a2 a3 (fun b o hb => ?_) hsz he⟩
  have hb1 := k1 b o hb
  have hlt := Heap.lt_size hb1
  rw [sortedHeap_old (Nat.ne_of_lt hlt) (by rw [size_push']; exact Nat.lt_succ_of_lt hlt)]
  exact Heap.get?_push_of_some _ hb1
end
def rSortedT (K : PySem.W.Frag) : List V → Hp → VK → Prop := fun vs H Q => ∃ (a : Addr) (ns : List Int), vs = [V.ref a] ∧ SqT K H a (ns.map V.int) ∧ ns.length < 64 ∧
  ∀ (ns' : List Int) (p : Addr), ns'.Perm ns → ns'.Pairwise (· ≤ ·) → H p = none → Q (.ref p) (upd H p (.lst (ns'.map V.int)))
section
variable {X : Cx} {K : PySem.W.Frag}
theorem cr_sortedT : CallR X (.builtin "sorted") (rSortedT X.K) := by
  intro pins s σ H vs us Q I r h
  obtain ⟨a, ns, rfl, hs, h64, q⟩ := h
  obtain ⟨its, rv, hl, _⟩ := I.tuple hs
  rw [Vals.ref1 r]
  have hi := rv.ints
  refine sorted_tup hl hi (by rw [hi.length]; exact h64) fun out ns' h' p e h1 h2 h3 k hp he => ?_
  have hlen : (ns'.map V.int).length ≤ sizeLine := by rw [List.length_map, h2.length_eq]; exact small64 h64
  exact ⟨.ref p, upd H p (.lst (ns'.map V.int)), I.laidN (t' := s.toks) k hp (I.hok.gone hp) ⟨hlen, out.toList, e, vals_of_ints h1, he⟩, rfl, q ns' p h2 h3 (I.hok.gone hp)⟩
theorem call_sortedTK (h : X.K = K) : CallR X (.builtin "sorted") (rSortedT K) := h ▸ cr_sortedT
end
theorem g_sorted2T {K : PySem.W.Frag} {H : Hp} {Q : VK} {p : Addr} {a b : Int} (h : SqT K H p [.int a, .int b]) (q : ∀ r, H r = none → Q (.ref r) (upd H r (.lst [.int (lo2 a b), .int (hi2 a b)]))) : rSortedT K [.ref p] H Q :=
  ⟨p, [a, b], rfl, h, by show 2 < 64; decide, fun ns r hp hs hr => by
    rw [sorted2 hp hs]
    exact q r hr⟩
section
variable {K : PySem.W.Frag} {H : Hp} {Q : VK} {σ : L2.St} {vs : List Nat} {te : TE} {tt : TT}
theorem lc_rngIf {j : Int} {i₀ : Nat} (n : Nat) (e : j = (n : Int)) (hb : n < 1000000) (Pv : Addr → Nat → List V → Hp → Prop) (hw : ∀ x, wipe ((wipe σ vs).set i₀ (some x)) vs = wipe σ vs)
    (h0 : ∀ p, H p = none → Pv p 0 [] (upd H p (.lst [])))
    (hs : ∀ p (i : Nat) acc H', H p = none → i < n → Pv p i acc H' → tt ((wipe σ vs).set i₀ (some (.int (i : Int)))) H' fun b H3 => if b = true then te ((wipe σ vs).set i₀ (some (.int (i : Int)))) H3 (lcN (Pv p) p i) else ∃ acc2, Pv p (i + 1) acc2 H3)
    (hd : ∀ p acc H', H p = none → Pv p n acc H' → Q (.ref p) H') : rRng1 (lcW (gName i₀) tt te vs σ Q) [.int j] H := by
  subst e
  refine ⟨(n : Int), rfl, by omega, by omega, fun p hp => ?_⟩
  rw [Int.toNat_natCast]
  refine lc_range (lo := 0) (n := n) (fun i H' => ∃ acc, Pv p i acc H') ⟨[], h0 p hp⟩ (fun i H' hi ⟨acc, q⟩ => ?_) (fun H' ⟨acc, q⟩ => hd p acc H' hp q)
  rw [show (0 : Int) + (i : Int) = (i : Int) by omega]
  exact ⟨hw _, hs p i acc H' hp hi q⟩
end
/-- a dart stands in the turn of its node only -/
theorem in_row {rows : Rows} (nd : rows.flatten.Nodup) {d : Int} {k : Nat} {row : List Int} (h1 : rows[k]? = some row) (hd : d ∈ rows.flatten) : d ∈ row ↔ k = nodeOf rows d := by
  constructor
  · intro hm
    obtain ⟨i, hi, e⟩ := List.getElem_of_mem hm
    have := at_of nd h1 (show row[i]? = some d by rw [List.getElem?_eq_getElem hi, e])
    unfold nodeOf
    rw [this]
  · intro e
    obtain ⟨row2, e1, e2⟩ := at_spec hd
    have e1 : rows[nodeOf rows d]? = some row2 := e1
    rw [← e, h1] at e1
    cases e1
    exact List.mem_of_getElem? e2
/-- [tuple(x) for x in L], L a list of lists of numbers -/
theorem tups_lc {K : PySem.W.Frag} {σ : L2.St} {H : Hp} {vs : List Nat} {i₀ : Nat} {Q : VK} {L : Addr} {rs : List Addr} {rows : Rows} (hR : RowsAt H L rs rows) (hb : rows.length ≤ 1000) (hw : ∀ x, wipe ((wipe σ vs).set i₀ (some x)) vs = wipe σ vs) (hi : ∀ x, ((wipe σ vs).set i₀ (some x))[i₀]? = some (some x))
    (q : ∀ p ts H', Same H H' → H' p = some (.lst (ts.map V.ref)) → TsL K H' ts rows → Q (.ref p) H') : rItL K (lcW (gName i₀) tYes (tCB (rTupleOf K) (tCons (tVar i₀) tNil)) vs σ Q) (.ref L) H := by
  refine g_lcLst (SqL.of hR.top) (fun p i acc H' => Same H H' ∧ H' p = some (.lst acc) ∧ ∃ ts : List Addr, ts.length = i ∧ acc = ts.map V.ref ∧ ∀ (j : Nat) r row, ts[j]? = some r → rows[j]? = some row → SqT K H' r (row.map V.int)) hw
    (fun p hp => ⟨up_same hp, upd_same, [], rfl, rfl, fun j r row a => by simp at a⟩) (fun p i acc H' _ h => h.1.seq (SqL.of hR.top)) ?_ ?_
  · rintro p i x acc H1 hp hx ⟨sm, ep, ts, hl, rfl, ht⟩
    rw [List.getElem?_map] at hx
    cases hri : rs[i]? with
    | none =>
      rw [hri] at hx
      cases hx
    | some r =>
      rw [hri] at hx
      cases hx
      have hlt : i < rows.length := by
        rw [← hR.len]
        exact (List.getElem?_eq_some_iff.mp hri).1
      have hrow := sm _ _ (hR.at_ i r _ hri (List.getElem?_eq_getElem hlt))
      refine g_cb (g_cons (g_var (hi _) (g_nil (g_tupleL (SqL.of hrow) fun z hz => ?_))))
      have e5' := (up_same (o := .tup (rows[i].map V.int)) hz) _ _ ep
      refine lcN_of e5' (by rw [List.length_map]; omega) ⟨fun b o h => ?_, upd_same, ts ++ [z], ?_, ?_, fun j r' row a b => ?_⟩
      · rw [upd_ne (ne_of_none h hp)]
        exact (up_same hz) _ _ (sm _ _ h)
      · rw [List.length_append, hl]
        rfl
      · rw [List.map_append]
        rfl
      · refine Kp.sqt Kp.upd e5' ?_
        rcases at_snoc a with ⟨h1, h2⟩ | ⟨h1, rfl⟩
        · exact Same.sqt (up_same hz) (ht j r' row h2 b)
        · rw [h1, hl, List.getElem?_eq_getElem hlt] at b
          cases b
          exact SqT.of upd_same
  · rintro p acc H1 hp ⟨sm, ep, ts, hl, rfl, ht⟩
    exact q p ts H1 sm ep ⟨by rw [hl, List.length_map, hR.len], ht⟩
/-- a row in the place of a dart of a turn -/
def swapR (row : List Int) (d : Int) (ns : List Int) : List Int := row.take (row.idxOf d) ++ ns ++ row.drop (row.idxOf d + 1)
def spSwap (K : PySem.W.Frag) : Sp := fun vs H Q _ => ∃ (L : Addr) (n : Nat) (d : Int) (q : Addr) (rs : List Addr) (rows : Rows) (row ns : List Int), vs = [.ref L, .int (n : Int), .int d, .ref q] ∧ RowsAt H L rs rows ∧ rows[n]? = some row ∧ d ∈ row ∧ H q = some (.lst (ns.map V.int)) ∧ Few rows ∧ ns.length ≤ 1000 ∧
  ∀ (r : Addr) H', Kp L H H' → H r = none → RowsAt H' L (rs.set n r) (rows.set n (swapR row d ns)) → Q .non H'
/-- two edges in series at a node become one -/
def serRows (rows : Rows) (n : Nat) (lo hi : Int) : Rows := (rows.set (nodeOf rows (twin hi)) (swapR (rows.getD (nodeOf rows (twin hi)) []) (twin hi) [lo])).set n []
def serM (rim : Nat) (rows : Rows) (qs : List Rat) (v : Int) : Option (Rows × List Rat) :=
  if (rim : Int) < v ∧ v ≤ (rows.length : Int) ∧ (rows.getD (v - 1).toNat []).length = 2 then
    let row := rows.getD (v - 1).toNat []
    let lo := lo2 (row.getD 0 0) (row.getD 1 0)
    let hi := hi2 (row.getD 0 0) (row.getD 1 0)
    if lo / 2 = hi / 2 then none else
      let a := qs.getD (lo / 2).toNat 0
      let b := qs.getD (hi / 2).toNat 0
      let rows2 := dropE (hi / 2).toNat (serRows rows (v - 1).toNat lo hi)
      let q2 := qs.take (lo / 2).toNat ++ [a * b / (a + b)] ++ qs.drop ((lo / 2).toNat + 1)
      some (rows2.take (v - 1).toNat ++ rows2.drop ((v - 1).toNat + 1), q2.take (hi / 2).toNat ++ q2.drop ((hi / 2).toNat + 1))
  else none
def spASer (K : PySem.W.Frag) : Sp := fun vs H Q _ => ∃ (v : V) (n : Int) (rim : Nat) (rows : Rows) (qs : List Rat) (E : Nat), vs = [v, .int n] ∧ NetV K H v rim rows qs ∧ WF rows E ∧ qs.length = E ∧ E ≤ 100 ∧ rows.length ≤ 1000 ∧ 1 ≤ rim ∧ rim ≤ rows.length ∧ (∀ q ∈ qs, 0 < q ∧ Bd 5 q) ∧
  ∀ v' H', Same H H' → ResV K H' v' rim (serM rim rows qs n) → Q v' H'
def afterS (rim : Nat) (rows : Rows) (qs : List Rat) : Mv → Option (Rows × List Rat)
  | .series v => serM rim rows qs v
  | _ => none
def isSer (mv : Mv) : Prop := ∃ v, mv = .series v
/-- as spAfter, with amounts above 0 of bounded size -/
def spAfter3 (K : PySem.W.Frag) (F : Nat → Rows → List Rat → Mv → Option (Rows × List Rat)) (S : Mv → Prop) : Sp := fun vs H Q _ => ∃ (v u : V) (rim : Nat) (rows : Rows) (qs : List Rat) (En : Nat) (mv : Mv), vs = [v, u] ∧ NetV K H v rim rows qs ∧ MovV K H u mv ∧ S mv ∧ WF rows En ∧ qs.length = En ∧ En ≤ 100 ∧ rows.length ≤ 1000 ∧ rim ≤ rows.length ∧ 1 ≤ rim ∧ (∀ q ∈ qs, 0 < q ∧ Bd 5 q) ∧
  ∀ v' H', Same H H' → ResV K H' v' rim (F rim rows qs mv) → Q v' H'
theorem serRows_small {rows : Rows} {i n : Nat} {lo hi : Int} (h : ∀ row ∈ rows, row.length ≤ n) : ∀ row ∈ serRows rows i lo hi, row.length ≤ 2 * n + 1 := fun row hr => by
  unfold serRows at hr
  rcases List.mem_or_eq_of_mem_set hr with h1 | h1
  · rcases List.mem_or_eq_of_mem_set h1 with h2 | h2
    · have := h row h2; omega
    · rw [h2]
      have hg : (rows.getD (nodeOf rows (twin hi)) []).length ≤ n := by
        rw [List.getD_eq_getElem?_getD]
        cases e : rows[nodeOf rows (twin hi)]? with
        | none => exact Nat.zero_le _
        | some r => exact h r (List.mem_of_getElem? e)
      unfold swapR
      simp only [List.length_append, List.length_take, List.length_drop, List.length_cons, List.length_nil]
      omega
  · rw [h1]; exact Nat.zero_le _
theorem afterS_small {rim n : Nat} {rows : Rows} {qs : List Rat} {mv : Mv} {r : Rows × List Rat} (h : afterS rim rows qs mv = some r) (hn : ∀ row ∈ rows, row.length ≤ n) : r.1.length ≤ rows.length ∧ (∀ row ∈ r.1, row.length ≤ 2 * n + 1) ∧ r.2.length ≤ qs.length + 1 := by
  cases mv with
  | series v =>
    simp only [afterS, serM] at h
    split at h
    · split at h
      · cases h
      · cases h
        refine ⟨?_, fun row hr => ?_, ?_⟩
        · simp only [List.length_append, List.length_take, List.length_drop, dropE, serRows, List.length_map, List.length_set]
          omega
        · rcases List.mem_append.mp hr with h | h
          · exact small_dropE (serRows_small hn) row (List.mem_of_mem_take h)
          · exact small_dropE (serRows_small hn) row (List.mem_of_mem_drop h)
        · simp only [List.length_append, List.length_take, List.length_drop, List.length_cons, List.length_nil]
          omega
    · cases h
  | par => cases h
  | loop => cases h
  | loose => cases h
  | star => cases h
  | num => cases h
  | tri => cases h
end Rz

set_option maxHeartbeats 4000000
/-! No edge of a drawing stands alone between two inner nodes; each inner node has darts. -/
namespace Rz
open PySem PySem.Spec PyProof.Rows L2

def Full (rim : Nat) (rows : Rows) : Prop := ∀ (m : Nat) row, rim ≤ m → rows[m]? = some row → row ≠ []
def Lone (rim : Nat) (rows : Rows) : Prop := ∀ (m n : Nat) (d : Int), rim ≤ m → rim ≤ n → rows[m]? = some [d] → rows[n]? = some [twin d] → False
theorem ins_len (p : Nat) (x : Int) (row : List Int) : (ins p x row).length = row.length + 1 := by
  rw [(ins_perm p x row).length_eq]
  rfl
theorem modRow_at {rows : Rows} {n m : Nat} {f : List Int → List Int} {row : List Int} (h : (modRow rows n f)[m]? = some row) : (m = n ∧ ∃ r, rows[m]? = some r ∧ row = f r) ∨ rows[m]? = some row := by
  unfold modRow at h
  by_cases e : n = m
  · subst e
    have hl : n < rows.length := by
      have := (List.getElem?_eq_some_iff.mp h).1
      rw [List.length_set] at this
      exact this
    rw [List.getElem?_set_self hl] at h
    refine .inl ⟨rfl, rows[n], List.getElem?_eq_getElem hl, ?_⟩
    rw [List.getD_eq_getElem?_getD, List.getElem?_eq_getElem hl, Option.getD_some] at h
    exact (Option.some.inj h).symm
  · rw [List.getElem?_set_ne e] at h
    exact .inr h
theorem ins_one {rows : Rows} {n m p : Nat} {x d : Int} (h : (modRow rows n (ins p x))[m]? = some [d]) : rows[m]? = some [d] ∨ rows[m]? = some [] := by
  rcases modRow_at h with ⟨rfl, r, hr, e⟩ | h
  · have := congrArg List.length e
    rw [ins_len] at this
    cases r with
    | nil => exact .inr hr
    | cons a b => simp at this
  · exact .inl h
theorem ins_nil {rows : Rows} {n m p : Nat} {x : Int} (h : (modRow rows n (ins p x))[m]? = some []) : rows[m]? = some [] := by
  rcases modRow_at h with ⟨rfl, r, hr, e⟩ | h
  · have := congrArg List.length e
    rw [ins_len] at this
    simp at this
  · exact h
theorem Full.insd {rim : Nat} {rows : Rows} {n p : Nat} {x : Int} (h : Full rim rows) : Full rim (modRow rows n (ins p x)) := fun m row hm hr e => by
  subst e
  exact h m [] hm (ins_nil hr) rfl
theorem Full.one {rim : Nat} {rows : Rows} {n m p : Nat} {x d : Int} (h : Full rim rows) (hm : rim ≤ m) (hr : (modRow rows n (ins p x))[m]? = some [d]) : rows[m]? = some [d] := by
  rcases ins_one hr with z | z
  · exact z
  · exact absurd rfl (h m [] hm z)
theorem lone_of {rim E : Nat} {rows rows' : Rows} (hW : WF rows E) (h : Lone rim rows) (h1 : ∀ (m : Nat) d, rim ≤ m → rows'[m]? = some [d] → rows[m]? = some [d] ∨ d = 2 * (E : Int) ∨ d = 2 * (E : Int) + 1)
    (h2 : ∀ m n : Nat, rim ≤ m → rim ≤ n → rows'[m]? = some [2 * (E : Int)] → rows'[n]? = some [2 * (E : Int) + 1] → False) : Lone rim rows' := fun m n d hm hn a b => by
  have old : ∀ {k : Nat} {x : Int}, rows[k]? = some [x] → 0 ≤ x ∧ x < 2 * (E : Int) := fun {k x} z => (hW.mem x).mp (mem_flat.mpr ⟨k, _, z, List.mem_singleton.mpr rfl⟩)
  rcases h1 m d hm a with x | x
  · rcases h1 n (twin d) hn b with y | y
    · exact h m n d hm hn x y
    · have := twin_range (old x)
      omega
  · rcases x with rfl | rfl
    · have e : twin (2 * (E : Int)) = 2 * (E : Int) + 1 := by unfold twin; omega
      rw [e] at b
      exact h2 m n hm hn a b
    · have e : twin (2 * (E : Int) + 1) = 2 * (E : Int) := by unfold twin; omega
      rw [e] at b
      exact h2 n m hn hm b a
theorem Grow.full {rim E : Nat} {rows rows' : Rows} (g : Grow rim E rows rows') (hW : WF rows E) (hrim : rim ≤ rows.length) (h0 : 0 < rim) (hF : Full rim rows) (hL : Lone rim rows) : Full rim rows' ∧ Lone rim rows' := by
  have new : ∀ {k : Nat} {x : Int} {row : List Int}, rows[k]? = some row → x ∈ row → 0 ≤ x ∧ x < 2 * (E : Int) := fun {k x row} z hx => (hW.mem x).mp (mem_flat.mpr ⟨k, _, z, hx⟩)
  have two : ∀ {n1 p1 n2 p2 : Nat} {x y : Int}, Full rim (modRow (modRow rows n1 (ins p1 x)) n2 (ins p2 y)) ∧ Lone rim (modRow (modRow rows n1 (ins p1 x)) n2 (ins p2 y)) := fun {n1 p1 n2 p2 x y} => by
    refine ⟨hF.insd.insd, fun m n d hm hn a b => ?_⟩
    exact hL m n d hm hn (hF.one hm (hF.insd.one hm a)) (hF.one hn (hF.insd.one hn b))
  cases g with
  | rimEdge n o j hn ho hs =>
    have ho2 : o < rim := by rw [ho]; exact Nat.mod_lt _ h0
    have key : ∀ (m : Nat) row, rim ≤ m → (modRow (modRow rows n (ins 0 (2 * (E : Int)))) o (fun row => row ++ [2 * (E : Int) + 1]))[m]? = some row → rows[m]? = some row := fun m row hm h => by
      rcases modRow_at h with ⟨e, _⟩ | h
      · omega
      · rcases modRow_at h with ⟨e, _⟩ | h
        · omega
        · exact h
    exact ⟨fun m row hm h => hF m row hm (key m row hm h), fun m k d hm hk a b => hL m k d hm hk (key m _ hm a) (key k _ hk b)⟩
  | before n hn =>
    have key : ∀ (m : Nat) row, rim ≤ m → ((rows ++ [rows.getD n [] ++ [2 * (E : Int) + 1]]).set n [2 * (E : Int)])[m]? = some row → rows[m]? = some row ∨ row = rows.getD n [] ++ [2 * (E : Int) + 1] := fun m row hm h => by
      rw [List.getElem?_set_ne (by omega)] at h
      rcases at_snoc h with ⟨_, h⟩ | ⟨_, h⟩
      · exact .inl h
      · exact .inr h
    refine ⟨fun m row hm h => ?_, lone_of hW hL (fun m d hm h => ?_) fun m k hm hk a b => ?_⟩
    · rcases key m row hm h with z | z
      · exact hF m row hm z
      · rw [z]; simp
    · rcases key m _ hm h with z | z
      · exact .inl z
      · have e := congrArg List.getLast? z
        rw [List.getLast?_append] at e
        simp at e
        exact .inr (.inr e)
    · rcases key m _ hm a with z | z
      · have := new z (List.mem_singleton.mpr rfl)
        omega
      · have e := congrArg List.getLast? z
        rw [List.getLast?_append] at e
        simp at e
        omega
  | within e he =>
    have hd : (2 * (e : Int) + 1) ∈ rows.flatten := (hW.mem _).mpr (by omega)
    obtain ⟨row0, hr1, hr2⟩ := at_spec hd
    have hl := (List.getElem?_eq_some_iff.mp hr1).1
    have hg : rows.getD (atM rows (2 * (e : Int) + 1)).1 [] = row0 := row_of hr1
    have key : ∀ (m : Nat) row, ((rows ++ [[2 * (e : Int) + 1, 2 * (E : Int)]]).set (atM rows (2 * (e : Int) + 1)).1 ((rows.getD (atM rows (2 * (e : Int) + 1)).1 []).set (atM rows (2 * (e : Int) + 1)).2 (2 * (E : Int) + 1)))[m]? = some row →
        rows[m]? = some row ∨ row = [2 * (e : Int) + 1, 2 * (E : Int)] ∨ (m = (atM rows (2 * (e : Int) + 1)).1 ∧ row = row0.set (atM rows (2 * (e : Int) + 1)).2 (2 * (E : Int) + 1)) := fun m row h => by
      rw [hg] at h
      by_cases z : (atM rows (2 * (e : Int) + 1)).1 = m
      · rw [z, List.getElem?_set_self (by rw [List.length_append]; omega)] at h
        exact .inr (.inr ⟨z.symm, (Option.some.inj h).symm⟩)
      · rw [List.getElem?_set_ne z] at h
        rcases at_snoc h with ⟨_, h⟩ | ⟨_, h⟩
        · exact .inl h
        · exact .inr (.inl h)
    refine ⟨fun m row hm h => ?_, lone_of hW hL (fun m d hm h => ?_) fun m k hm hk a b => ?_⟩
    · rcases key m row h with z | z | ⟨z1, z⟩
      · exact hF m row hm z
      · rw [z]; simp
      · intro e2
        rw [e2] at z
        have := congrArg List.length z
        rw [List.length_set] at this
        have := (List.getElem?_eq_some_iff.mp hr2).1
        simp at *
        omega
    · rcases key m _ h with z | z | ⟨z1, z⟩
      · exact .inl z
      · have := congrArg List.length z
        simp at this
      · refine .inr (.inr ?_)
        have hl2 := (List.getElem?_eq_some_iff.mp hr2).1
        have e1 := congrArg List.length z
        rw [List.length_set, List.length_singleton] at e1
        have e2 : (atM rows (2 * (e : Int) + 1)).2 = 0 := by omega
        rw [e2] at z
        have e3 := congrArg (fun l : List Int => l[0]?) z
        simp only [List.getElem?_cons_zero] at e3
        rw [List.getElem?_set_self (by omega)] at e3
        exact Option.some.inj e3
    · rcases key m _ a with z | z | ⟨z1, z⟩
      · have := new z (List.mem_singleton.mpr rfl)
        omega
      · have := congrArg List.length z
        simp at this
      · have hl2 := (List.getElem?_eq_some_iff.mp hr2).1
        have e3 : (2 * (E : Int)) ∈ row0.set (atM rows (2 * (e : Int) + 1)).2 (2 * (E : Int) + 1) := by rw [← z]; simp
        rcases List.mem_or_eq_of_mem_set e3 with w | w
        · have := new hr1 w
          omega
        · omega
  | beside e he r1 h1 =>
    subst h1
    exact two
  | twig n p hn hp =>
    have hlen : (modRow rows n (ins p (2 * (E : Int)))).length = rows.length := modRow_len
    have key : ∀ (m : Nat) row, (modRow rows n (ins p (2 * (E : Int))) ++ [[2 * (E : Int) + 1]])[m]? = some row → (modRow rows n (ins p (2 * (E : Int))))[m]? = some row ∨ row = [2 * (E : Int) + 1] := fun m row h => by
      rcases at_snoc h with ⟨_, h⟩ | ⟨_, h⟩
      · exact .inl h
      · exact .inr h
    refine ⟨fun m row hm h => ?_, lone_of hW hL (fun m d hm h => ?_) fun m k hm hk a b => ?_⟩
    · rcases key m row h with z | z
      · exact hF.insd m row hm z
      · rw [z]; simp
    · rcases key m _ h with z | z
      · exact .inl (hF.one hm z)
      · exact .inr (.inr (by simpa using z))
    · rcases key m _ a with z | z
      · have := new (hF.one hm z) (List.mem_singleton.mpr rfl)
        omega
      · have : 2 * (E : Int) = 2 * (E : Int) + 1 := by simpa using z
        omega
  | loop n p hn hp => exact two
  | across d x y hd hx hy r1 h1 =>
    subst h1
    exact two
theorem Built.full {rim E : Nat} {rows : Rows} (h : Built rim E rows) (h0 : 0 < rim) : Full rim rows ∧ Lone rim rows := by
  induction h with
  | start =>
    have no : ∀ (m : Nat) row, rim ≤ m → (List.replicate rim ([] : List Int))[m]? = some row → False := fun m row hm h => by
      have := (List.getElem?_eq_some_iff.mp h).1
      rw [List.length_replicate] at this
      omega
    exact ⟨fun m row hm h => (no m row hm h).elim, fun m n d hm hn a b => (no m _ hm a).elim⟩
  | grow hb g ih =>
    obtain ⟨w, l1, l2⟩ := hb.all h0
    exact g.full w l1 h0 ih.1 ih.2
end Rz

set_option maxHeartbeats 4000000
/-! Rules for the program's own modules: a written dict's get, texts with numbers in them, comprehensions within comprehensions, a call of a local name, dict.get with a default. -/
namespace Rz
open PySem PySem.Spec PyProof.Rows L2

/-! ### a written dict by get -/
def KD (K : PySem.W.Frag) (w : World) (p : Addr) : Prop := ∃ es n, KDict K w p es n
def tKGet (K : PySem.W.Frag) (w : World) (td ty : TE) : TE := fun σ H Q => td σ H fun x H1 => ∃ p, x = .ref p ∧ KD K w p ∧ ty σ H1 fun y H2 => ∃ z u v, y = .str z ∧ PySem.W.nsIn K p z = some (some u) ∧ RelV v u ∧ Q v H2
theorem pe_kget1 {X : Cx} {K : PySem.W.Frag} {w : World} {o e : Expr} {apos cpos : Pos} {td ty : TE} (hK : X.K = K) (hw : X.w = w) (ho : PE X o td) (he : PE X e ty) (m : M1 X o "get" apos e cpos) : PE X (.Call (.Attribute o "get" apos) [e] [] cpos) (tKGet K w td ty) := by
  subst hK hw
  refine ⟨fun pins s σ H Q I h => ?_⟩
  refine wpAny_Call_method m.base m.few m.line PySem.F.plainAttrs_dict PySem.F.slot_dict_get PySem.F.type_dict_get (thn (ho.run pins s σ H _ I h) fun u s1 ⟨x, H1, I1, rx, q1⟩ => ?_)
  obtain ⟨p, rfl, ⟨es, n, D⟩, q1⟩ := q1
  obtain rfl : u = Value.ref p := rx
  refine ⟨kd_type D I1, fun b q => ?_, ?_⟩
  · cases q
    exact ⟨_, I1.kIn _ _ D.at_, rfl⟩
  rw [m.trees]
  refine Calls.callWith_builtin rfl (Calls.evalArgs_plain (Calls.spliced_cons (thn (he.run pins s1 σ H1 _ I1 q1) fun iv s2 ⟨y, H2, I2, ry, q2⟩ => Calls.spliced_nil ?_)))
  obtain ⟨z, u, v, rfl, e, rv, q2⟩ := q2
  obtain ⟨t, rfl⟩ := ry
  refine call_meetsIn PySem.F.slot_dict_get (kd_type D I2) PySem.F.entry_dict_get (PySem.F.args_dict_get_2 _ _) (meets_dict_get (strKind X.prog X.w) p (strKind_is X.prog X.w z t) D.low) ⟨_, PySem.W.mapOf_K (prog := X.prog) I2.kIn D.at_ D.lit, ?_⟩
  rw [PySem.W.find_K D.at_ e]
  exact ⟨v, H2, I2.tok _, rv, q2⟩
theorem g_kget {K : PySem.W.Frag} {w : World} {td ty : TE} {σ : L2.St} {H : Hp} {Q : VK} (h : td σ H fun x H1 => ∃ p, x = .ref p ∧ KD K w p ∧ ty σ H1 fun y H2 => ∃ z u v, y = .str z ∧ PySem.W.nsIn K p z = some (some u) ∧ RelV v u ∧ Q v H2) : tKGet K w td ty σ H Q := h

/-! ### texts with numbers in them -/
theorem str_len_app (a b : Str) : (a ++ b).length = a.length + b.length := by
  show (a.cps ++ b.cps).size = _
  rw [Array.size_append]
  rfl
theorem int_text_le {i : Int} (h : i.natAbs < 2 ^ 60) : (toString i : Str).length ≤ 100 := by
  have h2 : i.natAbs.log2 < 60 := by
    by_cases z : i.natAbs = 0
    · rw [z]; decide
    · exact (Nat.log2_lt z).mpr h
  have := int_text_length_le (k := 60) (by decide) h2
  show (Str.ofString (toString i)).length ≤ 100
  rw [PySem.ofString_length]
  omega
section
variable {σ : L2.St} {H : Hp} {acc s : Str} {ts : List TE} {Q : Str → Hp → Prop} {n m : Nat} {i : Int}
/-- the text so far has at most m signs -/
theorem g_jsC (hl : acc.length ≤ m) (hs : s.length ≤ 1000) (hm : m ≤ 1000000) (h : (acc ++ s).length ≤ m + 1000 → tJs ts (acc ++ s) σ H Q) : tJs (tC (.str s) :: ts) acc σ H Q := by
  have e := str_len_app acc s
  exact ⟨s, rfl, by rw [sizeLine_eq]; omega, h (by omega)⟩
theorem g_jsI (hσ : σ[n]? = some (some (.int i))) (hi : i.natAbs < 2 ^ 60) (hl : acc.length ≤ m) (hm : m ≤ 1000000) (h : (acc ++ (toString i : Str)).length ≤ m + 1000 → tJs ts (acc ++ (toString i : Str)) σ H Q) : tJs (tFmt (tVar n) :: ts) acc σ H Q := by
  have e := str_len_app acc (toString i : Str)
  have e2 := int_text_le hi
  have h2 : i.natAbs.log2 < 1920 := by
    by_cases z : i.natAbs = 0
    · rw [z]; decide
    · exact Nat.lt_trans ((Nat.log2_lt z).mpr hi) (by decide)
  exact ⟨.int i, hσ, .inr ⟨i, rfl, h2, _, rfl, by rw [sizeLine_eq]; omega, h (by omega)⟩⟩
/-- the first part -/
theorem g_js0 {R : Str → Prop} (hs : s.length ≤ 1000) (h : (Str.empty ++ s).length ≤ 1000 → R s) : ∃ y : Str, V.str s = .str y ∧ (Str.empty ++ y).length ≤ sizeLine ∧ R y := by
  have e := str_len_app Str.empty s
  have e0 : Str.empty.length = 0 := rfl
  exact ⟨s, rfl, by rw [sizeLine_eq]; omega, h (by omega)⟩
theorem g_jsN (h : Q acc H) : tJs [] acc σ H Q := h
end

/-! ### a comprehension within a comprehension -/
theorem lookup_relab {env : Env} : ∀ {names : List (Str × NameKind)} {x : Str}, names.lookup x = some .cell ∨ names.lookup x = some .free →
    (names.map fun (n, k) => if (k == NameKind.free && env.scope.kind == .function && env.kindOf n == some .cell) then (n, NameKind.cell) else (n, k)).lookup x = some .cell ∨
    (names.map fun (n, k) => if (k == NameKind.free && env.scope.kind == .function && env.kindOf n == some .cell) then (n, NameKind.cell) else (n, k)).lookup x = some .free
  | [], _, h => by simp at h
  | (n, k) :: r, x, h => by
    have ih := @lookup_relab env r x
    show List.lookup x ((if (k == NameKind.free && env.scope.kind == .function && env.kindOf n == some .cell) = true then (n, NameKind.cell) else (n, k)) :: _) = _ ∨ List.lookup x ((if (k == NameKind.free && env.scope.kind == .function && env.kindOf n == some .cell) = true then (n, NameKind.cell) else (n, k)) :: _) = _
    cases hx : x == n with
    | true =>
      simp only [List.lookup_cons, hx] at h
      by_cases hc : (k == NameKind.free && env.scope.kind == .function && env.kindOf n == some .cell) = true
      · rw [if_pos hc]
        simp only [List.lookup_cons, hx]
        exact .inl trivial
      · rw [if_neg hc]
        simp only [List.lookup_cons, hx]
        exact h
    | false =>
      simp only [List.lookup_cons, hx] at h
      by_cases hc : (k == NameKind.free && env.scope.kind == .function && env.kindOf n == some .cell) = true
      · rw [if_pos hc]; simp only [List.lookup_cons, hx]; exact ih h
      · rw [if_neg hc]; simp only [List.lookup_cons, hx]; exact ih h
theorem blkIn {X : Cx} {s : Shared} {H : Hp} {sc0 scope : Scope} {cl : List (Str × Addr)} {C : Addr} {fp : List Addr} {own : List (Str × Nat)} {N : List Str} (hN : (X.blk s H sc0 (compEnvC sc0 cl C X.env) fp).N = N) (h : BlkOk N sc0 scope own) :
    BlkOk (X.blk s H sc0 (compEnvC sc0 cl C X.env) fp).N (X.blk s H sc0 (compEnvC sc0 cl C X.env) fp).env.scope scope own := by
  subst hN
  exact ⟨h.kind, h.uniq, h.ix, fun y hy e => lookup_relab (h.free y hy e), h.own⟩

/-! ### dict.get with a default -/
def rDGet2 : V → V → V → Hp → VK → Prop := fun x y z H Q => ∃ a o, x = .ref a ∧ DGet H a y o ∧ Q (o.getD z) H
theorem g_dget2 {td ty tx : TE} {σ : L2.St} {H : Hp} {Q : VK} (h : td σ H fun x H1 => ∃ a, x = .ref a ∧ IsD H1 a ∧ ty σ H1 fun y H2 => tx σ H2 fun z H3 => ∃ o, DGet H3 a y o ∧ Q (o.getD z) H3) : tDGet2 td ty tx σ H Q := h
theorem isD_of {H : Hp} {a : Addr} {kvs : List (Key × V)} (h : H a = some (.dK kvs)) : IsD H a := .inl ⟨kvs, .inl h⟩
theorem dget_of {H : Hp} {a : Addr} {kvs : List (Key × V)} {d : Int} (h : H a = some (.dK kvs)) : DGet H a (.int d) (valV kvs (.inl d)) := .inl ⟨kvs, .inl d, .inl h, rfl, rfl⟩
/-! ### a call of a local name that holds a def of the program, what is raised wished for -/
theorem g_callL {i : Nat} {f : Addr} {sp : Sp} {dvs : List V} {E : XK} {tas : TA} {σ : L2.St} {H : Hp} {Q : VK} (e : σ[i]? = some (some (.ref f))) (h : tas σ H fun vs H1 => sp (vs ++ dvs) H1 Q E) : tCallL i f sp dvs E tas σ H Q := ⟨e, h⟩
end Rz
namespace Rz
open PySem PySem.Spec PyProof.Rows L2
def spHomes (K : PySem.W.Frag) : Sp := fun vs H Q _ => ∃ (v : V) (rim : Nat) (rows : Rows) (qs : List Rat) (E : Nat), vs = [v] ∧ NetV K H v rim rows qs ∧ WF rows E ∧ E ≤ 100 ∧ rows.length ≤ 1000 ∧
  ∀ D kvs H', Same H H' → H D = none → H' D = some (.dK kvs) → Home kvs rows (fun _ => True) → kvs.length ≤ 300000 → Q (.ref D) H'
/-- is there an edge k -/
def spCheckE (K : PySem.W.Frag) (C : Addr) : Sp := fun vs H Q E => ∃ (v : V) (e : Int) (rim : Nat) (rows : Rows) (qs : List Rat), vs = [v, .int e] ∧ NetV K H v rim rows qs ∧ e.natAbs < 2 ^ 60 ∧
  (¬ (0 ≤ e ∧ e < (qs.length : Int)) → E (.ref C) none H) ∧ (0 ≤ e → e < (qs.length : Int) → Q .non H)
def spFallen : Sp := fun vs H Q _ => ∃ d e : Int, vs = [.int d, .int e] ∧ Q (.int (if d / 2 > e then d - 2 else d)) H
end Rz
namespace Rz
open PySem PySem.Spec PyProof.Rows L2
/-- [.. for turn in turns], its items tuples -/
theorem turns_lc {K : PySem.W.Frag} {σ : L2.St} {H : Hp} {vs : List Nat} {i₀ : Nat} {Q : VK} {te : TE} {t : Addr} {ts : List Addr} {rows : Rows} (f : List Int → List Int) (hN : TurnsAt K H t ts rows) (hb : rows.length ≤ 100000) (hw : ∀ x, wipe ((wipe σ vs).set i₀ (some x)) vs = wipe σ vs)
    (hs : ∀ (i : Nat) r H' (Q2 : VK), rows[i]? = some (rows.getD i []) → Same H H' → SqT K H' r ((rows.getD i []).map V.int) → (∀ u H'', Same H' H'' → SqT K H'' u ((f (rows.getD i [])).map V.int) → Q2 (.ref u) H'') → te ((wipe σ vs).set i₀ (some (.ref r))) H' Q2)
    (q : ∀ l us H', Same H H' → H l = none → H' l = some (.lst (us.map V.ref)) → TsL K H' us (rows.map f) → Q (.ref l) H') : rItT K (lcW (gName i₀) tYes te vs σ Q) (.ref t) H := by
  refine g_lcTup hN.top (fun l i acc H' => Same H H' ∧ H' l = some (.lst acc) ∧ ∃ us : List Addr, acc = us.map V.ref ∧ TsL K H' us ((rows.take i).map f)) hw
    (fun l hl => ⟨up_same hl, upd_same, [], rfl, ⟨rfl, fun i r row z => by simp at z⟩⟩) (fun l i acc H' _ h => Same.sqt h.1 hN.top) ?_ ?_
  · rintro l i x acc H1 hl hx ⟨sm, el, us, rfl, hT⟩
    obtain ⟨r, rfl, hri, hr1⟩ := (hN.same sm).get hx
    have hil := (List.getElem?_eq_some_iff.mp hri).1
    refine hs i r H1 _ hri sm hr1 fun u H2 s2 hu => ?_
    have el2 := s2 _ _ el
    have e5 : (rows.take (i + 1)).map f = (rows.take i).map f ++ [f (rows.getD i [])] := by
      rw [List.take_succ, hri, List.map_append]
      rfl
    refine lcN_of el2 (by rw [List.length_map, hT.len, List.length_map, List.length_take]; omega) ⟨fun b o h => ?_, upd_same, us ++ [u], by rw [List.map_append]; rfl, ?_⟩
    · rw [upd_ne (ne_of_none h hl)]
      exact s2 _ _ (sm _ _ h)
    · rw [e5]
      refine TsL.updL (TsL.app (hT.same s2) ⟨rfl, fun j r' row a b => ?_⟩) el2
      cases j with
      | zero =>
        cases a
        cases b
        exact hu
      | succ j => simp at a
  · rintro l acc H1 hl ⟨sm, el, us, rfl, hT⟩
    rw [List.length_map, hN.len, List.take_length] at hT
    exact q l us H1 sm hl el hT
/-! ### a walk over the ends of an edge that are loose -/
theorem loose_first {rim En n : Nat} {rows : Rows} {e : Nat} (hW : WF rows En) (hL : Lone rim rows) (he : e < En) (h1 : rim ≤ n) (h2 : (rows.getD n []).length = 1) {d : Int} (hd : d = 2 * (e : Int) ∨ d = 2 * (e : Int) + 1) (hn : (atM rows d).1 = n) : looseAt rows rim (e : Int) = some n := by
  have hdm : d ∈ rows.flatten := (hW.mem d).mpr (by omega)
  obtain ⟨row, ha, hb⟩ := at_spec hdm
  rw [hn] at ha
  have hrow := row_of ha
  rw [hrow] at h2
  obtain ⟨x, rfl⟩ : ∃ x, row = [x] := by
    match row, h2 with
    | [x], _ => exact ⟨x, rfl⟩
  have hx : d ∈ [x] := List.mem_of_getElem? hb
  rw [List.mem_singleton.mp hx] at hd
  have hnl := (List.getElem?_eq_some_iff.mp ha).1
  unfold looseAt
  refine find_first hnl (decide_eq_true ⟨h1, by rw [hrow]; rfl, by rw [hrow]; show x / 2 = _; omega⟩) fun j hj => decide_eq_false ?_
  rintro ⟨j1, j2, j3⟩
  have hjl : j < rows.length := by omega
  have hjr : rows[j]? = some (rows.getD j []) := by rw [List.getD_eq_getElem?_getD, List.getElem?_eq_getElem hjl]; rfl
  obtain ⟨y, hy⟩ : ∃ y, rows.getD j [] = [y] := by
    match hq : rows.getD j [], j2 with
    | [y], _ => exact ⟨y, rfl⟩
  rw [hy] at hjr j3
  have j4 : y / 2 = (e : Int) := j3
  by_cases z : y = x
  · subst z
    have := (place_inj hW.nd hjr (i := 0) rfl ha (i' := 0) rfl).1
    omega
  · have : y = twin x := by unfold twin; omega
    subst this
    exact hL n j x h1 j1 ha hjr
theorem loose_none {rim En : Nat} {rows : Rows} {e : Nat} (hW : WF rows En) (h : ∀ d : Int, d = 2 * (e : Int) ∨ d = 2 * (e : Int) + 1 → ¬ (rim ≤ (atM rows d).1 ∧ (rows.getD (atM rows d).1 []).length = 1)) : looseAt rows rim (e : Int) = none := by
  unfold looseAt
  refine find_none fun j hj => decide_eq_false ?_
  rintro ⟨j1, j2, j3⟩
  have hjr : rows[j]? = some (rows.getD j []) := by rw [List.getD_eq_getElem?_getD, List.getElem?_eq_getElem hj]; rfl
  obtain ⟨y, hy⟩ : ∃ y, rows.getD j [] = [y] := by
    match hq : rows.getD j [], j2 with
    | [y], _ => exact ⟨y, rfl⟩
  rw [hy] at hjr j3
  have j4 : y / 2 = (e : Int) := j3
  have e1 := at_of hW.nd hjr (i := 0) rfl
  exact h y (by omega) ⟨by rw [e1]; exact j1, by rw [e1, hy]; rfl⟩
def isLoop (mv : Mv) : Prop := (∃ k, mv = .loop k) ∧ mv.small
def isLoose (mv : Mv) : Prop := (∃ k, mv = .loose k) ∧ mv.small
end Rz

set_option maxHeartbeats 4000000
/-! Rules for the program's moves: comprehensions over enumerate of a tuple, of two clauses, displayed dicts; nets with other amounts, with other darts. -/
namespace Rz
open PySem PySem.Spec PyProof.Rows L2
section
variable {K : PySem.W.Frag} {σ : L2.St} {H : Hp} {g g1 : TG} {ta : TA} {tl tl1 te : TE} {tt tt1 : TT} {vs vs1 : List Nat} {Q : VK} {wi1 : TI}
theorem g_lcEnT (h : ta σ H (rEnT K 0 (lcW g tt te vs σ Q))) : tLc (iEnT K ta) g tt te vs σ H Q := h
theorem lc_enT {a : Addr} {xs : List V} (h : SqT K H a xs) (Pv : Addr → Nat → List V → Hp → Prop) (h0 : ∀ p, H p = none → Pv p 0 [] (upd H p (.lst []))) (hl : ∀ p i acc H', H p = none → Pv p i acc H' → SqT K H' a xs)
    (hs : ∀ p i x T acc H', H p = none → xs[i]? = some x → Pv p i acc H' → H' T = none → g (.ref T) (wipe σ vs) (upd H' T (.tup [.int (i : Nat), x])) fun σ2 H2 => wipe σ2 vs = wipe σ vs ∧ te σ2 H2 (lcN (Pv p) p i))
    (hd : ∀ p acc H', H p = none → Pv p xs.length acc H' → Q (.ref p) H') : rEnT K 0 (lcW g tYes te vs σ Q) [.ref a] H := by
  refine ⟨a, rfl, ⟨xs, h⟩, fun p hp => ⟨fun i m H' => m = xs.length - i ∧ i ≤ xs.length ∧ ∃ acc, Pv p i acc H', ⟨_, rfl, Nat.zero_le _, [], h0 p hp⟩, fun i m H' hw => ?_⟩⟩
  obtain ⟨rfl, hi, acc, pv⟩ := hw
  have q := hl p i acc H' hp pv
  rcases Nat.lt_or_eq_of_le hi with hlt | heq
  · refine .inr ⟨⟨xs, xs[i], q, List.getElem?_eq_getElem hlt⟩, fun H2 => ∃ acc2, Pv p (i + 1) acc2 H2, fun H2 p2 => ⟨xs.length - (i + 1), by omega, rfl, hlt, p2⟩, fun v H2 y => ?_⟩
    obtain ⟨T, x, rfl, hT, rfl, y⟩ := y
    have := hs p i x T acc _ hp (y xs q) pv hT
    rw [show (0 : Int) + (i : Int) = (i : Int) by omega]
    exact this
  · subst heq
    exact .inl ⟨⟨xs, q, rfl⟩, hd p acc H' hp pv⟩
/-- two clauses -/
def lc2W (g : TG) (tt : TT) (wi1 : TI) (g1 : TG) (tt1 : TT) (te : TE) (vs vs1 : List Nat) (σ : L2.St) (Q : VK) : It → Hp → Prop := fun J H1 => ∀ D, H1 D = none → ∃ W : Nat → Nat → Hp → Prop, (∃ m, W 0 m (upd H1 D (.lst []))) ∧ ∀ i m H, W i m H →
  (J.stop i H ∧ Q (.ref D) H) ∨ (J.go i H ∧ ∃ Nx : Hp → Prop, (∀ H', Nx H' → ∃ m', m' < m ∧ W (i + 1) m' H') ∧ ∀ x H', J.yld i H x H' → g x (wipe σ vs) H' fun σ2 H2 => wipe σ2 vs = wipe σ vs ∧ tt σ2 H2 fun b H3 =>
    if b = true then wi1 σ2 H3 fun J1 H4 => ∃ W1 : Nat → Nat → Hp → Prop, (∃ m, W1 0 m H4) ∧ ∀ j k H, W1 j k H →
      (J1.stop j H ∧ Nx H) ∨ (J1.go j H ∧ ∃ Nx1 : Hp → Prop, (∀ H', Nx1 H' → ∃ k', k' < k ∧ W1 (j + 1) k' H') ∧ ∀ x H', J1.yld j H x H' → g1 x (wipe σ2 vs1) H' fun σ3 H5 => wipe σ3 vs1 = wipe σ2 vs1 ∧ tt1 σ3 H5 fun b H6 =>
        if b = true then te σ3 H6 fun y H7 => ∃ acc, H7 D = some (.lst acc) ∧ acc.length < sizeLine ∧ Nx1 (upd H7 D (.lst (acc ++ [y]))) else Nx1 H6)
    else Nx H3)
theorem g_lc2T (h : tl σ H (rItT K (lc2W g tt wi1 g1 tt1 te vs vs1 σ Q))) : tLc2 (iTup K tl) g tt wi1 g1 tt1 te vs vs1 σ H Q := h
/-- [y for x in row for y in f(x)] -/
theorem flat_lc2 {i0 i1 : Nat} {a : Addr} {row : List Int} (f : Int → List Int) (h : SqT K H a (row.map V.int)) (hlen : (row.flatMap f).length ≤ 1000000) (hw0 : ∀ x, wipe ((wipe σ vs).set i0 (some x)) vs = wipe σ vs)
    (hw1 : ∀ x y, wipe ((wipe ((wipe σ vs).set i0 (some x)) vs1).set i1 (some y)) vs1 = wipe ((wipe σ vs).set i0 (some x)) vs1) (hv : ∀ x y, ((wipe ((wipe σ vs).set i0 (some x)) vs1).set i1 (some y))[i1]? = some (some y))
    (hin : ∀ (j : Nat) d H' (Q2 : VK), row[j]? = some d → Same H H' → (∀ b H'', Same H' H'' → SqT K H'' b ((f d).map V.int) → Q2 (.ref b) H'') → tl1 ((wipe σ vs).set i0 (some (.int d))) H' Q2)
    (q : ∀ l H', Same H H' → H l = none → H' l = some (.lst ((row.flatMap f).map V.int)) → Q (.ref l) H') : rItT K (lc2W (gName i0) tYes (iTup K tl1) (gName i1) tYes (tVar i1) vs vs1 σ Q) (.ref a) H := by
  have pre : ∀ i, ((row.take i).flatMap f).length ≤ (row.flatMap f).length := fun i => by
    have e : row.flatMap f = (row.take i).flatMap f ++ (row.drop i).flatMap f := by rw [← List.flatMap_append, List.take_append_drop]
    rw [e, List.length_append]
    omega
  refine ⟨a, rfl, ⟨_, h⟩, fun D hD => ⟨fun i m H' => m = row.length - i ∧ i ≤ row.length ∧ Same H H' ∧ H' D = some (.lst (((row.take i).flatMap f).map V.int)), ⟨_, rfl, Nat.zero_le _, up_same hD, upd_same⟩, fun i m H' hw => ?_⟩⟩
  obtain ⟨rfl, hi, sm, eD⟩ := hw
  have hq := Same.sqt sm h
  rcases Nat.lt_or_eq_of_le hi with hlt | heq
  · have hri : row[i]? = some row[i] := List.getElem?_eq_getElem hlt
    have hmi : (row.map V.int)[i]? = some (.int row[i]) := by rw [List.getElem?_map, hri]; rfl
    refine .inr ⟨⟨_, .int row[i], hq, hmi⟩, fun H2 => Same H H2 ∧ H2 D = some (.lst (((row.take (i + 1)).flatMap f).map V.int)), fun H2 p2 => ⟨row.length - (i + 1), by omega, rfl, hlt, p2.1, p2.2⟩, fun x H2 y => ?_⟩
    obtain ⟨rfl, y⟩ := y
    have y2 := y _ hq
    rw [hmi] at y2
    obtain rfl := Option.some.inj y2
    refine ⟨hw0 _, ?_⟩
    show tl1 _ _ _
    refine hin i row[i] _ _ hri sm fun b H3 s3 hb => ?_
    have etk : (row.take (i + 1)).flatMap f = (row.take i).flatMap f ++ f row[i] := by
      rw [List.take_succ, hri, List.flatMap_append]
      congr 1
      show (f row[i] ++ []) = f row[i]
      rw [List.append_nil]
    have hle := pre (i + 1)
    rw [etk, List.length_append] at hle
    refine ⟨b, rfl, ⟨_, hb⟩, fun j k H4 => k = (f row[i]).length - j ∧ j ≤ (f row[i]).length ∧ Same H H4 ∧ SqT K H4 b ((f row[i]).map V.int) ∧ H4 D = some (.lst (((row.take i).flatMap f ++ (f row[i]).take j).map V.int)), ⟨_, rfl, Nat.zero_le _, sm.trans s3, hb, by rw [List.take_zero, List.append_nil]; exact s3 _ _ eD⟩, fun j k H4 hw4 => ?_⟩
    obtain ⟨rfl, hj, sm4, hb4, eD4⟩ := hw4
    rcases Nat.lt_or_eq_of_le hj with hlt2 | heq2
    · have hrj : (f row[i])[j]? = some (f row[i])[j] := List.getElem?_eq_getElem hlt2
      have hmj : ((f row[i]).map V.int)[j]? = some (.int (f row[i])[j]) := by rw [List.getElem?_map, hrj]; rfl
      refine .inr ⟨⟨_, .int (f row[i])[j], hb4, hmj⟩, fun H5 => Same H H5 ∧ SqT K H5 b ((f row[i]).map V.int) ∧ H5 D = some (.lst (((row.take i).flatMap f ++ (f row[i]).take (j + 1)).map V.int)), fun H5 p5 => ⟨(f row[i]).length - (j + 1), by omega, rfl, hlt2, p5.1, p5.2.1, p5.2.2⟩, fun x H5 y => ?_⟩
      obtain ⟨rfl, y⟩ := y
      have y2 := y _ hb4
      rw [hmj] at y2
      obtain rfl := Option.some.inj y2
      refine ⟨hw1 _ _, ?_⟩
      unfold tYes
      dsimp only
      rw [if_pos rfl]
      refine ⟨_, hv _ _, _, eD4, ?_, fun c o e => ?_, ?_, ?_⟩
      · rw [List.length_map, List.length_append, List.length_take, sizeLine_eq]
        omega
      · rw [upd_ne (ne_of_none e hD)]
        exact sm4 _ _ e
      · exact Kp.sqt Kp.upd eD4 hb4
      · rw [upd_same, show (f row[i]).take (j + 1) = (f row[i]).take j ++ [(f row[i])[j]] by rw [List.take_succ, hrj]; rfl, ← List.append_assoc, List.map_append (l₂ := [_])]
        rfl
    · refine .inl ⟨⟨_, hb4, by rw [List.length_map, heq2]; exact Nat.le_refl _⟩, sm4, ?_⟩
      rw [etk, eD4, heq2, List.take_length]
  · subst heq
    refine .inl ⟨⟨_, hq, by rw [List.length_map]; exact Nat.le_refl _⟩, q D H' sm hD ?_⟩
    rw [eD, List.take_length]
end
/-! ### other amounts, other darts -/
def ovr (g : Nat → Option Rat) (qs : List Rat) : List Rat := (List.range qs.length).map fun j => (g j).getD (qs.getD j 0)
def AmD (K : PySem.W.Frag) (H : Hp) (kvs : List (Key × V)) (g : Nat → Option Rat) (n : Nat) : Prop := ∀ j : Nat, j < n → match g j with
  | none => valV kvs (.inl (j : Int)) = none
  | some q => ∃ x, valV kvs (.inl (j : Int)) = some x ∧ RatV K H x q
theorem AmD.same {K : PySem.W.Frag} {H H' : Hp} {kvs : List (Key × V)} {g : Nat → Option Rat} {n : Nat} (h : AmD K H kvs g n) (e : Same H H') : AmD K H' kvs g n := fun j hj => by
  have := h j hj
  cases hg : g j with
  | none => rw [hg] at this; exact this
  | some q =>
    rw [hg] at this
    obtain ⟨x, a, b⟩ := this
    exact ⟨x, a, b.same e⟩
def spWithA (K : PySem.W.Frag) : Sp := fun vs H Q _ => ∃ (v : V) (D : Addr) (kvs : List (Key × V)) (g : Nat → Option Rat) (rim : Nat) (rows : Rows) (qs : List Rat), vs = [v, .ref D] ∧ NetV K H v rim rows qs ∧ H D = some (.dK kvs) ∧ AmD K H kvs g qs.length ∧ qs.length ≤ 1000 ∧
  ∀ v' H', Same H H' → NetV K H' v' rim rows (ovr g qs) → Q v' H'
def DaD (K : PySem.W.Frag) (H : Hp) (kvs : List (Key × V)) (c : Int → Option (List Int)) (rows : Rows) : Prop := ∀ d ∈ rows.flatten, match c d with
  | none => valV kvs (.inl d) = none
  | some ns => ∃ p, valV kvs (.inl d) = some (.ref p) ∧ SqT K H p (ns.map V.int)
def spWithD (K : PySem.W.Frag) : Sp := fun vs H Q _ => ∃ (v : V) (D : Addr) (kvs : List (Key × V)) (c : Int → Option (List Int)) (rim : Nat) (rows : Rows) (qs : List Rat), vs = [v, .ref D] ∧ NetV K H v rim rows qs ∧ H D = some (.dK kvs) ∧ DaD K H kvs c rows ∧ rows.length ≤ 1000 ∧ (∀ row ∈ rows, row.length ≤ 1000) ∧ (∀ d ns, c d = some ns → ns.length ≤ 100) ∧
  ∀ v' H', Same H H' → NetV K H' v' rim (rows.map fun row => row.flatMap fun d => (c d).getD [d]) qs → Q v' H'
theorem ovr_len {g : Nat → Option Rat} {qs : List Rat} : (ovr g qs).length = qs.length := by
  unfold ovr
  rw [List.length_map, List.length_range]
theorem ovr_at {g : Nat → Option Rat} {qs : List Rat} {j : Nat} (h : j < qs.length) : (ovr g qs)[j]? = some ((g j).getD (qs.getD j 0)) := by
  unfold ovr
  rw [List.getElem?_map, List.getElem?_range h]
  rfl
theorem ovr_one {qs : List Rat} {a : Nat} {q : Rat} (h : a < qs.length) : ovr (fun j => if j = a then some q else none) qs = qs.take a ++ [q] ++ qs.drop (a + 1) := by
  refine List.ext_getElem? fun j => ?_
  by_cases hj : j < qs.length
  · rw [ovr_at hj]
    have hq : qs.getD j 0 = qs[j] := by rw [List.getD_eq_getElem?_getD, List.getElem?_eq_getElem hj]; rfl
    rw [hq]
    rcases Nat.lt_trichotomy j a with z | z | z
    · rw [if_neg (by omega), List.append_assoc, List.getElem?_append_left (by rw [List.length_take]; omega), List.getElem?_take, if_pos z, List.getElem?_eq_getElem hj]
      rfl
    · subst z
      rw [if_pos rfl, List.append_assoc, List.getElem?_append_right (by rw [List.length_take]; omega), List.length_take, show j - min j qs.length = 0 by omega]
      rfl
    · rw [if_neg (by omega), List.getElem?_append_right (by rw [List.length_append, List.length_take]; show min a qs.length + 1 ≤ j; omega), List.getElem?_drop, List.length_append, List.length_take]
      rw [show a + 1 + (j - (min a qs.length + [q].length)) = j by show a + 1 + (j - (min a qs.length + 1)) = j; omega, List.getElem?_eq_getElem hj]
      rfl
  · rw [List.getElem?_eq_none (by rw [ovr_len]; omega), List.getElem?_eq_none]
    rw [List.length_append, List.length_append, List.length_take, List.length_drop]
    show min a qs.length + 1 + _ ≤ _
    omega
/-- a dict displayed with one entry -/
theorem g_disp1 {σ : L2.St} {H : Hp} {Q : VK} {tk tv : TE} {d : Int} {x : V} (hk : ∀ (H' : Hp) (Q2 : VK), Q2 (.int d) H' → tk σ H' Q2) (hv : ∀ (H' : Hp) (Q2 : VK), Q2 x H' → tv σ H' Q2) (q : ∀ p, H p = none → Q (.ref p) (upd H p (.dK [(.inl d, x)]))) : tDisp [(tk, tv)] σ H Q := by
  intro p hp
  refine hk _ _ (hv _ _ ?_)
  refine ⟨upd_same, [(.inl d, x)], rfl, by show 1 ≤ 15; decide, ?_⟩
  have e : upd (upd H p (.dK [])) p (.dK (mergeK [] [(.inl d, x)])) = upd H p (.dK [(.inl d, x)]) := by
    funext b
    by_cases z : b = p
    · subst z
      rw [upd_same, upd_same]
      rfl
    · rw [upd_ne z, upd_ne z, upd_ne z]
  rw [e]
  exact q p hp
end Rz

set_option maxHeartbeats 4000000
/-! Darts put in the place of a dart: by a swap in one row, by a table over all rows. -/
namespace Rz
open PySem PySem.Spec PyProof.Rows L2
theorem flat_same {f : Int → List Int} : ∀ {row : List Int}, (∀ x ∈ row, f x = [x]) → row.flatMap f = row
  | [], _ => rfl
  | x :: row, h => by
    rw [List.flatMap_cons, h x List.mem_cons_self, flat_same fun y hy => h y (List.mem_cons_of_mem _ hy)]
    rfl
theorem swap_flat {f : Int → List Int} {d : Int} {ns : List Int} : ∀ {row : List Int}, row.Nodup → d ∈ row → f d = ns → (∀ x ∈ row, x ≠ d → f x = [x]) → row.flatMap f = swapR row d ns
  | [], _, hm, _, _ => nomatch hm
  | x :: row, nd, hm, hd, ho => by
    obtain ⟨n1, n2⟩ := List.nodup_cons.mp nd
    unfold swapR
    by_cases e : x = d
    · subst e
      rw [List.flatMap_cons, hd, flat_same fun y hy => ho y (List.mem_cons_of_mem _ hy) (fun z => n1 (z ▸ hy)), List.idxOf_cons_self]
      rfl
    · have hm2 : d ∈ row := by
        rcases List.mem_cons.mp hm with z | z
        · exact absurd z.symm e
        · exact z
      have ih := swap_flat n2 hm2 hd fun y hy => ho y (List.mem_cons_of_mem _ hy)
      rw [List.flatMap_cons, ho x List.mem_cons_self e, ih, List.idxOf_cons, beq_eq_false_iff_ne.mpr e]
      rfl
theorem dropE_app (e : Nat) (a b : Rows) : dropE e (a ++ b) = dropE e a ++ dropE e b := List.map_append
theorem dropE_take (e n : Nat) (a : Rows) : dropE e (a.take n) = (dropE e a).take n := by unfold dropE; rw [List.map_take]
theorem dropE_drop (e n : Nat) (a : Rows) : dropE e (a.drop n) = (dropE e a).drop n := by unfold dropE; rw [List.map_drop]
/-- a row is left out: the others are alike -/
theorem cut_ext {a b : Rows} {n : Nat} (hl : a.length = b.length) (h : ∀ i, i ≠ n → a[i]? = b[i]?) : a.take n ++ a.drop (n + 1) = b.take n ++ b.drop (n + 1) := by
  congr 1
  · refine List.ext_getElem? fun i => ?_
    rw [List.getElem?_take, List.getElem?_take]
    by_cases z : i < n
    · rw [if_pos z, if_pos z, h i (by omega)]
    · rw [if_neg z, if_neg z]
  · refine List.ext_getElem? fun i => ?_
    rw [List.getElem?_drop, List.getElem?_drop, h _ (by omega)]
theorem nodup_row {rows : Rows} (nd : rows.flatten.Nodup) {row : List Int} (h : row ∈ rows) : row.Nodup := (List.pairwise_flatten.mp nd).1 row h
section
variable {σ : L2.St} {H : Hp} {tk tv : TE} {r : List (TE × TE)} {Q : List (V × V) → Hp → Prop}
theorem g_pair (h : tk σ H fun y H1 => tv σ H1 fun z H2 => tPairs r σ H2 fun ps H3 => Q ((y, z) :: ps) H3) : tPairs ((tk, tv) :: r) σ H Q := h
theorem g_pair0 (h : Q [] H) : tPairs [] σ H Q := h
end
/-- a displayed dict: its pairs, then the dict -/
theorem g_disp {σ : L2.St} {H : Hp} {Q : VK} {trs : List (TE × TE)} (h : ∀ p, H p = none → tPairs trs σ (upd H p (.dK [])) fun ps H2 => H2 p = some (.dK []) ∧ ∃ kvs : List (Key × V), ps = kvs.map (fun kv => (kV kv.1, kv.2)) ∧ kvs.length ≤ 15 ∧ Q (.ref p) (upd H2 p (.dK (mergeK [] kvs)))) : tDisp trs σ H Q := h
theorem valV_one {k j : Key} {x : V} : valV [(k, x)] j = if j = k then some x else none := by
  have := valV_put (κ := Key) [] k j x
  rw [valV_nil] at this
  exact this
/-- the turn of an inner node with m darts -/
def spInner (K : PySem.W.Frag) (C : Addr) : Sp := fun vs H Q E => ∃ (v : V) (n m : Int) (rim : Nat) (rows : Rows) (qs : List Rat), vs = [v, .int n, .int m] ∧ NetV K H v rim rows qs ∧ n.natAbs < 2 ^ 60 ∧ m.natAbs < 2 ^ 60 ∧
  (¬ ((rim : Int) < n ∧ n ≤ (rows.length : Int) ∧ ((rows.getD (n - 1).toNat []).length : Int) = m) → E (.ref C) none H) ∧
  ((rim : Int) < n → n ≤ (rows.length : Int) → ((rows.getD (n - 1).toNat []).length : Int) = m → ∀ r, SqT K H r ((rows.getD (n - 1).toNat []).map V.int) → Q (.ref r) H)
theorem lo_hi (a b : Int) : (lo2 a b = a ∧ hi2 a b = b) ∨ (lo2 a b = b ∧ hi2 a b = a) := by
  unfold lo2 hi2
  split
  · exact .inr ⟨rfl, rfl⟩
  · exact .inl ⟨rfl, rfl⟩
end Rz

set_option maxHeartbeats 4000000
/-! How many different numbers: len({a, b, ..}), len(set(list)). -/
namespace Rz
open PySem PySem.Spec PyProof.Rows L2
/-- the rules for a def, and the code object that it carries -/
theorem okXc {P : Program} {w : World} {K : PySem.W.Frag} {mg : Str → Option Value} {base : Heap} {x qual : Str} {st : Stmt} {f : Addr} {fd : FuncData} {N ps : List Str} {k : Nat} {sp : Sp} (F : Fun K x qual st f fd) (S : FnScope N ps (defScope st)) (len : ∀ vs H Q E, sp vs H Q E → vs.length = ps.length)
    (hbody : ∀ (cdv : Value) (A : Around) (outer : List Env) (s : Shared) (H : Hp) (vs : List V) (Q : VK) (E : XK), PySem.W.kdsCode K cdv = true → Room k (A.deeper (envOfC qual (defScope st) s.heap.objs.size f cdv)) → sp vs H Q E →
      ∃ t, PSs (cxOf (L2.CX P w) P w K mg base N qual (defScope st) f cdv A outer s H E) (defBody st) t ∧ t { nx := fun _ H' => Q .non H', rt := Q } (L2.start N vs) H) : FnOk P w K mg base (L2.CX P w) (k + 1) f fd ps sp := by
  obtain ⟨oc, od, kV, doc, pm, an, cdv, ct, osl, rfl, lk, hcd⟩ := F.ex
  exact fn_of lk hcd S len fun A outer s H vs Q E hr hsp => hbody cdv A outer s H vs Q E (kdsCode_of hcd) hr hsp
/-- how many different numbers -/
def cnt : List Int → Nat
  | [] => 0
  | n :: ns => if n ∈ ns then cnt ns else cnt ns + 1
theorem cnt_le : ∀ ns : List Int, cnt ns ≤ ns.length
  | [] => Nat.le_refl _
  | n :: ns => by
    have := cnt_le ns
    unfold cnt
    rw [List.length_cons]
    split <;> omega
theorem cnt_nd : ∀ ns : List Int, cnt ns = ns.length ↔ ns.Nodup
  | [] => ⟨fun _ => List.nodup_nil, fun _ => rfl⟩
  | n :: ns => by
    have h1 := cnt_le ns
    have h2 := cnt_nd ns
    unfold cnt
    rw [List.length_cons, List.nodup_cons]
    by_cases z : n ∈ ns
    · rw [if_pos z]
      exact ⟨fun e => by omega, fun e => absurd z e.1⟩
    · rw [if_neg z]
      exact ⟨fun e => ⟨z, h2.mp (by omega)⟩, fun e => by rw [h2.mpr e.2]⟩
/-- numbers added one after another: S of those so far -/
def addS (S : Int → Bool) (n : Nat) : List Int → (Int → Bool) × Nat
  | [] => (S, n)
  | k :: ks => addS (fun j => S j || decide (j = k)) (if S k then n else n + 1) ks
theorem addS_full : ∀ (ks : List Int) (S : Int → Bool) (n : Nat), (addS S n ks).2 ≤ n + ks.length ∧ ((addS S n ks).2 = n + ks.length ↔ ks.Nodup ∧ ∀ k ∈ ks, S k = false)
  | [], S, n => ⟨Nat.le_refl _, fun _ => ⟨List.nodup_nil, fun k h => nomatch h⟩, fun _ => rfl⟩
  | k :: ks, S, n => by
    obtain ⟨h1, h2⟩ := addS_full ks (fun j => S j || decide (j = k)) (if S k then n else n + 1)
    unfold addS
    rw [List.length_cons]
    cases hk : S k with
    | true =>
      rw [hk] at h1 h2
      simp only [if_true] at h1 h2 ⊢
      refine ⟨by omega, fun e => by omega, fun e => ?_⟩
      have := e.2 k List.mem_cons_self
      rw [hk] at this
      cases this
    | false =>
      rw [hk] at h1 h2
      simp only [Bool.false_eq_true, if_false] at h1 h2 ⊢
      refine ⟨by omega, fun e => ?_, fun e => ?_⟩
      · have := h2.mp (by omega)
        refine ⟨List.nodup_cons.mpr ⟨fun hm => ?_, this.1⟩, fun j hj => ?_⟩
        · have := this.2 k hm
          simp at this
        · rcases List.mem_cons.mp hj with z | z
          · rw [z]; exact hk
          · have := this.2 j z
            simp only [Bool.or_eq_false_iff] at this
            exact this.1
      · have e1 := List.nodup_cons.mp e.1
        have := h2.mpr ⟨e1.2, fun j hj => by
          rw [e.2 j (List.mem_cons_of_mem _ hj), Bool.false_or]
          exact decide_eq_false fun z => e1.1 (z ▸ hj)⟩
        omega
/-- the parts' judgements, one behind another -/
inductive PL (X : Cx) : List Expr → List TE → Prop where
  | nil : PL X [] []
  | cons {e : Expr} {t : TE} {es : List Expr} {ts : List TE} (h : PE X e t) (r : PL X es ts) : PL X (e :: es) (t :: ts)
def tVals : List TE → L2.St → Hp → (List V → Hp → Prop) → Prop
  | [], _, H, Q => Q [] H
  | t :: ts, σ, H, Q => t σ H fun x H1 => tVals ts σ H1 fun xs H2 => Q (x :: xs) H2
theorem g_val {t : TE} {ts : List TE} {σ : L2.St} {H : Hp} {Q : List V → Hp → Prop} (h : t σ H fun x H1 => tVals ts σ H1 fun xs H2 => Q (x :: xs) H2) : tVals (t :: ts) σ H Q := h
theorem g_val0 {σ : L2.St} {H : Hp} {Q : List V → Hp → Prop} (h : Q [] H) : tVals [] σ H Q := h
section
variable {X : Cx}
theorem pl_all {pins : List (Addr × Obj)} {σ : L2.St} {es : List Expr} {ts : List TE} (h : PL X es ts) : ∀ (s : Shared) (H : Hp) (Q : List V → Hp → Prop) (R : List Value → Shared → Prop), Inv X pins σ H s → tVals ts σ H Q →
    (∀ vs us s1 H1, Inv X pins σ H1 s1 → Vals vs us → Q vs H1 → R us s1) → PySem.W.KdsAll (model X.prog X.w) X.A X.xe X.env es R s := by
  induction h with
  | nil => exact fun s H Q R I q k => k [] [] s H I .nil q
  | @cons e t es ts he r ih =>
    intro s H Q R I q k
    refine thn (he.run pins s σ H _ I q) fun v s1 hv => ?_
    obtain ⟨x, H1, I1, r1, q1⟩ := hv
    exact ih s1 H1 _ _ I1 q1 fun vs us s2 H2 I2 r2 q2 => k (x :: vs) (v :: us) s2 H2 I2 (.cons r1 r2) q2
theorem fill_ints {M : Around} {E : Value → Shared → Prop} {D : Addr} {Q : Value → Shared → Prop} {P : Program} {w : World} : ∀ (us : List Value) (ns : List Int) (S : Int → Bool) (n : Nat) (s : Shared), IntsAre us ns → s.heap.SetOf (intKind P w) D S n → n + ns.length + 1 < scanBound →
    (∀ s', (∀ b o, b ≠ D → s.heap.get? b = some o → s'.heap.get? b = some o) → s'.heap.SetOf (intKind P w) D (addS S n ns).1 (addS S n ns).2 → (∃ h tk, s' = { s with heap := h, toks := tk }) → Q (.ref D) s') → PySem.W.KdsFill (model P w) M E false D Q us s
  | us, [], S, n, s, hi, hS, hb, k => by
    cases us with
    | nil => exact PySem.W.kds_fill_nil rfl (k s (fun b o _ e => e) hS ⟨_, _, rfl⟩)
    | cons u us => exact absurd hi.length (by simp)
  | [], m :: ns, S, n, s, hi, hS, hb, k => absurd hi.length (by simp)
  | u :: us, m :: ns, S, n, s, hi, hS, hb, k => by
    obtain ⟨t, rfl⟩ : ∃ t, u = .int m t := by cases hi; exact ⟨_, rfl⟩
    have hi2 : IntsAre us ns := by cases hi; assumption
    refine PySem.W.kds_fill_cons ?_
    unfold setAdd
    refine wpAny_holding (wpAny_bind ((intKind P w).pyHash (intKind_is P w m t) ?_))
    rw [List.length_cons] at hb
    refine wpAny_setAddHashed_of (s := { s with toks := s.toks + 1 }) (intKind_is P w m t) rfl hS (by omega) fun h' sb hS' => ?_
    refine fill_ints us ns _ _ _ hi2 hS' (by show (if S m then n else n + 1) + ns.length + 1 < _; split <;> omega) fun s' kp hS2 hs => ?_
    refine k s' (fun b o hb2 e => kp b o hb2 ((sb.2 b hb2).trans e)) hS2 ?_
    obtain ⟨h2, tk, rfl⟩ := hs
    exact ⟨h2, tk, rfl⟩
def tLenSetD (ts : List TE) : TE := fun σ H Q => tVals ts σ H fun vs H1 => ∃ ns : List Int, vs = ns.map V.int ∧ ns.length ≤ 30 ∧ ∀ m : Nat, (m = ns.length ↔ ns.Nodup) → m ≤ ns.length → Q (.int m) H1
theorem pe_lenSetD {es : List Expr} {ts : List TE} {k : Nat} {pos : Pos} {p pos2 : Pos} (hcd : PySem.W.kdsCode X.K X.env.code = true) (hg : Gl X "len") (hm : X.mg "len" = none) (h : PL X es ts)
    (hroad : (displayRoad k es == .constants) = false := by rfl) (hun : (displayRoad k es == .unsure) = false := by rfl) (hp : es.all PySem.W.kdsPlain = true := by rfl) (hlen : es.length ≤ 30 := by decide) : PE X (.Call (.Name "len" p) [.Set es k pos] [] pos2) (tLenSetD ts) := by
  refine ⟨fun pins s σ H Q I q => ?_⟩
  refine Call_ (ld_blt I hg hm PySem.boot_len ?_)
  refine PyProof.Rows.callWith_builtin1 (PyProof.Rows.args_cons ?_ rfl) rfl rfl
  rw [arm_eval_Set]
  refine wpAny_bind (wpAny_standAt ?_)
  refine wpAny_bind (PySem.W.kds_main I.kIn hcd fun b => ?_)
  rw [PySem.W.kds_star es hp, List.map_map]
  refine PySem.W.kds_core (ts := (evalEach es X.env).map fun t => do let v ← t; standAt pos; pure v) hroad ?_ ?_ ?_ fun led => ?_
  · refine List.findIdx?_eq_none_iff.mpr fun x hx => ?_
    obtain ⟨t, _, rfl⟩ := List.mem_map.mp hx
    rfl
  · rw [List.length_map, PySem.W.kds_len]; exact hlen
  · rw [List.map_map]; try rfl
  refine PySem.W.kds_all pos es _ _ ?_
  rw [hun]
  have hD := I.hok.fresh (Nat.le_refl s.heap.objs.size)
  have I0 : Inv X pins σ H { s with heap := s.heap.push { cls := .type "set", dict := none, data := .set #[] 0 (.fresh 0 0 led) } } := I.kept (t' := s.toks) fun b u e => Heap.get?_push_of_some _ e
  have hget : (s.heap.push { cls := .type "set", dict := none, data := .set #[] 0 (.fresh 0 0 led) }).get? s.heap.objs.size = some { cls := .type "set", dict := none, data := .set #[] 0 (.fresh 0 0 led) } := Heap.get?_push_size _ rfl
  have hfp : ∀ {H' : Hp}, H' s.heap.objs.size = none → FpOk X pins H' s.heap.objs.size := fun hn => I.fpOk (Nat.le_refl _) hn
  have I1 := I0.pinned (fp := [s.heap.objs.size]) (fun b hb => by rw [List.mem_singleton.mp hb]; exact hfp hD) (fun b hb => by rw [List.mem_singleton.mp hb]; exact ⟨_, hget, fun v z => nomatch z⟩)
  refine pl_all h _ H _ _ I1 q fun vs us s2 H2 I2 r2 q2 => ?_
  obtain ⟨ns, rfl, hn, q2⟩ := q2
  have back := I2.pin (s.heap.objs.size, _) (List.mem_append_right _ (List.mem_append_right _ (mem_pinsAt (List.mem_singleton.mpr rfl) hget)))
  have hS0 : s2.heap.SetOf (intKind X.prog X.w) s.heap.objs.size (fun _ => false) 0 := (setObjOf_fresh led).setOf back.1 (by unfold scanBound; omega)
  have I3 : Inv X pins σ H2 s2 := I2.unpinned
  refine fill_ints us ns _ _ s2 r2.ints hS0 (by unfold scanBound; omega) fun s3 kp hS3 hs3 => ?_
  obtain ⟨h3, tk, rfl⟩ := hs3
  have fp2 := hfp (H' := H2) back.2.1
  obtain ⟨f0, f1, f2, f3, f4, f5⟩ := fp2
  have I4 : Inv X pins σ H2 { s2 with heap := h3, toks := tk } := I3.turned kp f0 f1 f3 f4 f5
  refine PyProof.Rows.args_nil ?_
  obtain ⟨o, es2, ep, t, ho, hex, hd, _, _, _, hf, hnn⟩ := hS3
  have fl := addS_full ns (fun _ => false) 0
  rw [Nat.zero_add] at fl
  refine call_len_set ho hex hd hf (by rw [hnn]; have := fl.1; omega) ⟨.int ((addS (fun _ => false) 0 ns).2 : Nat), H2, I4.tok _, ⟨_, by rw [hnn]⟩, q2 _ ?_ fl.1⟩
  exact fl.2.trans ⟨fun e => e.1, fun e => ⟨e, fun _ _ => rfl⟩⟩
/-- len(set(xs)), xs a list of numbers, some perhaps alike -/
theorem firstMet_nd : ∀ (ns : List Int) (i : Nat), i ≤ ns.length → (firstMet (fun j => ns.getD j 0) i).length ≤ i ∧ ((firstMet (fun j => ns.getD j 0) i).length = i ↔ (ns.take i).Nodup)
  | ns, 0, _ => ⟨Nat.le_refl _, fun _ => by rw [List.take_zero]; exact List.nodup_nil, fun _ => rfl⟩
  | ns, i + 1, hi => by
    obtain ⟨h1, h2⟩ := firstMet_nd ns i (by omega)
    have hx : ns[i]? = some (ns.getD i 0) := by rw [List.getD_eq_getElem?_getD, List.getElem?_eq_getElem (by omega)]; rfl
    have etk : ns.take (i + 1) = ns.take i ++ [ns.getD i 0] := by rw [List.take_succ, hx]; rfl
    have hany : (firstMet (fun j => ns.getD j 0) i).any (· == ns.getD i 0) = decide (ns.getD i 0 ∈ ns.take i) := by
      rw [firstMet_any]
      have e : (List.range i).map (fun j => ns.getD j 0) = ns.take i := by
        refine List.ext_getElem (by rw [List.length_map, List.length_range, List.length_take]; omega) fun j a b => ?_
        rw [List.getElem_map, List.getElem_range, List.getElem_take, List.getD_eq_getElem?_getD, List.getElem?_eq_getElem (by rw [List.length_take] at b; omega)]
        rfl
      rw [e]
      by_cases z : ns.getD i 0 ∈ ns.take i
      · rw [decide_eq_true z, List.any_eq_true]
        exact ⟨_, z, beq_self_eq_true _⟩
      · rw [decide_eq_false z, List.any_eq_false]
        exact fun x hx2 y => z (eq_of_beq y ▸ hx2)
    rw [firstMet_succ, step_length, hany, etk]
    by_cases z : ns.getD i 0 ∈ ns.take i
    · rw [decide_eq_true z, if_pos rfl]
      refine ⟨by omega, fun e => by omega, fun e => ?_⟩
      rw [List.nodup_append] at e
      exact absurd rfl (e.2.2 _ z _ (List.mem_singleton.mpr rfl))
    · rw [decide_eq_false z, if_neg Bool.false_ne_true]
      refine ⟨by omega, fun e => ?_, fun e => ?_⟩
      · rw [List.nodup_append]
        exact ⟨h2.mp (by omega), by simp, fun a ha b hb e2 => z (by rw [List.mem_singleton.mp hb] at e2; exact e2 ▸ ha)⟩
      · rw [List.nodup_append] at e
        have := h2.mpr e.1
        omega
def tLenSetL (K : PySem.W.Frag) (ta : TE) : TE := fun σ H Q => ta σ H fun x H1 => ∃ (l : Addr) (ns : List Int), x = V.ref l ∧ SqL K H1 l (ns.map V.int) ∧ ns.length < 64 ∧ ∀ m : Nat, (m = ns.length ↔ ns.Nodup) → m ≤ ns.length → Q (.int m) H1
theorem pe_lenSetL {K : PySem.W.Frag} {a : Expr} {ta : TE} {p p2 q pos : Pos} (hK : X.K = K) (hc : X.calm = true) (hg : Gl X "len") (hm : X.mg "len" = none) (hg2 : Gl X "set") (hm2 : X.mg "set" = none) (ha : PE X a ta)
    (na : starEach [a] X.env = (false, eval a X.env) :: starEach [] X.env := by rfl) : PE X (.Call (.Name "len" p) [.Call (.Name "set" p2) [a] [] q] [] pos) (tLenSetL K ta) := by
  subst hK
  refine ⟨fun pins s σ H Q I h => ?_⟩
  refine Call_ (ld_blt I hg hm PySem.boot_len ?_)
  refine PyProof.Rows.callWith_builtin1 (PyProof.Rows.args_cons ?_ rfl) rfl rfl
  refine Call_ (ld_blt I hg2 hm2 PyProof.Rows.boot_set ?_)
  refine PyProof.Rows.callWith_type1 (PyProof.Rows.args_cons (thn (ha.run pins s σ H _ I h) fun v s1 ⟨x, H1, I1, r1, q1⟩ => PyProof.Rows.args_nil ?_) na) na rfl
  obtain ⟨l, ns, rfl, hq, h1, q1⟩ := q1
  cases r1
  obtain ⟨its, r, pl, hz⟩ := I1.list hq
  have hl : its.toArray.size = ns.length := by rw [List.size_toArray, ← r.length, List.length_map]
  refine call_set_list (I1.ok.hd hc) pl.isList (ns := ns) (by simpa using r.ints) (by unfold scanBound; omega) fun h' tk hS hk => ?_
  rw [hl] at hS
  have fm := firstMet_nd ns ns.length (Nat.le_refl _)
  rw [List.take_length] at fm
  refine PyProof.Rows.args_nil ?_
  obtain ⟨o, es, ep, t, ho, hex, hd, _, _, _, hf, hn⟩ := hS
  have I2 : Inv X pins σ H1 { s1 with heap := h', toks := tk } := I1.kept fun b o e => hk b o (Heap.lt_size e) e
  refine call_len_set ho hex hd hf (by rw [hn]; have := fm.1; omega) ⟨.int ((firstMet (fun j => ns.getD j 0) ns.length).length : Nat), H1, I2.tok _, ⟨_, by rw [hn]⟩, q1 _ fm.2 fm.1⟩
end
end Rz

set_option maxHeartbeats 4000000
/-! A star becomes a triangle: the turns and the amounts. -/
namespace Rz
open PySem PySem.Spec PyProof.Rows L2
/-- what stands in the place of a dart after a star with the turn (p, q, r) -/
def starC (p q r d : Int) : Option (List Int) :=
  if d = twin r then some [2 * (q / 2), 2 * (p / 2) + 1] else if d = twin q then some [2 * (p / 2), 2 * (r / 2) + 1] else if d = twin p then some [2 * (r / 2), 2 * (q / 2) + 1] else
    if d = r then some [] else if d = q then some [] else if d = p then some [] else none
def putC (c : Int → Option (List Int)) (rows : Rows) : Rows := rows.map fun row => row.flatMap fun d => (c d).getD [d]
def ovr3 (a b c : Nat) (x y z : Rat) (qs : List Rat) : List Rat := ovr (fun j => if j = c then some z else if j = b then some y else if j = a then some x else none) qs
def starOk (rim : Nat) (rows : Rows) (v : Int) : Prop := (rim : Int) < v ∧ v ≤ (rows.length : Int) ∧ (rows.getD (v - 1).toNat []).length = 3
instance {rim : Nat} {rows : Rows} {v : Int} : Decidable (starOk rim rows v) := inferInstanceAs (Decidable (_ ∧ _))
def farN (rows : Rows) (p q r : Int) (n : Nat) : List Nat := [nodeOf rows (twin p), nodeOf rows (twin q), nodeOf rows (twin r), n]
def starM (rim : Nat) (rows : Rows) (qs : List Rat) (v : Int) : Option (Rows × List Rat) :=
  if starOk rim rows v then
    let row := rows.getD (v - 1).toNat []
    let p := row.getD 0 0
    let q := row.getD 1 0
    let r := row.getD 2 0
    let n := (v - 1).toNat
    if (farN rows p q r n).Nodup then
      let a := qs.getD (p / 2).toNat 0
      let b := qs.getD (q / 2).toNat 0
      let c := qs.getD (r / 2).toNat 0
      let s := a + b + c
      some ((putC (starC p q r) rows).take n ++ (putC (starC p q r) rows).drop (n + 1), ovr3 (p / 2).toNat (q / 2).toNat (r / 2).toNat (b * c / s) (c * a / s) (a * b / s) qs)
    else none
  else none
theorem ovr_ovr {g f : Nat → Option Rat} {qs : List Rat} : ovr g (ovr f qs) = ovr (fun j => match g j with | some x => some x | none => f j) qs := by
  refine List.ext_getElem? fun j => ?_
  by_cases hj : j < qs.length
  · rw [ovr_at (by rw [ovr_len]; exact hj), ovr_at hj]
    cases hg : g j with
    | some x => simp
    | none =>
      simp only [Option.getD_none]
      rw [List.getD_eq_getElem?_getD, ovr_at hj]
      rfl
  · rw [List.getElem?_eq_none (by rw [ovr_len, ovr_len]; omega), List.getElem?_eq_none (by rw [ovr_len]; omega)]
theorem ovr3_puts {qs : List Rat} {a b c : Nat} {x y z : Rat} (ha : a < qs.length) (hb : b < qs.length) (hc : c < qs.length) :
    ovr (fun j => if j = c then some z else none) (ovr (fun j => if j = b then some y else none) (ovr (fun j => if j = a then some x else none) qs)) = ovr3 a b c x y z qs := by
  rw [ovr_ovr, ovr_ovr]
  unfold ovr3
  congr 1
  funext j
  by_cases z1 : j = c
  · simp only [if_pos z1]
  · simp only [if_neg z1]
    by_cases z2 : j = b
    · simp only [if_pos z2]
    · simp only [if_neg z2]
/-! ### rows whose darts are put one node after another -/
theorem swapR_map (f : Int → Int) {row : List Int} {d : Int} {ns : List Int} (h : ∀ x ∈ row, f x = x) : (swapR row d ns).map f = swapR row d (ns.map f) := by
  have e : ∀ l : List Int, (∀ x ∈ l, x ∈ row) → l.map f = l := fun l hl => by
    conv => rhs; rw [← List.map_id l]
    exact List.map_congr_left fun x hx => h x (hl x hx)
  unfold swapR
  rw [List.map_append, List.map_append, e _ fun x hx => List.mem_of_mem_take hx, e _ fun x hx => List.mem_of_mem_drop hx]
theorem starC_none {p q r d : Int} (h1 : d ≠ twin p) (h2 : d ≠ twin q) (h3 : d ≠ twin r) (h4 : d ≠ p) (h5 : d ≠ q) (h6 : d ≠ r) : starC p q r d = none := by
  unfold starC
  rw [if_neg h3, if_neg h2, if_neg h1, if_neg h6, if_neg h5, if_neg h4]
structure StarAt (rows : Rows) (En n : Nat) (p q r : Int) : Prop where
  wf : WF rows En
  row : rows[n]? = some [p, q, r]
  far : (farN rows p q r n).Nodup
section
variable {rows : Rows} {En n : Nat} {p q r : Int}
theorem StarAt.mem (h : StarAt rows En n p q r) {d : Int} (hd : d ∈ [p, q, r]) : d ∈ rows.flatten := mem_flat.mpr ⟨n, _, h.row, hd⟩
theorem StarAt.tw (h : StarAt rows En n p q r) {d : Int} (hd : d ∈ [p, q, r]) : twin d ∈ rows.flatten := (h.wf.mem _).mpr (twin_range ((h.wf.mem _).mp (h.mem hd)))
theorem StarAt.home (h : StarAt rows En n p q r) {d : Int} (hd : d ∈ [p, q, r]) : nodeOf rows d = n := ((in_row h.wf.nd h.row (h.mem hd)).mp hd).symm
theorem StarAt.ne (h : StarAt rows En n p q r) : nodeOf rows (twin p) ≠ nodeOf rows (twin q) ∧ nodeOf rows (twin p) ≠ nodeOf rows (twin r) ∧ nodeOf rows (twin q) ≠ nodeOf rows (twin r) ∧ nodeOf rows (twin p) ≠ n ∧ nodeOf rows (twin q) ≠ n ∧ nodeOf rows (twin r) ≠ n := by
  have := h.far
  unfold farN at this
  simp only [List.nodup_cons, List.mem_cons, List.not_mem_nil, or_false, not_or] at this
  obtain ⟨⟨a, b, c⟩, ⟨d, e⟩, f, _⟩ := this
  exact ⟨a, b, d, c, e, f⟩
/-- which row is meant by a dart -/
theorem StarAt.at_ (h : StarAt rows En n p q r) {i : Nat} {row : List Int} (hi : rows[i]? = some row) {d x : Int} (hx : x ∈ row) (hd : d ∈ rows.flatten) (hne : i ≠ nodeOf rows d) : x ≠ d := fun e => by
  subst e
  exact hne ((in_row h.wf.nd hi hd).mp hx)
/-- the three swaps, and the table -/
theorem StarAt.rows_eq (h : StarAt rows En n p q r) (hE : En ≤ 100) {R0 : Rows} (h0 : R0.length = rows.length) (hr0 : ∀ i, i ≠ n → R0[i]? = rows[i]?) :
    let A := swapR (rows.getD (nodeOf rows (twin p)) []) (twin p) [1000 + 2 * (r / 2), 1000 + (2 * (q / 2) + 1)]
    let B := swapR (rows.getD (nodeOf rows (twin q)) []) (twin q) [1000 + 2 * (p / 2), 1000 + (2 * (r / 2) + 1)]
    let C := swapR (rows.getD (nodeOf rows (twin r)) []) (twin r) [1000 + 2 * (q / 2), 1000 + (2 * (p / 2) + 1)]
    let L := (((R0.set (nodeOf rows (twin p)) A).set (nodeOf rows (twin q)) B).set (nodeOf rows (twin r)) C).map fun row => row.map fun d => d % 1000
    L.take n ++ L.drop (n + 1) = (putC (starC p q r) rows).take n ++ (putC (starC p q r) rows).drop (n + 1) := by
  intro A B C L
  have mp : p ∈ [p, q, r] := by simp
  have mq : q ∈ [p, q, r] := by simp
  have mr : r ∈ [p, q, r] := by simp
  obtain ⟨n1, n2, n3, n4, n5, n6⟩ := h.ne
  have bd : ∀ {d : Int}, d ∈ rows.flatten → 0 ≤ d ∧ d < 200 := fun {d} hd => by
    have := (h.wf.mem d).mp hd
    omega
  have small : ∀ {i : Nat} {row : List Int}, rows[i]? = some row → ∀ x ∈ row, x % 1000 = x := fun {i row} hi x hx => by
    have := bd (mem_flat.mpr ⟨i, row, hi, hx⟩)
    omega
  have mk : ∀ {d : Int}, d ∈ [p, q, r] → (1000 + 2 * (d / 2)) % 1000 = 2 * (d / 2) ∧ (1000 + (2 * (d / 2) + 1)) % 1000 = 2 * (d / 2) + 1 := fun {d} hd => by
    have := bd (h.mem hd)
    omega
  have get : ∀ {k : Nat}, k < rows.length → rows[k]? = some (rows.getD k []) := fun {k} hk => by rw [List.getD_eq_getElem?_getD, List.getElem?_eq_getElem hk]; rfl
  have lp : nodeOf rows (twin p) < rows.length := at_lt (h.tw mp)
  have lq : nodeOf rows (twin q) < rows.length := at_lt (h.tw mq)
  have lr : nodeOf rows (twin r) < rows.length := at_lt (h.tw mr)
  -- a row at a far node
  have one : ∀ {d : Int} {x y : Int}, d ∈ [p, q, r] → starC p q r (twin d) = some [x, y] → (1000 + x) % 1000 = x → (1000 + y) % 1000 = y → (∀ z ∈ rows.getD (nodeOf rows (twin d)) [], z ≠ twin d → starC p q r z = none) →
      ((swapR (rows.getD (nodeOf rows (twin d)) []) (twin d) [1000 + x, 1000 + y]).map fun d => d % 1000) = (rows.getD (nodeOf rows (twin d)) []).flatMap fun z => (starC p q r z).getD [z] := fun {d x y} hd hs hx hy ho => by
    have hr' : rows[nodeOf rows (twin d)]? = some (rows.getD (nodeOf rows (twin d)) []) := get (at_lt (h.tw hd))
    rw [swapR_map (fun d => d % 1000) (small hr')]
    rw [swap_flat (d := twin d) (ns := [x, y]) (nodup_row h.wf.nd (List.mem_of_getElem? hr')) ((in_row h.wf.nd hr' (h.tw hd)).mpr rfl) (by rw [hs]; rfl) fun z hz hzd => by rw [ho z hz hzd]; rfl]
    show swapR _ _ [(1000 + x) % 1000, (1000 + y) % 1000] = _
    rw [hx, hy]
  have others : ∀ {i : Nat} {row : List Int}, rows[i]? = some row → i ≠ n → ∀ x ∈ row, (i ≠ nodeOf rows (twin p) ∨ x ≠ twin p) → (i ≠ nodeOf rows (twin q) ∨ x ≠ twin q) → (i ≠ nodeOf rows (twin r) ∨ x ≠ twin r) → starC p q r x = none := fun {i row} hi hin x hx h1 h2 h3 => by
    refine starC_none ?_ ?_ ?_ ?_ ?_ ?_
    · exact h1.elim (fun z => h.at_ hi hx (h.tw mp) z) id
    · exact h2.elim (fun z => h.at_ hi hx (h.tw mq) z) id
    · exact h3.elim (fun z => h.at_ hi hx (h.tw mr) z) id
    · exact h.at_ hi hx (h.mem mp) (by rw [h.home mp]; exact hin)
    · exact h.at_ hi hx (h.mem mq) (by rw [h.home mq]; exact hin)
    · exact h.at_ hi hx (h.mem mr) (by rw [h.home mr]; exact hin)
  have tpq : twin p ≠ twin q := fun e => n1 (by rw [e])
  have tpr : twin p ≠ twin r := fun e => n2 (by rw [e])
  have tqr : twin q ≠ twin r := fun e => n3 (by rw [e])
  have sp : starC p q r (twin p) = some [2 * (r / 2), 2 * (q / 2) + 1] := by unfold starC; rw [if_neg tpr, if_neg tpq, if_pos rfl]
  have sq : starC p q r (twin q) = some [2 * (p / 2), 2 * (r / 2) + 1] := by unfold starC; rw [if_neg tqr, if_pos rfl]
  have sr : starC p q r (twin r) = some [2 * (q / 2), 2 * (p / 2) + 1] := by unfold starC; rw [if_pos rfl]
  refine cut_ext (by show (List.map _ _).length = _; unfold putC; simp only [List.length_map, List.length_set, h0]) fun i hi => ?_
  show (List.map _ _)[i]? = _
  unfold putC
  rw [List.getElem?_map, List.getElem?_map]
  by_cases zr : nodeOf rows (twin r) = i
  · subst zr
    rw [List.getElem?_set_self (by rw [List.length_set, List.length_set, h0]; exact lr), get lr]
    show some _ = some _
    congr 1
    refine one mr sr (mk mq).1 (mk mp).2 fun z hz hzd => others (get lr) hi z hz (.inl (fun e => n2 e.symm)) (.inl (fun e => n3 e.symm)) (.inr hzd)
  · rw [List.getElem?_set_ne zr]
    by_cases zq : nodeOf rows (twin q) = i
    · subst zq
      rw [List.getElem?_set_self (by rw [List.length_set, h0]; exact lq), get lq]
      show some _ = some _
      congr 1
      refine one mq sq (mk mp).1 (mk mr).2 fun z hz hzd => others (get lq) hi z hz (.inl (fun e => n1 e.symm)) (.inr hzd) (.inl n3)
    · rw [List.getElem?_set_ne zq]
      by_cases zp : nodeOf rows (twin p) = i
      · subst zp
        rw [List.getElem?_set_self (by rw [h0]; exact lp), get lp]
        show some _ = some _
        congr 1
        refine one mp sp (mk mr).1 (mk mq).2 fun z hz hzd => others (get lp) hi z hz (.inr hzd) (.inl n1) (.inl n2)
      · rw [List.getElem?_set_ne zp, hr0 i hi]
        cases hr : rows[i]? with
        | none => rfl
        | some row =>
          show some _ = some _
          congr 1
          show row.map (fun d => d % 1000) = row.flatMap fun d => (starC p q r d).getD [d]
          rw [flat_same fun x hx => by rw [others hr hi x hx (.inl (Ne.symm zp)) (.inl (Ne.symm zq)) (.inl (Ne.symm zr))]; rfl]
          conv => rhs; rw [← List.map_id row]
          exact List.map_congr_left fun x hx => small hr x hx
end
end Rz
namespace Rz
open PySem PySem.Spec PyProof.Rows L2
section
variable {K : PySem.W.Frag} {σ : L2.St} {H : Hp} {vs : List Nat} {i₀ : Nat} {Q : VK} {te : TE}
/-- [f(n) for n in a list of numbers] -/
theorem ints_lcL {a : Addr} {ns : List Int} (f : Int → Int) (h : SqL K H a (ns.map V.int)) (hl : ns.length ≤ 100000) (hw : ∀ x, wipe ((wipe σ vs).set i₀ (some x)) vs = wipe σ vs)
    (hs : ∀ (i : Nat) n H' (Q2 : VK), ns[i]? = some n → Same H H' → (∀ H'', Same H' H'' → Q2 (.int (f n)) H'') → te ((wipe σ vs).set i₀ (some (.int n))) H' Q2)
    (q : ∀ p H', Same H H' → H p = none → H' p = some (.lst ((ns.map f).map V.int)) → Q (.ref p) H') : rItL K (lcW (gName i₀) tYes te vs σ Q) (.ref a) H := by
  refine g_lcLst h (fun p i acc H' => Same H H' ∧ H' p = some (.lst acc) ∧ acc = ((ns.take i).map f).map V.int) hw (fun p hp => ⟨up_same hp, upd_same, rfl⟩) (fun p i acc H' _ z => z.1.seq h) ?_ ?_
  · rintro p i x acc H1 hp hx ⟨sm, ep, rfl⟩
    obtain ⟨n, hn, rfl⟩ := int_at hx
    refine hs i n H1 _ hn sm fun H2 s2 => ?_
    refine lcN_of (s2 _ _ ep) (by rw [List.length_map, List.length_map, List.length_take]; omega) ⟨fun b o e => ?_, upd_same, ?_⟩
    · rw [upd_ne (ne_of_none e hp)]
      exact s2 _ _ (sm _ _ e)
    · rw [List.take_succ, hn, List.map_append, List.map_append]
      rfl
  · rintro p acc H1 hp ⟨sm, ep, rfl⟩
    rw [List.length_map, List.take_length] at ep
    exact q p H1 sm hp ep
theorem ints_lcT {a : Addr} {ns : List Int} (f : Int → Int) (h : SqT K H a (ns.map V.int)) (hl : ns.length ≤ 100000) (hw : ∀ x, wipe ((wipe σ vs).set i₀ (some x)) vs = wipe σ vs)
    (hs : ∀ (i : Nat) n H' (Q2 : VK), ns[i]? = some n → Same H H' → (∀ H'', Same H' H'' → Q2 (.int (f n)) H'') → te ((wipe σ vs).set i₀ (some (.int n))) H' Q2)
    (q : ∀ p H', Same H H' → H p = none → H' p = some (.lst ((ns.map f).map V.int)) → Q (.ref p) H') : rItT K (lcW (gName i₀) tYes te vs σ Q) (.ref a) H := by
  refine g_lcTup h (fun p i acc H' => Same H H' ∧ H' p = some (.lst acc) ∧ acc = ((ns.take i).map f).map V.int) hw (fun p hp => ⟨up_same hp, upd_same, rfl⟩) (fun p i acc H' _ z => Same.sqt z.1 h) ?_ ?_
  · rintro p i x acc H1 hp hx ⟨sm, ep, rfl⟩
    obtain ⟨n, hn, rfl⟩ := int_at hx
    refine hs i n H1 _ hn sm fun H2 s2 => ?_
    refine lcN_of (s2 _ _ ep) (by rw [List.length_map, List.length_map, List.length_take]; omega) ⟨fun b o e => ?_, upd_same, ?_⟩
    · rw [upd_ne (ne_of_none e hp)]
      exact s2 _ _ (sm _ _ e)
    · rw [List.take_succ, hn, List.map_append, List.map_append]
      rfl
  · rintro p acc H1 hp ⟨sm, ep, rfl⟩
    rw [List.length_map, List.take_length] at ep
    exact q p H1 sm hp ep
/-- [.. for row in a list of lists], its items tuples -/
theorem rowsL_lc {L : Addr} {rs : List Addr} {rows : Rows} (f : List Int → List Int) (hR : RowsAt H L rs rows) (hb : rows.length ≤ 100000) (hw : ∀ x, wipe ((wipe σ vs).set i₀ (some x)) vs = wipe σ vs)
    (hs : ∀ (i : Nat) r H' (Q2 : VK), rows[i]? = some (rows.getD i []) → Same H H' → H' r = some (.lst ((rows.getD i []).map V.int)) → (∀ u H'', Same H' H'' → SqT K H'' u ((f (rows.getD i [])).map V.int) → Q2 (.ref u) H'') → te ((wipe σ vs).set i₀ (some (.ref r))) H' Q2)
    (q : ∀ l us H', Same H H' → H l = none → H' l = some (.lst (us.map V.ref)) → TsL K H' us (rows.map f) → Q (.ref l) H') : rItL K (lcW (gName i₀) tYes te vs σ Q) (.ref L) H := by
  refine g_lcLst (SqL.of hR.top) (fun l i acc H' => Same H H' ∧ H' l = some (.lst acc) ∧ ∃ us : List Addr, acc = us.map V.ref ∧ TsL K H' us ((rows.take i).map f)) hw
    (fun l hl => ⟨up_same hl, upd_same, [], rfl, ⟨rfl, fun i r row z => by simp at z⟩⟩) (fun l i acc H' _ h => h.1.seq (SqL.of hR.top)) ?_ ?_
  · rintro l i x acc H1 hl hx ⟨sm, el, us, rfl, hT⟩
    have hil : i < rows.length := by
      have := (List.getElem?_eq_some_iff.mp hx).1
      rw [List.length_map, hR.len] at this
      exact this
    have hri : rows[i]? = some (rows.getD i []) := by rw [List.getD_eq_getElem?_getD, List.getElem?_eq_getElem hil]; rfl
    obtain ⟨r, hr1, hr2⟩ := hR.get hri
    rw [List.getElem?_map, hr1] at hx
    cases hx
    refine hs i r H1 _ hri sm (sm _ _ hr2) fun u H2 s2 hu => ?_
    have el2 := s2 _ _ el
    have e5 : (rows.take (i + 1)).map f = (rows.take i).map f ++ [f (rows.getD i [])] := by
      rw [List.take_succ, hri, List.map_append]
      rfl
    refine lcN_of el2 (by rw [List.length_map, hT.len, List.length_map, List.length_take]; omega) ⟨fun b o h => ?_, upd_same, us ++ [u], by rw [List.map_append]; rfl, ?_⟩
    · rw [upd_ne (ne_of_none h hl)]
      exact s2 _ _ (sm _ _ h)
    · rw [e5]
      refine TsL.updL (TsL.app (hT.same s2) ⟨rfl, fun j r' row a b => ?_⟩) el2
      cases j with
      | zero =>
        cases a
        cases b
        exact hu
      | succ j => simp at a
  · rintro l acc H1 hl ⟨sm, el, us, rfl, hT⟩
    rw [List.length_map, hR.len, List.take_length] at hT
    exact q l us H1 sm hl el hT
end
def spAStar (K : PySem.W.Frag) : Sp := fun vs H Q _ => ∃ (v : V) (n : Int) (rim : Nat) (rows : Rows) (qs : List Rat) (E : Nat), vs = [v, .int n] ∧ NetV K H v rim rows qs ∧ WF rows E ∧ qs.length = E ∧ E ≤ 100 ∧ rows.length ≤ 1000 ∧ 1 ≤ rim ∧ rim ≤ rows.length ∧ (∀ q ∈ qs, 0 < q ∧ Bd 5 q) ∧
  ∀ v' H', Same H H' → ResV K H' v' rim (starM rim rows qs n) → Q v' H'
def afterT (rim : Nat) (rows : Rows) (qs : List Rat) : Mv → Option (Rows × List Rat)
  | .star v => starM rim rows qs v
  | _ => none
def isStar (mv : Mv) : Prop := ∃ v, mv = .star v
/-- the rows grow by at most one dart for each -/
theorem putC_small {c : Int → Option (List Int)} {rows : Rows} {n m : Nat} (h : ∀ row ∈ rows, row.length ≤ n) (hc : ∀ d ns, c d = some ns → ns.length ≤ m) (hm : 1 ≤ m) : ∀ row ∈ putC c rows, row.length ≤ n * m := fun row hr => by
  obtain ⟨r, h1, rfl⟩ := List.mem_map.mp hr
  have one : ∀ d, ((c d).getD [d]).length ≤ m := fun d => by
    cases hd : c d with
    | none => exact hm
    | some ns => exact hc d ns hd
  have : ∀ l : List Int, (l.flatMap fun d => (c d).getD [d]).length ≤ l.length * m := fun l => by
    induction l with
    | nil => exact Nat.zero_le _
    | cons x l ih =>
      rw [List.flatMap_cons, List.length_append, List.length_cons, Nat.succ_mul]
      have := one x
      omega
  exact Nat.le_trans (this r) (Nat.mul_le_mul_right _ (h r h1))
theorem starC_len {p q r : Int} : ∀ d ns, starC p q r d = some ns → ns.length ≤ 2 := fun d ns h => by
  unfold starC at h
  split at h
  · cases h; simp
  · split at h
    · cases h; simp
    · split at h
      · cases h; simp
      · split at h
        · cases h; simp
        · split at h
          · cases h; simp
          · split at h
            · cases h; simp
            · cases h
theorem ovr3_len {a b c : Nat} {x y z : Rat} {qs : List Rat} : (ovr3 a b c x y z qs).length = qs.length := ovr_len
theorem afterT_small {rim n : Nat} {rows : Rows} {qs : List Rat} {mv : Mv} {r : Rows × List Rat} (h : afterT rim rows qs mv = some r) (hn : ∀ row ∈ rows, row.length ≤ n) : r.1.length ≤ rows.length ∧ (∀ row ∈ r.1, row.length ≤ n * 2) ∧ r.2.length ≤ qs.length := by
  cases mv with
  | star v =>
    simp only [afterT, starM] at h
    split at h
    · split at h
      · cases h
        refine ⟨?_, fun row hr => ?_, by rw [ovr3_len]; exact Nat.le_refl _⟩
        · simp only [List.length_append, List.length_take, List.length_drop, putC, List.length_map]
          omega
        · rcases List.mem_append.mp hr with h | h
          · exact putC_small hn starC_len (by decide) row (List.mem_of_mem_take h)
          · exact putC_small hn starC_len (by decide) row (List.mem_of_mem_drop h)
      · cases h
    · cases h
  | par => cases h
  | loop => cases h
  | loose => cases h
  | series => cases h
  | num => cases h
  | tri => cases h
theorem starM_bad {rim : Nat} {rows : Rows} {qs : List Rat} {v : Int} (h : ¬ starOk rim rows v) : starM rim rows qs v = none := by
  unfold starM
  rw [if_neg h]
theorem starM_row {rim n : Nat} {rows : Rows} {qs : List Rat} {p q r : Int} (h : starOk rim rows ((n : Int) + 1)) (hr : rows[n]? = some [p, q, r]) : starM rim rows qs ((n : Int) + 1) =
    if (farN rows p q r n).Nodup then some ((putC (starC p q r) rows).take n ++ (putC (starC p q r) rows).drop (n + 1),
      ovr3 (p / 2).toNat (q / 2).toNat (r / 2).toNat (qs.getD (q / 2).toNat 0 * qs.getD (r / 2).toNat 0 / (qs.getD (p / 2).toNat 0 + qs.getD (q / 2).toNat 0 + qs.getD (r / 2).toNat 0)) (qs.getD (r / 2).toNat 0 * qs.getD (p / 2).toNat 0 / (qs.getD (p / 2).toNat 0 + qs.getD (q / 2).toNat 0 + qs.getD (r / 2).toNat 0)) (qs.getD (p / 2).toNat 0 * qs.getD (q / 2).toNat 0 / (qs.getD (p / 2).toNat 0 + qs.getD (q / 2).toNat 0 + qs.getD (r / 2).toNat 0)) qs) else none := by
  have e1 : ((n : Int) + 1 - 1).toNat = n := by omega
  have e2 : rows.getD n [] = [p, q, r] := row_of hr
  unfold starM
  rw [if_pos h]
  simp only [e1, e2, List.getD_cons_zero, List.getD_cons_succ]
end Rz

set_option maxHeartbeats 4000000
/-! dict(zip(numbers, values)). -/
namespace Rz
open PySem PySem.Spec PyProof.Rows L2
def zipK (ns : List Int) (ys : List V) : List (Key × V) := (ns.zip ys).map fun q => ((Sum.inl q.1 : Key), q.2)
def rDictZip (K : PySem.W.Frag) (Q : VK) : List V → Hp → Prop := fun vs H1 => ∃ (a b : Addr) (ns : List Int) (ys : List V), vs = [.ref a, .ref b] ∧ SqL K H1 a (ns.map V.int) ∧ SqL K H1 b ys ∧ ns.length = ys.length ∧ ns.length ≤ 1000 ∧ ∀ p, H1 p = none → Q (.ref p) (upd H1 p (.dK (mergeK [] (zipK ns ys))))
def tDictZip (K : PySem.W.Frag) (ta : TA) : TE := fun σ H Q => ta σ H (rDictZip K Q)
theorem g_dictZip {K : PySem.W.Frag} {ta : TA} {σ : L2.St} {H : Hp} {Q : VK} (h : ta σ H (rDictZip K Q)) : tDictZip K ta σ H Q := h
theorem kv_zip : ∀ {ns : List Int} {ys : List V} {us : List Value}, Vals ys us → KV (zipK ns ys) ((ns.zip us).map fun q => ((Sum.inl q.1 : Key), q.2))
  | [], _, _, _ => by
    show KV [] []
    exact .nil
  | n :: ns, _, _, .nil => by
    show KV [] []
    exact .nil
  | n :: ns, y :: ys, u :: us, .cons r rr => .cons ⟨rfl, r⟩ (kv_zip rr)
theorem pe_dictZip {X : Cx} {K : PySem.W.Frag} {e e2 : Expr} {ta : TA} {p p2 q pos : Pos} (hK : X.K = K) (hc : X.calm = true) (hg : Gl X "dict") (hm : X.mg "dict" = none) (hg2 : Gl X "zip") (hm2 : X.mg "zip" = none) (ha : PA X [e, e2] ta)
    (hs : starEach [e, e2] X.env = (false, eval e X.env) :: starEach [e2] X.env := by rfl) (hpl : (backTo q (starEach [e2] X.env)).any (·.1) = false := by rfl) : PE X (.Call (.Name "dict" p) [.Call (.Name "zip" p2) [e, e2] [] q] [] pos) (tDictZip K ta) := by
  subst hK
  refine ⟨fun pins s σ H Q I h => ?_⟩
  refine Call_ (ld_blt I hg hm PyProof.Rows.boot_dict ?_)
  refine PyProof.Rows.callWith_type1 (PyProof.Rows.args_cons ?_ rfl) rfl rfl
  refine Call_ (ld_blt I hg2 hm2 PyProof.Rows.boot_zip (PyProof.Rows.callWith_type1 (thn (ha.run q pins s σ H _ I h) fun us s1 ⟨vs, H1, I1, r1, q1⟩ => ?_) hs hpl))
  obtain ⟨a, b, ns, ys, rfl, hqx, hqy, hlen, h1000, q1⟩ := q1
  cases r1 with
  | cons r rr =>
    cases rr with
    | cons r' rr =>
      cases rr
      cases r
      cases r'
      obtain ⟨its, rv, p1, _⟩ := I1.list hqx
      obtain ⟨its2, rv2, p2, _⟩ := I1.list hqy
      have la : a < s1.heap.objs.size := p1.lt
      have lb : b < s1.heap.objs.size := p2.lt
      have l1 : its.length = ns.length := by rw [← rv.length, List.length_map]
      have l2 : its2.length = ys.length := rv2.length.symm
      refine call_zip_2 p1.isList p2.isList fun h' hz hTI hTO h1 h2 hsz hk => PyProof.Rows.args_nil ?_
      have I2 : Inv X pins σ H1 { s1 with heap := h' } := I1.kept (t' := s1.toks) hk
      have D := PySem.W.ktu_apart s1.heap.objs.size a b la lb
      have fp : ∀ c ∈ [s1.heap.objs.size + 4, s1.heap.objs.size + 3, s1.heap.objs.size, s1.heap.objs.size + 1], FpOk X pins H1 c := fun c hcm => by
        have e' : c = s1.heap.objs.size + 4 ∨ c = s1.heap.objs.size + 3 ∨ c = s1.heap.objs.size ∨ c = s1.heap.objs.size + 1 := by simpa using hcm
        have hle : s1.heap.objs.size ≤ c := by
          rcases e' with z | z | z | z
          · rw [z]; exact Nat.le_add_right _ _
          · rw [z]; exact Nat.le_add_right _ _
          · rw [z]; exact Nat.le_refl _
          · rw [z]; exact Nat.le_add_right _ _
        exact I1.fpOk hle (I1.hok.fresh hle)
      refine PySem.call_dict_pairs (knd := mixKind X.prog X.w) (kvs := (ns.zip its2).map fun q => ((Sum.inl q.1 : Key), q.2)) (PairArg.zip (s1.heap.objs.size + 4) (s1.heap.objs.size + 2) (s1.heap.objs.size + 3) s1.heap.objs.size (s1.heap.objs.size + 1) a b D its.toArray its2.toArray) (I1.ok.hd hc)
        ⟨hz, hTI, ⟨_, _, hTO⟩, h1, h2, p1.isList.at fun o e => hk _ o e, p2.isList.at fun o e => hk _ o e⟩ ⟨?_, fun i key v hr => ?_⟩ ?_ fun h2' tk hd' hkk => ?_
      · rw [List.length_map, List.length_zip, List.size_toArray, List.size_toArray, l1, l2]
      · obtain ⟨hr1, hr2⟩ := hr
        rw [List.getElem?_toArray] at hr1 hr2
        have hi : i < ns.length := by rw [← l1]; exact (List.getElem?_eq_some_iff.mp hr1).1
        obtain ⟨t, ht⟩ := IntsAre.int_at rv.ints i key hr1
        refine ⟨.inl (ns.getD i 0), ?_, ?_⟩
        · have hni : ns[i]? = some (ns.getD i 0) := by rw [List.getD_eq_getElem?_getD, List.getElem?_eq_getElem hi]; rfl
          have hz2 : (ns.zip its2)[i]? = some (ns.getD i 0, v) := List.getElem?_zip_eq_some.mpr ⟨hni, hr2⟩
          rw [List.getElem?_map, hz2]
          rfl
        · rw [ht]
          exact kV_is (k := .inl (ns.getD i 0)) ⟨t, rfl⟩
      · rw [List.size_toArray, List.size_toArray, l1, l2, sizeLine_eq]
        omega
      · have hm3 : (h'.objs.size == sysModules) = false := beq_eq_false_iff_ne.mpr (Nat.ne_of_gt I2.big)
        have rel := kv_zip (ns := ns) rv2
        have hlen2 : (mergeK [] (zipK ns ys)).length ≤ sizeLine := by
          have := length_mergeK (zipK ns ys) []
          have e3 : (zipK ns ys).length ≤ 1000 := by unfold zipK; rw [List.length_map, List.length_zip]; omega
          rw [List.length_nil] at this
          rw [sizeLine_eq]
          omega
        refine ⟨.ref h'.objs.size, upd H1 h'.objs.size (.dK (mergeK [] (zipK ns ys))), ?_, rfl, q1 _ (I2.hok.fresh (Nat.le_refl _))⟩
        exact I2.turnedNew (t' := tk) (ch := [s1.heap.objs.size + 4, s1.heap.objs.size + 3, s1.heap.objs.size, s1.heap.objs.size + 1]) hkk fp (Nat.le_refl _) (show ObjOk X.prog X.w _ _ _ (.dK (mergeK [] (zipK ns ys))) from ⟨hlen2, hm3, merged [] ((ns.zip its2).map fun q => ((Sum.inl q.1 : Key), q.2)), KV.merge rel .nil, hd'⟩)
end Rz
namespace Rz
open PySem PySem.Spec PyProof.Rows L2
section
variable {K : PySem.W.Frag} {σ : L2.St} {H : Hp} {vs : List Nat} {Q : VK} {te : TE} {g : TG}
/-- a comprehension over a tuple, any target -/
theorem lc_tupG {a : Addr} {xs : List V} (h : SqT K H a xs) (Pv : Addr → Nat → List V → Hp → Prop) (h0 : ∀ p, H p = none → Pv p 0 [] (upd H p (.lst []))) (hl : ∀ p i acc H', H p = none → Pv p i acc H' → SqT K H' a xs)
    (hs : ∀ p i x acc H', H p = none → xs[i]? = some x → Pv p i acc H' → g x (wipe σ vs) H' fun σ2 H2 => wipe σ2 vs = wipe σ vs ∧ te σ2 H2 (lcN (Pv p) p i))
    (hd : ∀ p acc H', H p = none → Pv p xs.length acc H' → Q (.ref p) H') : rItT K (lcW g tYes te vs σ Q) (.ref a) H := by
  refine ⟨a, rfl, ⟨xs, h⟩, fun p hp => ⟨fun i m H' => m = xs.length - i ∧ i ≤ xs.length ∧ ∃ acc, Pv p i acc H', ⟨_, rfl, Nat.zero_le _, [], h0 p hp⟩, fun i m H' hw => ?_⟩⟩
  obtain ⟨rfl, hi, acc, pv⟩ := hw
  have q := hl p i acc H' hp pv
  rcases Nat.lt_or_eq_of_le hi with hlt | heq
  · refine .inr ⟨⟨xs, xs[i], q, List.getElem?_eq_getElem hlt⟩, fun H2 => ∃ acc2, Pv p (i + 1) acc2 H2, fun H2 p2 => ⟨xs.length - (i + 1), by omega, rfl, hlt, p2⟩, fun v H2 y => ?_⟩
    obtain ⟨rfl, y⟩ := y
    exact hs p i v acc _ hp (y xs q) pv
  · subst heq
    exact .inl ⟨⟨xs, q, Nat.le_refl _⟩, hd p acc H' hp pv⟩
end
/-- three amounts at a list -/
structure Am3 (K : PySem.W.Frag) (H : Hp) (l : Addr) (a b c : Rat) : Prop where
  ex : ∃ x y z, H l = some (.lst [x, y, z]) ∧ RatV K H x a ∧ RatV K H y b ∧ RatV K H z c
def spTriA (K : PySem.W.Frag) : Sp := fun vs H Q _ => ∃ (l : Addr) (a b c : Rat), vs = [.ref l] ∧ Am3 K H l a b c ∧ 0 < a ∧ 0 < b ∧ 0 < c ∧ Bd 5 a ∧ Bd 5 b ∧ Bd 5 c ∧ ∀ p H', Same H H' → H p = none → Am3 K H' p (b * c / (a + b + c)) (c * a / (a + b + c)) (a * b / (a + b + c)) → Q (.ref p) H'
theorem sumR3 (a b c : Rat) : sumR [a, b, c] = a + b + c := by
  show 0 + a + b + c = a + b + c
  rw [Rat.zero_add]
end Rz
namespace Rz
open PySem PySem.Spec PyProof.Rows L2
theorem g_lenSetD {ts : List TE} {σ : L2.St} {H : Hp} {Q : VK} (h : tVals ts σ H fun vs H1 => ∃ ns : List Int, vs = ns.map V.int ∧ ns.length ≤ 30 ∧ ∀ m : Nat, (m = ns.length ↔ ns.Nodup) → m ≤ ns.length → Q (.int m) H1) : tLenSetD ts σ H Q := h
theorem far_nd {rows : Rows} {p q r : Int} {n : Nat} : ([((n : Nat) : Int) + 1, ((nodeOf rows (twin p) : Nat) : Int) + 1, ((nodeOf rows (twin q) : Nat) : Int) + 1, ((nodeOf rows (twin r) : Nat) : Int) + 1] : List Int).Nodup ↔ (farN rows p q r n).Nodup := by
  unfold farN
  simp only [List.nodup_cons, List.mem_cons, List.not_mem_nil, or_false, not_or, List.nodup_nil, and_true, not_false_eq_true]
  constructor
  · rintro ⟨⟨a, b, c⟩, ⟨d, e⟩, f⟩
    exact ⟨⟨by omega, by omega, by omega⟩, ⟨by omega, by omega⟩, by omega⟩
  · rintro ⟨⟨a, b, c⟩, ⟨d, e⟩, f⟩
    exact ⟨⟨by omega, by omega, by omega⟩, ⟨by omega, by omega⟩, by omega⟩
theorem starC_eq {p q r : Int} {e1 e2 e3 t1 t2 t3 : Addr} {d : Int} : valV (mergeK [] [((.inl p : Key), V.ref e1), (.inl q, .ref e2), (.inl r, .ref e3), (.inl (twin p), .ref t1), (.inl (twin q), .ref t2), (.inl (twin r), .ref t3)]) (.inl d) =
    if d = twin r then some (.ref t3) else if d = twin q then some (.ref t2) else if d = twin p then some (.ref t1) else if d = r then some (.ref e3) else if d = q then some (.ref e2) else if d = p then some (.ref e1) else none := by
  show valV (putK (putK (putK (putK (putK (putK ([] : List (Key × V)) (.inl p) (.ref e1)) (.inl q) (.ref e2)) (.inl r) (.ref e3)) (.inl (twin p)) (.ref t1)) (.inl (twin q)) (.ref t2)) (.inl (twin r)) (.ref t3)) (.inl d) = _
  rw [valV_put, valV_put, valV_put, valV_put, valV_put, valV_put, valV_nil]
  simp only [Sum.inl.injEq]
theorem zip3_eq {a b c : Nat} {x y z : V} {j : Nat} : valV (mergeK [] (zipK [(a : Int), (b : Int), (c : Int)] [x, y, z])) (.inl (j : Int)) = if j = c then some z else if j = b then some y else if j = a then some x else none := by
  show valV (putK (putK (putK ([] : List (Key × V)) (.inl (a : Int)) x) (.inl (b : Int)) y) (.inl (c : Int)) z) (.inl (j : Int)) = _
  rw [valV_put, valV_put, valV_put, valV_nil]
  simp only [Sum.inl.injEq, Int.natCast_inj]
end Rz
namespace Rz
open PySem PySem.Spec PyProof.Rows L2
theorem g_lenSetL {K : PySem.W.Frag} {ta : TE} {σ : L2.St} {H : Hp} {Q : VK} (h : ta σ H fun x H1 => ∃ (l : Addr) (ns : List Int), x = V.ref l ∧ SqL K H1 l (ns.map V.int) ∧ ns.length < 64 ∧ ∀ m : Nat, (m = ns.length ↔ ns.Nodup) → m ≤ ns.length → Q (.int m) H1) : tLenSetL K ta σ H Q := h
end Rz

namespace K17
open PySem PySem.Spec PyProof.Rows L2 Rz
local macro_rules | `(tactic| walk_at "g") => `(tactic| with_reducible first
  | refine g_seq ?_ | refine g_asg ?_ | refine g_name ?_ | refine g_ret ?_ | refine g_drop ?_ | refine g_next ?_ | refine g_op ?_ | refine g_un ?_ | refine g_c ?_
  | refine g_ifs ?_ | refine g_test ?_ | refine g_B ?_ | refine g_bl ?_ | refine g_and ?_ | refine g_or ?_ | refine g_not ?_ | refine g_andV ?_ | refine g_orV ?_ | refine g_notV ?_ | refine g_ifE ?_
  | refine g_call ?_ | refine g_cb ?_ | refine g_nil ?_ | refine g_cons ?_ | refine g_tup ?_ | refine g_lst ?_ | refine g_par ?_ | refine g_two ?_ | refine g_I0 ?_ | refine g_U ?_ | refine g_sub ?_ | refine g_int1 ?_ | refine g_int1b ?_ | refine g_abs ?_ | refine g_forR1 ?_ | refine g_forL ?_ | refine g_forT ?_ | refine g_lcR1 ?_ | refine g_lcL ?_ | refine g_lcT ?_ | refine g_isN ?_ | refine g_notN ?_ | refine g_bm ?_)
local macro_rules | `(tactic| walk_at "gv") => `(tactic| ((with_reducible refine' g_var ?hv ?_); (case hv => rfl)))
local macro_rules | `(tactic| walk_at "gm") => `(tactic| ((with_reducible refine g_I ?hc ?_); (case hc => first | exact .inr ⟨by decide, by decide⟩ | exact .inl ⟨by decide, by decide⟩ | exact ⟨by decide, by decide, by decide⟩ | exact ⟨by decide, by decide +kernel⟩ | decide | assumption)))
local macro_rules | `(tactic| walk_at "ge") => `(tactic| first | ((with_reducible refine g_eq ?hs ?_); (case hs => rfl)) | ((with_reducible refine g_ne ?hs ?_); (case hs => rfl)))
local macro_rules | `(tactic| walk_at "gx") => `(tactic| first
  | ((with_reducible refine' g_ixT ?h ?e ?_); (case h => first | assumption | exact SqT.of upd_same | exact SqT.of (by assumption)); (case e => rfl))
  | ((with_reducible refine' g_ixL ?h ?e ?_); (case h => first | assumption | exact SqL.of upd_same | exact SqL.of (by assumption)); (case e => rfl))
  | ((with_reducible refine' g_setL ?h ?e ?_); (case h => first | assumption | exact upd_same); (case e => rfl)))
local macro_rules | `(tactic| walk_at "gl") => `(tactic| first
  | ((with_reducible refine' g_lenT ?h ?_); (case h => first | assumption | exact SqT.of upd_same | exact SqT.of (by assumption)))
  | ((with_reducible refine' g_lenL ?h ?_); (case h => first | assumption | exact SqL.of upd_same | exact SqL.of (by assumption))))
local macro_rules | `(tactic| walk_at "gs") => `(tactic| repeat (first | walk_at "g" | walk_at "gv" | walk_at "gm" | walk_at "ge" | walk_at "gx" | walk_at "gl"))

def topS (i : Nat) : Stmt := PySem.Challenge.pw_rimohms_k17_stars.main.body.getD i (.Pass ⟨0, 0, 0, 0⟩)
abbrev s_other_dart : Stmt := topS 6
abbrev s_homes_of : Stmt := topS 11
abbrev s_ratio : Stmt := topS 19
abbrev s_plus : Stmt := topS 20
abbrev s_times : Stmt := topS 21
abbrev s_over : Stmt := topS 22
abbrev s_total : Stmt := topS 23
abbrev s_do_star : Stmt := topS 29
abbrev s_apply_move : Stmt := topS 33
abbrev s_inner_turn : Stmt := topS 35
abbrev s_triangle_amounts : Stmt := topS 37
abbrev s_with_darts : Stmt := topS 39
abbrev s_with_amounts : Stmt := topS 40
abbrev s_without_node : Stmt := topS 43
abbrev s_l_pick : Stmt := topS 45
abbrev s_l_gcd : Stmt := topS 46
abbrev s_l_ratio : Stmt := topS 47
abbrev s_l_add : Stmt := topS 48
abbrev s_l_mul : Stmt := topS 50
abbrev s_l_div : Stmt := topS 51
abbrev s_l_same : Stmt := topS 52
abbrev s_l_amount : Stmt := topS 53
abbrev s_l_at : Stmt := topS 54
abbrev s_l_face : Stmt := topS 55
abbrev s_l_grow : Stmt := topS 56
abbrev s_l_net : Stmt := topS 57
abbrev s_l_ends : Stmt := topS 58
abbrev s_l_other : Stmt := topS 59
abbrev s_l_drop : Stmt := topS 60
abbrev s_l_drop_node : Stmt := topS 61
abbrev s_l_put : Stmt := topS 62
abbrev s_l_swap : Stmt := topS 63
abbrev s_l_after_loop : Stmt := topS 64
abbrev s_l_after_loose : Stmt := topS 65
abbrev s_l_after_parallel : Stmt := topS 66
abbrev s_l_after_series : Stmt := topS 67
abbrev s_l_after_star : Stmt := topS 68
abbrev s_l_after_triangle : Stmt := topS 69
abbrev s_l_after_number : Stmt := topS 70
abbrev s_l_after : Stmt := topS 71
abbrev s_l_all_moves : Stmt := topS 72
abbrev s_l_told : Stmt := topS 73
abbrev s_law : Stmt := topS 74
theorem sc_other_dart : FnScope ["dart"] ["dart"] (defScope s_other_dart) := ⟨rfl, rfl, rfl, by decide +kernel, rfl, by decide +kernel, by decide +kernel⟩
theorem sc_homes_of : FnScope ["net", "node", "turn", "dart"] ["net"] (defScope s_homes_of) := ⟨rfl, rfl, rfl, by decide +kernel, rfl, by decide +kernel, by decide +kernel⟩
theorem sc_ratio : FnScope ["top", "bottom", "common"] ["top", "bottom"] (defScope s_ratio) := ⟨rfl, rfl, rfl, by decide +kernel, rfl, by decide +kernel, by decide +kernel⟩
theorem sc_plus : FnScope ["left", "right"] ["left", "right"] (defScope s_plus) := ⟨rfl, rfl, rfl, by decide +kernel, rfl, by decide +kernel, by decide +kernel⟩
theorem sc_times : FnScope ["left", "right"] ["left", "right"] (defScope s_times) := ⟨rfl, rfl, rfl, by decide +kernel, rfl, by decide +kernel, by decide +kernel⟩
theorem sc_over : FnScope ["left", "right"] ["left", "right"] (defScope s_over) := ⟨rfl, rfl, rfl, by decide +kernel, rfl, by decide +kernel, by decide +kernel⟩
theorem sc_total : FnScope ["values", "found", "value"] ["values"] (defScope s_total) := ⟨rfl, rfl, rfl, by decide +kernel, rfl, by decide +kernel, by decide +kernel⟩
theorem sc_do_star : FnScope ["net", "move", "node", "darts", "home", "x", "y", "z", "p", "q", "r", "edges", "a", "b", "c", "moved", "amounts", "dart", "edge"] ["net", "move"] (defScope s_do_star) := ⟨rfl, rfl, rfl, by decide +kernel, rfl, by decide +kernel, by decide +kernel⟩
theorem sc_apply_move : FnScope ["net", "move", "action"] ["net", "move"] (defScope s_apply_move) := ⟨rfl, rfl, rfl, by decide +kernel, rfl, by decide +kernel, by decide +kernel⟩
theorem sc_inner_turn : FnScope ["net", "node", "many", "turn"] ["net", "node", "many"] (defScope s_inner_turn) := ⟨rfl, rfl, rfl, by decide +kernel, rfl, by decide +kernel, by decide +kernel⟩
theorem sc_triangle_amounts : FnScope ["amounts", "a", "b", "c", "whole", "one", "other"] ["amounts"] (defScope s_triangle_amounts) := ⟨rfl, rfl, rfl, by decide +kernel, rfl, by decide +kernel, by decide +kernel⟩
theorem sc_with_darts : FnScope ["net", "changes", "rim", "turns", "amounts", "changed", "turn", "dart", "new"] ["net", "changes"] (defScope s_with_darts) := ⟨rfl, rfl, rfl, by decide +kernel, rfl, by decide +kernel, by decide +kernel⟩
theorem sc_with_amounts : FnScope ["net", "changes", "rim", "turns", "amounts", "edge", "amount"] ["net", "changes"] (defScope s_with_amounts) := ⟨rfl, rfl, rfl, by decide +kernel, rfl, by decide +kernel, by decide +kernel⟩
theorem sc_without_node : FnScope ["net", "node", "rim", "turns", "amounts"] ["net", "node"] (defScope s_without_node) := ⟨rfl, rfl, rfl, by decide +kernel, rfl, by decide +kernel, by decide +kernel⟩
theorem sc_l_pick : FnScope ["state", "limit", "value", "cell", "mixed"] ["state", "limit"] (defScope s_l_pick) := ⟨rfl, rfl, rfl, by decide +kernel, rfl, by decide +kernel, by decide +kernel⟩
theorem sc_l_gcd : FnScope ["left", "right"] ["left", "right"] (defScope s_l_gcd) := ⟨rfl, rfl, rfl, by decide +kernel, rfl, by decide +kernel, by decide +kernel⟩
theorem sc_l_ratio : FnScope ["top", "bottom", "common"] ["top", "bottom"] (defScope s_l_ratio) := ⟨rfl, rfl, rfl, by decide +kernel, rfl, by decide +kernel, by decide +kernel⟩
theorem sc_l_add : FnScope ["left", "right"] ["left", "right"] (defScope s_l_add) := ⟨rfl, rfl, rfl, by decide +kernel, rfl, by decide +kernel, by decide +kernel⟩
theorem sc_l_mul : FnScope ["left", "right"] ["left", "right"] (defScope s_l_mul) := ⟨rfl, rfl, rfl, by decide +kernel, rfl, by decide +kernel, by decide +kernel⟩
theorem sc_l_div : FnScope ["left", "right"] ["left", "right"] (defScope s_l_div) := ⟨rfl, rfl, rfl, by decide +kernel, rfl, by decide +kernel, by decide +kernel⟩
theorem sc_l_same : FnScope ["actual", "due", "k"] ["actual", "due"] (defScope s_l_same) := ⟨rfl, rfl, rfl, by decide +kernel, rfl, by decide +kernel, by decide +kernel⟩
theorem sc_l_amount : FnScope ["state"] ["state"] (defScope s_l_amount) := ⟨rfl, rfl, rfl, by decide +kernel, rfl, by decide +kernel, by decide +kernel⟩
theorem sc_l_at : FnScope ["turns", "dart", "k"] ["turns", "dart"] (defScope s_l_at) := ⟨rfl, rfl, rfl, by decide +kernel, rfl, by decide +kernel, by decide +kernel⟩
theorem sc_l_face : FnScope ["turns", "rim", "dart", "found", "step", "far", "node", "at"] ["turns", "rim", "dart"] (defScope s_l_face) := ⟨rfl, rfl, rfl, by decide +kernel, rfl, by decide +kernel, by decide +kernel⟩
theorem sc_l_grow : FnScope ["state", "rim", "turns", "edges", "choice", "dart", "node", "other", "k", "at", "row", "old", "face", "first", "second"] ["state", "rim", "turns", "edges", "choice"] (defScope s_l_grow) := ⟨rfl, rfl, rfl, by decide +kernel, rfl, by decide +kernel, by decide +kernel⟩
theorem sc_l_net : FnScope ["state", "most_rim", "most_edges", "rim", "k", "turns", "edges", "amounts", "turn"] ["state", "most_rim", "most_edges"] (defScope s_l_net) := ⟨rfl, rfl, rfl, by decide +kernel, rfl, by decide +kernel, by decide +kernel⟩
theorem sc_l_ends : FnScope ["net", "ends", "node", "dart", "row", "k"] ["net"] (defScope s_l_ends) := ⟨rfl, rfl, rfl, by decide +kernel, rfl, by decide +kernel, by decide +kernel⟩
theorem sc_l_other : FnScope ["dart"] ["dart"] (defScope s_l_other) := ⟨rfl, rfl, rfl, by decide +kernel, rfl, by decide +kernel, by decide +kernel⟩
theorem sc_l_drop : FnScope ["net", "edge", "turns", "turn", "dart"] ["net", "edge"] (defScope s_l_drop) := ⟨rfl, rfl, rfl, by decide +kernel, rfl, by decide +kernel, by decide +kernel⟩
theorem sc_l_drop_node : FnScope ["net", "node"] ["net", "node"] (defScope s_l_drop_node) := ⟨rfl, rfl, rfl, by decide +kernel, rfl, by decide +kernel, by decide +kernel⟩
theorem sc_l_put : FnScope ["net", "edge", "amount"] ["net", "edge", "amount"] (defScope s_l_put) := ⟨rfl, rfl, rfl, by decide +kernel, rfl, by decide +kernel, by decide +kernel⟩
theorem sc_l_swap : FnScope ["turns", "node", "dart", "row", "at"] ["turns", "node", "dart", "row"] (defScope s_l_swap) := ⟨rfl, rfl, rfl, by decide +kernel, rfl, by decide +kernel, by decide +kernel⟩
theorem sc_l_after_loop : FnScope ["net", "edge", "ends"] ["net", "edge"] (defScope s_l_after_loop) := ⟨rfl, rfl, rfl, by decide +kernel, rfl, by decide +kernel, by decide +kernel⟩
theorem sc_l_after_loose : FnScope ["net", "edge", "node"] ["net", "edge"] (defScope s_l_after_loose) := ⟨rfl, rfl, rfl, by decide +kernel, rfl, by decide +kernel, by decide +kernel⟩
theorem sc_l_after_parallel : FnScope ["net", "edge", "gone", "ends"] ["net", "edge", "gone"] (defScope s_l_after_parallel) := ⟨rfl, rfl, rfl, by decide +kernel, rfl, by decide +kernel, by decide +kernel⟩
theorem sc_l_after_series : FnScope ["net", "node", "low", "high", "a", "b", "turns", "far", "changed", "turn", "k"] ["net", "node"] (defScope s_l_after_series) := ⟨rfl, rfl, rfl, by decide +kernel, rfl, by decide +kernel, by decide +kernel⟩
theorem sc_l_after_star : FnScope ["net", "node", "p", "q", "r", "turns", "k", "far", "a", "b", "c", "marks", "whole", "changed", "edge", "one", "two", "turn", "dart", "mark"] ["net", "node"] (defScope s_l_after_star) := ⟨rfl, rfl, rfl, by decide +kernel, rfl, by decide +kernel, by decide +kernel⟩
theorem sc_l_after_triangle : FnScope ["net", "dart", "turns", "face", "nodes", "last", "at", "closes", "a", "b", "c", "k", "edge", "x", "y", "z", "whole", "changed", "turn", "step"] ["net", "dart"] (defScope s_l_after_triangle) := ⟨rfl, rfl, rfl, by decide +kernel, rfl, by decide +kernel, by decide +kernel⟩
theorem sc_l_after_number : FnScope ["net", "rim", "turns", "amounts", "places", "node", "dart", "order", "rows", "marks", "fresh", "at", "far", "turn", "changed", "row", "edge"] ["net"] (defScope s_l_after_number) := ⟨rfl, rfl, rfl, by decide +kernel, rfl, by decide +kernel, by decide +kernel⟩
theorem sc_l_after : FnScope ["net", "move"] ["net", "move"] (defScope s_l_after) := ⟨rfl, rfl, rfl, by decide +kernel, rfl, by decide +kernel, by decide +kernel⟩
theorem sc_l_all_moves : FnScope ["net", "moves", "edge", "node", "dart", "other"] ["net"] (defScope s_l_all_moves) := ⟨rfl, rfl, rfl, by decide +kernel, rfl, by decide +kernel, by decide +kernel⟩
theorem sc_l_told : FnScope ["net", "move", "e"] ["net", "move"] (defScope s_l_told) := ⟨rfl, rfl, rfl, by decide +kernel, rfl, by decide +kernel, by decide +kernel⟩
theorem sc_law : FnScope ["script", "state", "net", "move", "after", "due"] ["script"] (defScope s_law) := ⟨rfl, rfl, rfl, by decide +kernel, rfl, by decide +kernel, by decide +kernel⟩
structure Ads where
  f_other_dart : Addr
  fd_other_dart : FuncData
  f_homes_of : Addr
  fd_homes_of : FuncData
  f_ratio : Addr
  fd_ratio : FuncData
  f_plus : Addr
  fd_plus : FuncData
  f_times : Addr
  fd_times : FuncData
  f_over : Addr
  fd_over : FuncData
  f_total : Addr
  fd_total : FuncData
  f_do_star : Addr
  fd_do_star : FuncData
  f_apply_move : Addr
  fd_apply_move : FuncData
  f_inner_turn : Addr
  fd_inner_turn : FuncData
  f_triangle_amounts : Addr
  fd_triangle_amounts : FuncData
  f_with_darts : Addr
  fd_with_darts : FuncData
  f_with_amounts : Addr
  fd_with_amounts : FuncData
  f_without_node : Addr
  fd_without_node : FuncData
  f_l_pick : Addr
  fd_l_pick : FuncData
  f_l_gcd : Addr
  fd_l_gcd : FuncData
  f_l_ratio : Addr
  fd_l_ratio : FuncData
  f_l_add : Addr
  fd_l_add : FuncData
  f_l_mul : Addr
  fd_l_mul : FuncData
  f_l_div : Addr
  fd_l_div : FuncData
  f_l_same : Addr
  fd_l_same : FuncData
  f_l_amount : Addr
  fd_l_amount : FuncData
  f_l_at : Addr
  fd_l_at : FuncData
  f_l_face : Addr
  fd_l_face : FuncData
  f_l_grow : Addr
  fd_l_grow : FuncData
  f_l_net : Addr
  fd_l_net : FuncData
  f_l_ends : Addr
  fd_l_ends : FuncData
  f_l_other : Addr
  fd_l_other : FuncData
  f_l_drop : Addr
  fd_l_drop : FuncData
  f_l_drop_node : Addr
  fd_l_drop_node : FuncData
  f_l_put : Addr
  fd_l_put : FuncData
  f_l_swap : Addr
  fd_l_swap : FuncData
  f_l_after_loop : Addr
  fd_l_after_loop : FuncData
  f_l_after_loose : Addr
  fd_l_after_loose : FuncData
  f_l_after_parallel : Addr
  fd_l_after_parallel : FuncData
  f_l_after_series : Addr
  fd_l_after_series : FuncData
  f_l_after_star : Addr
  fd_l_after_star : FuncData
  f_l_after_triangle : Addr
  fd_l_after_triangle : FuncData
  f_l_after_number : Addr
  fd_l_after_number : FuncData
  f_l_after : Addr
  fd_l_after : FuncData
  f_l_all_moves : Addr
  fd_l_all_moves : FuncData
  f_l_told : Addr
  fd_l_told : FuncData
  f_law : Addr
  fd_law : FuncData
  C_RimError : Addr
  C_RatioError : Addr
  C_MoveError : Addr
  z_ZERO : Addr
  z_ACTIONS : Addr
structure Txt (K : PySem.W.Frag) (mg : Str → Option Value) (A : Ads) : Prop where
  g_other_dart : mg "other_dart" = some (.ref A.f_other_dart)
  F_other_dart : Fun K "other_dart" "other_dart" s_other_dart A.f_other_dart A.fd_other_dart
  b_other_dart : L2.Binds K A.fd_other_dart ["dart"] []
  g_homes_of : mg "homes_of" = some (.ref A.f_homes_of)
  F_homes_of : Fun K "homes_of" "homes_of" s_homes_of A.f_homes_of A.fd_homes_of
  b_homes_of : L2.Binds K A.fd_homes_of ["net"] []
  g_ratio : mg "ratio" = some (.ref A.f_ratio)
  F_ratio : Fun K "ratio" "ratio" s_ratio A.f_ratio A.fd_ratio
  b_ratio : L2.Binds K A.fd_ratio ["top", "bottom"] []
  g_plus : mg "plus" = some (.ref A.f_plus)
  F_plus : Fun K "plus" "plus" s_plus A.f_plus A.fd_plus
  b_plus : L2.Binds K A.fd_plus ["left", "right"] []
  g_times : mg "times" = some (.ref A.f_times)
  F_times : Fun K "times" "times" s_times A.f_times A.fd_times
  b_times : L2.Binds K A.fd_times ["left", "right"] []
  g_over : mg "over" = some (.ref A.f_over)
  F_over : Fun K "over" "over" s_over A.f_over A.fd_over
  b_over : L2.Binds K A.fd_over ["left", "right"] []
  g_total : mg "total" = some (.ref A.f_total)
  F_total : Fun K "total" "total" s_total A.f_total A.fd_total
  b_total : L2.Binds K A.fd_total ["values"] []
  g_do_star : mg "do_star" = some (.ref A.f_do_star)
  F_do_star : Fun K "do_star" "do_star" s_do_star A.f_do_star A.fd_do_star
  b_do_star : L2.Binds K A.fd_do_star ["net", "move"] []
  g_apply_move : mg "apply_move" = some (.ref A.f_apply_move)
  F_apply_move : Fun K "apply_move" "apply_move" s_apply_move A.f_apply_move A.fd_apply_move
  b_apply_move : L2.Binds K A.fd_apply_move ["net", "move"] []
  g_inner_turn : mg "inner_turn" = some (.ref A.f_inner_turn)
  F_inner_turn : Fun K "inner_turn" "inner_turn" s_inner_turn A.f_inner_turn A.fd_inner_turn
  b_inner_turn : L2.Binds K A.fd_inner_turn ["net", "node", "many"] []
  g_triangle_amounts : mg "triangle_amounts" = some (.ref A.f_triangle_amounts)
  F_triangle_amounts : Fun K "triangle_amounts" "triangle_amounts" s_triangle_amounts A.f_triangle_amounts A.fd_triangle_amounts
  b_triangle_amounts : L2.Binds K A.fd_triangle_amounts ["amounts"] []
  g_with_darts : mg "with_darts" = some (.ref A.f_with_darts)
  F_with_darts : Fun K "with_darts" "with_darts" s_with_darts A.f_with_darts A.fd_with_darts
  b_with_darts : L2.Binds K A.fd_with_darts ["net", "changes"] []
  g_with_amounts : mg "with_amounts" = some (.ref A.f_with_amounts)
  F_with_amounts : Fun K "with_amounts" "with_amounts" s_with_amounts A.f_with_amounts A.fd_with_amounts
  b_with_amounts : L2.Binds K A.fd_with_amounts ["net", "changes"] []
  g_without_node : mg "without_node" = some (.ref A.f_without_node)
  F_without_node : Fun K "without_node" "without_node" s_without_node A.f_without_node A.fd_without_node
  b_without_node : L2.Binds K A.fd_without_node ["net", "node"] []
  g_l_pick : mg "_law_pick" = some (.ref A.f_l_pick)
  F_l_pick : Fun K "_law_pick" "_law_pick" s_l_pick A.f_l_pick A.fd_l_pick
  b_l_pick : L2.Binds K A.fd_l_pick ["state", "limit"] []
  g_l_gcd : mg "_law_gcd" = some (.ref A.f_l_gcd)
  F_l_gcd : Fun K "_law_gcd" "_law_gcd" s_l_gcd A.f_l_gcd A.fd_l_gcd
  b_l_gcd : L2.Binds K A.fd_l_gcd ["left", "right"] []
  g_l_ratio : mg "_law_ratio" = some (.ref A.f_l_ratio)
  F_l_ratio : Fun K "_law_ratio" "_law_ratio" s_l_ratio A.f_l_ratio A.fd_l_ratio
  b_l_ratio : L2.Binds K A.fd_l_ratio ["top", "bottom"] []
  g_l_add : mg "_law_add" = some (.ref A.f_l_add)
  F_l_add : Fun K "_law_add" "_law_add" s_l_add A.f_l_add A.fd_l_add
  b_l_add : L2.Binds K A.fd_l_add ["left", "right"] []
  g_l_mul : mg "_law_mul" = some (.ref A.f_l_mul)
  F_l_mul : Fun K "_law_mul" "_law_mul" s_l_mul A.f_l_mul A.fd_l_mul
  b_l_mul : L2.Binds K A.fd_l_mul ["left", "right"] []
  g_l_div : mg "_law_div" = some (.ref A.f_l_div)
  F_l_div : Fun K "_law_div" "_law_div" s_l_div A.f_l_div A.fd_l_div
  b_l_div : L2.Binds K A.fd_l_div ["left", "right"] []
  g_l_same : mg "_law_same" = some (.ref A.f_l_same)
  F_l_same : Fun K "_law_same" "_law_same" s_l_same A.f_l_same A.fd_l_same
  b_l_same : L2.Binds K A.fd_l_same ["actual", "due"] []
  g_l_amount : mg "_law_amount" = some (.ref A.f_l_amount)
  F_l_amount : Fun K "_law_amount" "_law_amount" s_l_amount A.f_l_amount A.fd_l_amount
  b_l_amount : L2.Binds K A.fd_l_amount ["state"] []
  g_l_at : mg "_law_at" = some (.ref A.f_l_at)
  F_l_at : Fun K "_law_at" "_law_at" s_l_at A.f_l_at A.fd_l_at
  b_l_at : L2.Binds K A.fd_l_at ["turns", "dart"] []
  g_l_face : mg "_law_face" = some (.ref A.f_l_face)
  F_l_face : Fun K "_law_face" "_law_face" s_l_face A.f_l_face A.fd_l_face
  b_l_face : L2.Binds K A.fd_l_face ["turns", "rim", "dart"] []
  g_l_grow : mg "_law_grow" = some (.ref A.f_l_grow)
  F_l_grow : Fun K "_law_grow" "_law_grow" s_l_grow A.f_l_grow A.fd_l_grow
  b_l_grow : L2.Binds K A.fd_l_grow ["state", "rim", "turns", "edges", "choice"] []
  g_l_net : mg "_law_net" = some (.ref A.f_l_net)
  F_l_net : Fun K "_law_net" "_law_net" s_l_net A.f_l_net A.fd_l_net
  b_l_net : L2.Binds K A.fd_l_net ["state", "most_rim", "most_edges"] []
  g_l_ends : mg "_law_ends" = some (.ref A.f_l_ends)
  F_l_ends : Fun K "_law_ends" "_law_ends" s_l_ends A.f_l_ends A.fd_l_ends
  b_l_ends : L2.Binds K A.fd_l_ends ["net"] []
  g_l_other : mg "_law_other" = some (.ref A.f_l_other)
  F_l_other : Fun K "_law_other" "_law_other" s_l_other A.f_l_other A.fd_l_other
  b_l_other : L2.Binds K A.fd_l_other ["dart"] []
  g_l_drop : mg "_law_drop" = some (.ref A.f_l_drop)
  F_l_drop : Fun K "_law_drop" "_law_drop" s_l_drop A.f_l_drop A.fd_l_drop
  b_l_drop : L2.Binds K A.fd_l_drop ["net", "edge"] []
  g_l_drop_node : mg "_law_drop_node" = some (.ref A.f_l_drop_node)
  F_l_drop_node : Fun K "_law_drop_node" "_law_drop_node" s_l_drop_node A.f_l_drop_node A.fd_l_drop_node
  b_l_drop_node : L2.Binds K A.fd_l_drop_node ["net", "node"] []
  g_l_put : mg "_law_put" = some (.ref A.f_l_put)
  F_l_put : Fun K "_law_put" "_law_put" s_l_put A.f_l_put A.fd_l_put
  b_l_put : L2.Binds K A.fd_l_put ["net", "edge", "amount"] []
  g_l_swap : mg "_law_swap" = some (.ref A.f_l_swap)
  F_l_swap : Fun K "_law_swap" "_law_swap" s_l_swap A.f_l_swap A.fd_l_swap
  b_l_swap : L2.Binds K A.fd_l_swap ["turns", "node", "dart", "row"] []
  g_l_after_loop : mg "_law_after_loop" = some (.ref A.f_l_after_loop)
  F_l_after_loop : Fun K "_law_after_loop" "_law_after_loop" s_l_after_loop A.f_l_after_loop A.fd_l_after_loop
  b_l_after_loop : L2.Binds K A.fd_l_after_loop ["net", "edge"] []
  g_l_after_loose : mg "_law_after_loose" = some (.ref A.f_l_after_loose)
  F_l_after_loose : Fun K "_law_after_loose" "_law_after_loose" s_l_after_loose A.f_l_after_loose A.fd_l_after_loose
  b_l_after_loose : L2.Binds K A.fd_l_after_loose ["net", "edge"] []
  g_l_after_parallel : mg "_law_after_parallel" = some (.ref A.f_l_after_parallel)
  F_l_after_parallel : Fun K "_law_after_parallel" "_law_after_parallel" s_l_after_parallel A.f_l_after_parallel A.fd_l_after_parallel
  b_l_after_parallel : L2.Binds K A.fd_l_after_parallel ["net", "edge", "gone"] []
  g_l_after_series : mg "_law_after_series" = some (.ref A.f_l_after_series)
  F_l_after_series : Fun K "_law_after_series" "_law_after_series" s_l_after_series A.f_l_after_series A.fd_l_after_series
  b_l_after_series : L2.Binds K A.fd_l_after_series ["net", "node"] []
  g_l_after_star : mg "_law_after_star" = some (.ref A.f_l_after_star)
  F_l_after_star : Fun K "_law_after_star" "_law_after_star" s_l_after_star A.f_l_after_star A.fd_l_after_star
  b_l_after_star : L2.Binds K A.fd_l_after_star ["net", "node"] []
  g_l_after_triangle : mg "_law_after_triangle" = some (.ref A.f_l_after_triangle)
  F_l_after_triangle : Fun K "_law_after_triangle" "_law_after_triangle" s_l_after_triangle A.f_l_after_triangle A.fd_l_after_triangle
  b_l_after_triangle : L2.Binds K A.fd_l_after_triangle ["net", "dart"] []
  g_l_after_number : mg "_law_after_number" = some (.ref A.f_l_after_number)
  F_l_after_number : Fun K "_law_after_number" "_law_after_number" s_l_after_number A.f_l_after_number A.fd_l_after_number
  b_l_after_number : L2.Binds K A.fd_l_after_number ["net"] []
  g_l_after : mg "_law_after" = some (.ref A.f_l_after)
  F_l_after : Fun K "_law_after" "_law_after" s_l_after A.f_l_after A.fd_l_after
  b_l_after : L2.Binds K A.fd_l_after ["net", "move"] []
  g_l_all_moves : mg "_law_all_moves" = some (.ref A.f_l_all_moves)
  F_l_all_moves : Fun K "_law_all_moves" "_law_all_moves" s_l_all_moves A.f_l_all_moves A.fd_l_all_moves
  b_l_all_moves : L2.Binds K A.fd_l_all_moves ["net"] []
  g_l_told : mg "_law_told" = some (.ref A.f_l_told)
  F_l_told : Fun K "_law_told" "_law_told" s_l_told A.f_l_told A.fd_l_told
  b_l_told : L2.Binds K A.fd_l_told ["net", "move"] []
  g_law : mg "law" = some (.ref A.f_law)
  F_law : Fun K "law" "law" s_law A.f_law A.fd_law
  b_law : L2.Binds K A.fd_law ["script"] []
  g_RimError : mg "RimError" = some (.ref A.C_RimError)
  x_RimError : PySem.W.excIn K (A.C_RimError) [.type "ValueError", .type "Exception", .type "BaseException", .type "object"] "ValueError.__new__" = true
  k_RimError : PySem.W.keepIn K (.ref (A.C_RimError)) = true
  bb_RimError : PySem.W.subIn K (.ref (A.C_RimError)) (.type "BaseException") = some true
  t_RimError : PySem.W.typeIn K (.ref (A.C_RimError)) = some (.type "type")
  d_RimError : PySem.W.hasDictIn K (A.C_RimError) = true
  hg_RimError : PySem.W.findIn K (.ref (A.C_RimError)) "__getattribute__" = some (some (.builtin "BaseException.__getattribute__"))
  hk_RimError : PySem.W.findIn K (.ref (A.C_RimError)) "__getattr__" = some none
  ha_RimError : PySem.W.findIn K (.ref (A.C_RimError)) "__class__" = some (some (.builtin "object.__class__"))
  hm_RimError : PySem.W.mroIn K (A.C_RimError) (.type "object") = some true
  v_RimError : PySem.W.kitOne K (.ref (A.C_RimError)) (.type "ValueError") = some true
  i_RimError_RimError : PySem.W.kitOne K (.ref (A.C_RimError)) (.ref (A.C_RimError)) = some true
  e_RimError_RimError : PySem.W.exmOne K (.ref (A.C_RimError)) (.ref (A.C_RimError)) = some true
  i_RatioError_RimError : PySem.W.kitOne K (.ref (A.C_RimError)) (.ref (A.C_RatioError)) = some false
  e_RatioError_RimError : PySem.W.exmOne K (.ref (A.C_RimError)) (.ref (A.C_RatioError)) = some false
  i_MoveError_RimError : PySem.W.kitOne K (.ref (A.C_RimError)) (.ref (A.C_MoveError)) = some false
  e_MoveError_RimError : PySem.W.exmOne K (.ref (A.C_RimError)) (.ref (A.C_MoveError)) = some false
  g_RatioError : mg "RatioError" = some (.ref A.C_RatioError)
  x_RatioError : PySem.W.excIn K (A.C_RatioError) [.type "ValueError", .type "Exception", .type "BaseException", .type "object"] "ValueError.__new__" = true
  k_RatioError : PySem.W.keepIn K (.ref (A.C_RatioError)) = true
  bb_RatioError : PySem.W.subIn K (.ref (A.C_RatioError)) (.type "BaseException") = some true
  t_RatioError : PySem.W.typeIn K (.ref (A.C_RatioError)) = some (.type "type")
  d_RatioError : PySem.W.hasDictIn K (A.C_RatioError) = true
  hg_RatioError : PySem.W.findIn K (.ref (A.C_RatioError)) "__getattribute__" = some (some (.builtin "BaseException.__getattribute__"))
  hk_RatioError : PySem.W.findIn K (.ref (A.C_RatioError)) "__getattr__" = some none
  ha_RatioError : PySem.W.findIn K (.ref (A.C_RatioError)) "__class__" = some (some (.builtin "object.__class__"))
  hm_RatioError : PySem.W.mroIn K (A.C_RatioError) (.type "object") = some true
  v_RatioError : PySem.W.kitOne K (.ref (A.C_RatioError)) (.type "ValueError") = some true
  i_RimError_RatioError : PySem.W.kitOne K (.ref (A.C_RatioError)) (.ref (A.C_RimError)) = some true
  e_RimError_RatioError : PySem.W.exmOne K (.ref (A.C_RatioError)) (.ref (A.C_RimError)) = some true
  i_RatioError_RatioError : PySem.W.kitOne K (.ref (A.C_RatioError)) (.ref (A.C_RatioError)) = some true
  e_RatioError_RatioError : PySem.W.exmOne K (.ref (A.C_RatioError)) (.ref (A.C_RatioError)) = some true
  i_MoveError_RatioError : PySem.W.kitOne K (.ref (A.C_RatioError)) (.ref (A.C_MoveError)) = some false
  e_MoveError_RatioError : PySem.W.exmOne K (.ref (A.C_RatioError)) (.ref (A.C_MoveError)) = some false
  g_MoveError : mg "MoveError" = some (.ref A.C_MoveError)
  x_MoveError : PySem.W.excIn K (A.C_MoveError) [.type "ValueError", .type "Exception", .type "BaseException", .type "object"] "ValueError.__new__" = true
  k_MoveError : PySem.W.keepIn K (.ref (A.C_MoveError)) = true
  bb_MoveError : PySem.W.subIn K (.ref (A.C_MoveError)) (.type "BaseException") = some true
  t_MoveError : PySem.W.typeIn K (.ref (A.C_MoveError)) = some (.type "type")
  d_MoveError : PySem.W.hasDictIn K (A.C_MoveError) = true
  hg_MoveError : PySem.W.findIn K (.ref (A.C_MoveError)) "__getattribute__" = some (some (.builtin "BaseException.__getattribute__"))
  hk_MoveError : PySem.W.findIn K (.ref (A.C_MoveError)) "__getattr__" = some none
  ha_MoveError : PySem.W.findIn K (.ref (A.C_MoveError)) "__class__" = some (some (.builtin "object.__class__"))
  hm_MoveError : PySem.W.mroIn K (A.C_MoveError) (.type "object") = some true
  v_MoveError : PySem.W.kitOne K (.ref (A.C_MoveError)) (.type "ValueError") = some true
  i_RimError_MoveError : PySem.W.kitOne K (.ref (A.C_MoveError)) (.ref (A.C_RimError)) = some true
  e_RimError_MoveError : PySem.W.exmOne K (.ref (A.C_MoveError)) (.ref (A.C_RimError)) = some true
  i_RatioError_MoveError : PySem.W.kitOne K (.ref (A.C_MoveError)) (.ref (A.C_RatioError)) = some false
  e_RatioError_MoveError : PySem.W.exmOne K (.ref (A.C_MoveError)) (.ref (A.C_RatioError)) = some false
  i_MoveError_MoveError : PySem.W.kitOne K (.ref (A.C_MoveError)) (.ref (A.C_MoveError)) = some true
  e_MoveError_MoveError : PySem.W.exmOne K (.ref (A.C_MoveError)) (.ref (A.C_MoveError)) = some true
  c_ZERO : mg "ZERO" = some (.ref A.z_ZERO)
  q_ZERO : ∀ H, SqT K H A.z_ZERO [.int 0, .int 1]
  c_ACTIONS : mg "ACTIONS" = some (.ref A.z_ACTIONS)
  n_ValueError : mg "ValueError" = none
  n_abs : mg "abs" = none
  n_all : mg "all" = none
  n_bool : mg "bool" = none
  n_dict : mg "dict" = none
  n_enumerate : mg "enumerate" = none
  n_int : mg "int" = none
  n_isinstance : mg "isinstance" = none
  n_len : mg "len" = none
  n_list : mg "list" = none
  n_range : mg "range" = none
  n_set : mg "set" = none
  n_str : mg "str" = none
  n_tuple : mg "tuple" = none
  n_zip : mg "zip" = none
  g_gcd : mg "gcd" = some (.builtin "math.gcd")
  hn_ : PySem.W.specialIn K (.builtin "object.__class__") "__get__" = some (some (.builtin "getset_descriptor.__get__"))
  ht_ : PySem.W.takesIn K (.builtin "object.__class__") = some true
section
variable {P : Program} {w : World} {K : PySem.W.Frag} {mg : Str → Option Value} {base : Heap} {A : Ads}
theorem ok_l_pick (T : Txt K mg A) : FnOk P w K mg base CX0 1 A.f_l_pick A.fd_l_pick ["state", "limit"] spPick := by
  have nd := sc_l_pick.nd
  refine T.F_l_pick.ok sc_l_pick (fun vs H Q E h => ?_) (fun cdv Ar outer s H vs Q E hr h => ?_)
  · obtain ⟨S, c, lim, rfl, _⟩ := h
    rfl
  · obtain ⟨S, c, lim, rfl, ⟨ncS, i, h, n, cs, eS, ec, hi, hh⟩, hl, hl2, k⟩ := h
    refine ⟨_, (pss_cons (ps_asg (pe_op op_add (pe_ix (ix_listK (K := K) rfl) (pv 0) pe_int (fun _ _ => rfl)) pe_int) (pg_sub (pv 0) pe_int set_list)) (pss_cons (ps_if (pt_cmpR op_gt (pe_ix (ix_listK (K := K) rfl) (pv 0) pe_int (fun _ _ => rfl)) pe_int (nomark _)) (pss_cons (ps_set (i := 2) nd rfl (Or.inl rfl) (pe_op op_modN (pe_callTy zc_int (by rfl) T.n_int (by decide +kernel) (pa_cons (pe_ix (ix_listK (K := K) rfl) (pv 0) pe_int (fun _ _ => rfl)) pa_nil)) (pv 1))) (pss_cons (ps_asg (pe_op op_fdivZ (pe_ix (ix_listK (K := K) rfl) (pv 0) pe_int (fun _ _ => rfl)) (pv 1)) (pg_sub (pv 0) pe_int set_list)) (pss_one (ps_ret (pv 2))))) pss_nil) (pss_cons (ps_set (i := 3) nd rfl (Or.inl rfl) pe_int) (pss_cutZ (ps_if (pt_cmpR op_lt (pe_ix (ix_listK (K := K) rfl) (pv 0) pe_int (fun _ _ => rfl)) (pe_callB (zc_lenK (K := K) rfl) (by rfl) T.n_len (by decide +kernel) (pa_cons (pe_ix (ix_listK (K := K) rfl) (pv 0) pe_int (fun _ _ => rfl)) pa_nil)) (nomark _)) (pss_one (ps_set (i := 3) nd rfl (Or.inl rfl) (pe_ix (ix_listK (K := K) rfl) (pe_ix (ix_listK (K := K) rfl) (pv 0) pe_int (fun _ _ => rfl)) (pe_ix (ix_listK (K := K) rfl) (pv 0) pe_int (fun _ _ => rfl)) (fun _ _ => rfl)))) pss_nil) (pss_cons (ps_asg (pe_op op_add (pe_ix (ix_listK (K := K) rfl) (pv 0) pe_int (fun _ _ => rfl)) pe_int) (pg_sub (pv 0) pe_int set_list)) (pss_cons (ps_if (pt_cmpR op_ge (pv 3) (pe_op op_pow pe_int pe_int) (nomark _)) (pss_cons (ps_asg (pe_op op_fdivZ (pv 3) (pv 1)) (pg_sub (pv 0) pe_int set_list)) (pss_one (ps_ret (pe_op op_modN (pe_callTy zc_int (by rfl) T.n_int (by decide +kernel) (pa_cons (pv 3) pa_nil)) (pv 1))))) pss_nil) (pss_cons (ps_set (i := 4) nd rfl (Or.inl rfl) (pe_op op_modN (pe_callTy zc_int (by rfl) T.n_int (by decide +kernel) (pa_cons (pe_op op_add (pe_op op_mul (pe_op op_modN (pe_callTy zc_int (by rfl) T.n_int (by decide +kernel) (pa_cons (pe_op op_add (pe_op op_add (pe_op op_mul (pv 3) pe_int) (pe_op op_mul (pe_ix (ix_listK (K := K) rfl) (pv 0) pe_int (fun _ _ => rfl)) pe_int)) pe_int) pa_nil)) pe_int) pe_int) (pe_ix (ix_listK (K := K) rfl) (pv 0) pe_int (fun _ _ => rfl))) pa_nil)) pe_int)) (pss_one (ps_ret (pe_op op_modN (pe_callTy zc_int (by rfl) T.n_int (by decide +kernel) (pa_cons (pe_op op_fdivZ (pv 4) pe_int) pa_nil)) (pv 1))))))))))), ?_⟩
    have hne : lim ≠ 0 := by omega
    have hcd : ∀ x : Int, CDivZ x lim := fun x => ⟨hne, hl2⟩
    have c1 : H c = some (.lst (cs.map V.int)) := ec
    walk_at "gs"
    refine if_2 (fun e => ?_) (fun e => ?_)
    · walk_at "gs"
      refine g_I (hcd _) ?_
      walk_at "gs"
      refine k _ _ (Int.fmod_nonneg_of_pos _ hl) (Int.fmod_lt_of_pos _ hl) ?_ ?_
      · have h0 : 0 < h := of_decide_eq_true e
        refine ⟨ncS, i, h.fdiv lim, n + 1, cs, upd_same, ?_, hi, ?_⟩
        · rw [upd_ne ncS, upd_ne ncS]
          exact ec
        · rw [Int.fdiv_eq_ediv_of_nonneg _ (by omega)]
          exact Int.ediv_nonneg hh (by omega)
      · rw [upd_upd]
        exact Kp.upd
    · have e0 : h = 0 := by
        have := of_decide_eq_false e
        omega
      subst e0
      walk_at "gs"
      have hS1 : ∀ o : HO, (upd H S o) c = some (.lst (cs.map V.int)) := fun o => by
        rw [upd_ne ncS]
        exact ec
      have hL1 : ∀ o : HO, SqL K (upd H S o) c (cs.map V.int) := fun o => SqL.of (hS1 o)
      refine g_cut (fun σ' H' => ∃ cl : Int, σ' = [some (.ref S), some (.int lim), none, some (.int cl), none] ∧ H' = upd H S (.lst [.ref c, .int i, .int 0, .int (n + 1)])) ?_ ?_
      · walk_at "gs"
        refine g_lenL (hL1 _) ?_
        walk_at "gs"
        refine if_2 (fun e => ?_) (fun e => ?_)
        · have hlt := of_decide_eq_true e
          rw [List.length_map] at hlt
          obtain ⟨j, ej⟩ : ∃ j : Nat, i = (j : Int) := ⟨i.toNat, by omega⟩
          have hj : j < cs.length := by omega
          walk_at "gs"
          refine g_ixL (hL1 _) (v := .int (cs[j])) ?_ ?_
          · rw [ej]
            exact atI_nat (by rw [List.getElem?_map, List.getElem?_eq_getElem hj]; rfl)
          walk_at "gs"
          exact ⟨cs[j], rfl, rfl⟩
        · walk_at "gs"
          exact ⟨0, rfl, rfl⟩
      · rintro σ' H' ⟨cl, rfl, rfl⟩
        walk_at "gs"
        refine if_2 (fun e => ?_) (fun e => ?_)
        · have hbig : (10 : Int) ^ 18 ≤ cl := of_decide_eq_true e
          have hcl : 0 ≤ cl := Int.le_trans (by decide) hbig
          walk_at "gs"
          refine g_I (hcd _) ?_
          walk_at "gs"
          refine k _ _ (Int.fmod_nonneg_of_pos _ hl) (Int.fmod_lt_of_pos _ hl) ?_ ?_
          · refine ⟨ncS, i + 1, cl.fdiv lim, n + 1, cs, upd_same, ?_, by omega, ?_⟩
            · rw [upd_upd, upd_upd]
              exact hS1 _
            · rw [Int.fdiv_eq_ediv_of_nonneg _ (by omega)]
              exact Int.ediv_nonneg hcl (by omega)
          · rw [upd_upd, upd_upd]
            exact Kp.upd
        · walk_at "gs"
          refine k _ _ (Int.fmod_nonneg_of_pos _ hl) (Int.fmod_lt_of_pos _ hl) ?_ ?_
          · refine ⟨ncS, i + 1, 0, n + 1, cs, upd_same, ?_, by omega, by omega⟩
            rw [upd_upd]
            exact hS1 _
          · rw [upd_upd]
            exact Kp.upd
end

section
variable {P : Program} {w : World} {K : PySem.W.Frag} {mg : Str → Option Value} {base : Heap} {A : Ads}
theorem ok_l_gcd (T : Txt K mg A) : FnOk P w K mg base CX0 1 A.f_l_gcd A.fd_l_gcd ["left", "right"] spGcd := by
  have nd := sc_l_gcd.nd
  refine T.F_l_gcd.ok sc_l_gcd (fun vs H Q E h => ?_) (fun cdv Ar outer s H vs Q E hr h => ?_)
  · obtain ⟨a, b, rfl, _⟩ := h
    rfl
  · obtain ⟨a, b, rfl, ha, hb, k⟩ := h
    refine ⟨_, (pss_cons (ps_while PassesOwn.never (pt_cmpR op_ne (pv 1) pe_int (nomark _)) (pss_one (ps_par (i := 0) (j := 1) rfl nd rfl rfl (by decide) rfl rfl (pa_cons (pv 1) (pa_cons (pe_op op_modN (pe_callTy zc_int (by rfl) T.n_int (by decide +kernel) (pa_cons (pv 0) pa_nil)) (pv 1)) pa_nil)) (by rfl)))) (pss_one (ps_ret (pv 0)))), ?_⟩
    walk_at "gs"
    refine g_while (fun m σ H' => ∃ x y : Int, σ = [some (.int x), some (.int y)] ∧ 0 ≤ x ∧ 0 ≤ y ∧ gcdI x y = gcdI a b ∧ H' = H ∧ m = y.natAbs) _ ⟨a, b, rfl, ha, hb, rfl, rfl, rfl⟩ ?_
    rintro m σ H' ⟨x, y, rfl, hx, hy, eg, rfl, rfl⟩
    walk_at "gs"
    refine if_2 (fun e => ⟨_, fun _ _ h => h, ?_⟩) (fun e => ?_)
    · have hne : y ≠ 0 := by
        intro z
        rw [z] at e
        cases e
      walk_at "gs"
      have h1 := Int.fmod_nonneg_of_pos x (show 0 < y by omega)
      have h2 := Int.fmod_lt_of_pos x (show 0 < y by omega)
      exact ⟨_, by omega, y, x.fmod y, rfl, hy, h1, by rw [gcdI_step hx hy hne]; exact eg, rfl, rfl⟩
    · have he : y = 0 := by
        have h1 := of_decide_eq_true (show decide (V.int y = V.int 0) = true by simpa using e)
        exact V.int.inj h1
      subst he
      walk_at "gs"
      rw [gcdI_zero hx] at eg
      rw [eg]
      exact k
theorem ok_l_ratio (T : Txt K mg A) : FnOk P w K mg base CX0 2 A.f_l_ratio A.fd_l_ratio ["top", "bottom"] (spLRatio K) := by
  have G_l_gcd := ok_l_gcd (P := P) (w := w) (base := base) T
  have nd := sc_l_ratio.nd
  refine T.F_l_ratio.ok sc_l_ratio (fun vs H Q E h => ?_) (fun cdv Ar outer s H vs Q E hr h => ?_)
  · obtain ⟨a, b, rfl, _⟩ := h
    rfl
  · obtain ⟨a, b, rfl, hb, hsz, k⟩ := h
    refine ⟨_, (pss_cons (ps_set (i := 2) nd rfl (Or.inl rfl) (pe_call (E := E0) G_l_gcd (hr.mono (by decide)) (by rfl) T.g_l_gcd T.F_l_gcd.kp T.b_l_gcd .nil pass0 (pa_cons (pe_callB zc_abs (by rfl) T.n_abs (by decide +kernel) (pa_cons (pv 0) pa_nil)) (pa_cons (pe_callB zc_abs (by rfl) T.n_abs (by decide +kernel) (pa_cons (pv 1) pa_nil)) pa_nil)))) (pss_cutZ (ps_if (pt_cmpR op_lt (pv 1) pe_int (nomark _)) (pss_one (ps_set (i := 2) nd rfl (Or.inl rfl) (pe_un un_neg (pv 2)))) pss_nil) (pss_one (ps_ret (pe_tup (pa_cons (pe_op op_fdivZ (pv 0) (pv 2)) (pa_cons (pe_op op_fdivZ (pv 1) (pv 2)) pa_nil))))))), ?_⟩
    walk_at "gs"
    refine ⟨_, _, rfl, by split <;> omega, by split <;> omega, ?_⟩
    rw [abs_gcd]
    walk_at "gs"
    refine g_cut (fun σ' H' => σ' = [some (.int a), some (.int b), some (.int (comI a b))] ∧ H' = H) ?_ ?_
    · walk_at "gs"
      refine if_2 (fun e => ?_) (fun e => ?_)
      · walk_at "gs"
        refine ⟨?_, rfl⟩
        have := of_decide_eq_true e
        unfold comI
        rw [if_pos this]
        rfl
      · walk_at "gs"
        refine ⟨?_, rfl⟩
        have := of_decide_eq_false e
        unfold comI
        rw [if_neg this]
        rfl
    · rintro σ' H' ⟨rfl, rfl⟩
      have hc : ∀ x, CDivZ x (comI a b) := fun x => ⟨comI_ne hb, by
        rw [comI_abs]
        exact Nat.lt_of_le_of_lt (gcdI_le hb) hsz⟩
      walk_at "gs"
      refine g_I (hc _) ?_
      walk_at "gs"
      refine g_I (hc _) ?_
      walk_at "gs"
      rw [fdiv_num hb, fdiv_den hb]
      refine g_newT (by show 2 ≤ 1000000; decide) fun p hp => ?_
      exact k _ _ (up_same hp) RatV.new
end

section
variable {P : Program} {w : World} {K : PySem.W.Frag} {mg : Str → Option Value} {base : Heap} {A : Ads}
theorem ok_l_at (T : Txt K mg A) : FnOk P w K mg base CX0 1 A.f_l_at A.fd_l_at ["turns", "dart"] spAt := by
  have nd := sc_l_at.nd
  refine T.F_l_at.ok sc_l_at (fun vs H Q E h => ?_) (fun cdv Ar outer s H vs Q E hr h => ?_)
  · obtain ⟨T, d, rs, rows, rfl, _⟩ := h
    rfl
  · obtain ⟨T', d, rs, rows, rfl, hR, hd, hf, k⟩ := h
    refine ⟨_, (pss_cons (ps_for PassesOwn.never rfl (pi_range1 (by rfl) T.n_range (pa_cons (pe_callB (zc_lenK (K := K) rfl) (by rfl) T.n_len (by decide +kernel) (pa_cons (pv 0) pa_nil)) pa_nil)) (pg_name (i := 2) nd rfl (Or.inl rfl)) (pss_one (ps_if (pt_cmpR (op_inK (K := K) rfl) (pv 1) (pe_ix (ix_listK (K := K) rfl) (pv 0) (pv 2) (fun _ _ => rfl)) (by rfl)) (pss_one (ps_ret (pe_lst (pa_cons (pv 2) (pa_cons (pe_bm PySem.F.plainAttrs_list PySem.F.slot_list_index PySem.F.type_list_index (mt_indexK (K := K) rfl) (pe_ix (ix_listK (K := K) rfl) (pv 0) (pv 2) (fun _ _ => rfl)) (pa_cons (pv 1) pa_nil)) pa_nil))))) pss_nil))) (pss_one (ps_ret (pe_lst (pa_cons pe_int (pa_cons pe_int pa_nil)))))), ?_⟩
    walk_at "gs"
    have hT : SqL K H T' (rs.map V.ref) := SqL.of hR.top
    refine g_lenL hT ?_
    walk_at "gs"
    have hk : rows.findIdx (fun r => decide (d ∈ r)) < rows.length := by
      obtain ⟨k, row, hk, hd⟩ := mem_flat.mp hd
      exact List.findIdx_lt_length.mpr ⟨row, List.mem_of_getElem? hk, decide_eq_true hd⟩
    refine g_rng rows.length (by rw [List.length_map, hR.len]) (by have := hf.1; omega) (fun i σ' H' => i ≤ rows.findIdx (fun r => decide (d ∈ r)) ∧ ∃ u, σ' = [some (.ref T'), some (.int d), u] ∧ H' = H) ⟨Nat.zero_le _, none, rfl, rfl⟩ ?_ ?_
    · rintro i σ' H' hi ⟨hle, u, rfl, rfl⟩
      obtain ⟨r, hr1, hr2⟩ := hR.get (List.getElem?_eq_getElem hi)
      have hrm : (rs.map V.ref)[i]? = some (.ref r) := by rw [List.getElem?_map, hr1]; rfl
      walk_at "gs"
      refine g_ixL hT (atI_nat hrm) ?_
      walk_at "gs"
      refine g_inL (SqL.of hr2) ?_
      walk_at "gs"
      refine if_2 (fun e => ?_) (fun e => ?_)
      · have hdm := of_decide_eq_true e
        have hie : i = rows.findIdx (fun r => decide (d ∈ r)) := by
          rcases Nat.lt_or_eq_of_le hle with h | h
          · have := List.not_of_lt_findIdx h
            rw [e] at this
            cases this
          · exact h
        walk_at "gs"
        refine g_ixL hT (atI_nat hrm) ?_
        walk_at "gs"
        refine g_bmL (SqL.of hr2) ?_
        walk_at "gs"
        refine g_index (SqL.of hr2) hdm ?_
        walk_at "gs"
        refine g_newL (by show 2 ≤ 1000000; decide) fun p hp => ?_
        have e1 : atM rows d = (i, rows[i].idxOf d) := by
          unfold atM
          simp only [← hie, hi, if_true]
          rw [List.getD_eq_getElem?_getD, List.getElem?_eq_getElem hi, Option.getD_some]
        have := k p hp
        rw [e1] at this
        exact this
      · walk_at "gs"
        refine ⟨?_, _, rfl, rfl⟩
        rcases Nat.lt_or_eq_of_le hle with h | h
        · exact h
        · have hp := List.findIdx_getElem (xs := rows) (p := fun r => decide (d ∈ r)) (w := hk)
          subst h
          rw [hp] at e
          cases e
    · rintro σ' H' ⟨hle, u, rfl, rfl⟩
      omega
theorem ok_l_face (T : Txt K mg A) : FnOk P w K mg base CX0 2 A.f_l_face A.fd_l_face ["turns", "rim", "dart"] spFace := by
  have G_l_at := ok_l_at (P := P) (w := w) (base := base) T
  have nd := sc_l_face.nd
  refine T.F_l_face.ok sc_l_face (fun vs H Q E h => ?_) (fun cdv Ar outer s H vs Q E hr h => ?_)
  · obtain ⟨T, rim, E, d, rs, rows, rfl, _⟩ := h
    rfl
  · obtain ⟨T', rim, Em, d0, rs, rows, rfl, hR, hW, h0, h1, hf, k⟩ := h
    refine ⟨_, (pss_cons (ps_set (i := 3) nd rfl (Or.inl rfl) (pe_lst (pa_cons (pv 2) pa_nil))) (pss_cons (ps_for PassesOwn.never rfl (pi_range1 (by rfl) T.n_range (pa_cons pe_int pa_nil)) (pg_name (i := 4) nd rfl (Or.inl rfl)) (pss_cons (ps_set (i := 5) nd rfl (Or.inl rfl) (pe_op op_sub (pe_op op_add (pv 2) pe_int) (pe_op op_mul pe_int (pe_op op_modN (pe_callTy zc_int (by rfl) T.n_int (by decide +kernel) (pa_cons (pv 2) pa_nil)) pe_int)))) (pss_cons (ps_asg (pe_call (E := E0) G_l_at (hr.mono (by decide)) (by rfl) T.g_l_at T.F_l_at.kp T.b_l_at .nil pass0 (pa_cons (pv 0) (pa_cons (pv 5) pa_nil))) (pg_lstK (K := K) rfl rfl (pgs_cons (pg_name (i := 6) nd rfl (Or.inl rfl)) (pgs_cons (pg_name (i := 7) nd rfl (Or.inl rfl)) pgs_nil)))) (pss_cutZ (ps_if (PW.pt (pw_and (pt_cmpR op_lt (pv 6) (pv 1) (nomark _)) (pw_and1 (pt_cmpR op_eq (pe_op op_add (pv 7) pe_int) (pe_callB (zc_lenK (K := K) rfl) (by rfl) T.n_len (by decide +kernel) (pa_cons (pe_ix (ix_listK (K := K) rfl) (pv 0) (pv 6) (fun _ _ => rfl)) pa_nil)) (nomark _))))) (pss_one (ps_ret (pv 3))) pss_nil) (pss_cons (ps_set (i := 2) nd rfl (Or.inl rfl) (pe_ix (ix_listK (K := K) rfl) (pe_ix (ix_listK (K := K) rfl) (pv 0) (pv 6) (fun _ _ => rfl)) (pe_op op_modN (pe_callTy zc_int (by rfl) T.n_int (by decide +kernel) (pa_cons (pe_op op_add (pv 7) pe_int) pa_nil)) (pe_callB (zc_lenK (K := K) rfl) (by rfl) T.n_len (by decide +kernel) (pa_cons (pe_ix (ix_listK (K := K) rfl) (pv 0) (pv 6) (fun _ _ => rfl)) pa_nil))) (fun _ _ => rfl))) (pss_cons (ps_if (pt_cmpR op_eq (pv 2) (pe_ix (ix_listK (K := K) rfl) (pv 3) pe_int (fun _ _ => rfl)) (nomark _)) (pss_one (ps_ret (pv 3))) pss_nil) (pss_one (ps_expr (pe_bm PySem.F.plainAttrs_list PySem.F.slot_list_append PySem.F.type_list_append mt_append (pv 3) (pa_cons (pv 2) pa_nil)))))))))) (pss_one (ps_ret (pv 3))))), ?_⟩
    walk_at "gs"
    refine g_newL (by show 1 ≤ 1000000; decide) fun p hp => ?_
    walk_at "gs"
    refine g_rng 200 rfl (by decide) (fun i σ' H' => ∃ (found : List Int) (d : Int) (u4 u5 u6 u7 : Option V), σ' = [some (.ref T'), some (.int (rim : Int)), some (.int d), some (.ref p), u4, u5, u6, u7] ∧ Same H H' ∧ H' p = some (.lst (found.map V.int)) ∧
      found.head? = some d0 ∧ found.length = i + 1 ∧ 0 ≤ d ∧ d < 2 * (Em : Int) ∧ i ≤ 200 ∧ faceM rows rim d0 = walkF rows rim (200 - i) found d) ⟨[d0], d0, none, none, none, none, rfl, up_same hp, upd_same, rfl, rfl, h0, h1, by decide, rfl⟩ ?_ ?_
    · rintro i σ' H1 hi ⟨found, d, u4, u5, u6, u7, rfl, sm, ep, hh, hl, hd0, hd1, hi2, ew⟩
      obtain ⟨m, em⟩ : ∃ m, 200 - i = m + 1 := ⟨200 - i - 1, by omega⟩
      have em2 : 200 - (i + 1) = m := by omega
      rw [em] at ew
      have htw := twin_range ⟨hd0, hd1⟩
      obtain ⟨row, hr1, hr2⟩ := at_spec ((hW.mem (twin d)).mpr htw)
      have hR1 := hR.same sm
      obtain ⟨r, hrs, hrH⟩ := hR1.get hr1
      have hrm : (rs.map V.ref)[(atM rows (twin d)).1]? = some (.ref r) := by rw [List.getElem?_map, hrs]; rfl
      have hlt : (atM rows (twin d)).2 < row.length := (List.getElem?_eq_some_iff.mp hr2).1
      have hgd : rows.getD (atM rows (twin d)).1 [] = row := by rw [List.getD_eq_getElem?_getD, hr1, Option.getD_some]
      walk_at "gs"
      rw [twin_py]
      refine ⟨T', _, rs, rows, rfl, hR1, (hW.mem _).mpr htw, hf, fun q hq => ?_⟩
      have hT2 : SqL K (upd H1 q (.lst [.int ((atM rows (twin d)).1 : Nat), .int ((atM rows (twin d)).2 : Nat)])) T' (rs.map V.ref) := (up_same hq).seq (SqL.of hR1.top)
      have hr2' : SqL K (upd H1 q (.lst [.int ((atM rows (twin d)).1 : Nat), .int ((atM rows (twin d)).2 : Nat)])) r (row.map V.int) := (up_same hq).seq (SqL.of hrH)
      have ep2 : SqL K (upd H1 q (.lst [.int ((atM rows (twin d)).1 : Nat), .int ((atM rows (twin d)).2 : Nat)])) p (found.map V.int) := (up_same hq).seq (SqL.of ep)
      refine ⟨q, _, rfl, SqL.of upd_same, rfl, _, _, rfl, _, _, rfl, rfl, ?_⟩
      walk_at "gs"
      -- where it ends at the rim
      have stop : (atM rows (twin d)).1 < rim → (atM rows (twin d)).2 + 1 = row.length → faceM rows rim d0 = found := fun e1 e2 => by
        rw [ew]
        show (match nxt rows rim d with
          | none => found
          | some d' => if some d' = found.head? then found else walkF rows rim m (found ++ [d']) d') = found
        have : nxt rows rim d = none := by
          unfold nxt
          simp only [hgd]
          rw [if_pos ⟨e1, e2⟩]
        rw [this]
      have fin : ¬ ((atM rows (twin d)).1 < rim ∧ (atM rows (twin d)).2 + 1 = row.length) →
          ∃ d', (row.map V.int)[((atM rows (twin d)).2 + 1) % row.length]? = some (.int d') ∧ nxt rows rim d = some d' ∧ 0 ≤ d' ∧ d' < 2 * (Em : Int) := fun hno => by
        have hml : ((atM rows (twin d)).2 + 1) % row.length < row.length := Nat.mod_lt _ (by omega)
        have e1 : nxt rows rim d = some row[((atM rows (twin d)).2 + 1) % row.length] := by
          unfold nxt
          simp only [hgd]
          rw [if_neg hno]
          exact List.getElem?_eq_getElem hml
        have hm := (hW.mem _).mp (nxt_mem e1)
        exact ⟨_, by rw [List.getElem?_map, List.getElem?_eq_getElem hml]; rfl, e1, hm.1, hm.2⟩
      refine g_cut (fun σ' H' => σ' = [some (.ref T'), some (.int (rim : Int)), some (.int d), some (.ref p), some (.int (i : Int)), some (.int (twin d)), some (.int ((atM rows (twin d)).1 : Nat)), some (.int ((atM rows (twin d)).2 : Nat))] ∧
        H' = upd H1 q (.lst [.int ((atM rows (twin d)).1 : Nat), .int ((atM rows (twin d)).2 : Nat)]) ∧ ¬ ((atM rows (twin d)).1 < rim ∧ (atM rows (twin d)).2 + 1 = row.length)) ?_ ?_
      · walk_at "gs"
        refine if_2 (fun e => ?_) (fun e => ?_)
        · have hn := of_decide_eq_true e
          walk_at "gs"
          refine g_ixL hT2 (atI_nat hrm) ?_
          walk_at "gs"
          rw [Rz.dec_int]
          refine if_2 (fun e2 => ?_) (fun e2 => ?_)
          · have hn2 := of_decide_eq_true e2
            rw [List.length_map] at hn2
            walk_at "gs"
            have e3 := stop (by omega) (by omega)
            exact k p _ (sm.trans (up_same hq)) hp (by rw [e3]; exact (up_same hq) _ _ ep)
          · have hn2 := of_decide_eq_false e2
            rw [List.length_map] at hn2
            walk_at "gs"
            exact ⟨rfl, rfl, fun z => hn2 (by omega)⟩
        · have hn := of_decide_eq_false e
          walk_at "gs"
          exact ⟨rfl, rfl, fun z => hn (by omega)⟩
      · rintro σ' H' ⟨rfl, rfl, hno⟩
        obtain ⟨d', hx, hnx, q0, q1⟩ := fin hno
        have hz : ((row.map V.int).length : Int) ≠ 0 := by
          rw [List.length_map]
          omega
        walk_at "gs"
        refine g_ixL hT2 (atI_nat hrm) ?_
        walk_at "gs"
        refine g_ixL hT2 (atI_nat hrm) ?_
        walk_at "gs"
        rw [show (((atM rows (twin d)).2 : Nat) : Int) + 1 = (((atM rows (twin d)).2 + 1 : Nat) : Int) from rfl, fmod_nat, List.length_map]
        refine g_ixL hr2' (atI_nat hx) ?_
        walk_at "gs"
        obtain ⟨f0, frest, rfl⟩ : ∃ f0 frest, found = f0 :: frest := by
          cases found with
          | nil => cases hh
          | cons a b => exact ⟨a, b, rfl⟩
        have hf0 : f0 = d0 := Option.some.inj hh
        subst hf0
        refine g_ixL ep2 (atI_nat (j := 0) rfl) ?_
        walk_at "gs"
        rw [Rz.dec_int]
        have ew2 : faceM rows rim f0 = if some d' = (f0 :: frest).head? then f0 :: frest else walkF rows rim m ((f0 :: frest) ++ [d']) d' := by
          rw [ew]
          show (match nxt rows rim d with
            | none => f0 :: frest
            | some d' => if some d' = (f0 :: frest).head? then f0 :: frest else walkF rows rim m ((f0 :: frest) ++ [d']) d') = _
          rw [hnx]
        refine if_2 (fun e => ?_) (fun e => ?_)
        · have he := of_decide_eq_true e
          subst he
          walk_at "gs"
          rw [if_pos (show some d' = (d' :: frest).head? from rfl)] at ew2
          exact k p _ (sm.trans (up_same hq)) hp (by rw [ew2]; exact (up_same hq) _ _ ep)
        · have he := of_decide_eq_false e
          rw [if_neg (show ¬ some d' = (f0 :: frest).head? from fun z => he (Option.some.inj z))] at ew2
          walk_at "gs"
          refine g_bmL ep2 ?_
          walk_at "gs"
          refine g_append ((up_same hq) _ _ ep) (by rw [List.length_map]; omega) ?_
          refine ⟨(f0 :: frest) ++ [d'], d', _, _, _, _, rfl, fun b o h => ?_, ?_, rfl, ?_, q0, q1, hi, ?_⟩
          · rw [upd_ne (ne_of_none h hp)]
            exact (up_same hq) _ _ (sm _ _ h)
          · rw [upd_same, List.map_append]
            rfl
          · rw [List.length_append, hl]
            rfl
          · rw [em2]
            exact ew2
    · rintro σ' H1 ⟨found, d, u4, u5, u6, u7, rfl, sm, ep, hh, hl, hd0, hd1, hi2, ew⟩
      walk_at "gs"
      rw [show 200 - 200 = 0 from rfl] at ew
      have e2 : faceM rows rim d0 = found := ew
      exact k p H1 sm hp (by rw [e2]; exact ep)
end

section
variable {P : Program} {w : World} {K : PySem.W.Frag} {mg : Str → Option Value} {base : Heap} {A : Ads}
theorem ok_l_grow (T : Txt K mg A) : FnOk P w K mg base CX0 3 A.f_l_grow A.fd_l_grow ["state", "rim", "turns", "edges", "choice"] spGrow := by
  have G_l_pick := ok_l_pick (P := P) (w := w) (base := base) T
  have G_l_at := ok_l_at (P := P) (w := w) (base := base) T
  have G_l_face := ok_l_face (P := P) (w := w) (base := base) T
  have nd := sc_l_grow.nd
  refine T.F_l_grow.ok sc_l_grow (fun vs H Q E h => ?_) (fun cdv Ar outer s H vs Q E hr h => ?_)
  · obtain ⟨H0, S, c, T, rim, E, ch, rs, rows, rfl, _⟩ := h
    rfl
  · obtain ⟨H0, S, c, T', rim, Em, ch, rs, rows, rfl, hN, hW, h0, h1, h2, h3, k⟩ := h
    refine ⟨_, (pss_cons (ps_set (i := 5) nd rfl (Or.inl rfl) (pe_op op_mul pe_int (pv 3))) (pss_cutZ (ps_if (PW.pt (pw_or (pt_cmpR op_eq (pv 3) pe_int (nomark _)) (pw_or1 (pt_cmpR op_lt (pv 4) pe_int (nomark _))))) (pss_cons (ps_set (i := 6) nd rfl (Or.inl rfl) (pe_call (E := E0) G_l_pick (hr.mono (by decide)) (by rfl) T.g_l_pick T.F_l_pick.kp T.b_l_pick .nil pass0 (pa_cons (pv 0) (pa_cons (pv 1) pa_nil)))) (pss_cons (ps_set (i := 7) nd rfl (Or.inl rfl) (pe_op op_modN (pe_callTy zc_int (by rfl) T.n_int (by decide +kernel) (pa_cons (pe_op op_add (pv 6) pe_int) pa_nil)) (pv 1))) (pss_cons (ps_for PassesOwn.never rfl (pi_range1 (by rfl) T.n_range (pa_cons (pe_op op_sub (pv 1) pe_int) pa_nil)) (pg_name (i := 8) nd rfl (Or.inl rfl)) (pss_one (ps_if (PW.pt (pw_and (pt_cmpR op_ne (pv 7) (pv 6) (nomark _)) (pw_and (pt_cmpR (op_eqDK (K := K) rfl hr.units) (pe_ix (ix_listK (K := K) rfl) (pv 2) (pv 7) (fun _ _ => rfl)) (pe_lst pa_nil) (nomark _)) (pw_and1 (pt_cmpR op_eq (pe_call (E := E0) G_l_pick (hr.mono (by decide)) (by rfl) T.g_l_pick T.F_l_pick.kp T.b_l_pick .nil pass0 (pa_cons (pv 0) (pa_cons pe_int pa_nil))) pe_int (nomark _)))))) (pss_one (ps_set (i := 7) nd rfl (Or.inl rfl) (pe_op op_modN (pe_callTy zc_int (by rfl) T.n_int (by decide +kernel) (pa_cons (pe_op op_add (pv 7) pe_int) pa_nil)) (pv 1)))) pss_nil))) (pss_cons (ps_expr (pe_bm PySem.F.plainAttrs_list PySem.F.slot_list_insert PySem.F.type_list_insert zm_insert (pe_ix (ix_listK (K := K) rfl) (pv 2) (pv 6) (fun _ _ => rfl)) (pa_cons pe_int (pa_cons (pv 5) pa_nil)))) (pss_one (ps_expr (pe_bm PySem.F.plainAttrs_list PySem.F.slot_list_append PySem.F.type_list_append mt_append (pe_ix (ix_listK (K := K) rfl) (pv 2) (pv 7) (fun _ _ => rfl)) (pa_cons (pe_op op_add (pv 5) pe_int) pa_nil)))))))) (pss_one (ps_if (pt_cmpR op_lt (pv 4) pe_int (nomark _)) (pss_cons (ps_set (i := 6) nd rfl (Or.inl rfl) (pe_call (E := E0) G_l_pick (hr.mono (by decide)) (by rfl) T.g_l_pick T.F_l_pick.kp T.b_l_pick .nil pass0 (pa_cons (pv 0) (pa_cons (pv 1) pa_nil)))) (pss_cons (ps_expr (pe_bm PySem.F.plainAttrs_list PySem.F.slot_list_append PySem.F.type_list_append mt_append (pv 2) (pa_cons (pe_op op_cat (pe_ix (ix_listK (K := K) rfl) (pv 2) (pv 6) (fun _ _ => rfl)) (pe_lst (pa_cons (pe_op op_add (pv 5) pe_int) pa_nil))) pa_nil))) (pss_one (ps_asg (pe_lst (pa_cons (pv 5) pa_nil)) (pg_sub (pv 2) (pv 6) set_list))))) (pss_one (ps_if (pt_cmpR op_eq (pv 4) pe_int (nomark _)) (pss_cons (ps_asg (pe_call (E := E0) G_l_at (hr.mono (by decide)) (by rfl) T.g_l_at T.F_l_at.kp T.b_l_at .nil pass0 (pa_cons (pv 2) (pa_cons (pe_op op_add (pe_op op_mul pe_int (pe_call (E := E0) G_l_pick (hr.mono (by decide)) (by rfl) T.g_l_pick T.F_l_pick.kp T.b_l_pick .nil pass0 (pa_cons (pv 0) (pa_cons (pv 3) pa_nil)))) pe_int) pa_nil))) (pg_lstK (K := K) rfl rfl (pgs_cons (pg_name (i := 6) nd rfl (Or.inl rfl)) (pgs_cons (pg_name (i := 9) nd rfl (Or.inl rfl)) pgs_nil)))) (pss_cons (ps_expr (pe_bm PySem.F.plainAttrs_list PySem.F.slot_list_append PySem.F.type_list_append mt_append (pv 2) (pa_cons (pe_lst (pa_cons (pe_ix (ix_listK (K := K) rfl) (pe_ix (ix_listK (K := K) rfl) (pv 2) (pv 6) (fun _ _ => rfl)) (pv 9) (fun _ _ => rfl)) (pa_cons (pv 5) pa_nil))) pa_nil))) (pss_cons (ps_set (i := 10) nd rfl (Or.inl rfl) (pe_ix (ix_listK (K := K) rfl) (pv 2) (pv 6) (fun _ _ => rfl))) (pss_one (ps_asg (pe_op op_add (pv 5) pe_int) (pg_sub (pv 10) (pv 9) set_list)))))) (pss_one (ps_if (pt_cmpR op_eq (pv 4) pe_int (nomark _)) (pss_cons (ps_set (i := 11) nd rfl (Or.inl rfl) (pe_op op_mul pe_int (pe_call (E := E0) G_l_pick (hr.mono (by decide)) (by rfl) T.g_l_pick T.F_l_pick.kp T.b_l_pick .nil pass0 (pa_cons (pv 0) (pa_cons (pv 3) pa_nil))))) (pss_cons (ps_asg (pe_call (E := E0) G_l_at (hr.mono (by decide)) (by rfl) T.g_l_at T.F_l_at.kp T.b_l_at .nil pass0 (pa_cons (pv 2) (pa_cons (pv 11) pa_nil))) (pg_lstK (K := K) rfl rfl (pgs_cons (pg_name (i := 6) nd rfl (Or.inl rfl)) (pgs_cons (pg_name (i := 9) nd rfl (Or.inl rfl)) pgs_nil)))) (pss_cons (ps_expr (pe_bm PySem.F.plainAttrs_list PySem.F.slot_list_insert PySem.F.type_list_insert zm_insert (pe_ix (ix_listK (K := K) rfl) (pv 2) (pv 6) (fun _ _ => rfl)) (pa_cons (pe_op op_add (pv 9) pe_int) (pa_cons (pv 5) pa_nil)))) (pss_cons (ps_asg (pe_call (E := E0) G_l_at (hr.mono (by decide)) (by rfl) T.g_l_at T.F_l_at.kp T.b_l_at .nil pass0 (pa_cons (pv 2) (pa_cons (pe_op op_add (pv 11) pe_int) pa_nil))) (pg_lstK (K := K) rfl rfl (pgs_cons (pg_name (i := 6) nd rfl (Or.inl rfl)) (pgs_cons (pg_name (i := 9) nd rfl (Or.inl rfl)) pgs_nil)))) (pss_one (ps_expr (pe_bm PySem.F.plainAttrs_list PySem.F.slot_list_insert PySem.F.type_list_insert zm_insert (pe_ix (ix_listK (K := K) rfl) (pv 2) (pv 6) (fun _ _ => rfl)) (pa_cons (pv 9) (pa_cons (pe_op op_add (pv 5) pe_int) pa_nil))))))))) (pss_one (ps_if (pt_cmpR op_eq (pv 4) pe_int (nomark _)) (pss_cons (ps_set (i := 6) nd rfl (Or.inl rfl) (pe_call (E := E0) G_l_pick (hr.mono (by decide)) (by rfl) T.g_l_pick T.F_l_pick.kp T.b_l_pick .nil pass0 (pa_cons (pv 0) (pa_cons (pe_callB (zc_lenK (K := K) rfl) (by rfl) T.n_len (by decide +kernel) (pa_cons (pv 2) pa_nil)) pa_nil)))) (pss_cons (ps_expr (pe_bm PySem.F.plainAttrs_list PySem.F.slot_list_insert PySem.F.type_list_insert zm_insert (pe_ix (ix_listK (K := K) rfl) (pv 2) (pv 6) (fun _ _ => rfl)) (pa_cons (pe_call (E := E0) G_l_pick (hr.mono (by decide)) (by rfl) T.g_l_pick T.F_l_pick.kp T.b_l_pick .nil pass0 (pa_cons (pv 0) (pa_cons (pe_op op_add (pe_callB (zc_lenK (K := K) rfl) (by rfl) T.n_len (by decide +kernel) (pa_cons (pe_ix (ix_listK (K := K) rfl) (pv 2) (pv 6) (fun _ _ => rfl)) pa_nil)) pe_int) pa_nil))) (pa_cons (pv 5) pa_nil)))) (pss_one (ps_expr (pe_bm PySem.F.plainAttrs_list PySem.F.slot_list_append PySem.F.type_list_append mt_append (pv 2) (pa_cons (pe_lst (pa_cons (pe_op op_add (pv 5) pe_int) pa_nil)) pa_nil)))))) (pss_one (ps_if (pt_cmpR op_eq (pv 4) pe_int (nomark _)) (pss_cons (ps_set (i := 6) nd rfl (Or.inl rfl) (pe_call (E := E0) G_l_pick (hr.mono (by decide)) (by rfl) T.g_l_pick T.F_l_pick.kp T.b_l_pick .nil pass0 (pa_cons (pv 0) (pa_cons (pe_callB (zc_lenK (K := K) rfl) (by rfl) T.n_len (by decide +kernel) (pa_cons (pv 2) pa_nil)) pa_nil)))) (pss_cons (ps_set (i := 9) nd rfl (Or.inl rfl) (pe_call (E := E0) G_l_pick (hr.mono (by decide)) (by rfl) T.g_l_pick T.F_l_pick.kp T.b_l_pick .nil pass0 (pa_cons (pv 0) (pa_cons (pe_op op_add (pe_callB (zc_lenK (K := K) rfl) (by rfl) T.n_len (by decide +kernel) (pa_cons (pe_ix (ix_listK (K := K) rfl) (pv 2) (pv 6) (fun _ _ => rfl)) pa_nil)) pe_int) pa_nil)))) (pss_cons (ps_expr (pe_bm PySem.F.plainAttrs_list PySem.F.slot_list_insert PySem.F.type_list_insert zm_insert (pe_ix (ix_listK (K := K) rfl) (pv 2) (pv 6) (fun _ _ => rfl)) (pa_cons (pv 9) (pa_cons (pv 5) pa_nil)))) (pss_one (ps_expr (pe_bm PySem.F.plainAttrs_list PySem.F.slot_list_insert PySem.F.type_list_insert zm_insert (pe_ix (ix_listK (K := K) rfl) (pv 2) (pv 6) (fun _ _ => rfl)) (pa_cons (pe_op op_add (pv 9) pe_int) (pa_cons (pe_op op_add (pv 5) pe_int) pa_nil)))))))) (pss_cons (ps_set (i := 12) nd rfl (Or.inl rfl) (pe_call (E := E0) G_l_face (hr.mono (by decide)) (by rfl) T.g_l_face T.F_l_face.kp T.b_l_face .nil pass0 (pa_cons (pv 2) (pa_cons (pv 1) (pa_cons (pe_call (E := E0) G_l_pick (hr.mono (by decide)) (by rfl) T.g_l_pick T.F_l_pick.kp T.b_l_pick .nil pass0 (pa_cons (pv 0) (pa_cons (pe_op op_mul pe_int (pv 3)) pa_nil))) pa_nil))))) (pss_cons (ps_set (i := 13) nd rfl (Or.inl rfl) (pe_ix (ix_listK (K := K) rfl) (pv 12) (pe_call (E := E0) G_l_pick (hr.mono (by decide)) (by rfl) T.g_l_pick T.F_l_pick.kp T.b_l_pick .nil pass0 (pa_cons (pv 0) (pa_cons (pe_callB (zc_lenK (K := K) rfl) (by rfl) T.n_len (by decide +kernel) (pa_cons (pv 12) pa_nil)) pa_nil))) (fun _ _ => rfl))) (pss_cons (ps_set (i := 14) nd rfl (Or.inl rfl) (pe_ix (ix_listK (K := K) rfl) (pv 12) (pe_call (E := E0) G_l_pick (hr.mono (by decide)) (by rfl) T.g_l_pick T.F_l_pick.kp T.b_l_pick .nil pass0 (pa_cons (pv 0) (pa_cons (pe_callB (zc_lenK (K := K) rfl) (by rfl) T.n_len (by decide +kernel) (pa_cons (pv 12) pa_nil)) pa_nil))) (fun _ _ => rfl))) (pss_cons (ps_asg (pe_call (E := E0) G_l_at (hr.mono (by decide)) (by rfl) T.g_l_at T.F_l_at.kp T.b_l_at .nil pass0 (pa_cons (pv 2) (pa_cons (pv 13) pa_nil))) (pg_lstK (K := K) rfl rfl (pgs_cons (pg_name (i := 6) nd rfl (Or.inl rfl)) (pgs_cons (pg_name (i := 9) nd rfl (Or.inl rfl)) pgs_nil)))) (pss_cons (ps_expr (pe_bm PySem.F.plainAttrs_list PySem.F.slot_list_insert PySem.F.type_list_insert zm_insert (pe_ix (ix_listK (K := K) rfl) (pv 2) (pv 6) (fun _ _ => rfl)) (pa_cons (pv 9) (pa_cons (pv 5) pa_nil)))) (pss_cons (ps_asg (pe_call (E := E0) G_l_at (hr.mono (by decide)) (by rfl) T.g_l_at T.F_l_at.kp T.b_l_at .nil pass0 (pa_cons (pv 2) (pa_cons (pv 14) pa_nil))) (pg_lstK (K := K) rfl rfl (pgs_cons (pg_name (i := 6) nd rfl (Or.inl rfl)) (pgs_cons (pg_name (i := 9) nd rfl (Or.inl rfl)) pgs_nil)))) (pss_one (ps_expr (pe_bm PySem.F.plainAttrs_list PySem.F.slot_list_insert PySem.F.type_list_insert zm_insert (pe_ix (ix_listK (K := K) rfl) (pv 2) (pv 6) (fun _ _ => rfl)) (pa_cons (pv 9) (pa_cons (pe_op op_add (pv 5) pe_int) pa_nil)))))))))))))))))))))) (pss_one (ps_ret (pe_op op_add (pv 3) pe_int))))), ?_⟩
    have hrimne : (rim : Int) ≠ 0 := by omega
    have hrow : ∀ n, (rows.getD n []).length ≤ 2000 := fun n => Nat.le_trans (hW.row (n := n)) (by omega)
    have hfew : Few rows := ⟨by omega, fun row hr => Nat.le_trans (row_le hr) (by rw [hW.len]; omega)⟩
    walk_at "gs"
    refine g_cut (fun σ' H' => σ'[3]? = some (some (.int (Em : Int))) ∧ ∃ rs' rows', Grow rim Em rows rows' ∧ NS H0 H' S c T' rs' rows') ?_ ?_
    · refine g_ifb (decide (Em = 0) || decide (ch < 3)) (fun Q q => ?_) ?_
      · walk_at "gs"
        rw [Rz.dec_int]
        refine if_2 (fun e => ?_) (fun e => ?_)
        · have he : Em = 0 := by
            have := of_decide_eq_true e
            omega
          rw [decide_eq_true he, Bool.true_or] at q
          exact q
        · have he : ¬ Em = 0 := by
            have := of_decide_eq_false e
            omega
          rw [decide_eq_false he, Bool.false_or] at q
          walk_at "gs"
          exact q
      refine if_2 (fun eA => ?_) (fun eA => ?_)
      · -- an edge along the rim
        walk_at "gs"
        refine ⟨S, c, _, rfl, hN.st, by omega, lim_ok (by omega), fun v H1 v0 v1 hS1 k1 => ?_⟩
        obtain ⟨n, rfl⟩ : ∃ n : Nat, v = n := ⟨v.toNat, by omega⟩
        have hn : n < rim := by omega
        have hN1 := hN.pick hS1 k1
        walk_at "gs"
        rw [show (n : Int) + 1 = ((n + 1 : Nat) : Int) from rfl, fmod_nat]
        refine g_rng (rim - 1) (by omega) (by omega) (fun i σ' H' => ∃ (o j : Nat) (u8 : Option V), σ' = [some (.ref S), some (.int (rim : Int)), some (.ref T'), some (.int (Em : Int)), some (.int ch), some (.int (2 * (Em : Int))), some (.int (n : Int)), some (.int (o : Int)), u8, none, none, none, none, none, none] ∧
          NS H0 H' S c T' rs rows ∧ o = (n + 1 + j) % rim ∧ ∀ i, i < j → (n + 1 + i) % rim ≠ n ∧ rows.getD ((n + 1 + i) % rim) [] = []) ⟨(n + 1) % rim, 0, none, rfl, hN1, rfl, fun i hi => by omega⟩ ?_ ?_
        · rintro i σ' H2 hi ⟨o, j, u8, rfl, hN2, ho, hj⟩
          have ho2 : o < rim := by
            rw [ho]
            exact Nat.mod_lt _ h0
          walk_at "gs"
          refine if_2 (fun e => ?_) (fun e => ?_)
          · have hon : o ≠ n := fun z => by
              rw [z] at e
              simp at e
            obtain ⟨r, e1, e2, e3⟩ := hN2.get (n := o) (by omega)
            walk_at "gs"
            refine g_ixL hN2.sqT (atI_nat e1) ?_
            walk_at "gs"
            refine g_newL (by show 0 ≤ 1000000; decide) fun q hq => ?_
            have hN3 := hN2.same (up_same (o := .lst []) hq)
            refine g_eqNil (SqL.of ((up_same hq) _ _ e3)) (SqL.of upd_same) ?_
            walk_at "gs"
            refine if_2 (fun e => ?_) (fun e => ?_)
            · have hem := of_decide_eq_true e
              walk_at "gs"
              refine ⟨S, c, 2, rfl, hN3.st, by decide, by decide +kernel, fun v H4 _ _ hS4 k4 => ?_⟩
              have hN4 := hN3.pick hS4 k4
              walk_at "gs"
              refine if_2 (fun e => ?_) (fun e => ?_)
              · walk_at "gs"
                rw [show (o : Int) + 1 = ((o + 1 : Nat) : Int) from rfl, fmod_nat]
                refine ⟨(o + 1) % rim, j + 1, _, rfl, hN4, ?_, fun i hi => ?_⟩
                · rw [ho, Nat.mod_add_mod]
                  rfl
                · rcases Nat.lt_or_eq_of_le (Nat.le_of_lt_succ hi) with h | h
                  · exact hj i h
                  · rw [h, ← ho]
                    exact ⟨hon, hem⟩
              · walk_at "gs"
                exact ⟨o, j, _, rfl, hN4, ho, hj⟩
            · walk_at "gs"
              exact ⟨o, j, _, rfl, hN3, ho, hj⟩
          · walk_at "gs"
            exact ⟨o, j, _, rfl, hN2, ho, hj⟩
        · rintro σ' H2 ⟨o, j, u8, rfl, hN2, ho, hj⟩
          have ho2 : o < rim := by
            rw [ho]
            exact Nat.mod_lt _ h0
          obtain ⟨r, e1, e2, e3⟩ := hN2.get (n := n) (by omega)
          walk_at "gs"
          refine g_ixL hN2.sqT (atI_nat e1) ?_
          refine g_bmL (SqL.of e3) ?_
          walk_at "gs"
          refine g_insert (i := 0) e3 (by rw [List.length_map]; have := hrow n; omega) (by decide) ?_
          rw [map_ins]
          have hN3 := hN2.row e2 (ins 0 (2 * (Em : Int)) (rows.getD n []))
          have hm3 : (modRow rows n (ins 0 (2 * (Em : Int)))).length = rows.length := modRow_len
          obtain ⟨r', f1, f2, f3⟩ := hN3.get (n := o) (by show o < (modRow rows n (ins 0 (2 * (Em : Int)))).length; omega)
          walk_at "gs"
          refine g_ixL hN3.sqT (atI_nat f1) ?_
          refine g_bmL (SqL.of f3) ?_
          walk_at "gs"
          have hlen3 : ((modRow rows n (ins 0 (2 * (Em : Int)))).getD o []).length ≤ 5000 := by
            by_cases hon : o = n
            · rw [modRow_get (by omega) hon, (ins_perm _ _ _).length_eq, List.length_cons]
              have := hrow n
              omega
            · unfold modRow
              rw [List.getD_eq_getElem?_getD, List.getElem?_set_ne (fun z => hon z.symm), ← List.getD_eq_getElem?_getD]
              have := hrow o
              omega
          refine g_append f3 (by rw [List.length_map]; exact Nat.le_trans hlen3 (by decide)) ?_
          refine ⟨rfl, rs, _, Grow.rimEdge n o j hn ho hj, ?_⟩
          have hN4 := hN3.row f2 ((modRow rows n (ins 0 (2 * (Em : Int)))).getD o [] ++ [2 * (Em : Int) + 1])
          rw [List.map_append] at hN4
          exact hN4
      have hE : 0 < Em := by
        rcases Nat.eq_zero_or_pos Em with h | h
        · rw [h] at eA
          simp at eA
        · exact h
      have hgo : ∀ (σ' : L2.St) (H' : Hp) (rs' : List Addr) (rows' : Rows), σ'[3]? = some (some (.int (Em : Int))) → Grow rim Em rows rows' → NS H0 H' S c T' rs' rows' → (σ'[3]? = some (some (.int (Em : Int))) ∧ ∃ rs' rows', Grow rim Em rows rows' ∧ NS H0 H' S c T' rs' rows') := fun σ' H' rs' rows' a b d => ⟨a, rs', rows', b, d⟩
      walk_at "gs"
      refine if_2 (fun eB => ?_) (fun eB => ?_)
      · -- before a rim node
        walk_at "gs"
        refine ⟨S, c, _, rfl, hN.st, by omega, lim_ok (by omega), fun v H1 v0 v1 hS1 k1 => ?_⟩
        obtain ⟨n, rfl⟩ : ∃ n : Nat, v = n := ⟨v.toNat, by omega⟩
        have hn : n < rim := by omega
        have hN1 := hN.pick hS1 k1
        walk_at "gs"
        refine g_bmL hN1.sqT ?_
        obtain ⟨r, e1, e2, e3⟩ := hN1.get (n := n) (by omega)
        walk_at "gs"
        refine g_ixL hN1.sqT (atI_nat e1) ?_
        walk_at "gs"
        refine g_newL (by show 1 ≤ 1000000; decide) fun q hq => ?_
        refine g_cat ((up_same hq) _ _ e3) upd_same (by rw [List.length_map]; show _ + 1 ≤ _; have := hrow n; omega) fun p hp => ?_
        have hN2 := (hN1.same (up_same (o := .lst [.int (2 * (Em : Int) + 1)]) hq)).same (up_same (o := .lst ((rows.getD n []).map V.int ++ [.int (2 * (Em : Int) + 1)])) hp)
        have hp0 := hN1.fresh (show H1 p = none from (up_same hq).free hp)
        have hpr := hN1.nr (show H1 p = none from (up_same hq).free hp)
        have hpT := hN1.nT (show H1 p = none from (up_same hq).free hp)
        walk_at "gs"
        refine g_append hN2.ro.top (by rw [List.length_map, hN.ro.len]; omega) ?_
        have hN3 := hN2.push (r := p) (row := rows.getD n [] ++ [2 * (Em : Int) + 1]) (by rw [upd_same, List.map_append]; rfl) hp0 hpr hpT
        walk_at "gs"
        refine g_newL (by show 1 ≤ 1000000; decide) fun p2 hp2 => ?_
        have hN4 := hN3.same (up_same (o := .lst [.int (2 * (Em : Int))]) hp2)
        have hl : n < (rs ++ [p]).length := by
          rw [List.length_append, hN.ro.len]
          omega
        walk_at "gs"
        refine g_setL hN4.ro.top (ixN_of (by rw [List.length_map]; exact hl)) ?_
        exact hgo _ _ _ _ rfl (Grow.before n hn) (hN4.swap (r := p2) (row := [2 * (Em : Int)]) upd_same (hN3.fresh hp2) (hN3.nr hp2) (hN3.nT hp2) hl)
      walk_at "gs"
      refine if_2 (fun eC => ?_) (fun eC => ?_)
      · -- within an edge
        walk_at "gs"
        refine ⟨S, c, _, rfl, hN.st, by omega, lim_ok (by omega), fun v H1 v0 v1 hS1 k1 => ?_⟩
        obtain ⟨e, rfl⟩ : ∃ n : Nat, v = n := ⟨v.toNat, by omega⟩
        have he : e < Em := by omega
        have hN1 := hN.pick hS1 k1
        walk_at "gs"
        have hd : (2 * (e : Int) + 1) ∈ rows.flatten := (hW.mem _).mpr (by omega)
        refine ⟨T', _, rs, rows, rfl, hN1.ro, hd, hfew, fun q hq => ?_⟩
        have hN2 := hN1.same (up_same (o := .lst [.int ((atM rows (2 * (e : Int) + 1)).1 : Nat), .int ((atM rows (2 * (e : Int) + 1)).2 : Nat)]) hq)
        refine ⟨q, _, rfl, SqL.of upd_same, rfl, _, _, rfl, _, _, rfl, rfl, ?_⟩
        obtain ⟨row, w1, w2⟩ := at_spec hd
        have hg := getD_at w1
        obtain ⟨r, e1, e2, e3⟩ := hN2.get (at_lt hd)
        rw [hg] at e3
        walk_at "gs"
        refine g_bmL hN2.sqT ?_
        walk_at "gs"
        refine g_ixL hN2.sqT (atI_nat e1) ?_
        walk_at "gs"
        refine g_ixL (SqL.of e3) (v := .int (2 * (e : Int) + 1)) (atI_nat (by rw [List.getElem?_map, w2]; rfl)) ?_
        walk_at "gs"
        refine g_newL (by show 2 ≤ 1000000; decide) fun p hp => ?_
        have hN3 := hN2.same (up_same (o := .lst [.int (2 * (e : Int) + 1), .int (2 * (Em : Int))]) hp)
        walk_at "gs"
        refine g_append hN3.ro.top (by rw [List.length_map, hN.ro.len]; omega) ?_
        have hN4 := hN3.push (r := p) (row := [2 * (e : Int) + 1, 2 * (Em : Int)]) upd_same (hN2.fresh hp) (hN2.nr hp) (hN2.nT hp)
        have hlt := at_lt hd
        have e2' : (rs ++ [p])[(atM rows (2 * (e : Int) + 1)).1]? = some r := by
          rw [List.getElem?_append_left (by rw [hN.ro.len]; exact hlt)]
          exact e2
        have w1' : (rows ++ [[2 * (e : Int) + 1, 2 * (Em : Int)]])[(atM rows (2 * (e : Int) + 1)).1]? = some row := by
          rw [List.getElem?_append_left hlt]
          exact w1
        have e3' := hN4.ro.at_ _ r row e2' w1'
        walk_at "gs"
        refine g_ixL hN4.sqT (v := .ref r) (atI_nat (by rw [List.getElem?_map, e2']; rfl)) ?_
        walk_at "gs"
        refine g_setL e3' (ixN_of (by rw [List.length_map]; exact (List.getElem?_eq_some_iff.mp w2).1)) ?_
        have hN5 := hN4.row e2' (row.set (atM rows (2 * (e : Int) + 1)).2 (2 * (Em : Int) + 1))
        rw [List.map_set] at hN5
        have g := Grow.within (rim := rim) (rows := rows) e he
        rw [hg] at g
        exact hgo _ _ _ _ rfl g hN5
      walk_at "gs"
      refine if_2 (fun eD => ?_) (fun eD => ?_)
      · -- beside an edge
        walk_at "gs"
        refine ⟨S, c, _, rfl, hN.st, by omega, lim_ok (by omega), fun v H1 v0 v1 hS1 k1 => ?_⟩
        obtain ⟨e, rfl⟩ : ∃ n : Nat, v = n := ⟨v.toNat, by omega⟩
        have he : e < Em := by omega
        have hN1 := hN.pick hS1 k1
        walk_at "gs"
        have hd : (2 * (e : Int)) ∈ rows.flatten := (hW.mem _).mpr (by omega)
        refine ⟨T', _, rs, rows, rfl, hN1.ro, hd, hfew, fun q hq => ?_⟩
        have hN2 := hN1.same (up_same (o := .lst [.int ((atM rows (2 * (e : Int))).1 : Nat), .int ((atM rows (2 * (e : Int))).2 : Nat)]) hq)
        refine ⟨q, _, rfl, SqL.of upd_same, rfl, _, _, rfl, _, _, rfl, rfl, ?_⟩
        obtain ⟨row, w1, w2⟩ := at_spec hd
        have hg := getD_at w1
        have hrl := hrow (atM rows (2 * (e : Int))).1
        have hal := (List.getElem?_eq_some_iff.mp w2).1
        obtain ⟨r, e1, e2, e3⟩ := hN2.get (at_lt hd)
        walk_at "gs"
        refine g_ixL hN2.sqT (atI_nat e1) ?_
        refine g_bmL (SqL.of e3) ?_
        walk_at "gs"
        rw [hg] at hrl
        refine g_insert (i := (atM rows (2 * (e : Int))).2 + 1) e3 (by rw [List.length_map, hg]; omega) (by omega) ?_
        rw [map_ins]
        have hN3 := hN2.row e2 (ins ((atM rows (2 * (e : Int))).2 + 1) (2 * (Em : Int)) (rows.getD (atM rows (2 * (e : Int))).1 []))
        obtain ⟨r1, hr1⟩ : ∃ r1, r1 = modRow rows (atM rows (2 * (e : Int))).1 (ins ((atM rows (2 * (e : Int))).2 + 1) (2 * (Em : Int))) := ⟨_, rfl⟩
        rw [show rows.set (atM rows (2 * (e : Int))).1 (ins ((atM rows (2 * (e : Int))).2 + 1) (2 * (Em : Int)) (rows.getD (atM rows (2 * (e : Int))).1 [])) = r1 from hr1.symm] at hN3
        have p1 : r1.flatten.Perm ([2 * (Em : Int)] ++ rows.flatten) := by
          rw [hr1]
          exact modRow_perm (at_lt hd) fun row => ins_perm _ _ _
        have hl1 : r1.length = rows.length := by
          rw [hr1]
          exact modRow_len
        have hfl : r1.flatten.length = 2 * Em + 1 := by
          rw [p1.length_eq, List.length_append, hW.len]
          show 1 + 2 * Em = _
          omega
        have hd1 : (2 * (e : Int) + 1) ∈ r1.flatten := p1.mem_iff.mpr (List.mem_cons_of_mem _ ((hW.mem _).mpr (by omega)))
        walk_at "gs"
        refine ⟨T', _, rs, r1, rfl, hN3.ro, hd1, few_of (by omega) (by omega), fun q2 hq2 => ?_⟩
        have hN4 := hN3.same (up_same (o := .lst [.int ((atM r1 (2 * (e : Int) + 1)).1 : Nat), .int ((atM r1 (2 * (e : Int) + 1)).2 : Nat)]) hq2)
        refine ⟨q2, _, rfl, SqL.of upd_same, rfl, _, _, rfl, _, _, rfl, rfl, ?_⟩
        obtain ⟨row', y1, y2⟩ := at_spec hd1
        have hg' := getD_at y1
        have hal' := (List.getElem?_eq_some_iff.mp y2).1
        have hrl' : row'.length ≤ r1.flatten.length := row_le (List.mem_of_getElem? y1)
        obtain ⟨r', f1, f2, f3⟩ := hN4.get (at_lt hd1)
        walk_at "gs"
        refine g_ixL hN4.sqT (atI_nat f1) ?_
        refine g_bmL (SqL.of f3) ?_
        walk_at "gs"
        refine g_insert (i := (atM r1 (2 * (e : Int) + 1)).2) f3 (by rw [List.length_map, hg']; omega) (by omega) ?_
        rw [map_ins]
        exact hgo _ _ _ _ rfl (Grow.beside e he r1 hr1) (hN4.row f2 _)
      walk_at "gs"
      refine if_2 (fun eE => ?_) (fun eE => ?_)
      · -- a twig
        walk_at "gs"
        refine g_lenL hN.sqT ?_
        walk_at "gs"
        have hlr : (rs.map V.ref).length = rows.length := by rw [List.length_map, hN.ro.len]
        refine ⟨S, c, _, rfl, hN.st, by omega, lim_ok (by omega), fun v H1 v0 v1 hS1 k1 => ?_⟩
        obtain ⟨n, rfl⟩ : ∃ n : Nat, v = n := ⟨v.toNat, by omega⟩
        have hn : n < rows.length := by omega
        have hN1 := hN.pick hS1 k1
        obtain ⟨r, e1, e2, e3⟩ := hN1.get hn
        have hrl := hrow n
        walk_at "gs"
        refine g_ixL hN1.sqT (atI_nat e1) ?_
        refine g_bmL (SqL.of e3) ?_
        walk_at "gs"
        refine g_ixL hN1.sqT (atI_nat e1) ?_
        walk_at "gs"
        rw [List.length_map]
        refine ⟨S, c, _, rfl, hN1.st, by omega, lim_ok (n := (rows.getD n []).length + 1) (by omega), fun v H2 v0 v1 hS2 k2 => ?_⟩
        obtain ⟨p, rfl⟩ : ∃ n : Nat, v = n := ⟨v.toNat, by omega⟩
        have hN2 := hN1.pick hS2 k2
        have e4 : H2 r = some (.lst ((rows.getD n []).map V.int)) := k2 _ _ (hN1.nrS (List.mem_of_getElem? e2)) e3
        walk_at "gs"
        refine g_insert (i := p) e4 (by rw [List.length_map]; omega) (by omega) ?_
        rw [map_ins]
        have hN3 := hN2.row e2 (ins p (2 * (Em : Int)) (rows.getD n []))
        walk_at "gs"
        refine g_bmL hN3.sqT ?_
        walk_at "gs"
        refine g_newL (by show 1 ≤ 1000000; decide) fun q hq => ?_
        have hN4 := hN3.same (up_same (o := .lst [.int (2 * (Em : Int) + 1)]) hq)
        walk_at "gs"
        refine g_append hN4.ro.top (by rw [hlr]; omega) ?_
        exact hgo _ _ _ _ rfl (Grow.twig n p hn (by omega)) (hN4.push (r := q) (row := [2 * (Em : Int) + 1]) upd_same (hN3.fresh hq) (hN3.nr hq) (hN3.nT hq))
      walk_at "gs"
      refine if_2 (fun eF => ?_) (fun eF => ?_)
      · -- a loop
        walk_at "gs"
        refine g_lenL hN.sqT ?_
        walk_at "gs"
        have hlr : (rs.map V.ref).length = rows.length := by rw [List.length_map, hN.ro.len]
        refine ⟨S, c, _, rfl, hN.st, by omega, lim_ok (by omega), fun v H1 v0 v1 hS1 k1 => ?_⟩
        obtain ⟨n, rfl⟩ : ∃ n : Nat, v = n := ⟨v.toNat, by omega⟩
        have hn : n < rows.length := by omega
        have hN1 := hN.pick hS1 k1
        obtain ⟨r, e1, e2, e3⟩ := hN1.get hn
        have hrl := hrow n
        walk_at "gs"
        refine g_ixL hN1.sqT (atI_nat e1) ?_
        walk_at "gs"
        rw [List.length_map]
        refine ⟨S, c, _, rfl, hN1.st, by omega, lim_ok (n := (rows.getD n []).length + 1) (by omega), fun v H2 v0 v1 hS2 k2 => ?_⟩
        obtain ⟨p, rfl⟩ : ∃ n : Nat, v = n := ⟨v.toNat, by omega⟩
        have hN2 := hN1.pick hS2 k2
        have e4 : H2 r = some (.lst ((rows.getD n []).map V.int)) := k2 _ _ (hN1.nrS (List.mem_of_getElem? e2)) e3
        walk_at "gs"
        refine g_ixL hN2.sqT (atI_nat e1) ?_
        refine g_bmL (SqL.of e4) ?_
        walk_at "gs"
        refine g_insert (i := p) e4 (by rw [List.length_map]; omega) (by omega) ?_
        rw [map_ins]
        have hN3 : NS H0 _ S c T' rs (modRow rows n (ins p (2 * (Em : Int)))) := hN2.row e2 (ins p (2 * (Em : Int)) (rows.getD n []))
        have hm : (modRow rows n (ins p (2 * (Em : Int)))).length = rows.length := modRow_len
        obtain ⟨r', f1, f2, f3⟩ := hN3.get (n := n) (by omega)
        walk_at "gs"
        refine g_ixL hN3.sqT (atI_nat f1) ?_
        refine g_bmL (SqL.of f3) ?_
        walk_at "gs"
        have hl3 : ((modRow rows n (ins p (2 * (Em : Int)))).getD n []).length ≤ 3000 := by
          rw [modRow_get hn rfl, (ins_perm _ _ _).length_eq, List.length_cons]
          omega
        refine g_insert (i := p + 1) f3 (by rw [List.length_map]; omega) (by omega) ?_
        rw [map_ins]
        exact hgo _ _ _ _ rfl (Grow.loop n p hn (by omega)) (hN3.row f2 _)
      -- across a face
      walk_at "gs"
      refine ⟨S, c, _, rfl, hN.st, by omega, lim_ok2 (by omega), fun d H1 v0 v1 hS1 k1 => ?_⟩
      have hN1 := hN.pick hS1 k1
      walk_at "gs"
      refine ⟨T', rim, Em, d, rs, rows, rfl, hN1.ro, hW, v0, v1, hfew, fun pf H2 sm2 hpf ef => ?_⟩
      have hN2 := hN1.same sm2
      have hpS := hN1.st.neS hpf
      have hfl := faceM_len rows rim d
      have hdm : d ∈ rows.flatten := (hW.mem d).mpr ⟨v0, v1⟩
      walk_at "gs"
      rw [List.length_map]
      refine ⟨S, c, _, rfl, hN2.st, by omega, lim_ok (by omega), fun v H3 u0 u1 hS3 k3 => ?_⟩
      obtain ⟨ix, rfl⟩ : ∃ n : Nat, v = n := ⟨v.toNat, by omega⟩
      have hN3 := hN2.pick hS3 k3
      have ef3 := k3 _ _ hpS ef
      have hxl : ix < (faceM rows rim d).length := by omega
      walk_at "gs"
      refine g_ixL (SqL.of ef3) (v := .int (faceM rows rim d)[ix]) (atI_nat (by rw [List.getElem?_map, List.getElem?_eq_getElem hxl]; rfl)) ?_
      walk_at "gs"
      rw [List.length_map]
      refine ⟨S, c, _, rfl, hN3.st, by omega, lim_ok (by omega), fun v H4 u0 u1 hS4 k4 => ?_⟩
      obtain ⟨iy, rfl⟩ : ∃ n : Nat, v = n := ⟨v.toNat, by omega⟩
      have hN4 := hN3.pick hS4 k4
      have ef4 := k4 _ _ hpS ef3
      have hyl : iy < (faceM rows rim d).length := by omega
      walk_at "gs"
      refine g_ixL (SqL.of ef4) (v := .int (faceM rows rim d)[iy]) (atI_nat (by rw [List.getElem?_map, List.getElem?_eq_getElem hyl]; rfl)) ?_
      have hxf : (faceM rows rim d)[ix] ∈ faceM rows rim d := List.getElem_mem hxl
      have hyf : (faceM rows rim d)[iy] ∈ faceM rows rim d := List.getElem_mem hyl
      generalize (faceM rows rim d)[ix] = x at hxf
      generalize (faceM rows rim d)[iy] = y at hyf
      have hxm := faceM_sub hdm x hxf
      have hym := faceM_sub hdm y hyf
      walk_at "gs"
      refine ⟨T', _, rs, rows, rfl, hN4.ro, hxm, hfew, fun q hq => ?_⟩
      have hN5 := hN4.same (up_same (o := .lst [.int ((atM rows x).1 : Nat), .int ((atM rows x).2 : Nat)]) hq)
      refine ⟨q, _, rfl, SqL.of upd_same, rfl, _, _, rfl, _, _, rfl, rfl, ?_⟩
      obtain ⟨row, w1, w2⟩ := at_spec hxm
      have hg := getD_at w1
      have hrl := hrow (atM rows x).1
      have hal := (List.getElem?_eq_some_iff.mp w2).1
      obtain ⟨r, e1, e2, e3⟩ := hN5.get (at_lt hxm)
      walk_at "gs"
      refine g_ixL hN5.sqT (atI_nat e1) ?_
      refine g_bmL (SqL.of e3) ?_
      walk_at "gs"
      rw [hg] at hrl
      refine g_insert (i := (atM rows x).2) e3 (by rw [List.length_map, hg]; omega) (by omega) ?_
      rw [map_ins]
      have hN6 := hN5.row e2 (ins (atM rows x).2 (2 * (Em : Int)) (rows.getD (atM rows x).1 []))
      obtain ⟨r1, hr1⟩ : ∃ r1, r1 = modRow rows (atM rows x).1 (ins (atM rows x).2 (2 * (Em : Int))) := ⟨_, rfl⟩
      rw [show rows.set (atM rows x).1 (ins (atM rows x).2 (2 * (Em : Int)) (rows.getD (atM rows x).1 [])) = r1 from hr1.symm] at hN6
      have p1 : r1.flatten.Perm ([2 * (Em : Int)] ++ rows.flatten) := by
        rw [hr1]
        exact modRow_perm (at_lt hxm) fun row => ins_perm _ _ _
      have hl1 : r1.length = rows.length := by
        rw [hr1]
        exact modRow_len
      have hfl1 : r1.flatten.length = 2 * Em + 1 := by
        rw [p1.length_eq, List.length_append, hW.len]
        show 1 + 2 * Em = _
        omega
      have hd1 : y ∈ r1.flatten := p1.mem_iff.mpr (List.mem_cons_of_mem _ hym)
      walk_at "gs"
      refine ⟨T', _, rs, r1, rfl, hN6.ro, hd1, few_of (by omega) (by omega), fun q2 hq2 => ?_⟩
      have hN7 := hN6.same (up_same (o := .lst [.int ((atM r1 y).1 : Nat), .int ((atM r1 y).2 : Nat)]) hq2)
      refine ⟨q2, _, rfl, SqL.of upd_same, rfl, _, _, rfl, _, _, rfl, rfl, ?_⟩
      obtain ⟨row', y1, y2⟩ := at_spec hd1
      have hg' := getD_at y1
      have hal' := (List.getElem?_eq_some_iff.mp y2).1
      have hrl' : row'.length ≤ r1.flatten.length := row_le (List.mem_of_getElem? y1)
      obtain ⟨r', f1, f2, f3⟩ := hN7.get (at_lt hd1)
      walk_at "gs"
      refine g_ixL hN7.sqT (atI_nat f1) ?_
      refine g_bmL (SqL.of f3) ?_
      walk_at "gs"
      refine g_insert (i := (atM r1 y).2) f3 (by rw [List.length_map, hg']; omega) (by omega) ?_
      rw [map_ins]
      exact hgo _ _ _ _ rfl (Grow.across d x y ⟨v0, v1⟩ hxf hyf r1 hr1) (hN7.row f2 _)
    · rintro σ' H' ⟨e3, rs', rows', g, hN'⟩
      walk_at "gs"
      refine g_var e3 ?_
      walk_at "gs"
      exact k rs' rows' H' g hN'
end

section
variable {P : Program} {w : World} {K : PySem.W.Frag} {mg : Str → Option Value} {base : Heap} {A : Ads}
theorem ok_l_amount (T : Txt K mg A) : FnOk P w K mg base CX0 3 A.f_l_amount A.fd_l_amount ["state"] (spAmount K) := by
  have G_l_pick := ok_l_pick (P := P) (w := w) (base := base) T
  have G_l_ratio := ok_l_ratio (P := P) (w := w) (base := base) T
  have nd := sc_l_amount.nd
  refine T.F_l_amount.ok sc_l_amount (fun vs H Q E h => ?_) (fun cdv Ar outer s H vs Q E hr h => ?_)
  · obtain ⟨S, c, rfl, _⟩ := h
    rfl
  · obtain ⟨S, c, rfl, hS, k⟩ := h
    refine ⟨_, (pss_one (ps_ret (pe_call (E := E0) G_l_ratio (hr.mono (by decide)) (by rfl) T.g_l_ratio T.F_l_ratio.kp T.b_l_ratio .nil pass0 (pa_cons (pe_op op_add pe_int (pe_call (E := E0) G_l_pick (hr.mono (by decide)) (by rfl) T.g_l_pick T.F_l_pick.kp T.b_l_pick .nil pass0 (pa_cons (pv 0) (pa_cons pe_int pa_nil)))) (pa_cons (pe_op op_add pe_int (pe_call (E := E0) G_l_pick (hr.mono (by decide)) (by rfl) T.g_l_pick T.F_l_pick.kp T.b_l_pick .nil pass0 (pa_cons (pv 0) (pa_cons pe_int pa_nil)))) pa_nil))))), ?_⟩
    walk_at "gs"
    refine ⟨S, c, 6, rfl, hS, by decide, by decide +kernel, fun u H1 u0 u1 hS1 k1 => ?_⟩
    walk_at "gs"
    refine ⟨S, c, 4, rfl, hS1, by decide, by decide +kernel, fun z H2 z0 z1 hS2 k2 => ?_⟩
    walk_at "gs"
    refine ⟨_, _, rfl, by omega, pow_mono (a := 5) (by omega) (by decide), fun v H3 s3 hv => ?_⟩
    exact k v H3 _ (hS2.same s3) ((k1.trans k2).trans (Kp.of s3)) hv (divInt_pos (by omega) (by omega)) (Bd.of (by omega) (by omega) (by omega))
theorem ok_l_net (T : Txt K mg A) : FnOk P w K mg base CX0 4 A.f_l_net A.fd_l_net ["state", "most_rim", "most_edges"] (spNet K) := by
  have G_l_pick := ok_l_pick (P := P) (w := w) (base := base) T
  have G_l_grow := ok_l_grow (P := P) (w := w) (base := base) T
  have G_l_amount := ok_l_amount (P := P) (w := w) (base := base) T
  have nd := sc_l_net.nd
  refine T.F_l_net.ok sc_l_net (fun vs H Q E h => ?_) (fun cdv Ar outer s H vs Q E hr h => ?_)
  · obtain ⟨S, c, R, M, rfl, _⟩ := h
    rfl
  · obtain ⟨S, c, R, M, rfl, hS, hR1, hR2, hM, k⟩ := h
    refine ⟨_, (pss_cons (ps_set (i := 3) nd rfl (Or.inl rfl) (pe_op op_add pe_int (pe_call (E := E0) G_l_pick (hr.mono (by decide)) (by rfl) T.g_l_pick T.F_l_pick.kp T.b_l_pick .nil pass0 (pa_cons (pv 0) (pa_cons (pv 1) pa_nil))))) (pss_cons (ps_setLc (i := 5) (own := [("k", 4)]) (g := gName 4) (tt := tYes) rfl nd rfl rfl (sw_true rfl rfl rfl (by decide +kernel)) (pi_range1 (by rfl) T.n_range (pa_cons (pv 3) pa_nil)) (blkOk_by (N := ["state", "most_rim", "most_edges", "rim", "k", "turns", "edges", "amounts", "turn"]) (sc := defScope s_l_net) (by decide +kernel)) (fun _ _ _ _ _ => pg_name (i := 4) nd rfl (by first | exact Or.inl rfl | exact Or.inr rfl)) (fun _ _ _ _ _ => pts_nil) (fun _ _ _ _ _ => (pe_lst pa_nil))) (pss_cons (ps_set (i := 6) nd rfl (Or.inl rfl) pe_int) (pss_cons (ps_for PassesOwn.never rfl (pi_range1 (by rfl) T.n_range (pa_cons (pe_call (E := E0) G_l_pick (hr.mono (by decide)) (by rfl) T.g_l_pick T.F_l_pick.kp T.b_l_pick .nil pass0 (pa_cons (pv 0) (pa_cons (pe_op op_add (pv 2) pe_int) pa_nil))) pa_nil)) (pg_name (i := 4) nd rfl (Or.inl rfl)) (pss_one (ps_set (i := 6) nd rfl (Or.inl rfl) (pe_call (E := E0) G_l_grow (hr.mono (by decide)) (by rfl) T.g_l_grow T.F_l_grow.kp T.b_l_grow .nil pass0 (pa_cons (pv 0) (pa_cons (pv 3) (pa_cons (pv 5) (pa_cons (pv 6) (pa_cons (pe_call (E := E0) G_l_pick (hr.mono (by decide)) (by rfl) T.g_l_pick T.F_l_pick.kp T.b_l_pick .nil pass0 (pa_cons (pv 0) (pa_cons pe_int pa_nil))) pa_nil))))))))) (pss_cons (ps_setLc (i := 7) (own := [("k", 4)]) (g := gName 4) (tt := tYes) rfl nd rfl rfl (sw_true rfl rfl rfl (by decide +kernel)) (pi_range1 (by rfl) T.n_range (pa_cons (pv 6) pa_nil)) (blkOk_by (N := ["state", "most_rim", "most_edges", "rim", "k", "turns", "edges", "amounts", "turn"]) (sc := defScope s_l_net) (by decide +kernel)) (fun _ _ _ _ _ => pg_name (i := 4) nd rfl (by first | exact Or.inl rfl | exact Or.inr rfl)) (fun _ _ _ _ _ => pts_nil) (fun _ _ _ _ _ => (pe_call (E := E0) G_l_amount (hr.mono (by decide)) (by rfl) T.g_l_amount T.F_l_amount.kp T.b_l_amount .nil pass0 (pa_cons (pv 0) pa_nil)))) (pss_one (ps_ret (pe_tup (pa_cons (pv 3) (pa_cons (pe_callTy (zc_tupleK (K := K) rfl) (by rfl) T.n_tuple (by decide +kernel) (pa_cons (pe_lc (own := [("turn", 8)]) (g := gName 8) (tt := tYes) rfl nd (pi_listK (K := K) rfl (pv 5)) (blkOk_by (N := ["state", "most_rim", "most_edges", "rim", "k", "turns", "edges", "amounts", "turn"]) (sc := defScope s_l_net) (by decide +kernel)) (fun _ _ _ _ _ => pg_name (i := 8) nd rfl (by first | exact Or.inl rfl | exact Or.inr rfl)) (fun _ _ _ _ _ => pts_nil) (fun _ _ _ _ _ => (pe_callTy (zc_tupleK (K := K) rfl) (by rfl) T.n_tuple (by decide +kernel) (pa_cons (pv 8) pa_nil)))) pa_nil)) (pa_cons (pe_callTy (zc_tupleK (K := K) rfl) (by rfl) T.n_tuple (by decide +kernel) (pa_cons (pv 7) pa_nil)) pa_nil))))))))))), ?_⟩
    walk_at "gs"
    refine ⟨S, c, _, rfl, hS, by omega, lim_ok (by omega), fun u H0 u0 u1 hS0 k0 => ?_⟩
    obtain ⟨n, rfl⟩ : ∃ n : Nat, u = n := ⟨u.toNat, by omega⟩
    obtain ⟨rim, erim⟩ : ∃ rim : Nat, rim = n + 1 := ⟨_, rfl⟩
    have ei : (1 : Int) + (n : Int) = (rim : Int) := by omega
    walk_at "gs"
    rw [ei]
    refine g_lcRng rim rfl (by omega) (fun p i acc H' => Same H0 H' ∧ H' p = some (.lst acc) ∧ ∃ rs : List Addr, rs.length = i ∧ acc = rs.map V.ref ∧ rs.Nodup ∧ ∀ r, r ∈ rs → H0 r = none ∧ r ≠ p ∧ H' r = some (.lst [])) (fun _ => rfl)
      (fun p hp => ⟨up_same hp, upd_same, [], rfl, rfl, List.nodup_nil, fun r hr => nomatch hr⟩) ?_ ?_
    · rintro p i acc H1 hp hi ⟨sm, e1, rs, hl, rfl, hnd, hrs⟩
      walk_at "gs"
      refine g_newL (by show 0 ≤ 1000000; decide) fun q hq => ?_
      have hqp : p ≠ q := ne_of_none e1 hq
      have hqr : ∀ r, r ∈ rs → r ≠ q := fun r hr => ne_of_none (hrs r hr).2.2 hq
      refine lcN_of ((up_same hq) _ _ e1) (by rw [List.length_map]; omega) ⟨fun b o h => ?_, upd_same, rs ++ [q], ?_, ?_, ?_, fun r hr => ?_⟩
      · rw [upd_ne (ne_of_none h hp)]
        exact (up_same hq) _ _ (sm _ _ h)
      · rw [List.length_append, hl]
        rfl
      · rw [List.map_append]
        rfl
      · rw [List.nodup_append]
        refine ⟨hnd, by simp, fun a ha b hb e => ?_⟩
        rw [List.mem_singleton.mp hb] at e
        exact hqr a ha e
      · rcases List.mem_append.mp hr with hr | hr
        · obtain ⟨a1, a2, a3⟩ := hrs r hr
          refine ⟨a1, a2, ?_⟩
          rw [upd_ne a2]
          exact (up_same hq) _ _ a3
        · rw [List.mem_singleton.mp hr]
          refine ⟨sm.free hq, hqp.symm, ?_⟩
          rw [upd_ne hqp.symm]
          exact upd_same
    · rintro T' acc H1 hT0 ⟨sm, e1, rs, hl, rfl, hnd, hrs⟩
      have hN0 : NS H0 H1 S c T' rs (List.replicate rim []) := by
        refine ⟨hS0.same sm, ⟨e1, by rw [List.length_replicate]; exact hl, fun i r row a b => ?_, hnd⟩, Kp.of sm, hT0, fun r hr => (hrs r hr).1, hS0⟩
        have hb := List.mem_of_getElem? b
        rw [List.eq_of_mem_replicate hb]
        exact (hrs r (List.mem_of_getElem? a)).2.2
      walk_at "gs"
      refine ⟨S, c, _, rfl, hN0.st, by omega, lim_ok (n := M + 1) (by omega), fun u H2 z0 z1 hS2 k2 => ?_⟩
      obtain ⟨m, rfl⟩ : ∃ n : Nat, u = n := ⟨u.toNat, by omega⟩
      have hN2 := hN0.pick hS2 k2
      walk_at "gs"
      refine g_rng m rfl (by omega) (fun i σ' H' => ∃ (u6 : Option V) (rs : List Addr) (rows : Rows), σ' = [some (.ref S), some (.int (R : Int)), some (.int (M : Int)), some (.int (rim : Int)), u6, some (.ref T'), some (.int (i : Int)), none, none] ∧
        NS H0 H' S c T' rs rows ∧ Built rim i rows) ⟨none, rs, _, rfl, hN2, .start⟩ ?_ ?_
      · rintro i σ' H3 hi ⟨u6, rs3, rows3, rfl, hN3, hB3⟩
        obtain ⟨w1, w2, w3⟩ := hB3.all (by omega)
        walk_at "gs"
        refine ⟨S, c, 13, rfl, hN3.st, by decide, by decide +kernel, fun ch H4 z0 z1 hS4 k4 => ?_⟩
        have hN4 := hN3.pick hS4 k4
        walk_at "gs"
        refine ⟨H0, S, c, T', rim, i, ch, rs3, rows3, rfl, hN4, w1, by omega, w2, by omega, by omega, fun rs' rows' H5 g hN5 => ?_⟩
        walk_at "gs"
        exact ⟨_, rs', rows', rfl, hN5, hB3.grow g⟩
      · rintro σ' H3 ⟨u6, rs3, rows3, rfl, hN3, hB3⟩
        obtain ⟨w1, w2, w3⟩ := hB3.all (by omega)
        walk_at "gs"
        refine g_lcRng m rfl (by omega) (fun p i acc H' => NS H0 H' S c T' rs3 rows3 ∧ H' p = some (.lst acc) ∧ ∃ qs : List Rat, qs.length = i ∧ Rats K H' acc qs ∧ ∀ q ∈ qs, 0 < q ∧ Bd 5 q) (fun _ => rfl)
          (fun p hp => ⟨hN3.same (up_same hp), upd_same, [], rfl, Rats.nil, fun q hq => nomatch hq⟩) ?_ ?_
        · rintro p i acc H4 hp hi ⟨hN4, e4, qs, hl4, hr4, hb4⟩
          walk_at "gs"
          refine ⟨S, c, rfl, hN4.st, fun v H5 q hS5 k5 hv hq0 hqb => ?_⟩
          have hpS := hN3.st.neS hp
          have e5 := k5 p _ hpS e4
          obtain ⟨ys, hys⟩ := hN4.st.lst
          refine lcN_of e5 (by have := hr4.len; omega) ⟨(hN4.pick hS5 k5).other (hN3.fresh hp) (hN3.nT hp) (hN3.nr hp), upd_same, qs ++ [q], ?_, ((hr4.kp k5 hys).snoc hv).kp Kp.upd e5, ?_⟩
          · rw [List.length_append, hl4]
            rfl
          · intro y hy
            rcases List.mem_append.mp hy with hy | hy
            · exact hb4 y hy
            · rw [List.mem_singleton.mp hy]
              exact ⟨hq0, hqb⟩
        · rintro am acc H4 ham ⟨hN4, e4, qs, hl4, hr4, hb4⟩
          walk_at "gs"
          have hfr : ∀ (i : Nat) r row, rs3[i]? = some r → rows3[i]? = some row → H4 r = some (.lst (row.map V.int)) := hN4.ro.at_
          refine g_lcLst hN4.sqT (fun p i acc2 H' => Same H4 H' ∧ H' p = some (.lst acc2) ∧ ∃ ts : List Addr, ts.length = i ∧ acc2 = ts.map V.ref ∧ ∀ (j : Nat) r row, ts[j]? = some r → rows3[j]? = some row → SqT K H' r (row.map V.int)) (fun _ => rfl)
            (fun p hp => ⟨up_same hp, upd_same, [], rfl, rfl, fun j r row a => by simp at a⟩) (fun p i acc2 H' _ h => h.1.seq hN4.sqT) ?_ ?_
          · rintro p i x acc2 H5 hp hx ⟨sm5, e5, ts, hl5, rfl, ht5⟩
            rw [List.getElem?_map] at hx
            cases hri : rs3[i]? with
            | none =>
              rw [hri] at hx
              cases hx
            | some r =>
              rw [hri] at hx
              cases hx
              have hlt : i < rows3.length := by
                rw [← hN4.ro.len]
                exact (List.getElem?_eq_some_iff.mp hri).1
              have hrow := sm5 _ _ (hfr i r _ hri (List.getElem?_eq_getElem hlt))
              walk_at "gs"
              refine g_tupleL (SqL.of hrow) fun q hq => ?_
              have e5' := (up_same (o := .tup (rows3[i].map V.int)) hq) _ _ e5
              refine lcN_of e5' (by rw [List.length_map]; have := hN4.ro.len; omega) ⟨fun b o h => ?_, upd_same, ts ++ [q], ?_, ?_, fun j r' row a b => ?_⟩
              · rw [upd_ne (ne_of_none h hp)]
                exact (up_same hq) _ _ (sm5 _ _ h)
              · rw [List.length_append, hl5]
                rfl
              · rw [List.map_append]
                rfl
              · refine Kp.sqt Kp.upd e5' ?_
                by_cases hj : j < ts.length
                · rw [List.getElem?_append_left hj] at a
                  exact Same.sqt (up_same hq) (ht5 j r' row a b)
                · rw [List.getElem?_append_right (by omega)] at a
                  by_cases hj0 : j - ts.length = 0
                  · rw [hj0] at a
                    cases a
                    have : j = i := by omega
                    subst this
                    rw [List.getElem?_eq_getElem hlt] at b
                    cases b
                    exact SqT.of upd_same
                  · obtain ⟨j', hj'⟩ : ∃ j', j - ts.length = j' + 1 := ⟨j - ts.length - 1, by omega⟩
                    rw [hj'] at a
                    simp at a
          · rintro p acc2 H5 hp ⟨sm5, e5, ts, hl5, rfl, ht5⟩
            walk_at "gs"
            refine g_tupleL (SqL.of e5) fun t ht => ?_
            walk_at "gs"
            have e6 := (sm5.trans (up_same (o := .tup (ts.map V.ref)) ht)) _ _ e4
            refine g_tupleL (SqL.of e6) fun mm hm => ?_
            walk_at "gs"
            refine g_newT (by show 3 ≤ 1000000; decide) fun pp hpp => ?_
            have s1 := up_same (H := H5) (o := .tup (ts.map V.ref)) ht
            have s2 := up_same (o := .tup acc) hm
            have s3 := up_same (o := .tup [.int (rim : Int), .ref t, .ref mm]) hpp
            have sAll := sm5.trans (s1.trans (s2.trans s3))
            refine k _ _ rim rows3 m qs (by omega) (by omega) (by omega) hB3 hl4 hb4 (hN4.st.same sAll) ((k0.trans hN4.kp).trans (Kp.of sAll)) ⟨pp, t, mm, ts, acc, rfl, SqT.of upd_same, Same.sqt (s2.trans s3) (SqT.of upd_same), ?_, fun i r row a b => Same.sqt (s1.trans (s2.trans s3)) (ht5 i r row a b), Same.sqt s3 (SqT.of upd_same), hr4.same sAll⟩
            rw [hl5, List.length_map, hN4.ro.len]
end

section
variable {P : Program} {w : World} {K : PySem.W.Frag} {mg : Str → Option Value} {base : Heap} {A : Ads}
theorem ok_l_same (T : Txt K mg A) : ∀ n, FnOk P w K mg base CX0 n A.f_l_same A.fd_l_same ["actual", "due"] (spSame K n)
  | 0 => fn_false fun vs H Q E h => by
    obtain ⟨x, y, _, h, _⟩ := h
    cases h
  | n + 1 => by
    have G_rec := ok_l_same T n
    have nd := sc_l_same.nd
    refine T.F_l_same.ok sc_l_same (fun vs H Q E h => ?_) (fun cdv Ar outer s H vs Q E hr h => ?_)
    · obtain ⟨x, y, rfl, _⟩ := h
      rfl
    · obtain ⟨x, y, rfl, h, k⟩ := h
      refine ⟨_, (pss_cons (ps_if (pt_val (pe_callB (call_isiK' (K := K) rfl) (by rfl) T.n_isinstance (by decide +kernel) (pa_cons (pv 1) (pa_cons (pe_bltn (v := .ty "tuple") (by rfl) T.n_tuple (by decide +kernel) rfl) pa_nil)))) (pss_cons (ps_if (PW.pt (pw_or (pt_not (pt_val (pe_callB (call_isiK' (K := K) rfl) (by rfl) T.n_isinstance (by decide +kernel) (pa_cons (pv 0) (pa_cons (pe_bltn (v := .ty "tuple") (by rfl) T.n_tuple (by decide +kernel) rfl) pa_nil))))) (pw_or1 (pt_cmpR op_ne (pe_callB (zc_lenK (K := K) rfl) (by rfl) T.n_len (by decide +kernel) (pa_cons (pv 0) pa_nil)) (pe_callB (zc_lenK (K := K) rfl) (by rfl) T.n_len (by decide +kernel) (pa_cons (pv 1) pa_nil)) (nomark _))))) (pss_one (ps_ret pe_bl)) pss_nil) (pss_one (ps_ret (pe_callB (cr_allK (K := K) rfl rfl) (by rfl) T.n_all (by decide +kernel) (pa_cons (pe_lc (own := [("k", 2)]) (g := gName 2) (tt := tYes) rfl nd (pi_range1 (by rfl) T.n_range (pa_cons (pe_callB (zc_lenK (K := K) rfl) (by rfl) T.n_len (by decide +kernel) (pa_cons (pv 1) pa_nil)) pa_nil)) (blkOk_by (N := ["actual", "due", "k"]) (sc := defScope s_l_same) (by decide +kernel)) (fun _ _ _ _ _ => pg_name (i := 2) nd rfl (by first | exact Or.inl rfl | exact Or.inr rfl)) (fun _ _ _ _ _ => pts_nil) (fun _ _ _ _ _ => (pe_call (E := E0) G_rec hr (by rfl) T.g_l_same T.F_l_same.kp T.b_l_same .nil pass0 (pa_cons (pe_ix (ix_tupK (K := K) rfl) (pv 0) (pv 2) (fun _ _ => rfl)) (pa_cons (pe_ix (ix_tupK (K := K) rfl) (pv 1) (pv 2) (fun _ _ => rfl)) pa_nil))))) pa_nil))))) pss_nil) (pss_cons (ps_if (pt_val (pe_callB (call_isiK' (K := K) rfl) (by rfl) T.n_isinstance (by decide +kernel) (pa_cons (pv 1) (pa_cons (pe_bltn (v := .ty "list") (by rfl) T.n_list (by decide +kernel) rfl) pa_nil)))) (pss_one (ps_ret (pe_and (pe_callB (call_isiK' (K := K) rfl) (by rfl) T.n_isinstance (by decide +kernel) (pa_cons (pv 0) (pa_cons (pe_bltn (v := .ty "list") (by rfl) T.n_list (by decide +kernel) rfl) pa_nil))) (pe_one (pe_call (E := E0) G_rec hr (by rfl) T.g_l_same T.F_l_same.kp T.b_l_same .nil pass0 (pa_cons (pe_callTy (zc_tupleK (K := K) rfl) (by rfl) T.n_tuple (by decide +kernel) (pa_cons (pv 0) pa_nil)) (pa_cons (pe_callTy (zc_tupleK (K := K) rfl) (by rfl) T.n_tuple (by decide +kernel) (pa_cons (pv 1) pa_nil)) pa_nil))))))) pss_nil) (pss_cons (ps_if (pt_cmpR zo_isN (pv 1) pe_non (nomark _)) (pss_one (ps_ret (pe_cmpR zo_isN (pv 0) pe_non (nomark _)))) pss_nil) (pss_cons (ps_if (pt_val (pe_callB (call_isiK' (K := K) rfl) (by rfl) T.n_isinstance (by decide +kernel) (pa_cons (pv 1) (pa_cons (pe_bltn (v := .ty "bool") (by rfl) T.n_bool (by decide +kernel) rfl) pa_nil)))) (pss_one (ps_ret (pe_and (pe_callB (call_isiK' (K := K) rfl) (by rfl) T.n_isinstance (by decide +kernel) (pa_cons (pv 0) (pa_cons (pe_bltn (v := .ty "bool") (by rfl) T.n_bool (by decide +kernel) rfl) pa_nil))) (pe_one (pe_cmpR op_eq (pv 0) (pv 1) (nomark _)))))) pss_nil) (pss_cons (ps_if (pt_val (pe_callB (call_isiK' (K := K) rfl) (by rfl) T.n_isinstance (by decide +kernel) (pa_cons (pv 1) (pa_cons (pe_bltn (v := .ty "str") (by rfl) T.n_str (by decide +kernel) rfl) pa_nil)))) (pss_one (ps_ret (pe_and (pe_callB (call_isiK' (K := K) rfl) (by rfl) T.n_isinstance (by decide +kernel) (pa_cons (pv 0) (pa_cons (pe_bltn (v := .ty "str") (by rfl) T.n_str (by decide +kernel) rfl) pa_nil))) (pe_one (pe_cmpR op_eq (pv 0) (pv 1) (nomark _)))))) pss_nil) (pss_one (ps_ret (pe_and (pe_callB (call_isiK' (K := K) rfl) (by rfl) T.n_isinstance (by decide +kernel) (pa_cons (pv 0) (pa_cons (pe_bltn (v := .ty "int") (by rfl) T.n_int (by decide +kernel) rfl) pa_nil))) (pe_and (pe_not (pe_callB (call_isiK' (K := K) rfl) (by rfl) T.n_isinstance (by decide +kernel) (pa_cons (pv 0) (pa_cons (pe_bltn (v := .ty "bool") (by rfl) T.n_bool (by decide +kernel) rfl) pa_nil)))) (pe_one (pe_cmpR op_eq (pv 0) (pv 1) (nomark _)))))))))))), ?_⟩
      walk_at "gs"
      cases h with
      | sc hx =>
        cases x with
        | int i =>
          have ty : TyX K H (.int i) (.type "int") := tySc hx
          refine g_isi ty (b := false) (by decide +kernel) ?_
          walk_at "gs"
          refine if_f rfl ?_
          walk_at "gs"
          refine g_isi ty (b := false) (by decide +kernel) ?_
          walk_at "gs"
          refine if_f rfl ?_
          walk_at "gs"
          refine if_f rfl ?_
          walk_at "gs"
          refine g_isi ty (b := false) (by decide +kernel) ?_
          walk_at "gs"
          refine if_f rfl ?_
          walk_at "gs"
          refine g_isi ty (b := false) (by decide +kernel) ?_
          walk_at "gs"
          refine if_f rfl ?_
          walk_at "gs"
          refine g_isi ty (b := true) (by decide +kernel) ?_
          walk_at "gs"
          refine if_t rfl ?_
          walk_at "gs"
          refine g_isi ty (b := false) (by decide +kernel) ?_
          walk_at "gs"
          refine if_t rfl ?_
          walk_at "gs"
          rw [decide_eq_true rfl]
          exact k _ (Same.refl _)
        | bl i =>
          have ty : TyX K H (.bl i) (.type "bool") := tySc hx
          refine g_isi ty (b := false) (by decide +kernel) ?_
          walk_at "gs"
          refine if_f rfl ?_
          walk_at "gs"
          refine g_isi ty (b := false) (by decide +kernel) ?_
          walk_at "gs"
          refine if_f rfl ?_
          walk_at "gs"
          refine if_f rfl ?_
          walk_at "gs"
          refine g_isi ty (b := true) (by decide +kernel) ?_
          walk_at "gs"
          refine if_t rfl ?_
          walk_at "gs"
          refine g_isi ty (b := true) (by decide +kernel) ?_
          walk_at "gs"
          refine if_t rfl ?_
          walk_at "gs"
          rw [decide_eq_true rfl]
          exact k _ (Same.refl _)
        | str i =>
          have ty : TyX K H (.str i) (.type "str") := tySc hx
          refine g_isi ty (b := false) (by decide +kernel) ?_
          walk_at "gs"
          refine if_f rfl ?_
          walk_at "gs"
          refine g_isi ty (b := false) (by decide +kernel) ?_
          walk_at "gs"
          refine if_f rfl ?_
          walk_at "gs"
          refine if_f rfl ?_
          walk_at "gs"
          refine g_isi ty (b := false) (by decide +kernel) ?_
          walk_at "gs"
          refine if_f rfl ?_
          walk_at "gs"
          refine g_isi ty (b := true) (by decide +kernel) ?_
          walk_at "gs"
          refine if_t rfl ?_
          walk_at "gs"
          refine g_isi ty (b := true) (by decide +kernel) ?_
          walk_at "gs"
          refine if_t rfl ?_
          walk_at "gs"
          rw [decide_eq_true rfl]
          exact k _ (Same.refl _)
        | non =>
          have ty : TyX K H (.non) (.type "NoneType") := tySc hx
          refine g_isi ty (b := false) (by decide +kernel) ?_
          walk_at "gs"
          refine if_f rfl ?_
          walk_at "gs"
          refine g_isi ty (b := false) (by decide +kernel) ?_
          walk_at "gs"
          refine if_f rfl ?_
          walk_at "gs"
          refine if_t rfl ?_
          walk_at "gs"
          exact k _ (Same.refl _)
        | byt _ => cases hx
        | flt _ => cases hx
        | ref _ => cases hx
        | ty _ => cases hx
      | @tup _ p q xs ys hx hy hl hb hs =>
        refine g_isi (tyT hy) (b := true) (by decide +kernel) ?_
        walk_at "gs"
        refine if_t rfl ?_
        walk_at "gs"
        refine g_isi (tyT hx) (b := true) (by decide +kernel) ?_
        walk_at "gs"
        refine if_f rfl ?_
        walk_at "gs"
        rw [hl]
        refine if_f (by simp) ?_
        walk_at "gs"
        refine g_lcRng ys.length rfl hb (fun p' i acc H' => Same H H' ∧ H' p' = some (.lst acc) ∧ acc = List.replicate i (.bl true)) (fun _ => rfl) (fun p' hp => ⟨up_same hp, upd_same, rfl⟩) ?_ ?_
        · rintro p' i acc H' hp hi ⟨sm, e, rfl⟩
          have hx' := Same.sqt sm hx
          have hy' := Same.sqt sm hy
          walk_at "gs"
          refine g_ixT hx' (v := xs[i]'(by omega)) (atI_nat (List.getElem?_eq_getElem _)) ?_
          walk_at "gs"
          refine g_ixT hy' (v := ys[i]) (atI_nat (List.getElem?_eq_getElem _)) ?_
          walk_at "gs"
          refine ⟨_, _, rfl, Eqv.same sm (hs i _ _ (List.getElem?_eq_getElem _) (List.getElem?_eq_getElem _)), fun H2 sm2 => ?_⟩
          refine lcN_of (sm2 _ _ e) (by rw [List.length_replicate]; omega) ⟨fun b o h => ?_, upd_same, ?_⟩
          · rw [upd_ne (ne_of_none h hp)]
            exact sm2 _ _ (sm _ _ h)
          · rw [List.replicate_succ']
        · rintro p' acc H' hp ⟨sm, e, rfl⟩
          refine ⟨p', List.replicate ys.length true, rfl, SqL.of ?_, ?_⟩
          · rw [List.map_replicate]
            exact e
          · rw [show (List.replicate ys.length true).all id = true by simp]
            exact k _ sm
      | @lst m p q xs ys hx hy hl hb hs =>
        refine g_isi (tyL hy) (b := false) (by decide +kernel) ?_
        walk_at "gs"
        refine if_f rfl ?_
        walk_at "gs"
        refine g_isi (tyL hy) (b := true) (by decide +kernel) ?_
        walk_at "gs"
        refine if_t rfl ?_
        walk_at "gs"
        refine g_isi (tyL hx) (b := true) (by decide +kernel) ?_
        walk_at "gs"
        refine if_t rfl ?_
        walk_at "gs"
        refine g_tupleL hx fun l1 h1 => ?_
        walk_at "gs"
        refine g_tupleL ((up_same h1).seq hy) fun l2 h2 => ?_
        walk_at "gs"
        refine ⟨_, _, rfl, .tup (Same.sqt (up_same h2) (SqT.of upd_same)) (SqT.of upd_same) hl hb fun i x y e1 e2 => Eqv.same ((up_same h1).trans (up_same h2)) (hs i x y e1 e2), fun H' sm => ?_⟩
        exact k _ (((up_same h1).trans (up_same h2)).trans sm)
end

section
variable {P : Program} {w : World} {K : PySem.W.Frag} {mg : Str → Option Value} {base : Heap} {A : Ads}
theorem ok_l_add (T : Txt K mg A) : FnOk P w K mg base CX0 3 A.f_l_add A.fd_l_add ["left", "right"] (spBin K (fun p q => p + q)) := by
  have G_l_ratio := ok_l_ratio (P := P) (w := w) (base := base) T
  have nd := sc_l_add.nd
  refine T.F_l_add.ok sc_l_add (fun vs H Q E h => ?_) (fun cdv Ar outer s H vs Q E hr h => ?_)
  · obtain ⟨x, y, p, q, n, m, rfl, _⟩ := h
    rfl
  · obtain ⟨x, y, p, q, n, m, rfl, ⟨px, rfl, hx⟩, ⟨py, rfl, hy⟩, bp, bq, hnm, k⟩ := h
    refine ⟨_, (pss_one (ps_ret (pe_call (E := E0) G_l_ratio (hr.mono (by decide)) (by rfl) T.g_l_ratio T.F_l_ratio.kp T.b_l_ratio .nil pass0 (pa_cons (pe_op op_add (pe_op op_mulB (pe_ix (ix_tupK (K := K) rfl) (pv 0) pe_int (fun _ _ => rfl)) (pe_ix (ix_tupK (K := K) rfl) (pv 1) pe_int (fun _ _ => rfl))) (pe_op op_mulB (pe_ix (ix_tupK (K := K) rfl) (pv 1) pe_int (fun _ _ => rfl)) (pe_ix (ix_tupK (K := K) rfl) (pv 0) pe_int (fun _ _ => rfl)))) (pa_cons (pe_op op_mulB (pe_ix (ix_tupK (K := K) rfl) (pv 0) pe_int (fun _ _ => rfl)) (pe_ix (ix_tupK (K := K) rfl) (pv 1) pe_int (fun _ _ => rfl))) pa_nil))))), ?_⟩
    have m0 : CMulB p.num (q.den : Int) := mulB_of (a := n) (b := m) bp.1 bq.2 (by omega)
    have m1 : CMulB q.num (p.den : Int) := mulB_of (a := m) (b := n) bq.1 bp.2 (by omega)
    have m2 : CMulB (p.den : Int) (q.den : Int) := mulB_of (a := n) (b := m) bp.2 bq.2 (by omega)
    walk_at "gs"
    refine ⟨_, _, rfl, den_mul_ne p q, lt9000 (n := n + m) (abs_mul_lt (x := (p.den : Int)) (y := (q.den : Int)) bp.2 bq.2) (by omega), fun v H' sm hv => ?_⟩
    rw [rat_plus] at hv
    exact k v H' sm hv
theorem ok_l_mul (T : Txt K mg A) : FnOk P w K mg base CX0 3 A.f_l_mul A.fd_l_mul ["left", "right"] (spBin K (fun p q => p * q)) := by
  have G_l_ratio := ok_l_ratio (P := P) (w := w) (base := base) T
  have nd := sc_l_mul.nd
  refine T.F_l_mul.ok sc_l_mul (fun vs H Q E h => ?_) (fun cdv Ar outer s H vs Q E hr h => ?_)
  · obtain ⟨x, y, p, q, n, m, rfl, _⟩ := h
    rfl
  · obtain ⟨x, y, p, q, n, m, rfl, ⟨px, rfl, hx⟩, ⟨py, rfl, hy⟩, bp, bq, hnm, k⟩ := h
    refine ⟨_, (pss_one (ps_ret (pe_call (E := E0) G_l_ratio (hr.mono (by decide)) (by rfl) T.g_l_ratio T.F_l_ratio.kp T.b_l_ratio .nil pass0 (pa_cons (pe_op op_mulB (pe_ix (ix_tupK (K := K) rfl) (pv 0) pe_int (fun _ _ => rfl)) (pe_ix (ix_tupK (K := K) rfl) (pv 1) pe_int (fun _ _ => rfl))) (pa_cons (pe_op op_mulB (pe_ix (ix_tupK (K := K) rfl) (pv 0) pe_int (fun _ _ => rfl)) (pe_ix (ix_tupK (K := K) rfl) (pv 1) pe_int (fun _ _ => rfl))) pa_nil))))), ?_⟩
    have m0 : CMulB p.num q.num := mulB_of (a := n) (b := m) bp.1 bq.1 (by omega)
    have m1 : CMulB (p.den : Int) (q.den : Int) := mulB_of (a := n) (b := m) bp.2 bq.2 (by omega)
    walk_at "gs"
    refine ⟨_, _, rfl, den_mul_ne p q, lt9000 (n := n + m) (abs_mul_lt (x := (p.den : Int)) (y := (q.den : Int)) bp.2 bq.2) (by omega), fun v H' sm hv => ?_⟩
    rw [rat_times] at hv
    exact k v H' sm hv
theorem ok_l_div (T : Txt K mg A) : FnOk P w K mg base CX0 3 A.f_l_div A.fd_l_div ["left", "right"] (spDiv K) := by
  have G_l_ratio := ok_l_ratio (P := P) (w := w) (base := base) T
  have nd := sc_l_div.nd
  refine T.F_l_div.ok sc_l_div (fun vs H Q E h => ?_) (fun cdv Ar outer s H vs Q E hr h => ?_)
  · obtain ⟨x, y, p, q, n, m, rfl, _⟩ := h
    rfl
  · obtain ⟨x, y, p, q, n, m, rfl, ⟨px, rfl, hx⟩, ⟨py, rfl, hy⟩, bp, bq, hnm, hq, k⟩ := h
    refine ⟨_, (pss_one (ps_ret (pe_call (E := E0) G_l_ratio (hr.mono (by decide)) (by rfl) T.g_l_ratio T.F_l_ratio.kp T.b_l_ratio .nil pass0 (pa_cons (pe_op op_mulB (pe_ix (ix_tupK (K := K) rfl) (pv 0) pe_int (fun _ _ => rfl)) (pe_ix (ix_tupK (K := K) rfl) (pv 1) pe_int (fun _ _ => rfl))) (pa_cons (pe_op op_mulB (pe_ix (ix_tupK (K := K) rfl) (pv 0) pe_int (fun _ _ => rfl)) (pe_ix (ix_tupK (K := K) rfl) (pv 1) pe_int (fun _ _ => rfl))) pa_nil))))), ?_⟩
    have m0 : CMulB p.num (q.den : Int) := mulB_of (a := n) (b := m) bp.1 bq.2 (by omega)
    have m1 : CMulB (p.den : Int) q.num := mulB_of (a := n) (b := m) bp.2 bq.1 (by omega)
    walk_at "gs"
    refine ⟨_, _, rfl, den_num_ne hq, lt9000 (n := n + m) (abs_mul_lt (x := (p.den : Int)) (y := q.num) bp.2 bq.1) (by omega), fun v H' sm hv => ?_⟩
    rw [rat_over] at hv
    exact k v H' sm hv
end

section
variable {P : Program} {w : World} {K : PySem.W.Frag} {mg : Str → Option Value} {base : Heap} {A : Ads}
theorem ok_l_other (T : Txt K mg A) : FnOk P w K mg base CX0 1 A.f_l_other A.fd_l_other ["dart"] spLOther := by
  have nd := sc_l_other.nd
  refine T.F_l_other.ok sc_l_other (fun vs H Q E h => ?_) (fun cdv Ar outer s H vs Q E hr h => ?_)
  · obtain ⟨d, rfl, _⟩ := h
    rfl
  · obtain ⟨d, rfl, k⟩ := h
    refine ⟨_, (pss_one (ps_ret (pe_op op_sub (pe_op op_add (pv 0) pe_int) (pe_op op_mul pe_int (pe_op op_modN (pe_callTy zc_int (by rfl) T.n_int (by decide +kernel) (pa_cons (pv 0) pa_nil)) pe_int))))), ?_⟩
    walk_at "gs"
    rw [twin_py]
    exact k
theorem ok_l_ends (T : Txt K mg A) : FnOk P w K mg base CX0 1 A.f_l_ends A.fd_l_ends ["net"] (spLEnds K) := by
  have nd := sc_l_ends.nd
  refine T.F_l_ends.ok sc_l_ends (fun vs H Q E h => ?_) (fun cdv Ar outer s H vs Q E hr h => ?_)
  · obtain ⟨v, rim, rows, qs, En, rfl, _⟩ := h
    rfl
  · obtain ⟨v, rim, rows, qs, En, rfl, ⟨p, t, m, ts, as, rfl, hN⟩, hW, hq, hE, hl, k⟩ := h
    refine ⟨_, (pss_cons (ps_setLc (i := 1) (own := [("k", 5)]) (g := gName 5) (tt := tYes) rfl nd rfl rfl (sw_true rfl rfl rfl (by decide +kernel)) (pi_range1 (by rfl) T.n_range (pa_cons (pe_callB (zc_lenK (K := K) rfl) (by rfl) T.n_len (by decide +kernel) (pa_cons (pe_ix (ix_tupK (K := K) rfl) (pv 0) pe_int (fun _ _ => rfl)) pa_nil)) pa_nil)) (blkOk_by (N := ["net", "ends", "node", "dart", "row", "k"]) (sc := defScope s_l_ends) (by decide +kernel)) (fun _ _ _ _ _ => pg_name (i := 5) nd rfl (by first | exact Or.inl rfl | exact Or.inr rfl)) (fun _ _ _ _ _ => pts_nil) (fun _ _ _ _ _ => (pe_lst (pa_cons pe_int (pa_cons pe_int pa_nil))))) (pss_cons (ps_for PassesOwn.never rfl (pi_range1 (by rfl) T.n_range (pa_cons (pe_callB (zc_lenK (K := K) rfl) (by rfl) T.n_len (by decide +kernel) (pa_cons (pe_ix (ix_tupK (K := K) rfl) (pv 0) pe_int (fun _ _ => rfl)) pa_nil)) pa_nil)) (pg_name (i := 2) nd rfl (Or.inl rfl)) (pss_one (ps_for PassesOwn.never rfl (pi_tupK (K := K) rfl (pe_ix (ix_tupK (K := K) rfl) (pe_ix (ix_tupK (K := K) rfl) (pv 0) pe_int (fun _ _ => rfl)) (pv 2) (fun _ _ => rfl))) (pg_name (i := 3) nd rfl (Or.inl rfl)) (pss_cons (ps_set (i := 4) nd rfl (Or.inl rfl) (pe_ix (ix_listK (K := K) rfl) (pv 1) (pe_op op_fdivN (pv 3) pe_int) (fun _ _ => rfl))) (pss_one (ps_asg (pv 2) (pg_sub (pv 4) (pe_op op_modN (pe_callTy zc_int (by rfl) T.n_int (by decide +kernel) (pa_cons (pv 3) pa_nil)) pe_int) set_list))))))) (pss_one (ps_ret (pv 1))))), ?_⟩
    walk_at "gs"
    refine g_ixT hN.top rfl ?_
    walk_at "gs"
    refine g_lenT hN.ams ?_
    have hal : as.length = En := by rw [hN.rats.len, hq]
    refine g_lcRng En (by rw [hal]) (by omega) (fun l i acc H' => Same H H' ∧ ∃ rs, acc = rs.map V.ref ∧ RowsAt H' l rs (List.replicate i [0, 0]) ∧ ∀ r ∈ rs, H r = none) (fun _ => rfl)
      (fun l hl => ⟨up_same hl, [], rfl, ⟨upd_same, rfl, fun i r row a => by simp at a, List.nodup_nil⟩, fun r hr => nomatch hr⟩) ?_ ?_
    · rintro l i acc H1 hl0 hi ⟨sm1, rs, rfl, hR, hfr⟩
      walk_at "gs"
      refine g_newL (by show 2 ≤ 1000000; decide) fun r hr => ?_
      have s1 := up_same (o := .lst [.int 0, .int 0]) hr
      have hR1 := hR.same s1
      have hrn : r ∉ rs := fun hm => by
        obtain ⟨j, hj⟩ := List.mem_iff_getElem?.mp hm
        have hj2 : j < (List.replicate i ([0, 0] : List Int)).length := by
          rw [← hR.len]
          exact (List.getElem?_eq_some_iff.mp hj).1
        rw [hR.at_ j r _ hj (List.getElem?_eq_getElem hj2)] at hr
        cases hr
      have hrl : r ≠ l := (ne_of_none hR.top hr).symm
      refine lcN_of hR1.top (by rw [List.length_map, hR.len, List.length_replicate]; omega) ⟨fun b o h => ?_, rs ++ [r], by rw [List.map_append]; rfl, ?_, fun x hx => ?_⟩
      · rw [upd_ne (ne_of_none h hl0)]
        exact s1 _ _ (sm1 _ _ h)
      · have := hR1.push (r := r) (row := [0, 0]) upd_same hrn hrl
        rw [show List.replicate (i + 1) ([0, 0] : List Int) = List.replicate i [0, 0] ++ [[0, 0]] from List.replicate_succ' ..]
        exact this
      · rcases List.mem_append.mp hx with hx | hx
        · exact hfr x hx
        · rw [List.mem_singleton.mp hx]
          exact sm1.free hr
    · rintro l acc H1 hl0 ⟨sm1, rs, rfl, hR, hfr⟩
      have hst : List.replicate En ([0, 0] : List Int) = endRows rows En 0 0 := by
        unfold endRows
        refine List.ext_getElem (by rw [List.length_replicate, List.length_map, List.length_range]) fun j h1 h2 => ?_
        rw [List.getElem_replicate, List.getElem_map, List.getElem_range]
        unfold endV
        rw [if_neg (by omega), if_neg (by omega)]
      rw [hst] at hR
      have hN1 := hN.same sm1
      walk_at "gs"
      refine g_ixT hN1.top rfl ?_
      walk_at "gs"
      refine g_lenT hN1.turns ?_
      refine g_rng rows.length (by rw [List.length_map, hN.len]) (by omega) (fun i σ' H' => ∃ u2 u3 u4, σ' = [some (.ref p), some (.ref l), u2, u3, u4, none] ∧ Same H H' ∧ RowsAt H' l rs (endRows rows En i 0)) ⟨none, none, none, rfl, sm1, hR⟩ ?_ ?_
      · rintro i σ' H2 hi ⟨u2, u3, u4, rfl, sm2, hR2⟩
        have hri : rows[i]? = some (rows.getD i []) := by
          rw [List.getD_eq_getElem?_getD, List.getElem?_eq_getElem hi]
          rfl
        have hti : (ts.map V.ref)[i]? = some (.ref (ts[i]'(by rw [hN.len]; exact hi))) := by
          rw [List.getElem?_map, List.getElem?_eq_getElem (by rw [hN.len]; exact hi)]
          rfl
        have hr1 : SqT K H (ts[i]'(by rw [hN.len]; exact hi)) ((rows.getD i []).map V.int) := hN.row i _ _ (List.getElem?_eq_getElem (by rw [hN.len]; exact hi)) hri
        have hN2 := hN.same sm2
        walk_at "gs"
        refine g_ixT hN2.top rfl ?_
        walk_at "gs"
        refine g_ixT hN2.turns (atI_nat hti) ?_
        refine g_itT (Same.sqt sm2 hr1) (fun j σ' H' => ∃ u3 u4, σ' = [some (.ref p), some (.ref l), some (.int (i : Int)), u3, u4, none] ∧ Same H H' ∧ RowsAt H' l rs (endRows rows En i j)) ⟨u3, u4, rfl, sm2, hR2⟩ (fun j σ' H' _ h => by
            obtain ⟨_, _, _, z, _⟩ := h
            exact Same.sqt z hr1) ?_ ?_
        · rintro j x σ' H3 hx ⟨w3, w4, rfl, sm3, hR3⟩
          obtain ⟨d, hd, rfl⟩ := int_at hx
          have hdm : d ∈ rows.flatten := mem_flat.mpr ⟨i, _, hri, List.mem_of_getElem? hd⟩
          have hdr := (hW.mem d).mp hdm
          obtain ⟨e, he⟩ : ∃ e : Nat, d / 2 = (e : Int) := ⟨(d / 2).toNat, by omega⟩
          have heE : e < En := by omega
          obtain ⟨r, hrs, hrH⟩ := hR3.get (endRows_at (rows := rows) (i := i) (j := j) heE)
          have hrm : (rs.map V.ref)[e]? = some (.ref r) := by rw [List.getElem?_map, hrs]; rfl
          walk_at "gs"
          rw [show d.fdiv 2 = (e : Int) by rw [Int.fdiv_eq_ediv_of_nonneg _ (by decide)]; exact he]
          refine g_ixL (SqL.of hR3.top) (atI_nat hrm) ?_
          walk_at "gs"
          have hmod : d.fmod 2 = ((d % 2).toNat : Int) := by
            rw [Int.fmod_eq_emod_of_nonneg _ (by decide)]
            omega
          rw [hmod]
          refine g_setL hrH (ixN_of (by show (d % 2).toNat < 2; omega)) ?_
          have hset : ([endV rows i j (2 * (e : Int)), endV rows i j (2 * (e : Int) + 1)].map V.int).set (d % 2).toNat (.int (i : Int)) = ([endV rows i (j + 1) (2 * (e : Int)), endV rows i (j + 1) (2 * (e : Int) + 1)] : List Int).map V.int := by
            rw [endV_put hW.nd hri hd ((hW.mem _).mpr (by omega)), endV_put hW.nd hri hd ((hW.mem _).mpr (by omega))]
            rcases (show d % 2 = 0 ∨ d % 2 = 1 by omega) with z | z
            · rw [z, if_pos (by omega), if_neg (by omega)]
              rfl
            · rw [z, if_neg (by omega), if_pos (by omega)]
              rfl
          rw [hset]
          have hrow := hR3.row hrs ([endV rows i (j + 1) (2 * (e : Int)), endV rows i (j + 1) (2 * (e : Int) + 1)])
          have hnew : (endRows rows En i j).set e [endV rows i (j + 1) (2 * (e : Int)), endV rows i (j + 1) (2 * (e : Int) + 1)] = endRows rows En i (j + 1) := by
            refine List.ext_getElem (by rw [List.length_set, endRows_len, endRows_len]) fun t h1 h2 => ?_
            have ht : t < En := by
              rw [endRows_len] at h2
              exact h2
            by_cases z : e = t
            · subst z
              rw [List.getElem_set_self]
              have := endRows_at (rows := rows) (i := i) (j := j + 1) ht
              rw [List.getElem?_eq_getElem h2] at this
              exact (Option.some.inj this).symm
            · rw [List.getElem_set_ne z]
              have q1 := endRows_at (rows := rows) (i := i) (j := j) ht
              have q2 := endRows_at (rows := rows) (i := i) (j := j + 1) ht
              rw [List.getElem?_eq_getElem (by rw [endRows_len]; exact ht)] at q1 q2
              rw [Option.some.inj q1, Option.some.inj q2, endV_put hW.nd hri hd ((hW.mem _).mpr (by omega)), endV_put hW.nd hri hd ((hW.mem _).mpr (by omega)), if_neg (by omega), if_neg (by omega)]
          rw [hnew] at hrow
          refine ⟨_, _, rfl, fun b o h => ?_, hrow⟩
          rw [upd_ne (ne_of_none h (hfr r (List.mem_of_getElem? hrs)))]
          exact sm3 _ _ h
        · rintro σ' H3 ⟨w3, w4, rfl, sm3, hR3⟩
          refine ⟨_, _, _, rfl, sm3, ?_⟩
          rw [List.length_map] at hR3
          have : endRows rows En (i + 1) 0 = endRows rows En i (rows.getD i []).length := by
            unfold endRows
            refine List.map_congr_left fun e he => ?_
            have := List.mem_range.mp he
            rw [endV_row hri ((hW.mem _).mpr (by omega)), endV_row hri ((hW.mem _).mpr (by omega))]
          rw [this]
          exact hR3
      · rintro σ' H2 ⟨u2, u3, u4, rfl, sm2, hR2⟩
        walk_at "gs"
        refine k l rs H2 sm2 hl0 ?_
        have : endsM rows En = endRows rows En rows.length 0 := by
          unfold endsM endRows
          refine List.map_congr_left fun e he => ?_
          have := List.mem_range.mp he
          rw [endV_end ((hW.mem _).mpr (by omega)), endV_end ((hW.mem _).mpr (by omega))]
        rw [this]
        exact hR2
theorem ok_l_drop (T : Txt K mg A) : FnOk P w K mg base CX0 1 A.f_l_drop A.fd_l_drop ["net", "edge"] (spLDrop K) := by
  have nd := sc_l_drop.nd
  refine T.F_l_drop.ok sc_l_drop (fun vs H Q E h => ?_) (fun cdv Ar outer s H vs Q E hr h => ?_)
  · obtain ⟨v, e, rim, rows, qs, rfl, _⟩ := h
    rfl
  · obtain ⟨v, e, rim, rows, qs, rfl, ⟨p, t, m, ts, as, rfl, hN⟩, he, hql, hl, hrl, k⟩ := h
    refine ⟨_, (pss_cons (ps_set (i := 2) nd rfl (Or.inl rfl) (pe_lst pa_nil)) (pss_cons (ps_for PassesOwn.never rfl (pi_tupK (K := K) rfl (pe_ix (ix_tupK (K := K) rfl) (pv 0) pe_int (fun _ _ => rfl))) (pg_name (i := 3) nd rfl (Or.inl rfl)) (pss_one (ps_expr (pe_bm PySem.F.plainAttrs_list PySem.F.slot_list_append PySem.F.type_list_append mt_append (pv 2) (pa_cons (pe_callTy (zc_tupleK (K := K) rfl) (by rfl) T.n_tuple (by decide +kernel) (pa_cons (pe_lc (own := [("dart", 4)]) (g := gName 4)  rfl nd (pi_tupK (K := K) rfl (pv 3)) (blkOk_by (N := ["net", "edge", "turns", "turn", "dart"]) (sc := defScope s_l_drop) (by decide +kernel)) (fun _ _ _ _ _ => pg_name (i := 4) nd rfl (by first | exact Or.inl rfl | exact Or.inr rfl)) (fun _ _ _ _ _ => pts_one (pt_cmpR op_ne (pe_op op_fdivN (pv 4) pe_int) (pv 1) (nomark _))) (fun _ _ _ _ _ => (pe_op op_sub (pv 4) (pe_op op_mul pe_int (pe_callTy zc_int (by rfl) T.n_int (by decide +kernel) (pa_cons (pe_cmpR op_gt (pv 4) (pe_op op_add (pe_op op_mul pe_int (pv 1)) pe_int) (nomark _)) pa_nil)))))) pa_nil)) pa_nil))))) (pss_one (ps_ret (pe_tup (pa_cons (pe_ix (ix_tupK (K := K) rfl) (pv 0) pe_int (fun _ _ => rfl)) (pa_cons (pe_callTy (zc_tupleK (K := K) rfl) (by rfl) T.n_tuple (by decide +kernel) (pa_cons (pv 2) pa_nil)) (pa_cons (pe_op (op_catAK (K := K) rfl) (pe_slice (sl_tupAK (K := K) rfl) (pe_ix (ix_tupK (K := K) rfl) (pv 0) pe_int (fun _ _ => rfl)) po_none (po_some (pv 1))) (pe_slice (sl_tupAK (K := K) rfl) (pe_ix (ix_tupK (K := K) rfl) (pv 0) pe_int (fun _ _ => rfl)) (po_some (pe_op op_add (pv 1) pe_int)) po_none)) pa_nil)))))))), ?_⟩
    walk_at "gs"
    refine g_newL (by show 0 ≤ 1000000; decide) fun l hl0 => ?_
    have sl := up_same (o := .lst []) hl0
    walk_at "gs"
    refine g_ixT (Same.sqt sl hN.top) rfl ?_
    refine g_itT (Same.sqt sl hN.turns) (fun i σ' H' => ∃ u3 us, σ' = [some (.ref p), some (.int (e : Int)), some (.ref l), u3, none] ∧ Same H H' ∧ H' l = some (.lst (us.map V.ref)) ∧ TsL K H' us (dropE e (rows.take i))) ⟨none, [], rfl, sl, upd_same, ⟨rfl, fun i r row z => by simp at z⟩⟩ (fun i σ' H' _ h => by
        obtain ⟨_, _, _, z, _⟩ := h
        exact Same.sqt z hN.turns) ?_ ?_
    · rintro i x σ' H1 hx ⟨u3, us, rfl, sm1, el, hus⟩
      obtain ⟨r, rfl, hri, hr1⟩ := (hN.tns.same sm1).get hx
      have hil := (List.getElem?_eq_some_iff.mp hri).1
      have hrl2 : (rows.getD i []).length ≤ 1000 := hrl _ (List.mem_of_getElem? hri)
      walk_at "gs"
      refine g_bmL (SqL.of el) ?_
      walk_at "gs"
      refine lc_tupIf hr1 (fun q j acc H' => Same H1 H' ∧ H' q = some (.lst acc) ∧ acc = (dropD e ((rows.getD i []).take j)).map V.int) (fun _ => rfl) (fun q hq => ⟨up_same hq, upd_same, rfl⟩) (fun q j acc H' _ h => Same.sqt h.1 hr1) ?_ ?_
      · rintro q j y acc H2 hq hy ⟨sm2, eq, rfl⟩
        obtain ⟨d, hd, rfl⟩ := int_at hy
        have hjl := (List.getElem?_eq_some_iff.mp hd).1
        have etk : (rows.getD i []).take (j + 1) = (rows.getD i []).take j ++ [d] := by rw [List.take_succ, hd]; rfl
        have hlen : (dropD e ((rows.getD i []).take j)).length ≤ 1000 := by
          unfold dropD
          rw [List.length_map]
          refine Nat.le_trans (List.length_filter_le _ _) ?_
          rw [List.length_take]
          omega
        walk_at "gs"
        rw [Rz.dec_int, show d.fdiv 2 = d / 2 from Int.fdiv_eq_ediv_of_nonneg _ (by decide)]
        refine if_2 (fun z => ?_) (fun z => ?_)
        · have hne : ¬ d / 2 = (e : Int) := fun z2 => by
            rw [decide_eq_true z2] at z
            cases z
          walk_at "gs"
          refine lcN_of eq (by rw [List.length_map]; omega) ⟨fun b o h => ?_, upd_same, ?_⟩
          · rw [upd_ne (ne_of_none h hq)]
            exact sm2 _ _ h
          · rw [etk]
            unfold dropD
            rw [List.filter_append, List.map_append, List.map_append]
            rw [show [d].filter (fun d => decide (¬ d / 2 = (e : Int))) = [d] by simp [hne]]
            congr 1
            show [V.int (d - 2 * (if decide (2 * (e : Int) + 1 < d) = true then 1 else 0))] = [V.int (if d > 2 * (e : Int) + 1 then d - 2 else d)]
            by_cases z3 : d > 2 * (e : Int) + 1
            · rw [if_pos (decide_eq_true z3), if_pos z3]
              rfl
            · rw [if_neg (by rw [decide_eq_false z3]; decide), if_neg z3]
              rw [show d - 2 * 0 = d by omega]
        · have heq : d / 2 = (e : Int) := by
            by_cases z2 : d / 2 = (e : Int)
            · exact z2
            · rw [decide_eq_false z2] at z
              cases z
          refine ⟨_, sm2, eq, ?_⟩
          rw [etk]
          unfold dropD
          rw [List.filter_append, show [d].filter (fun d => decide (¬ d / 2 = (e : Int))) = [] by simp [heq], List.append_nil]
      · rintro q acc H2 hq ⟨sm2, eq, rfl⟩
        rw [List.length_map, List.take_length] at eq
        walk_at "gs"
        refine g_tupleL (SqL.of eq) fun t2 ht2 => ?_
        have s2 := sm2.trans (up_same (o := .tup ((dropD e (rows.getD i [])).map V.int)) ht2)
        walk_at "gs"
        have el2 := s2 _ _ el
        refine g_append el2 (by rw [List.length_map, hus.len]; unfold dropE; rw [List.length_map, List.length_take]; omega) ?_
        refine ⟨_, us ++ [t2], rfl, fun b o h => ?_, by rw [upd_same, List.map_append]; rfl, ?_⟩
        · rw [upd_ne (ne_of_none h hl0)]
          exact s2 _ _ (sm1 _ _ h)
        · have e5 : dropE e (rows.take (i + 1)) = dropE e (rows.take i) ++ [dropD e (rows.getD i [])] := by
            unfold dropE
            rw [List.take_succ, hri, List.map_append]
            rfl
          rw [e5]
          refine ((hus.same s2).app (us := [t2]) (rows' := [dropD e (rows.getD i [])]) ⟨rfl, fun j r row z1 z2 => ?_⟩).updL el2
          cases j with
          | zero =>
            cases z1
            cases z2
            exact SqT.of upd_same
          | succ j => simp at z1
    · rintro σ' H1 ⟨u3, us, rfl, sm1, el, hus⟩
      rw [List.length_map, hN.len, List.take_length] at hus
      have hN1 := hN.same sm1
      walk_at "gs"
      refine g_ixT hN1.top rfl ?_
      walk_at "gs"
      refine g_tupleL (SqL.of el) fun t2 ht2 => ?_
      have s2 := up_same (o := .tup (us.map V.ref)) ht2
      have hN2 := hN1.same s2
      have hal : as.length = qs.length := hN.rats.len
      walk_at "gs"
      refine g_slice ?_
      walk_at "gs"
      refine g_ixT hN2.top rfl ?_
      refine g_pNo (g_pYes ?_)
      walk_at "gs"
      refine ⟨_, rfl, g_slA2 hN2.ams fun a1 H3 s3 ha1 => ?_⟩
      refine g_slice ?_
      walk_at "gs"
      refine g_ixT (hN2.same s3).top rfl ?_
      refine g_pYes ?_
      walk_at "gs"
      refine ⟨_, rfl, g_pNo (g_slA2 (hN2.same s3).ams fun a2 H4 s4 ha2 => ?_)⟩
      rw [cutV_to (by omega)] at ha1
      rw [show (e : Int) + 1 = ((e + 1 : Nat) : Int) from rfl, cutV_from (by omega)] at ha2
      refine g_catA (Same.sqt s4 ha1) ha2 (by rw [List.length_take, List.length_drop]; omega) fun a3 H5 s5 ha3 => ?_
      walk_at "gs"
      refine g_newT (by show 3 ≤ 1000000; decide) fun pp hpp => ?_
      have s6 := up_same (o := .tup [.int (rim : Int), .ref t2, .ref a3]) hpp
      have sB := s3.trans (s4.trans (s5.trans s6))
      have sA := s2.trans sB
      refine k _ _ (sm1.trans sA) (netV_of (SqT.of upd_same) (Same.sqt sB (SqT.of upd_same)) (hus.same sA) (Same.sqt s6 ha3) ?_)
      exact (((hN1.rats.take e).app (hN1.rats.drop (e + 1))).same sA)
theorem ok_l_drop_node (T : Txt K mg A) : FnOk P w K mg base CX0 1 A.f_l_drop_node A.fd_l_drop_node ["net", "node"] (spLDropN K) := by
  have nd := sc_l_drop_node.nd
  refine T.F_l_drop_node.ok sc_l_drop_node (fun vs H Q E h => ?_) (fun cdv Ar outer s H vs Q E hr h => ?_)
  · obtain ⟨v, n, rim, rows, qs, rfl, _⟩ := h
    rfl
  · obtain ⟨v, n, rim, rows, qs, rfl, ⟨p, t, m, ts, as, rfl, hN⟩, hn1, hn2, hl, k⟩ := h
    refine ⟨_, (pss_one (ps_ret (pe_tup (pa_cons (pe_ix (ix_tupK (K := K) rfl) (pv 0) pe_int (fun _ _ => rfl)) (pa_cons (pe_op (op_catAK (K := K) rfl) (pe_slice (sl_tupAK (K := K) rfl) (pe_ix (ix_tupK (K := K) rfl) (pv 0) pe_int (fun _ _ => rfl)) po_none (po_some (pe_op op_sub (pv 1) pe_int))) (pe_slice (sl_tupAK (K := K) rfl) (pe_ix (ix_tupK (K := K) rfl) (pv 0) pe_int (fun _ _ => rfl)) (po_some (pv 1)) po_none)) (pa_cons (pe_ix (ix_tupK (K := K) rfl) (pv 0) pe_int (fun _ _ => rfl)) pa_nil)))))), ?_⟩
    walk_at "gs"
    refine g_ixT hN.top rfl ?_
    walk_at "gs"
    refine g_slice ?_
    walk_at "gs"
    refine g_ixT hN.top rfl ?_
    refine g_pNo (g_pYes ?_)
    walk_at "gs"
    refine ⟨_, rfl, g_slA2 hN.turns fun a1 H3 s3 ha1 => ?_⟩
    refine g_slice ?_
    walk_at "gs"
    refine g_ixT (hN.same s3).top rfl ?_
    refine g_pYes ?_
    walk_at "gs"
    refine ⟨_, rfl, g_pNo (g_slA2 (hN.same s3).turns fun a2 H4 s4 ha2 => ?_)⟩
    have htl : (ts.map V.ref).length = rows.length := by rw [List.length_map, hN.len]
    rw [show (n : Int) - 1 = ((n - 1 : Nat) : Int) by omega, cutV_to (by omega), ← List.map_take] at ha1
    rw [cutV_from (by omega), ← List.map_drop] at ha2
    refine g_catA (Same.sqt s4 ha1) ha2 (by rw [List.length_map, List.length_map, List.length_take, List.length_drop]; have := hN.len; omega) fun a3 H5 s5 ha3 => ?_
    have sA := s3.trans (s4.trans s5)
    walk_at "gs"
    refine g_ixT (hN.same sA).top rfl ?_
    walk_at "gs"
    refine g_newT (by show 3 ≤ 1000000; decide) fun pp hpp => ?_
    have s6 := up_same (o := .tup [.int (rim : Int), .ref a3, .ref m]) hpp
    have sB := sA.trans s6
    rw [← List.map_append] at ha3
    exact k _ _ sB (netV_of (SqT.of upd_same) (Same.sqt s6 ha3) (((hN.ts.take (n - 1)).app (hN.ts.drop n)).same sB) (Same.sqt sB hN.ams) (hN.rats.same sB))
theorem ok_l_put (T : Txt K mg A) : FnOk P w K mg base CX0 1 A.f_l_put A.fd_l_put ["net", "edge", "amount"] (spLPut K) := by
  have nd := sc_l_put.nd
  refine T.F_l_put.ok sc_l_put (fun vs H Q E h => ?_) (fun cdv Ar outer s H vs Q E hr h => ?_)
  · obtain ⟨v, u, e, rim, rows, qs, q, rfl, _⟩ := h
    rfl
  · obtain ⟨v, u, e, rim, rows, qs, q, rfl, ⟨p, t, m, ts, as, rfl, hN⟩, hu, he, hl, k⟩ := h
    refine ⟨_, (pss_one (ps_ret (pe_tup (pa_cons (pe_ix (ix_tupK (K := K) rfl) (pv 0) pe_int (fun _ _ => rfl)) (pa_cons (pe_ix (ix_tupK (K := K) rfl) (pv 0) pe_int (fun _ _ => rfl)) (pa_cons (pe_op (op_catAK (K := K) rfl) (pe_op (op_catAK (K := K) rfl) (pe_slice (sl_tupAK (K := K) rfl) (pe_ix (ix_tupK (K := K) rfl) (pv 0) pe_int (fun _ _ => rfl)) po_none (po_some (pv 1))) (pe_tup (pa_cons (pv 2) pa_nil))) (pe_slice (sl_tupAK (K := K) rfl) (pe_ix (ix_tupK (K := K) rfl) (pv 0) pe_int (fun _ _ => rfl)) (po_some (pe_op op_add (pv 1) pe_int)) po_none)) pa_nil)))))), ?_⟩
    walk_at "gs"
    have hal : as.length = qs.length := hN.rats.len
    refine g_ixT hN.top rfl ?_
    walk_at "gs"
    refine g_ixT hN.top rfl ?_
    walk_at "gs"
    refine g_slice ?_
    walk_at "gs"
    refine g_ixT hN.top rfl ?_
    refine g_pNo (g_pYes ?_)
    walk_at "gs"
    refine ⟨_, rfl, g_slA2 hN.ams fun a1 H3 s3 ha1 => ?_⟩
    walk_at "gs"
    refine g_newT (by show 1 ≤ 1000000; decide) fun o1 ho1 => ?_
    have s4 := up_same (o := .tup [u]) ho1
    rw [cutV_to (by omega)] at ha1
    refine g_catA (Same.sqt s4 ha1) (SqT.of upd_same) (by rw [List.length_take, List.length_singleton]; omega) fun a2 H5 s5 ha2 => ?_
    have sA := s3.trans (s4.trans s5)
    refine g_slice ?_
    walk_at "gs"
    refine g_ixT (hN.same sA).top rfl ?_
    refine g_pYes ?_
    walk_at "gs"
    refine ⟨_, rfl, g_pNo (g_slA2 (hN.same sA).ams fun a3 H6 s6 ha3 => ?_)⟩
    rw [show (e : Int) + 1 = ((e + 1 : Nat) : Int) from rfl, cutV_from (by omega)] at ha3
    refine g_catA (Same.sqt s6 ha2) ha3 (by rw [List.length_append, List.length_take, List.length_drop, List.length_singleton]; omega) fun a4 H7 s7 ha4 => ?_
    have sB := sA.trans (s6.trans s7)
    walk_at "gs"
    refine g_newT (by show 3 ≤ 1000000; decide) fun pp hpp => ?_
    have s8 := up_same (o := .tup [.int (rim : Int), .ref t, .ref a4]) hpp
    have sC := sB.trans s8
    refine k _ _ sC (netV_of (SqT.of upd_same) (Same.sqt sC hN.turns) (hN.ts.same sC) (Same.sqt s8 ha4) ?_)
    exact ((hN.rats.take e).app (Rats.one hu)).app (hN.rats.drop (e + 1)) |>.same sC
theorem ok_l_after_loop (T : Txt K mg A) : FnOk P w K mg base CX0 2 A.f_l_after_loop A.fd_l_after_loop ["net", "edge"] (spALoop K) := by
  have G_l_ends := ok_l_ends (P := P) (w := w) (base := base) T
  have G_l_drop := ok_l_drop (P := P) (w := w) (base := base) T
  have nd := sc_l_after_loop.nd
  refine T.F_l_after_loop.ok sc_l_after_loop (fun vs H Q E h => ?_) (fun cdv Ar outer s H vs Q E hr h => ?_)
  · obtain ⟨v, e, rim, rows, qs, En, rfl, _⟩ := h
    rfl
  · obtain ⟨v, e, rim, rows, qs, En, rfl, hv, hW, hq, hE, hl, k⟩ := h
    refine ⟨_, (pss_cons (ps_set (i := 2) nd rfl (Or.inl rfl) (pe_call (E := E0) G_l_ends (hr.mono (by decide)) (by rfl) T.g_l_ends T.F_l_ends.kp T.b_l_ends .nil pass0 (pa_cons (pv 0) pa_nil))) (pss_cons (ps_if (PW.pt (pw_or (pt_cmpR op_lt (pv 1) pe_int (nomark _)) (pw_or (pt_cmpR op_ge (pv 1) (pe_callB (zc_lenK (K := K) rfl) (by rfl) T.n_len (by decide +kernel) (pa_cons (pv 2) pa_nil)) (nomark _)) (pw_or1 (pt_cmpR op_ne (pe_ix (ix_listK (K := K) rfl) (pe_ix (ix_listK (K := K) rfl) (pv 2) (pv 1) (fun _ _ => rfl)) pe_int (fun _ _ => rfl)) (pe_ix (ix_listK (K := K) rfl) (pe_ix (ix_listK (K := K) rfl) (pv 2) (pv 1) (fun _ _ => rfl)) pe_int (fun _ _ => rfl)) (nomark _)))))) (pss_one (ps_ret pe_non)) pss_nil) (pss_one (ps_ret (pe_call (E := E0) G_l_drop (hr.mono (by decide)) (by rfl) T.g_l_drop T.F_l_drop.kp T.b_l_drop .nil pass0 (pa_cons (pv 0) (pa_cons (pv 1) pa_nil))))))), ?_⟩
    walk_at "gs"
    refine ⟨v, rim, rows, qs, En, rfl, hv, hW, hq, hE, hl, fun l rs H1 sm1 hl0 hR => ?_⟩
    have hrl : rs.length = En := by
      rw [hR.len]
      unfold endsM
      rw [List.length_map, List.length_range]
    have no : ¬ (0 ≤ e ∧ e < (qs.length : Int) ∧ nodeOf rows (2 * e) = nodeOf rows (2 * e + 1)) → ∀ H', Same H1 H' → Q .non H' := fun z H' sm => k _ _ (sm1.trans sm) (by
      unfold loopM
      rw [if_neg z]
      rfl)
    walk_at "gs"
    refine if_2 (fun z => ?_) (fun z => ?_)
    · have z := of_decide_eq_true z
      refine if_t rfl ?_
      walk_at "gs"
      exact no (fun y => by omega) _ (Same.refl _)
    · have z := of_decide_eq_false z
      walk_at "gs"
      refine g_lenL (SqL.of hR.top) ?_
      walk_at "gs"
      refine if_2 (fun z2 => ?_) (fun z2 => ?_)
      · have z2 := of_decide_eq_true z2
        rw [List.length_map, hrl] at z2
        refine if_t rfl ?_
        walk_at "gs"
        exact no (fun y => by omega) _ (Same.refl _)
      · have z2 := of_decide_eq_false z2
        rw [List.length_map, hrl] at z2
        obtain ⟨e', rfl⟩ : ∃ e' : Nat, e = (e' : Int) := ⟨e.toNat, by omega⟩
        have hat : (endsM rows En)[e']? = some [(nodeOf rows (2 * (e' : Int)) : Int), (nodeOf rows (2 * (e' : Int) + 1) : Int)] := by
          unfold endsM
          rw [List.getElem?_map, List.getElem?_range (by omega)]
          rfl
        obtain ⟨r, hrs, hrH⟩ := hR.get hat
        have hrm : (rs.map V.ref)[e']? = some (.ref r) := by rw [List.getElem?_map, hrs]; rfl
        walk_at "gs"
        refine g_ixL (SqL.of hR.top) (atI_nat hrm) ?_
        walk_at "gs"
        refine g_ixL (SqL.of hR.top) (atI_nat hrm) ?_
        walk_at "gs"
        rw [Rz.dec_int]
        refine if_2 (fun z3 => ?_) (fun z3 => ?_)
        · have hne : ¬ ((nodeOf rows (2 * (e' : Int)) : Nat) : Int) = (nodeOf rows (2 * (e' : Int) + 1) : Nat) := fun y => by
            rw [decide_eq_true y] at z3
            cases z3
          walk_at "gs"
          exact no (fun y => hne (by rw [y.2.2])) _ (Same.refl _)
        · have heq : ((nodeOf rows (2 * (e' : Int)) : Nat) : Int) = (nodeOf rows (2 * (e' : Int) + 1) : Nat) := by
            by_cases y : ((nodeOf rows (2 * (e' : Int)) : Nat) : Int) = (nodeOf rows (2 * (e' : Int) + 1) : Nat)
            · exact y
            · rw [decide_eq_false y] at z3
              cases z3
          walk_at "gs"
          refine ⟨v, e', rim, rows, qs, rfl, hv.same sm1, by omega, by omega, hl, fun row hrow => by have := row_le hrow; have := hW.len; omega, fun v' H2 sm2 hv2 => ?_⟩
          refine k _ _ (sm1.trans sm2) ?_
          unfold loopM
          rw [if_pos ⟨by omega, by omega, by omega⟩]
          exact hv2
theorem ok_l_after_loose (T : Txt K mg A) : FnOk P w K mg base CX0 2 A.f_l_after_loose A.fd_l_after_loose ["net", "edge"] (spALoose K) := by
  have G_l_drop := ok_l_drop (P := P) (w := w) (base := base) T
  have G_l_drop_node := ok_l_drop_node (P := P) (w := w) (base := base) T
  have nd := sc_l_after_loose.nd
  refine T.F_l_after_loose.ok sc_l_after_loose (fun vs H Q E h => ?_) (fun cdv Ar outer s H vs Q E hr h => ?_)
  · obtain ⟨v, e, rim, rows, qs, En, rfl, _⟩ := h
    rfl
  · obtain ⟨v, e, rim, rows, qs, En, rfl, ⟨p, t, m, ts, as, rfl, hN⟩, hW, hq, hE, hl, hrim, k⟩ := h
    refine ⟨_, (pss_cutZ (ps_if (PW.pt (pw_or (pt_cmpR op_lt (pv 1) pe_int (nomark _)) (pw_or1 (pt_cmpR op_ge (pv 1) (pe_callB (zc_lenK (K := K) rfl) (by rfl) T.n_len (by decide +kernel) (pa_cons (pe_ix (ix_tupK (K := K) rfl) (pv 0) pe_int (fun _ _ => rfl)) pa_nil)) (nomark _))))) (pss_one (ps_ret pe_non)) pss_nil) (pss_cutZ (ps_for PassesOwn.never rfl (pi_range2 (by rfl) T.n_range (pa_cons (pe_ix (ix_tupK (K := K) rfl) (pv 0) pe_int (fun _ _ => rfl)) (pa_cons (pe_callB (zc_lenK (K := K) rfl) (by rfl) T.n_len (by decide +kernel) (pa_cons (pe_ix (ix_tupK (K := K) rfl) (pv 0) pe_int (fun _ _ => rfl)) pa_nil)) pa_nil))) (pg_name (i := 2) nd rfl (Or.inl rfl)) (pss_one (ps_if (PW.pt (pw_and (pt_cmpR op_eq (pe_callB (zc_lenK (K := K) rfl) (by rfl) T.n_len (by decide +kernel) (pa_cons (pe_ix (ix_tupK (K := K) rfl) (pe_ix (ix_tupK (K := K) rfl) (pv 0) pe_int (fun _ _ => rfl)) (pv 2) (fun _ _ => rfl)) pa_nil)) pe_int (nomark _)) (pw_and1 (pt_cmpR op_eq (pe_op op_fdivN (pe_ix (ix_tupK (K := K) rfl) (pe_ix (ix_tupK (K := K) rfl) (pe_ix (ix_tupK (K := K) rfl) (pv 0) pe_int (fun _ _ => rfl)) (pv 2) (fun _ _ => rfl)) pe_int (fun _ _ => rfl)) pe_int) (pv 1) (nomark _))))) (pss_one (ps_ret (pe_call (E := E0) G_l_drop_node (hr.mono (by decide)) (by rfl) T.g_l_drop_node T.F_l_drop_node.kp T.b_l_drop_node .nil pass0 (pa_cons (pe_call (E := E0) G_l_drop (hr.mono (by decide)) (by rfl) T.g_l_drop T.F_l_drop.kp T.b_l_drop .nil pass0 (pa_cons (pv 0) (pa_cons (pv 1) pa_nil))) (pa_cons (pe_op op_add (pv 2) pe_int) pa_nil))))) pss_nil))) (pss_one (ps_ret pe_non)))), ?_⟩
    have hal : as.length = En := by rw [hN.rats.len, hq]
    have no : ¬ (0 ≤ e ∧ e < (qs.length : Int)) → ∀ H', Same H H' → Q .non H' := fun z H' sm => k _ _ sm (by
      unfold looseM
      rw [if_neg z]
      rfl)
    refine g_cut (fun σ' H' => σ' = [some (.ref p), some (.int e), none] ∧ H' = H ∧ 0 ≤ e ∧ e < (qs.length : Int)) ?_ ?_
    · walk_at "gs"
      refine if_2 (fun z => ?_) (fun z => ?_)
      · have z := of_decide_eq_true z
        refine if_t rfl ?_
        walk_at "gs"
        exact no (fun y => by omega) _ (Same.refl _)
      · have z := of_decide_eq_false z
        walk_at "gs"
        refine g_ixT hN.top rfl ?_
        walk_at "gs"
        refine g_lenT hN.ams ?_
        walk_at "gs"
        refine if_2 (fun z2 => ?_) (fun z2 => ?_)
        · have z2 := of_decide_eq_true z2
          walk_at "gs"
          exact no (fun y => by omega) _ (Same.refl _)
        · have z2 := of_decide_eq_false z2
          walk_at "gs"
          exact ⟨rfl, rfl, by omega, by omega⟩
    rintro σ' H' ⟨rfl, rfl, he0, he1⟩
    obtain ⟨e', rfl⟩ : ∃ e' : Nat, e = (e' : Int) := ⟨e.toNat, by omega⟩
    have hres : ∀ o, looseAt rows rim (e' : Int) = o → looseM rows rim qs (e' : Int) = o.map fun n => ((dropE e' rows).take n ++ (dropE e' rows).drop (n + 1), qs.take e' ++ qs.drop (e' + 1)) := fun o ho => by
      unfold looseM
      rw [if_pos ⟨he0, he1⟩, ho, Int.toNat_natCast]
    refine g_cut (fun σ' H2 => (∃ u, σ' = [some (.ref p), some (.int (e' : Int)), u]) ∧ H2 = H' ∧ looseAt rows rim (e' : Int) = none) ?_ ?_
    · refine g_forR2 ?_
      walk_at "gs"
      refine g_ixT hN.top rfl ?_
      walk_at "gs"
      refine g_ixT hN.top rfl ?_
      walk_at "gs"
      refine g_lenT hN.turns ?_
      refine g_rng2 rim rows.length rfl (by rw [List.length_map, hN.len]) (by omega) hrim (fun i σ' H2 => (∃ u, σ' = [some (.ref p), some (.int (e' : Int)), u]) ∧ H2 = H' ∧ ∀ j, j < i → decide (rim ≤ j ∧ (rows.getD j []).length = 1 ∧ (rows.getD j []).getD 0 0 / 2 = (e' : Int)) = false) ⟨⟨none, rfl⟩, rfl, fun j hj => decide_eq_false fun z => by omega⟩ ?_ ?_
      · rintro i σ' H2 hi1 hi2 ⟨⟨u, rfl⟩, rfl, hno⟩
        have hti : (ts.map V.ref)[i]? = some (.ref (ts[i]'(by rw [hN.len]; exact hi2))) := by
          rw [List.getElem?_map, List.getElem?_eq_getElem (by rw [hN.len]; exact hi2)]
          rfl
        have hri : rows[i]? = some (rows.getD i []) := by
          rw [List.getD_eq_getElem?_getD, List.getElem?_eq_getElem hi2]
          rfl
        have hr1 := hN.row i _ _ (List.getElem?_eq_getElem (by rw [hN.len]; exact hi2)) hri
        have more : ¬ ((rows.getD i []).length = 1 ∧ (rows.getD i []).getD 0 0 / 2 = (e' : Int)) → ∀ j, j < i + 1 → decide (rim ≤ j ∧ (rows.getD j []).length = 1 ∧ (rows.getD j []).getD 0 0 / 2 = (e' : Int)) = false := fun z j hj => by
          by_cases y : j = i
          · rw [y]
            exact decide_eq_false fun q => z q.2
          · exact hno j (by omega)
        walk_at "gs"
        refine g_ixT hN.top rfl ?_
        walk_at "gs"
        refine g_ixT hN.turns (atI_nat hti) ?_
        walk_at "gs"
        rw [show decide (V.int (((rows.getD i []).map V.int).length : Int) = V.int 1) = decide ((rows.getD i []).length = 1) by
          rw [Rz.dec_int, List.length_map]
          by_cases z : (rows.getD i []).length = 1
          · rw [decide_eq_true z, decide_eq_true (by omega)]
          · rw [decide_eq_false z, decide_eq_false (by omega)]]
        refine if_2 (fun z => ?_) (fun z => ?_)
        · have hl1 := of_decide_eq_true z
          obtain ⟨d, hd⟩ : ∃ d, rows.getD i [] = [d] := by
            match hq : rows.getD i [], hl1 with
            | [d], _ => exact ⟨d, rfl⟩
          have hr2 : SqT K H2 (ts[i]'(by rw [hN.len]; exact hi2)) [.int d] := by
            rw [hd] at hr1
            exact hr1
          walk_at "gs"
          refine g_ixT hN.top rfl ?_
          walk_at "gs"
          refine g_ixT hN.turns (atI_nat hti) ?_
          walk_at "gs"
          rw [Rz.dec_int, show d.fdiv 2 = d / 2 from Int.fdiv_eq_ediv_of_nonneg _ (by decide)]
          refine if_2 (fun z2 => ?_) (fun z2 => ?_)
          · have hde := of_decide_eq_true z2
            have hfound : looseAt rows rim (e' : Int) = some i := find_first hi2 (decide_eq_true ⟨hi1, by rw [hd]; rfl, by rw [hd]; exact hde⟩) hno
            walk_at "gs"
            refine ⟨.ref p, e', rim, rows, qs, rfl, ⟨p, t, m, ts, as, rfl, hN⟩, by omega, by omega, hl, fun row hrow => by have := row_le hrow; have := hW.len; omega, fun v1 H3 sm3 hv1 => ?_⟩
            walk_at "gs"
            refine ⟨v1, i + 1, rim, dropE e' rows, _, rfl, hv1, by omega, by unfold dropE; rw [List.length_map]; omega, by unfold dropE; rw [List.length_map]; omega, fun v2 H4 sm4 hv2 => ?_⟩
            refine k v2 H4 (sm3.trans sm4) ?_
            rw [hres _ hfound]
            exact hv2
          · have hde := of_decide_eq_false z2
            walk_at "gs"
            exact ⟨⟨_, rfl⟩, rfl, more fun y => hde (by have := y.2; rw [hd] at this; exact this)⟩
        · have hl1 := of_decide_eq_false z
          refine if_f rfl ?_
          walk_at "gs"
          exact ⟨⟨_, rfl⟩, rfl, more fun y => hl1 y.1⟩
      · rintro σ' H2 ⟨⟨u, rfl⟩, rfl, hno⟩
        walk_at "gs"
        exact ⟨⟨u, rfl⟩, rfl, find_none hno⟩
    rintro σ' H2 ⟨⟨u, rfl⟩, rfl, hno⟩
    walk_at "gs"
    refine k _ _ (Same.refl _) ?_
    rw [hres _ hno]
    rfl
end
section
variable {P : Program} {w : World} {K : PySem.W.Frag} {mg : Str → Option Value} {base : Heap} {A : Ads}
theorem ok_l_all_moves (T : Txt K mg A) : FnOk P w K mg base CX0 1 A.f_l_all_moves A.fd_l_all_moves ["net"] (spMoves K) := by
  have nd := sc_l_all_moves.nd
  refine T.F_l_all_moves.ok sc_l_all_moves (fun vs H Q E h => ?_) (fun cdv Ar outer s H vs Q E hr h => ?_)
  · obtain ⟨v, rim, rows, qs, rfl, _⟩ := h
    rfl
  · obtain ⟨v, rim, rows, qs, rfl, ⟨p, t, m, ts, as, rfl, hN⟩, hq, hl, k⟩ := h
    refine ⟨_, (pss_cutZ (ps_set (i := 1) nd rfl (Or.inl rfl) (pe_lst pa_nil)) (pss_cutZ (ps_for PassesOwn.never rfl (pi_range2 (by rfl) T.n_range (pa_cons (pe_un un_neg pe_int) (pa_cons (pe_op op_add (pe_callB (zc_lenK (K := K) rfl) (by rfl) T.n_len (by decide +kernel) (pa_cons (pe_ix (ix_tupK (K := K) rfl) (pv 0) pe_int (fun _ _ => rfl)) pa_nil)) pe_int) pa_nil))) (pg_name (i := 2) nd rfl (Or.inr rfl)) (pss_cutZ (ps_set (i := 1) nd rfl (Or.inl rfl) (pe_op op_cat (pv 1) (pe_lst (pa_cons (pe_tup (pa_cons pe_str (pa_cons (pv 2) pa_nil))) (pa_cons (pe_tup (pa_cons pe_str (pa_cons (pv 2) pa_nil))) pa_nil))))) (pss_one (ps_set (i := 1) nd rfl (Or.inl rfl) (pe_op op_cat (pv 1) (pe_lc (own := [("other", 5)]) (g := gName 5) (tt := tYes) rfl nd (pi_range2 (by rfl) T.n_range (pa_cons (pe_un un_neg pe_int) (pa_cons (pe_op op_add (pe_callB (zc_lenK (K := K) rfl) (by rfl) T.n_len (by decide +kernel) (pa_cons (pe_ix (ix_tupK (K := K) rfl) (pv 0) pe_int (fun _ _ => rfl)) pa_nil)) pe_int) pa_nil))) (blkOk_by (N := ["net", "moves", "edge", "node", "dart", "other"]) (sc := defScope s_l_all_moves) (by decide +kernel)) (fun _ _ _ _ _ => pg_name (i := 5) nd rfl (by first | exact Or.inl rfl | exact Or.inr rfl)) (fun _ _ _ _ _ => pts_nil) (fun _ _ _ _ _ => (pe_tup (pa_cons pe_str (pa_cons (pv 2) (pa_cons (pv 5) pa_nil))))))))))) (pss_cutZ (ps_for PassesOwn.never rfl (pi_range2 (by rfl) T.n_range (pa_cons pe_int (pa_cons (pe_op op_add (pe_callB (zc_lenK (K := K) rfl) (by rfl) T.n_len (by decide +kernel) (pa_cons (pe_ix (ix_tupK (K := K) rfl) (pv 0) pe_int (fun _ _ => rfl)) pa_nil)) pe_int) pa_nil))) (pg_name (i := 3) nd rfl (Or.inl rfl)) (pss_one (ps_set (i := 1) nd rfl (Or.inl rfl) (pe_op op_cat (pv 1) (pe_lst (pa_cons (pe_tup (pa_cons pe_str (pa_cons (pv 3) pa_nil))) (pa_cons (pe_tup (pa_cons pe_str (pa_cons (pv 3) pa_nil))) pa_nil))))))) (pss_cutZ (ps_expr (pe_bm PySem.F.plainAttrs_list PySem.F.slot_list_append PySem.F.type_list_append mt_append (pv 1) (pa_cons (pe_tup (pa_cons pe_str pa_nil)) pa_nil))) (pss_one (ps_ret (pe_op op_cat (pv 1) (pe_lc (own := [("dart", 4)]) (g := gName 4) (tt := tYes) rfl nd (pi_range2 (by rfl) T.n_range (pa_cons (pe_un un_neg pe_int) (pa_cons (pe_op op_add (pe_op op_mul pe_int (pe_callB (zc_lenK (K := K) rfl) (by rfl) T.n_len (by decide +kernel) (pa_cons (pe_ix (ix_tupK (K := K) rfl) (pv 0) pe_int (fun _ _ => rfl)) pa_nil))) pe_int) pa_nil))) (blkOk_by (N := ["net", "moves", "edge", "node", "dart", "other"]) (sc := defScope s_l_all_moves) (by decide +kernel)) (fun _ _ _ _ _ => pg_name (i := 4) nd rfl (by first | exact Or.inl rfl | exact Or.inr rfl)) (fun _ _ _ _ _ => pts_nil) (fun _ _ _ _ _ => (pe_tup (pa_cons pe_str (pa_cons (pv 4) pa_nil)))))))))))), ?_⟩
    have hal : as.length = qs.length := hN.rats.len
    have lmv : ∀ (l : Addr) (us : List V) (H' : Hp), MovL K H' us → MovL K H' us := fun _ _ _ h => h
    refine g_cut (fun σ' H' => ∃ l, σ' = [some (.ref p), some (.ref l), none, none, none, none] ∧ Same H H' ∧ H l = none ∧ H' l = some (.lst [])) ?_ ?_
    · walk_at "gs"
      refine g_newL (by show 0 ≤ 1000000; decide) fun l hl0 => ?_
      exact ⟨l, rfl, up_same hl0, hl0, upd_same⟩
    rintro σ' H1 ⟨l, rfl, sm1, hl1, el⟩
    -- edges
    refine g_cut (fun σ' H' => ∃ l us u2, σ' = [some (.ref p), some (.ref l), u2, none, none, none] ∧ Same H H' ∧ H l = none ∧ H' l = some (.lst us) ∧ us.length ≤ 110000 ∧ MovL K H' us) ?_ ?_
    · refine g_forR2 ?_
      walk_at "gs"
      refine g_ixT (hN.same sm1).top rfl ?_
      walk_at "gs"
      refine g_lenT (hN.same sm1).ams ?_
      walk_at "gs"
      refine g_rngZ (qs.length + 2) (by rw [hal]; omega) (by decide) (by decide) (by omega) (fun i σ' H' => ∃ l us u2, σ' = [some (.ref p), some (.ref l), u2, none, none, none] ∧ Same H H' ∧ H l = none ∧ H' l = some (.lst us) ∧ us.length ≤ i * 1000 ∧ MovL K H' us) ⟨l, [], none, rfl, sm1, hl1, el, by simp, .nil⟩ ?_ ?_
      · rintro i σ' H2 hi ⟨l2, us, u2, rfl, sm2, hl2, el2, hul, hus⟩
        walk_at "gs"
        refine g_cut (fun σ' H' => ∃ l us, σ' = [some (.ref p), some (.ref l), some (.int (-1 + (i : Int))), none, none, none] ∧ Same H H' ∧ H l = none ∧ H' l = some (.lst us) ∧ us.length ≤ i * 1000 + 2 ∧ MovL K H' us) ?_ ?_
        · walk_at "gs"
          refine g_newT (by show 2 ≤ 1000000; decide) fun m1 hm1 => ?_
          have s1 := up_same (o := .tup [.str "loop", .int (-1 + (i : Int))]) hm1
          walk_at "gs"
          refine g_newT (by show 2 ≤ 1000000; decide) fun m2 hm2 => ?_
          have s2 := up_same (o := .tup [.str "loose", .int (-1 + (i : Int))]) hm2
          walk_at "gs"
          refine g_newL (by show 2 ≤ 1000000; decide) fun a3 ha3 => ?_
          have s3 := up_same (o := .lst [.ref m1, .ref m2]) ha3
          have sA := s1.trans (s2.trans s3)
          refine g_cat (sA _ _ el2) upd_same (by show us.length + 2 ≤ 1000000; omega) fun a4 ha4 => ?_
          have s4 := up_same (o := .lst (us ++ [.ref m1, .ref m2])) ha4
          refine ⟨a4, _, rfl, sm2.trans (sA.trans s4), (sm2.trans sA).free ha4, upd_same, by rw [List.length_append]; show us.length + 2 ≤ _; omega, ?_⟩
          refine (hus.same (sA.trans s4)).app (us := us) (ws := [.ref m1, .ref m2]) ?_
          have q1 : MovV K (upd (upd (upd (upd H2 m1 (.tup [.str "loop", .int (-1 + (i : Int))])) m2 (.tup [.str "loose", .int (-1 + (i : Int))])) a3 (.lst [.ref m1, .ref m2])) a4 (.lst (us ++ [.ref m1, .ref m2]))) (.ref m1) (.loop (-1 + (i : Int))) := ⟨m1, rfl, Same.sqt (s2.trans (s3.trans s4)) (SqT.of upd_same)⟩
          have q2 : MovV K (upd (upd (upd (upd H2 m1 (.tup [.str "loop", .int (-1 + (i : Int))])) m2 (.tup [.str "loose", .int (-1 + (i : Int))])) a3 (.lst [.ref m1, .ref m2])) a4 (.lst (us ++ [.ref m1, .ref m2]))) (.ref m2) (.loose (-1 + (i : Int))) := ⟨m2, rfl, Same.sqt (s3.trans s4) (SqT.of upd_same)⟩
          exact (MovL.one q1 (by show Int.natAbs _ < 2 ^ 60; omega)).app (MovL.one q2 (by show Int.natAbs _ < 2 ^ 60; omega))
        rintro σ' H3 ⟨l3, us3, rfl, sm3, hl3, el3, hul3, hus3⟩
        walk_at "gs"
        refine g_lcR2 ?_
        walk_at "gs"
        refine g_ixT (hN.same sm3).top rfl ?_
        walk_at "gs"
        refine g_lenT (hN.same sm3).ams ?_
        walk_at "gs"
        refine g_lcRZ (qs.length + 2) (by rw [hal]; omega) (by decide) (by decide) (by omega) (fun q j acc H' => Same H3 H' ∧ H' q = some (.lst acc) ∧ acc.length = j ∧ MovL K H' acc) (fun _ => rfl) (fun q hq => ⟨up_same hq, upd_same, rfl, .nil⟩) ?_ ?_
        · rintro q j acc H4 hq hj ⟨sm4, eq, hal4, hacc⟩
          walk_at "gs"
          refine g_newT (by show 3 ≤ 1000000; decide) fun m1 hm1 => ?_
          have s1 := up_same (o := .tup [.str "parallel", .int (-1 + (i : Int)), .int (-1 + (j : Int))]) hm1
          have eq5 := s1 _ _ eq
          refine lcN_of eq5 (by omega) ⟨fun b o h => ?_, upd_same, by rw [List.length_append, hal4]; rfl, ((hacc.same s1).app (MovL.one (mv := .par (-1 + (i : Int)) (-1 + (j : Int))) ⟨m1, rfl, SqT.of upd_same⟩ ⟨by show Int.natAbs _ < 2 ^ 60; omega, by show Int.natAbs _ < 2 ^ 60; omega⟩)).upd eq5⟩
          rw [upd_ne (ne_of_none h hq)]
          exact s1 _ _ (sm4 _ _ h)
        · rintro q acc H4 hq ⟨sm4, eq, hal4, hacc⟩
          refine g_cat (sm4 _ _ el3) eq (by omega) fun a5 ha5 => ?_
          have s5 := up_same (o := .lst (us3 ++ acc)) ha5
          refine ⟨a5, us3 ++ acc, _, rfl, sm3.trans (sm4.trans s5), (sm3.trans sm4).free ha5, upd_same, by rw [List.length_append]; omega, (hus3.same (sm4.trans s5)).app (hacc.same s5)⟩
      · rintro σ' H2 ⟨l2, us, u2, rfl, sm2, hl2, el2, hul, hus⟩
        walk_at "gs"
        exact ⟨l2, us, u2, rfl, sm2, hl2, el2, by omega, hus⟩
    rintro σ' H2 ⟨l2, us2, u2, rfl, sm2, hl2, el2, hul2, hus2⟩
    -- nodes
    refine g_cut (fun σ' H' => ∃ l us u3, σ' = [some (.ref p), some (.ref l), u2, u3, none, none] ∧ Same H H' ∧ H l = none ∧ H' l = some (.lst us) ∧ us.length ≤ 120000 ∧ MovL K H' us) ?_ ?_
    · refine g_forR2 ?_
      walk_at "gs"
      refine g_ixT (hN.same sm2).top rfl ?_
      walk_at "gs"
      refine g_lenT (hN.same sm2).turns ?_
      walk_at "gs"
      refine g_rngZ (rows.length + 2) (by rw [List.length_map, hN.len]; omega) (by decide) (by decide) (by omega) (fun i σ' H' => ∃ l us u3, σ' = [some (.ref p), some (.ref l), u2, u3, none, none] ∧ Same H H' ∧ H l = none ∧ H' l = some (.lst us) ∧ us.length ≤ 110000 + i * 2 ∧ MovL K H' us) ⟨l2, us2, none, rfl, sm2, hl2, el2, by omega, hus2⟩ ?_ ?_
      · rintro i σ' H3 hi ⟨l3, us, u3, rfl, sm3, hl3, el3, hul, hus⟩
        walk_at "gs"
        refine g_newT (by show 2 ≤ 1000000; decide) fun m1 hm1 => ?_
        have s1 := up_same (o := .tup [.str "series", .int (0 + (i : Int))]) hm1
        walk_at "gs"
        refine g_newT (by show 2 ≤ 1000000; decide) fun m2 hm2 => ?_
        have s2 := up_same (o := .tup [.str "star", .int (0 + (i : Int))]) hm2
        walk_at "gs"
        refine g_newL (by show 2 ≤ 1000000; decide) fun a3 ha3 => ?_
        have s3 := up_same (o := .lst [.ref m1, .ref m2]) ha3
        have sA := s1.trans (s2.trans s3)
        refine g_cat (sA _ _ el3) upd_same (by show us.length + 2 ≤ 1000000; omega) fun a4 ha4 => ?_
        have s4 := up_same (o := .lst (us ++ [.ref m1, .ref m2])) ha4
        refine ⟨a4, _, _, rfl, sm3.trans (sA.trans s4), (sm3.trans sA).free ha4, upd_same, by rw [List.length_append]; show us.length + 2 ≤ _; omega, ?_⟩
        refine (hus.same (sA.trans s4)).app (us := us) (ws := [.ref m1, .ref m2]) ?_
        have q1 : MovV K (upd (upd (upd (upd H3 m1 (.tup [.str "series", .int (0 + (i : Int))])) m2 (.tup [.str "star", .int (0 + (i : Int))])) a3 (.lst [.ref m1, .ref m2])) a4 (.lst (us ++ [.ref m1, .ref m2]))) (.ref m1) (.series (0 + (i : Int))) := ⟨m1, rfl, Same.sqt (s2.trans (s3.trans s4)) (SqT.of upd_same)⟩
        have q2 : MovV K (upd (upd (upd (upd H3 m1 (.tup [.str "series", .int (0 + (i : Int))])) m2 (.tup [.str "star", .int (0 + (i : Int))])) a3 (.lst [.ref m1, .ref m2])) a4 (.lst (us ++ [.ref m1, .ref m2]))) (.ref m2) (.star (0 + (i : Int))) := ⟨m2, rfl, Same.sqt (s3.trans s4) (SqT.of upd_same)⟩
        exact (MovL.one q1 (by show Int.natAbs _ < 2 ^ 60; omega)).app (MovL.one q2 (by show Int.natAbs _ < 2 ^ 60; omega))
      · rintro σ' H3 ⟨l3, us, u3, rfl, sm3, hl3, el3, hul, hus⟩
        walk_at "gs"
        exact ⟨l3, us, u3, rfl, sm3, hl3, el3, by omega, hus⟩
    rintro σ' H3 ⟨l3, us3, u3, rfl, sm3, hl3, el3, hul3, hus3⟩
    -- number
    refine g_cut (fun σ' H' => ∃ us, σ' = [some (.ref p), some (.ref l3), u2, u3, none, none] ∧ Same H H' ∧ H' l3 = some (.lst us) ∧ us.length ≤ 120001 ∧ MovL K H' us) ?_ ?_
    · walk_at "gs"
      refine g_bmL (SqL.of el3) ?_
      walk_at "gs"
      refine g_newT (by show 1 ≤ 1000000; decide) fun m1 hm1 => ?_
      have s1 := up_same (o := .tup [.str "number"]) hm1
      walk_at "gs"
      have el4 := s1 _ _ el3
      refine g_append el4 (by omega) ?_
      refine ⟨us3 ++ [.ref m1], rfl, fun b o h => ?_, upd_same, by rw [List.length_append]; show us3.length + 1 ≤ _; omega, ((hus3.same s1).app (MovL.one (mv := .num) ⟨m1, rfl, SqT.of upd_same⟩ trivial)).upd el4⟩
      rw [upd_ne (ne_of_none h hl3)]
      exact s1 _ _ (sm3 _ _ h)
    rintro σ' H4 ⟨us4, rfl, sm4, el4, hul4, hus4⟩
    walk_at "gs"
    refine g_lcR2 ?_
    walk_at "gs"
    refine g_ixT (hN.same sm4).top rfl ?_
    walk_at "gs"
    refine g_lenT (hN.same sm4).ams ?_
    walk_at "gs"
    refine g_lcRZ (2 * qs.length + 2) (by rw [hal]; omega) (by decide) (by decide) (by omega) (fun q j acc H' => Same H4 H' ∧ H' q = some (.lst acc) ∧ acc.length = j ∧ MovL K H' acc) (fun _ => rfl) (fun q hq => ⟨up_same hq, upd_same, rfl, .nil⟩) ?_ ?_
    · rintro q j acc H5 hq hj ⟨sm5, eq, hal5, hacc⟩
      walk_at "gs"
      refine g_newT (by show 2 ≤ 1000000; decide) fun m1 hm1 => ?_
      have s1 := up_same (o := .tup [.str "triangle", .int (-1 + (j : Int))]) hm1
      have eq5 := s1 _ _ eq
      refine lcN_of eq5 (by omega) ⟨fun b o h => ?_, upd_same, by rw [List.length_append, hal5]; rfl, ((hacc.same s1).app (MovL.one (mv := .tri (-1 + (j : Int))) ⟨m1, rfl, SqT.of upd_same⟩ (by show Int.natAbs _ < 2 ^ 60; omega))).upd eq5⟩
      rw [upd_ne (ne_of_none h hq)]
      exact s1 _ _ (sm5 _ _ h)
    · rintro q acc H5 hq ⟨sm5, eq, hal5, hacc⟩
      refine g_cat (sm5 _ _ el4) eq (by omega) fun a6 ha6 => ?_
      have s6 := up_same (o := .lst (us4 ++ acc)) ha6
      exact k a6 _ _ (sm4.trans (sm5.trans s6)) upd_same (by rw [List.length_append]; omega) ((hus4.same (sm5.trans s6)).app (hacc.same s6))
end

section
variable {P : Program} {w : World} {K : PySem.W.Frag} {mg : Str → Option Value} {base : Heap} {A : Ads}
theorem ok_l_swap (T : Txt K mg A) : FnOk P w K mg base CX0 1 A.f_l_swap A.fd_l_swap ["turns", "node", "dart", "row"] (spSwap K) := by
  have nd := sc_l_swap.nd
  refine T.F_l_swap.ok sc_l_swap (fun vs H Q E h => ?_) (fun cdv Ar outer s H vs Q E hr h => ?_)
  · obtain ⟨L, n, d, q, rs, rows, row, ns, rfl, _⟩ := h
    rfl
  · obtain ⟨L, n, d, q, rs, rows, row, ns, rfl, hR, hn, hd, hq, hF, hns, k⟩ := h
    refine ⟨_, (pss_cons (ps_set (i := 4) nd rfl (Or.inl rfl) (pe_bm PySem.F.plainAttrs_list PySem.F.slot_list_index PySem.F.type_list_index (mt_indexK (K := K) rfl) (pe_ix (ix_listK (K := K) rfl) (pv 0) (pv 1) (fun _ _ => rfl)) (pa_cons (pv 2) pa_nil))) (pss_one (ps_asg (pe_op op_cat (pe_op op_cat (pe_slice (sl_listK (K := K) rfl) (pe_ix (ix_listK (K := K) rfl) (pv 0) (pv 1) (fun _ _ => rfl)) po_none (po_some (pv 4))) (pv 3)) (pe_slice (sl_listK (K := K) rfl) (pe_ix (ix_listK (K := K) rfl) (pv 0) (pv 1) (fun _ _ => rfl)) (po_some (pe_op op_add (pv 4) pe_int)) po_none)) (pg_sub (pv 0) (pv 1) set_list)))), ?_⟩
    walk_at "gs"
    obtain ⟨r0, hr0, er0⟩ := hR.get hn
    have hnl : n < rs.length := (List.getElem?_eq_some_iff.mp hr0).1
    have gx : (rs.map V.ref)[n]? = some (.ref r0) := by rw [List.getElem?_map, hr0]; rfl
    have hil : row.idxOf d < row.length := List.idxOf_lt_length_of_mem hd
    have hrl : row.length ≤ 10000 := hF.2 row (List.mem_of_getElem? hn)
    refine g_ixL (SqL.of hR.top) (atI_nat gx) ?_
    walk_at "gs"
    refine g_bmL (SqL.of er0) ?_
    walk_at "gs"
    refine g_index (SqL.of er0) hd ?_
    walk_at "gs"
    refine g_slice ?_
    walk_at "gs"
    refine g_ixL (SqL.of hR.top) (atI_nat gx) ?_
    refine g_pNo (g_pYes ?_)
    walk_at "gs"
    refine ⟨_, rfl, g_slL (SqL.of er0) fun s1 hs1 => ?_⟩
    rw [cutV_to (by rw [List.length_map]; omega)]
    have x1 := up_same (o := .lst ((row.map V.int).take (row.idxOf d))) hs1
    walk_at "gs"
    refine g_cat upd_same (x1 _ _ hq) (by rw [List.length_take, List.length_map, List.length_map]; omega) fun s2 hs2 => ?_
    have x2 := up_same (o := .lst ((row.map V.int).take (row.idxOf d) ++ ns.map V.int)) hs2
    walk_at "gs"
    refine g_slice ?_
    walk_at "gs"
    refine g_ixL ((x1.trans x2).seq (SqL.of hR.top)) (atI_nat gx) ?_
    refine g_pYes ?_
    walk_at "gs"
    refine ⟨_, rfl, g_pNo (g_slL ((x1.trans x2).seq (SqL.of er0)) fun s3 hs3 => ?_)⟩
    rw [show ((row.idxOf d : Nat) : Int) + 1 = ((row.idxOf d + 1 : Nat) : Int) from rfl, cutV_from (by rw [List.length_map]; omega)]
    have x3 := up_same (o := .lst ((row.map V.int).drop (row.idxOf d + 1))) hs3
    walk_at "gs"
    refine g_cat (x3 _ _ upd_same) upd_same (by rw [List.length_append, List.length_take, List.length_drop, List.length_map, List.length_map]; omega) fun s4 hs4 => ?_
    have x4 := up_same (o := .lst ((row.map V.int).take (row.idxOf d) ++ ns.map V.int ++ (row.map V.int).drop (row.idxOf d + 1))) hs4
    have xB := x1.trans (x2.trans x3)
    have xA := xB.trans x4
    walk_at "gs"
    refine g_setL (xA _ _ hR.top) (ixN_of (by rw [List.length_map]; exact hnl)) ?_
    walk_at "gs"
    have h40 : H s4 = none := by
      cases z : H s4 with
      | none => rfl
      | some o =>
        rw [xB _ _ z] at hs4
        cases hs4
    have es : ((row.map V.int).take (row.idxOf d) ++ ns.map V.int ++ (row.map V.int).drop (row.idxOf d + 1)) = (swapR row d ns).map V.int := by
      unfold swapR
      rw [List.map_append, List.map_append, List.map_take, List.map_drop]
    have hni : s4 ∉ rs := fun hm => by
      obtain ⟨i, hi, e⟩ := List.getElem_of_mem hm
      have hi2 : i < rows.length := by rw [← hR.len]; exact hi
      have := hR.at_ i s4 rows[i] (by rw [List.getElem?_eq_getElem hi, e]) (List.getElem?_eq_getElem hi2)
      rw [h40] at this
      cases this
    have hT : s4 ≠ L := (ne_of_none hR.top h40).symm
    refine k s4 _ (fun b o nb e => by rw [upd_ne nb]; exact xA _ _ e) h40 ?_
    rw [es]
    exact (hR.same (xB.trans (up_same hs4))).swap upd_same hni hT hnl
end

section
variable {P : Program} {w : World} {K : PySem.W.Frag} {mg : Str → Option Value} {base : Heap} {A : Ads}
theorem ok_l_after_star (T : Txt K mg A) : FnOk P w K mg base CX0 4 A.f_l_after_star A.fd_l_after_star ["net", "node"] (spAStar K) := by
  have G_l_other := ok_l_other (P := P) (w := w) (base := base) T
  have G_l_swap := ok_l_swap (P := P) (w := w) (base := base) T
  have G_l_drop_node := ok_l_drop_node (P := P) (w := w) (base := base) T
  have G_l_put := ok_l_put (P := P) (w := w) (base := base) T
  have G_l_add := ok_l_add (P := P) (w := w) (base := base) T
  have G_l_mul := ok_l_mul (P := P) (w := w) (base := base) T
  have G_l_div := ok_l_div (P := P) (w := w) (base := base) T
  have nd := sc_l_after_star.nd
  refine T.F_l_after_star.ok sc_l_after_star (fun vs H Q E h => ?_) (fun cdv Ar outer s H vs Q E hr h => ?_)
  · obtain ⟨v, n, rim, rows, qs, En, rfl, _⟩ := h
    rfl
  · obtain ⟨v, n, rim, rows, qs, En, rfl, hv, hW, hq, hE, hl, hr1, hrim, hB, kk⟩ := h
    refine ⟨_, (pss_cutZ (ps_if (PW.pt (pw_or (pt_cmpR op_le (pv 1) (pe_ix (ix_tupK (K := K) rfl) (pv 0) pe_int (fun _ _ => rfl)) (nomark _)) (pw_or (pt_cmpR op_gt (pv 1) (pe_callB (zc_lenK (K := K) rfl) (by rfl) T.n_len (by decide +kernel) (pa_cons (pe_ix (ix_tupK (K := K) rfl) (pv 0) pe_int (fun _ _ => rfl)) pa_nil)) (nomark _)) (pw_or1 (pt_cmpR op_ne (pe_callB (zc_lenK (K := K) rfl) (by rfl) T.n_len (by decide +kernel) (pa_cons (pe_ix (ix_tupK (K := K) rfl) (pe_ix (ix_tupK (K := K) rfl) (pv 0) pe_int (fun _ _ => rfl)) (pe_op op_sub (pv 1) pe_int) (fun _ _ => rfl)) pa_nil)) pe_int (nomark _)))))) (pss_one (ps_ret pe_non)) pss_nil) (pss_cutZ (ps_asg (pe_ix (ix_tupK (K := K) rfl) (pe_ix (ix_tupK (K := K) rfl) (pv 0) pe_int (fun _ _ => rfl)) (pe_op op_sub (pv 1) pe_int) (fun _ _ => rfl)) (pg_tupK (K := K) rfl rfl (pgs_cons (pg_name (i := 2) nd rfl (Or.inl rfl)) (pgs_cons (pg_name (i := 3) nd rfl (Or.inl rfl)) (pgs_cons (pg_name (i := 4) nd rfl (Or.inl rfl)) pgs_nil))))) (pss_cutZ (ps_set (i := 5) nd rfl (Or.inr rfl) (pe_lc (own := [("turn", 17)]) (g := gName 17) (tt := tYes) rfl nd (pi_tupK (K := K) rfl (pe_ix (ix_tupK (K := K) rfl) (pv 0) pe_int (fun _ _ => rfl))) (blkOk_by (N := ["net", "node", "p", "q", "r", "turns", "k", "far", "a", "b", "c", "marks", "whole", "changed", "edge", "one", "two", "turn", "dart", "mark"]) (sc := defScope s_l_after_star) (by decide +kernel)) (fun _ _ _ _ _ => pg_name (i := 17) nd rfl (by first | exact Or.inl rfl | exact Or.inr rfl)) (fun _ _ _ _ _ => pts_nil) (fun _ _ _ _ _ => (pe_callTy (zc_listK (K := K) rfl) (by rfl) T.n_list (by decide +kernel) (pa_cons (pv 17) pa_nil))))) (pss_cutZ (ps_setLc (i := 7) (own := [("dart", 18)]) (g := gName 18) (tt := tYes) rfl nd rfl rfl (sw_true rfl rfl rfl (by decide +kernel)) (pi_listK (K := K) rfl (pe_lst (pa_cons (pv 2) (pa_cons (pv 3) (pa_cons (pv 4) pa_nil))))) (blkOk_by (N := ["net", "node", "p", "q", "r", "turns", "k", "far", "a", "b", "c", "marks", "whole", "changed", "edge", "one", "two", "turn", "dart", "mark"]) (sc := defScope s_l_after_star) (by decide +kernel)) (fun _ _ _ _ _ => pg_name (i := 18) nd rfl (by first | exact Or.inl rfl | exact Or.inr rfl)) (fun _ _ _ _ _ => pts_nil) (fun _ _ _ _ _ => (pe_ix (ix_listK (K := K) rfl) (pe_lc (own := [("k", 6)]) (g := gName 6)  rfl nd (pi_range1 (by rfl) T.n_range (pa_cons (pe_callB (zc_lenK (K := K) rfl) (by rfl) T.n_len (by decide +kernel) (pa_cons (pv 5) pa_nil)) pa_nil)) (blkIn (N := ["net", "node", "p", "q", "r", "turns", "k", "far", "a", "b", "c", "marks", "whole", "changed", "edge", "one", "two", "turn", "dart", "mark"]) rfl (blkOk_by (N := ["net", "node", "p", "q", "r", "turns", "k", "far", "a", "b", "c", "marks", "whole", "changed", "edge", "one", "two", "turn", "dart", "mark"]) (by decide +kernel))) (fun _ _ _ _ _ => pg_name (i := 6) nd rfl (by first | exact Or.inl rfl | exact Or.inr rfl)) (fun _ _ _ _ _ => pts_one (pt_cmpR (op_inK (K := K) rfl) (pe_call (E := E0) G_l_other (hr.mono (by decide)) (by rfl) T.g_l_other T.F_l_other.kp T.b_l_other .nil pass0 (pa_cons (pv 18) pa_nil)) (pe_ix (ix_listK (K := K) rfl) (pv 5) (pv 6) (fun _ _ => rfl)) (by rfl))) (fun _ _ _ _ _ => (pv 6))) pe_int (fun _ _ => rfl)))) (pss_cutZ (ps_if (pt_cmpR op_ne (pe_lenSetL (K := K) rfl rfl (by rfl) T.n_len (by rfl) T.n_set (pe_op op_cat (pv 7) (pe_lst (pa_cons (pe_op op_sub (pv 1) pe_int) pa_nil)))) pe_int (nomark _)) (pss_one (ps_ret pe_non)) pss_nil) (pss_cutZ (ps_asg (pe_lst pa_nil) (pg_sub (pv 5) (pe_op op_sub (pv 1) pe_int) set_list)) (pss_cutZ (ps_asg (pe_lc (own := [("dart", 18)]) (g := gName 18) (tt := tYes) rfl nd (pi_listK (K := K) rfl (pe_lst (pa_cons (pv 2) (pa_cons (pv 3) (pa_cons (pv 4) pa_nil))))) (blkOk_by (N := ["net", "node", "p", "q", "r", "turns", "k", "far", "a", "b", "c", "marks", "whole", "changed", "edge", "one", "two", "turn", "dart", "mark"]) (sc := defScope s_l_after_star) (by decide +kernel)) (fun _ _ _ _ _ => pg_name (i := 18) nd rfl (by first | exact Or.inl rfl | exact Or.inr rfl)) (fun _ _ _ _ _ => pts_nil) (fun _ _ _ _ _ => (pe_op op_fdivN (pv 18) pe_int))) (pg_lstK (K := K) rfl rfl (pgs_cons (pg_name (i := 8) nd rfl (Or.inl rfl)) (pgs_cons (pg_name (i := 9) nd rfl (Or.inl rfl)) (pgs_cons (pg_name (i := 10) nd rfl (Or.inl rfl)) pgs_nil))))) (pss_cutZ (ps_set (i := 11) nd rfl (Or.inl rfl) (pe_lst (pa_cons (pe_lst (pa_cons (pe_op op_mul pe_int (pv 10)) (pa_cons (pe_op op_add (pe_op op_mul pe_int (pv 9)) pe_int) pa_nil))) (pa_cons (pe_lst (pa_cons (pe_op op_mul pe_int (pv 8)) (pa_cons (pe_op op_add (pe_op op_mul pe_int (pv 10)) pe_int) pa_nil))) (pa_cons (pe_lst (pa_cons (pe_op op_mul pe_int (pv 9)) (pa_cons (pe_op op_add (pe_op op_mul pe_int (pv 8)) pe_int) pa_nil))) pa_nil))))) (pss_cutZ (ps_for PassesOwn.never rfl (pi_range1 (by rfl) T.n_range (pa_cons pe_int pa_nil)) (pg_name (i := 6) nd rfl (Or.inl rfl)) (pss_one (ps_expr (pe_call (E := E0) G_l_swap (hr.mono (by decide)) (by rfl) T.g_l_swap T.F_l_swap.kp T.b_l_swap .nil pass0 (pa_cons (pv 5) (pa_cons (pe_ix (ix_listK (K := K) rfl) (pv 7) (pv 6) (fun _ _ => rfl)) (pa_cons (pe_call (E := E0) G_l_other (hr.mono (by decide)) (by rfl) T.g_l_other T.F_l_other.kp T.b_l_other .nil pass0 (pa_cons (pe_ix (ix_listK (K := K) rfl) (pe_lst (pa_cons (pv 2) (pa_cons (pv 3) (pa_cons (pv 4) pa_nil)))) (pv 6) (fun _ _ => rfl)) pa_nil)) (pa_cons (pe_lc (own := [("mark", 19)]) (g := gName 19) (tt := tYes) rfl nd (pi_listK (K := K) rfl (pe_ix (ix_listK (K := K) rfl) (pv 11) (pv 6) (fun _ _ => rfl))) (blkOk_by (N := ["net", "node", "p", "q", "r", "turns", "k", "far", "a", "b", "c", "marks", "whole", "changed", "edge", "one", "two", "turn", "dart", "mark"]) (sc := defScope s_l_after_star) (by decide +kernel)) (fun _ _ _ _ _ => pg_name (i := 19) nd rfl (by first | exact Or.inl rfl | exact Or.inr rfl)) (fun _ _ _ _ _ => pts_nil) (fun _ _ _ _ _ => (pe_op op_add pe_int (pv 19)))) pa_nil)))))))) (pss_cutZ (ps_set (i := 12) nd rfl (Or.inl rfl) (pe_call (E := E0) G_l_add (hr.mono (by decide)) (by rfl) T.g_l_add T.F_l_add.kp T.b_l_add .nil pass0 (pa_cons (pe_call (E := E0) G_l_add (hr.mono (by decide)) (by rfl) T.g_l_add T.F_l_add.kp T.b_l_add .nil pass0 (pa_cons (pe_ix (ix_tupK (K := K) rfl) (pe_ix (ix_tupK (K := K) rfl) (pv 0) pe_int (fun _ _ => rfl)) (pv 8) (fun _ _ => rfl)) (pa_cons (pe_ix (ix_tupK (K := K) rfl) (pe_ix (ix_tupK (K := K) rfl) (pv 0) pe_int (fun _ _ => rfl)) (pv 9) (fun _ _ => rfl)) pa_nil))) (pa_cons (pe_ix (ix_tupK (K := K) rfl) (pe_ix (ix_tupK (K := K) rfl) (pv 0) pe_int (fun _ _ => rfl)) (pv 10) (fun _ _ => rfl)) pa_nil)))) (pss_cutZ (ps_set (i := 13) nd rfl (Or.inl rfl) (pe_tup (pa_cons (pe_ix (ix_tupK (K := K) rfl) (pv 0) pe_int (fun _ _ => rfl)) (pa_cons (pe_callTy (zc_tupleK (K := K) rfl) (by rfl) T.n_tuple (by decide +kernel) (pa_cons (pe_lc (own := [("turn", 17)]) (g := gName 17) (tt := tYes) rfl nd (pi_listK (K := K) rfl (pv 5)) (blkOk_by (N := ["net", "node", "p", "q", "r", "turns", "k", "far", "a", "b", "c", "marks", "whole", "changed", "edge", "one", "two", "turn", "dart", "mark"]) (sc := defScope s_l_after_star) (by decide +kernel)) (fun _ _ _ _ _ => pg_name (i := 17) nd rfl (by first | exact Or.inl rfl | exact Or.inr rfl)) (fun _ _ _ _ _ => pts_nil) (fun _ _ _ _ _ => (pe_callTy (zc_tupleK (K := K) rfl) (by rfl) T.n_tuple (by decide +kernel) (pa_cons (pe_lc (own := [("dart", 18)]) (g := gName 18) (tt := tYes) rfl nd (pi_listK (K := K) rfl (pv 17)) (blkIn (N := ["net", "node", "p", "q", "r", "turns", "k", "far", "a", "b", "c", "marks", "whole", "changed", "edge", "one", "two", "turn", "dart", "mark"]) rfl (blkOk_by (N := ["net", "node", "p", "q", "r", "turns", "k", "far", "a", "b", "c", "marks", "whole", "changed", "edge", "one", "two", "turn", "dart", "mark"]) (by decide +kernel))) (fun _ _ _ _ _ => pg_name (i := 18) nd rfl (by first | exact Or.inl rfl | exact Or.inr rfl)) (fun _ _ _ _ _ => pts_nil) (fun _ _ _ _ _ => (pe_op op_modN (pe_callTy zc_int (by rfl) T.n_int (by decide +kernel) (pa_cons (pv 18) pa_nil)) pe_int))) pa_nil)))) pa_nil)) (pa_cons (pe_ix (ix_tupK (K := K) rfl) (pv 0) pe_int (fun _ _ => rfl)) pa_nil))))) (pss_cutZ (ps_for PassesOwn.never rfl (pi_listK (K := K) rfl (pe_lst (pa_cons (pe_tup (pa_cons (pv 8) (pa_cons (pv 9) (pa_cons (pv 10) pa_nil)))) (pa_cons (pe_tup (pa_cons (pv 9) (pa_cons (pv 10) (pa_cons (pv 8) pa_nil)))) (pa_cons (pe_tup (pa_cons (pv 10) (pa_cons (pv 8) (pa_cons (pv 9) pa_nil)))) pa_nil))))) (pg_tupK (K := K) rfl rfl (pgs_cons (pg_name (i := 14) nd rfl (Or.inl rfl)) (pgs_cons (pg_name (i := 15) nd rfl (Or.inl rfl)) (pgs_cons (pg_name (i := 16) nd rfl (Or.inl rfl)) pgs_nil)))) (pss_one (ps_set (i := 13) nd rfl (Or.inl rfl) (pe_call (E := E0) G_l_put (hr.mono (by decide)) (by rfl) T.g_l_put T.F_l_put.kp T.b_l_put .nil pass0 (pa_cons (pv 13) (pa_cons (pv 14) (pa_cons (pe_call (E := E0) G_l_div (hr.mono (by decide)) (by rfl) T.g_l_div T.F_l_div.kp T.b_l_div .nil pass0 (pa_cons (pe_call (E := E0) G_l_mul (hr.mono (by decide)) (by rfl) T.g_l_mul T.F_l_mul.kp T.b_l_mul .nil pass0 (pa_cons (pe_ix (ix_tupK (K := K) rfl) (pe_ix (ix_tupK (K := K) rfl) (pv 0) pe_int (fun _ _ => rfl)) (pv 15) (fun _ _ => rfl)) (pa_cons (pe_ix (ix_tupK (K := K) rfl) (pe_ix (ix_tupK (K := K) rfl) (pv 0) pe_int (fun _ _ => rfl)) (pv 16) (fun _ _ => rfl)) pa_nil))) (pa_cons (pv 12) pa_nil))) pa_nil))))))) (pss_one (ps_ret (pe_call (E := E0) G_l_drop_node (hr.mono (by decide)) (by rfl) T.g_l_drop_node T.F_l_drop_node.kp T.b_l_drop_node .nil pass0 (pa_cons (pv 13) (pa_cons (pv 1) pa_nil))))))))))))))))), ?_⟩
    obtain ⟨p, t, m, ts, as, rfl, hN⟩ := hv
    have no : starM rim rows qs n = none → ∀ H', Same H H' → Q .non H' := fun z H' sm => kk _ _ sm (by rw [z]; rfl)
    have fd2 : ∀ z : Int, z.fdiv 2 = z / 2 := fun z => Int.fdiv_eq_ediv_of_nonneg _ (by decide)
    refine g_cut (fun σ' H' => ∃ (i : Nat) (x y z : Int) (r : Addr), n = (i : Int) + 1 ∧ rim ≤ i ∧ rows[i]? = some [x, y, z] ∧ ts[i]? = some r ∧ σ' = [some (.ref p), some (.int n), none, none, none, none, none, none, none, none, none, none, none, none, none, none, none, none, none, none] ∧ H = H') ?_ ?_
    · walk_at "gs"
      refine g_ixT hN.top rfl ?_
      walk_at "gs"
      refine if_2 (fun z => ?_) (fun z => ?_)
      · have z := of_decide_eq_true z
        refine if_t rfl ?_
        walk_at "gs"
        exact no (starM_bad fun y => by have := y.1; omega) _ (Same.refl _)
      have z := of_decide_eq_false z
      walk_at "gs"
      refine g_ixT hN.top rfl ?_
      walk_at "gs"
      refine g_lenT hN.turns ?_
      walk_at "gs"
      refine if_2 (fun z2 => ?_) (fun z2 => ?_)
      · have z2 := of_decide_eq_true z2
        rw [List.length_map, hN.len] at z2
        refine if_t rfl ?_
        walk_at "gs"
        exact no (starM_bad fun y => by have := y.2.1; omega) _ (Same.refl _)
      have z2 := of_decide_eq_false z2
      rw [List.length_map, hN.len] at z2
      obtain ⟨i, rfl⟩ : ∃ i : Nat, n = (i : Int) + 1 := ⟨(n - 1).toNat, by omega⟩
      have hi : i < rows.length := by omega
      have hit : i < ts.length := by rw [hN.len]; exact hi
      have e1 : (i : Int) + 1 - 1 = (i : Int) := by omega
      have gx : (ts.map V.ref)[i]? = some (.ref ts[i]) := by rw [List.getElem?_map, List.getElem?_eq_getElem hit]; rfl
      have hrow := hN.row i ts[i] rows[i] (List.getElem?_eq_getElem hit) (List.getElem?_eq_getElem hi)
      walk_at "gs"
      refine g_ixT hN.top rfl ?_
      walk_at "gs"
      rw [e1]
      refine g_ixT hN.turns (atI_nat gx) ?_
      walk_at "gs"
      rw [List.length_map, Rz.dec_int]
      refine if_2 (fun z3 => ?_) (fun z3 => ?_)
      · walk_at "gs"
        refine no (starM_bad fun y => ?_) _ (Same.refl _)
        have y := y.2.2
        rw [e1, Int.toNat_natCast, List.getD_eq_getElem?_getD, List.getElem?_eq_getElem hi] at y
        have y : rows[i].length = 3 := y
        rw [y] at z3
        exact absurd z3 (by decide)
      · walk_at "gs"
        have h3 : rows[i].length = 3 := by
          by_cases y : ((rows[i].length : Nat) : Int) = 3
          · omega
          · rw [decide_eq_false y] at z3
            exact absurd z3 (by decide)
        match hrw : rows[i], h3 with
        | [x, y, z], _ => exact ⟨i, x, y, z, ts[i], rfl, by omega, by rw [List.getElem?_eq_getElem hi, hrw], List.getElem?_eq_getElem hit, rfl, rfl⟩
    rintro σ' _ ⟨i, dp, dq, dr, r, rfl, hri, hxy, htr, rfl, rfl⟩
    have hi : i < rows.length := (List.getElem?_eq_some_iff.mp hxy).1
    have e1 : (i : Int) + 1 - 1 = (i : Int) := by omega
    have gx : (ts.map V.ref)[i]? = some (.ref r) := by rw [List.getElem?_map, htr]; rfl
    have hrow : SqT K H r [.int dp, .int dq, .int dr] := hN.row i r [dp, dq, dr] htr hxy
    have hok : starOk rim rows ((i : Int) + 1) := ⟨by omega, by omega, by rw [e1, Int.toNat_natCast, row_of hxy]; rfl⟩
    have mem : ∀ d ∈ [dp, dq, dr], d ∈ rows.flatten := fun d hd => mem_flat.mpr ⟨i, _, hxy, hd⟩
    have bd : ∀ d ∈ [dp, dq, dr], 0 ≤ d ∧ d < 2 * (En : Int) := fun d hd => (hW.mem d).mp (mem d hd)
    have mp : dp ∈ [dp, dq, dr] := by simp
    have mq : dq ∈ [dp, dq, dr] := by simp
    have mr : dr ∈ [dp, dq, dr] := by simp
    have tw : ∀ d ∈ [dp, dq, dr], twin d ∈ rows.flatten := fun d hd => (hW.mem _).mpr (twin_range (bd d hd))
    -- p, q, r
    refine g_cut (fun σ' H' => σ' = [some (.ref p), some (.int ((i : Int) + 1)), some (.int dp), some (.int dq), some (.int dr), none, none, none, none, none, none, none, none, none, none, none, none, none, none, none] ∧ H = H') ?_ ?_
    · walk_at "gs"
      refine g_ixT hN.top rfl ?_
      walk_at "gs"
      rw [e1]
      refine g_ixT hN.turns (atI_nat gx) ?_
      refine ⟨r, _, rfl, hrow, rfl, _, _, rfl, _, _, rfl, _, _, rfl, rfl, ?_⟩
      exact ⟨rfl, rfl⟩
    rintro σ' _ ⟨rfl, rfl⟩
    -- turns
    refine g_cut (fun σ' H5 => ∃ L rs, σ' = [some (.ref p), some (.int ((i : Int) + 1)), some (.int dp), some (.int dq), some (.int dr), some (.ref L), none, none, none, none, none, none, none, none, none, none, none, none, none, none] ∧ Same H H5 ∧ H L = none ∧ RowsAt H5 L rs rows) ?_ ?_
    · walk_at "gs"
      refine g_ixT hN.top rfl ?_
      refine rows_lc hN.tns (by omega) (fun _ => rfl) (fun _ => rfl) fun L rs H5 sm hT hR hfr => ?_
      exact ⟨L, rs, rfl, sm, hT, hR⟩
    rintro σ' H5 ⟨L, rs, rfl, sm5, hL, hR⟩
    -- far
    refine g_cut (fun σ' H6 => ∃ F, σ' = [some (.ref p), some (.int ((i : Int) + 1)), some (.int dp), some (.int dq), some (.int dr), some (.ref L), none, some (.ref F), none, none, none, none, none, none, none, none, none, none, none, none] ∧ Same H5 H6 ∧ H6 F = some (.lst [.int (nodeOf rows (twin dp) : Nat), .int (nodeOf rows (twin dq) : Nat), .int (nodeOf rows (twin dr) : Nat)])) ?_ ?_
    · walk_at "gs"
      refine g_newL (by show 3 ≤ 1000000; decide) fun l1 hl1 => ?_
      have s1 := up_same (o := .lst [.int dp, .int dq, .int dr]) hl1
      refine ints_lcL (ns := [dp, dq, dr]) (fun d => (nodeOf rows (twin d) : Int)) (SqL.of upd_same) (by show 3 ≤ 100000; decide) (fun _ => rfl) ?_ ?_
      · intro j d H1 Q2 hd sm1 kk2
        have hdm := List.mem_of_getElem? hd
        have hR1 := hR.same (s1.trans sm1)
        have btw := tw d hdm
        have hfl : nodeOf rows (twin d) < rows.length := at_lt btw
        walk_at "gs"
        refine g_lenL (SqL.of hR1.top) ?_
        walk_at "gs"
        refine lc_rngIf rows.length (by rw [List.length_map, hR.len]) (by omega) (fun q j acc H' => Same H1 H' ∧ H' q = some (.lst acc) ∧ acc = if nodeOf rows (twin d) < j then [.int (nodeOf rows (twin d) : Nat)] else []) (fun _ => rfl) (fun q hq => ⟨up_same hq, upd_same, rfl⟩) ?_ ?_
        · rintro q j acc H6 hq hj ⟨sm6, eq, rfl⟩
          obtain ⟨rj, hrj, erj⟩ := (hR1.same sm6).get (List.getElem?_eq_getElem hj)
          have gj : (rs.map V.ref)[j]? = some (.ref rj) := by rw [List.getElem?_map, hrj]; rfl
          have hin := in_row hW.nd (List.getElem?_eq_getElem hj) btw
          walk_at "gs"
          refine ⟨d, rfl, ?_⟩
          walk_at "gs"
          refine g_ixL (SqL.of (hR1.same sm6).top) (atI_nat gj) ?_
          walk_at "gs"
          refine g_inL (SqL.of erj) ?_
          walk_at "gs"
          refine if_2 (fun z => ?_) (fun z => ?_)
          · have z := hin.mp (of_decide_eq_true z)
            walk_at "gs"
            rw [if_neg (by omega)] at eq
            refine lcN_of eq (by show 0 ≤ 1000000; decide) ⟨fun b o h => ?_, upd_same, ?_⟩
            · rw [upd_ne (ne_of_none h hq)]
              exact sm6 _ _ h
            · rw [if_pos (by omega), z]
              rfl
          · have z : ¬ j = nodeOf rows (twin d) := fun y => of_decide_eq_false z (hin.mpr y)
            refine ⟨_, sm6, eq, ?_⟩
            by_cases y : nodeOf rows (twin d) < j
            · rw [if_pos y, if_pos (by omega)]
            · rw [if_neg y, if_neg (by omega)]
        · rintro q acc H6 hq ⟨sm6, eq, rfl⟩
          rw [if_pos hfl] at eq
          walk_at "gs"
          exact kk2 _ sm6
      · intro F H1 sm1 hF eF
        exact ⟨F, rfl, s1.trans sm1, eF⟩
    rintro σ' H6 ⟨F, rfl, sm6, eF⟩
    have hE1 := starM_row (qs := qs) hok hxy
    -- four nodes
    refine g_cut (fun σ' H7 => σ' = [some (.ref p), some (.int ((i : Int) + 1)), some (.int dp), some (.int dq), some (.int dr), some (.ref L), none, some (.ref F), none, none, none, none, none, none, none, none, none, none, none, none] ∧ Same H6 H7 ∧ (farN rows dp dq dr i).Nodup) ?_ ?_
    · walk_at "gs"
      refine g_lenSetL ?_
      walk_at "gs"
      refine g_newL (by show 1 ≤ 1000000; decide) fun l1 hl1 => ?_
      rw [e1]
      have s1 := up_same (o := .lst [.int (i : Int)]) hl1
      refine g_cat (s1 _ _ eF) upd_same (by show 3 + 1 ≤ 1000000; decide) fun l2 hl2 => ?_
      have s2 := up_same (o := .lst ([.int (nodeOf rows (twin dp) : Nat), .int (nodeOf rows (twin dq) : Nat), .int (nodeOf rows (twin dr) : Nat)] ++ [.int (i : Int)])) hl2
      refine ⟨l2, (farN rows dp dq dr i).map Int.ofNat, rfl, SqL.of upd_same, by show 4 < 64; decide, fun mm hm1 hm2 => ?_⟩
      have hnd : mm = 4 ↔ (farN rows dp dq dr i).Nodup := by
        refine hm1.trans ?_
        unfold farN
        simp only [List.map_cons, List.map_nil, List.nodup_cons, List.mem_cons, List.not_mem_nil, or_false, Int.ofNat.injEq, List.nodup_nil]
      walk_at "gs"
      rw [Rz.dec_int]
      refine if_2 (fun z => ?_) (fun z => ?_)
      · have z1 : ¬ (farN rows dp dq dr i).Nodup := fun y => by
          rw [decide_eq_true (by have := hnd.mpr y; omega)] at z
          cases z
        walk_at "gs"
        exact no (by rw [hE1, if_neg z1]) _ (sm5.trans (sm6.trans (s1.trans s2)))
      · have z1 : (farN rows dp dq dr i).Nodup := by
          by_cases y : (mm : Int) = 4
          · exact hnd.mp (by omega)
          · rw [decide_eq_false y] at z
            cases z
        walk_at "gs"
        exact ⟨rfl, s1.trans s2, z1⟩
    rintro σ' H7 ⟨rfl, sm7, hfar⟩
    rw [if_pos hfar] at hE1
    have S : StarAt rows En i dp dq dr := ⟨hW, hxy, hfar⟩
    obtain ⟨n1, n2, n3, n4, n5, n6⟩ := S.ne
    have hR7 := hR.same (sm6.trans sm7)
    have hil : i < rs.length := by rw [hR.len]; exact hi
    -- turns[node - 1] = []
    refine g_cut (fun σ' H8 => ∃ rs8, σ' = [some (.ref p), some (.int ((i : Int) + 1)), some (.int dp), some (.int dq), some (.int dr), some (.ref L), none, some (.ref F), none, none, none, none, none, none, none, none, none, none, none, none] ∧ Same H H8 ∧ RowsAt H8 L rs8 (rows.set i []) ∧ H8 F = some (.lst [.int (nodeOf rows (twin dp) : Nat), .int (nodeOf rows (twin dq) : Nat), .int (nodeOf rows (twin dr) : Nat)])) ?_ ?_
    · walk_at "gs"
      refine g_newL (by show 0 ≤ 1000000; decide) fun l8 hl8 => ?_
      walk_at "gs"
      rw [e1]
      have s8 := up_same (o := .lst []) hl8
      refine g_setL (s8 _ _ hR7.top) (ixN_of (by rw [List.length_map]; exact hil)) ?_
      walk_at "gs"
      have hni : l8 ∉ rs := fun hm => by
        obtain ⟨i2, hi2, e⟩ := List.getElem_of_mem hm
        have hi3 : i2 < rows.length := by rw [← hR7.len]; exact hi2
        have := hR7.at_ i2 l8 _ (by rw [List.getElem?_eq_getElem hi2, e]) (List.getElem?_eq_getElem hi3)
        rw [hl8] at this
        cases this
      have hT : l8 ≠ L := (ne_of_none hR7.top hl8).symm
      have hFL : F ≠ L := fun e => by
        have h1 := sm7 _ _ eF
        rw [e, hR7.top] at h1
        have h2 := congrArg (fun o : Option HO => o) h1
        injection h1 with h1
        injection h1 with h1
        have := congrArg List.head? h1
        rw [List.head?_map] at this
        cases hh : rs.head? with
        | none => rw [hh] at this; cases this
        | some a => rw [hh] at this; cases this
      refine ⟨rs.set i l8, rfl, fun b o h => ?_, (hR7.same s8).swap (row := []) upd_same hni hT hil, ?_⟩
      · rw [upd_ne (fun e => by rw [e, hL] at h; cases h)]
        exact s8 _ _ (sm7 _ _ (sm6 _ _ (sm5 _ _ h)))
      · rw [upd_ne hFL]
        exact s8 _ _ (sm7 _ _ eF)
    rintro σ' H8 ⟨rs8, rfl, sm8, hR8, hF8⟩
    obtain ⟨a, ha⟩ : ∃ a : Nat, dp / 2 = (a : Int) := ⟨(dp / 2).toNat, by have := bd dp mp; omega⟩
    obtain ⟨b, hb⟩ : ∃ b : Nat, dq / 2 = (b : Int) := ⟨(dq / 2).toNat, by have := bd dq mq; omega⟩
    obtain ⟨c, hc⟩ : ∃ c : Nat, dr / 2 = (c : Int) := ⟨(dr / 2).toNat, by have := bd dr mr; omega⟩
    have haq : a < qs.length := by have := bd dp mp; omega
    have hbq : b < qs.length := by have := bd dq mq; omega
    have hcq : c < qs.length := by have := bd dr mr; omega
    -- a, b, c
    refine g_cut (fun σ' H9 => σ' = [some (.ref p), some (.int ((i : Int) + 1)), some (.int dp), some (.int dq), some (.int dr), some (.ref L), none, some (.ref F), some (.int (a : Int)), some (.int (b : Int)), some (.int (c : Int)), none, none, none, none, none, none, none, none, none] ∧ Same H8 H9) ?_ ?_
    · walk_at "gs"
      refine g_newL (by show 3 ≤ 1000000; decide) fun l1 hl1 => ?_
      have s1 := up_same (o := .lst [.int dp, .int dq, .int dr]) hl1
      refine ints_lcL (ns := [dp, dq, dr]) (fun d => d / 2) (SqL.of upd_same) (by show 3 ≤ 100000; decide) (fun _ => rfl) ?_ ?_
      · intro j d H1 Q2 hd sm1 kk2
        walk_at "gs"
        rw [fd2]
        exact kk2 _ (Same.refl _)
      · intro l2 H1 sm1 hl2 el2
        refine ⟨l2, _, rfl, SqL.of el2, rfl, _, _, rfl, _, _, rfl, _, _, rfl, rfl, ?_⟩
        refine ⟨?_, s1.trans sm1⟩
        rw [← ha, ← hb, ← hc]
        rfl
    rintro σ' H9 ⟨rfl, sm9⟩
    -- marks
    refine g_cut (fun σ' H10 => ∃ M m1 m2 m3, σ' = [some (.ref p), some (.int ((i : Int) + 1)), some (.int dp), some (.int dq), some (.int dr), some (.ref L), none, some (.ref F), some (.int (a : Int)), some (.int (b : Int)), some (.int (c : Int)), some (.ref M), none, none, none, none, none, none, none, none] ∧ Same H9 H10 ∧ H10 M = some (.lst [.ref m1, .ref m2, .ref m3]) ∧ H10 m1 = some (.lst [.int (2 * (c : Int)), .int (2 * (b : Int) + 1)]) ∧ H10 m2 = some (.lst [.int (2 * (a : Int)), .int (2 * (c : Int) + 1)]) ∧ H10 m3 = some (.lst [.int (2 * (b : Int)), .int (2 * (a : Int) + 1)]) ∧ H9 m1 = none ∧ H9 m2 = none ∧ H9 m3 = none ∧ H9 M = none) ?_ ?_
    · walk_at "gs"
      refine g_newL (by show 2 ≤ 1000000; decide) fun m1 h1 => ?_
      have s1 := up_same (o := .lst [.int (2 * (c : Int)), .int (2 * (b : Int) + 1)]) h1
      walk_at "gs"
      refine g_newL (by show 2 ≤ 1000000; decide) fun m2 h2 => ?_
      have s2 := up_same (o := .lst [.int (2 * (a : Int)), .int (2 * (c : Int) + 1)]) h2
      walk_at "gs"
      refine g_newL (by show 2 ≤ 1000000; decide) fun m3 h3 => ?_
      have s3 := up_same (o := .lst [.int (2 * (b : Int)), .int (2 * (a : Int) + 1)]) h3
      walk_at "gs"
      refine g_newL (by show 3 ≤ 1000000; decide) fun M h4 => ?_
      have s4 := up_same (o := .lst [.ref m1, .ref m2, .ref m3]) h4
      exact ⟨M, m1, m2, m3, rfl, s1.trans (s2.trans (s3.trans s4)), upd_same, (s2.trans (s3.trans s4)) _ _ upd_same, (s3.trans s4) _ _ upd_same, s4 _ _ upd_same, h1, s1.free h2, (s1.trans s2).free h3, (s1.trans (s2.trans s3)).free h4⟩
    rintro σ' H10 ⟨M, m1, m2, m3, rfl, sm10, eM, em1, em2, em3, f1, f2, f3, fM⟩
    -- the swaps
    have hR10 := hR8.same (sm9.trans sm10)
    have hF10 := (sm9.trans sm10) _ _ hF8
    have sm10H : Same H H10 := sm8.trans (sm9.trans sm10)
    have lenF : rows.flatten.length = 2 * En := hW.len
    have nL : ∀ b o, H b = some o → b ≠ L := fun b o h e => by rw [e, hL] at h; cases h
    have neRef : ∀ {c : Addr} {z : Int} {xs : List V}, H10 c = some (.lst (.int z :: xs)) → c ≠ L := fun {c z xs} h e => by
      rw [e, hR10.top] at h
      injection h with h
      injection h with h
      cases hh : rs8 with
      | nil => rw [hh] at h; cases h
      | cons r0 rr =>
        rw [hh] at h
        injection h with h _
        cases h
    have ne1L : m1 ≠ L := neRef em1
    have ne2L : m2 ≠ L := neRef em2
    have ne3L : m3 ≠ L := neRef em3
    have neFL : F ≠ L := neRef hF10
    have neML : M ≠ L := fun e => by
      have h1 := (sm9 _ _ hR8.top)
      rw [e] at fM
      rw [fM] at h1
      cases h1
    have row20 : ∀ row ∈ rows, row.length ≤ 200 := fun row h => by have := row_le h; omega
    have sw : ∀ (d : Int) (x y : Int), (swapR (rows.getD (nodeOf rows (twin d)) []) (twin d) [x, y]).length ≤ 500 := fun d x y => by
      have : (rows.getD (nodeOf rows (twin d)) []).length ≤ 200 := by have := hW.row (n := nodeOf rows (twin d)); omega
      unfold swapR
      simp only [List.length_append, List.length_take, List.length_drop, List.length_cons, List.length_nil]
      omega
    have b0 : ∀ row ∈ rows.set i [], row.length ≤ 10000 := fun row h => by
      rcases List.mem_or_eq_of_mem_set h with z | z
      · have := row20 row z; omega
      · rw [z]; exact Nat.zero_le _
    have bset : ∀ {R : Rows} {n : Nat} {row : List Int}, (∀ r ∈ R, r.length ≤ 10000) → row.length ≤ 500 → ∀ r ∈ R.set n row, r.length ≤ 10000 := fun {R n row} h h1 r hr => by
      rcases List.mem_or_eq_of_mem_set hr with z | z
      · exact h r z
      · rw [z]; omega
    -- three turns of the loop
    refine g_cut (fun σ' H11 => ∃ rs11 u6, σ' = [some (.ref p), some (.int ((i : Int) + 1)), some (.int dp), some (.int dq), some (.int dr), some (.ref L), u6, some (.ref F), some (.int (a : Int)), some (.int (b : Int)), some (.int (c : Int)), some (.ref M), none, none, none, none, none, none, none, none] ∧ Same H H11 ∧
        RowsAt H11 L rs11 ((((rows.set i []).set (nodeOf rows (twin dp)) (swapR (rows.getD (nodeOf rows (twin dp)) []) (twin dp) [1000 + 2 * (dr / 2), 1000 + (2 * (dq / 2) + 1)])).set (nodeOf rows (twin dq)) (swapR (rows.getD (nodeOf rows (twin dq)) []) (twin dq) [1000 + 2 * (dp / 2), 1000 + (2 * (dr / 2) + 1)])).set (nodeOf rows (twin dr)) (swapR (rows.getD (nodeOf rows (twin dr)) []) (twin dr) [1000 + 2 * (dq / 2), 1000 + (2 * (dp / 2) + 1)]))) ?_ ?_
    · refine g_rng 3 rfl (by decide) (fun k σ' H' => ∃ rs' u6, σ' = [some (.ref p), some (.int ((i : Int) + 1)), some (.int dp), some (.int dq), some (.int dr), some (.ref L), u6, some (.ref F), some (.int (a : Int)), some (.int (b : Int)), some (.int (c : Int)), some (.ref M), none, none, none, none, none, none, none, none] ∧ Same H H' ∧ H' F = some (.lst [.int (nodeOf rows (twin dp) : Nat), .int (nodeOf rows (twin dq) : Nat), .int (nodeOf rows (twin dr) : Nat)]) ∧ H' M = some (.lst [.ref m1, .ref m2, .ref m3]) ∧ H' m1 = some (.lst [.int (2 * (c : Int)), .int (2 * (b : Int) + 1)]) ∧ H' m2 = some (.lst [.int (2 * (a : Int)), .int (2 * (c : Int) + 1)]) ∧ H' m3 = some (.lst [.int (2 * (b : Int)), .int (2 * (a : Int) + 1)]) ∧ RowsAt H' L rs' (match k with | 0 => rows.set i [] | 1 => (rows.set i []).set (nodeOf rows (twin dp)) (swapR (rows.getD (nodeOf rows (twin dp)) []) (twin dp) [1000 + 2 * (dr / 2), 1000 + (2 * (dq / 2) + 1)]) | 2 => ((rows.set i []).set (nodeOf rows (twin dp)) (swapR (rows.getD (nodeOf rows (twin dp)) []) (twin dp) [1000 + 2 * (dr / 2), 1000 + (2 * (dq / 2) + 1)])).set (nodeOf rows (twin dq)) (swapR (rows.getD (nodeOf rows (twin dq)) []) (twin dq) [1000 + 2 * (dp / 2), 1000 + (2 * (dr / 2) + 1)]) | _ => (((rows.set i []).set (nodeOf rows (twin dp)) (swapR (rows.getD (nodeOf rows (twin dp)) []) (twin dp) [1000 + 2 * (dr / 2), 1000 + (2 * (dq / 2) + 1)])).set (nodeOf rows (twin dq)) (swapR (rows.getD (nodeOf rows (twin dq)) []) (twin dq) [1000 + 2 * (dp / 2), 1000 + (2 * (dr / 2) + 1)])).set (nodeOf rows (twin dr)) (swapR (rows.getD (nodeOf rows (twin dr)) []) (twin dr) [1000 + 2 * (dq / 2), 1000 + (2 * (dp / 2) + 1)]))) ⟨rs8, none, rfl, sm10H, hF10, eM, em1, em2, em3, hR10⟩ ?_ ?_
      · intro k σ' H1 hk hst
        obtain rfl | rfl | rfl : k = 0 ∨ k = 1 ∨ k = 2 := by omega
        · -- 0
          rcases hst with ⟨rs1, u6, rfl, sm1, hF1, hM1, h11, h12, h13, hR1⟩
          have hR1 : RowsAt H1 L rs1 (rows.set i []) := hR1
          walk_at "gs"
          refine g_newL (by show 3 ≤ 1000000; decide) fun l1 hl1 => ?_
          have s1 := up_same (o := .lst [.int dp, .int dq, .int dr]) hl1
          walk_at "gs"
          refine ⟨dp, rfl, ?_⟩
          walk_at "gs"
          refine g_ixL (SqL.of (s1 _ _ hM1)) rfl ?_
          walk_at "gs"
          refine ints_lcL (ns := [2 * (c : Int), 2 * (b : Int) + 1]) (fun z => 1000 + z) (SqL.of (s1 _ _ h11)) (by show 2 ≤ 100000; decide) (fun _ => rfl) ?_ ?_
          · intro j z H2 Q2 hz sm2 kk2
            walk_at "gs"
            exact kk2 _ (Same.refl _)
          · intro l2 H2 sm2 hl2 el2
            have e2 : ([2 * (c : Int), 2 * (b : Int) + 1].map fun z => 1000 + z) = [1000 + 2 * (dr / 2), 1000 + (2 * (dq / 2) + 1)] := by rw [hc, hb]; rfl
            rw [e2] at el2
            have hlt : nodeOf rows (twin dp) < rows.length := at_lt (tw dp mp)
            have hrow0 : rows[nodeOf rows (twin dp)]? = some (rows.getD (nodeOf rows (twin dp)) []) := by rw [List.getD_eq_getElem?_getD, List.getElem?_eq_getElem hlt]; rfl
            have hcur : (rows.set i [])[nodeOf rows (twin dp)]? = some (rows.getD (nodeOf rows (twin dp)) []) := by
              rw [List.getElem?_set_ne (Ne.symm n4)]
              exact hrow0
            refine ⟨L, nodeOf rows (twin dp), twin dp, l2, rs1, _, rows.getD (nodeOf rows (twin dp)) [], [1000 + 2 * (dr / 2), 1000 + (2 * (dq / 2) + 1)], rfl, hR1.same (s1.trans sm2), hcur, (in_row hW.nd hrow0 (tw dp mp)).mpr rfl, el2, ?_, by show 2 ≤ 1000; decide, fun r7 H7 k7 hr7 hR7 => ?_⟩
            · exact ⟨by simp only [List.length_set]; omega, b0⟩
            walk_at "gs"
            have kpL : ∀ {c : Addr} {o : HO}, c ≠ L → H1 c = some o → H7 c = some o := fun {c o} hc h => k7 c o hc (sm2 _ _ (s1 _ _ h))
            exact ⟨_, _, rfl, fun b o h => k7 b o (nL b o h) (sm2 _ _ (s1 _ _ (sm1 _ _ h))), kpL neFL hF1, kpL neML hM1, kpL ne1L h11, kpL ne2L h12, kpL ne3L h13, hR7⟩
        · -- 1
          rcases hst with ⟨rs1, u6, rfl, sm1, hF1, hM1, h11, h12, h13, hR1⟩
          have hR1 : RowsAt H1 L rs1 ((rows.set i []).set (nodeOf rows (twin dp)) (swapR (rows.getD (nodeOf rows (twin dp)) []) (twin dp) [1000 + 2 * (dr / 2), 1000 + (2 * (dq / 2) + 1)])) := hR1
          walk_at "gs"
          refine g_newL (by show 3 ≤ 1000000; decide) fun l1 hl1 => ?_
          have s1 := up_same (o := .lst [.int dp, .int dq, .int dr]) hl1
          walk_at "gs"
          refine ⟨dq, rfl, ?_⟩
          walk_at "gs"
          refine g_ixL (SqL.of (s1 _ _ hM1)) rfl ?_
          walk_at "gs"
          refine ints_lcL (ns := [2 * (a : Int), 2 * (c : Int) + 1]) (fun z => 1000 + z) (SqL.of (s1 _ _ h12)) (by show 2 ≤ 100000; decide) (fun _ => rfl) ?_ ?_
          · intro j z H2 Q2 hz sm2 kk2
            walk_at "gs"
            exact kk2 _ (Same.refl _)
          · intro l2 H2 sm2 hl2 el2
            have e2 : ([2 * (a : Int), 2 * (c : Int) + 1].map fun z => 1000 + z) = [1000 + 2 * (dp / 2), 1000 + (2 * (dr / 2) + 1)] := by rw [ha, hc]; rfl
            rw [e2] at el2
            have hlt : nodeOf rows (twin dq) < rows.length := at_lt (tw dq mq)
            have hrow0 : rows[nodeOf rows (twin dq)]? = some (rows.getD (nodeOf rows (twin dq)) []) := by rw [List.getD_eq_getElem?_getD, List.getElem?_eq_getElem hlt]; rfl
            have hcur : ((rows.set i []).set (nodeOf rows (twin dp)) (swapR (rows.getD (nodeOf rows (twin dp)) []) (twin dp) [1000 + 2 * (dr / 2), 1000 + (2 * (dq / 2) + 1)]))[nodeOf rows (twin dq)]? = some (rows.getD (nodeOf rows (twin dq)) []) := by
              rw [List.getElem?_set_ne n1, List.getElem?_set_ne (Ne.symm n5)]
              exact hrow0
            refine ⟨L, nodeOf rows (twin dq), twin dq, l2, rs1, _, rows.getD (nodeOf rows (twin dq)) [], [1000 + 2 * (dp / 2), 1000 + (2 * (dr / 2) + 1)], rfl, hR1.same (s1.trans sm2), hcur, (in_row hW.nd hrow0 (tw dq mq)).mpr rfl, el2, ?_, by show 2 ≤ 1000; decide, fun r7 H7 k7 hr7 hR7 => ?_⟩
            · exact ⟨by simp only [List.length_set]; omega, bset b0 (sw _ _ _)⟩
            walk_at "gs"
            have kpL : ∀ {c : Addr} {o : HO}, c ≠ L → H1 c = some o → H7 c = some o := fun {c o} hc h => k7 c o hc (sm2 _ _ (s1 _ _ h))
            exact ⟨_, _, rfl, fun b o h => k7 b o (nL b o h) (sm2 _ _ (s1 _ _ (sm1 _ _ h))), kpL neFL hF1, kpL neML hM1, kpL ne1L h11, kpL ne2L h12, kpL ne3L h13, hR7⟩
        · -- 2
          rcases hst with ⟨rs1, u6, rfl, sm1, hF1, hM1, h11, h12, h13, hR1⟩
          have hR1 : RowsAt H1 L rs1 (((rows.set i []).set (nodeOf rows (twin dp)) (swapR (rows.getD (nodeOf rows (twin dp)) []) (twin dp) [1000 + 2 * (dr / 2), 1000 + (2 * (dq / 2) + 1)])).set (nodeOf rows (twin dq)) (swapR (rows.getD (nodeOf rows (twin dq)) []) (twin dq) [1000 + 2 * (dp / 2), 1000 + (2 * (dr / 2) + 1)])) := hR1
          walk_at "gs"
          refine g_newL (by show 3 ≤ 1000000; decide) fun l1 hl1 => ?_
          have s1 := up_same (o := .lst [.int dp, .int dq, .int dr]) hl1
          walk_at "gs"
          refine ⟨dr, rfl, ?_⟩
          walk_at "gs"
          refine g_ixL (SqL.of (s1 _ _ hM1)) rfl ?_
          walk_at "gs"
          refine ints_lcL (ns := [2 * (b : Int), 2 * (a : Int) + 1]) (fun z => 1000 + z) (SqL.of (s1 _ _ h13)) (by show 2 ≤ 100000; decide) (fun _ => rfl) ?_ ?_
          · intro j z H2 Q2 hz sm2 kk2
            walk_at "gs"
            exact kk2 _ (Same.refl _)
          · intro l2 H2 sm2 hl2 el2
            have e2 : ([2 * (b : Int), 2 * (a : Int) + 1].map fun z => 1000 + z) = [1000 + 2 * (dq / 2), 1000 + (2 * (dp / 2) + 1)] := by rw [hb, ha]; rfl
            rw [e2] at el2
            have hlt : nodeOf rows (twin dr) < rows.length := at_lt (tw dr mr)
            have hrow0 : rows[nodeOf rows (twin dr)]? = some (rows.getD (nodeOf rows (twin dr)) []) := by rw [List.getD_eq_getElem?_getD, List.getElem?_eq_getElem hlt]; rfl
            have hcur : (((rows.set i []).set (nodeOf rows (twin dp)) (swapR (rows.getD (nodeOf rows (twin dp)) []) (twin dp) [1000 + 2 * (dr / 2), 1000 + (2 * (dq / 2) + 1)])).set (nodeOf rows (twin dq)) (swapR (rows.getD (nodeOf rows (twin dq)) []) (twin dq) [1000 + 2 * (dp / 2), 1000 + (2 * (dr / 2) + 1)]))[nodeOf rows (twin dr)]? = some (rows.getD (nodeOf rows (twin dr)) []) := by
              rw [List.getElem?_set_ne n3, List.getElem?_set_ne n2, List.getElem?_set_ne (Ne.symm n6)]
              exact hrow0
            refine ⟨L, nodeOf rows (twin dr), twin dr, l2, rs1, _, rows.getD (nodeOf rows (twin dr)) [], [1000 + 2 * (dq / 2), 1000 + (2 * (dp / 2) + 1)], rfl, hR1.same (s1.trans sm2), hcur, (in_row hW.nd hrow0 (tw dr mr)).mpr rfl, el2, ?_, by show 2 ≤ 1000; decide, fun r7 H7 k7 hr7 hR7 => ?_⟩
            · exact ⟨by simp only [List.length_set]; omega, bset (bset b0 (sw _ _ _)) (sw _ _ _)⟩
            walk_at "gs"
            have kpL : ∀ {c : Addr} {o : HO}, c ≠ L → H1 c = some o → H7 c = some o := fun {c o} hc h => k7 c o hc (sm2 _ _ (s1 _ _ h))
            exact ⟨_, _, rfl, fun b o h => k7 b o (nL b o h) (sm2 _ _ (s1 _ _ (sm1 _ _ h))), kpL neFL hF1, kpL neML hM1, kpL ne1L h11, kpL ne2L h12, kpL ne3L h13, hR7⟩
      · rintro σ' H1 ⟨rs1, u6, rfl, sm1, _, _, _, _, _, hR1⟩
        walk_at "gs"
        exact ⟨rs1, u6, rfl, sm1, hR1⟩
    rintro σ' H11 ⟨rs11, u6, rfl, sm11, hR11⟩
    have hN11 := hN.same sm11
    have hrl : ((((rows.set i []).set (nodeOf rows (twin dp)) (swapR (rows.getD (nodeOf rows (twin dp)) []) (twin dp) [1000 + 2 * (dr / 2), 1000 + (2 * (dq / 2) + 1)])).set (nodeOf rows (twin dq)) (swapR (rows.getD (nodeOf rows (twin dq)) []) (twin dq) [1000 + 2 * (dp / 2), 1000 + (2 * (dr / 2) + 1)])).set (nodeOf rows (twin dr)) (swapR (rows.getD (nodeOf rows (twin dr)) []) (twin dr) [1000 + 2 * (dq / 2), 1000 + (2 * (dp / 2) + 1)])).length = rows.length := by simp only [List.length_set]
    have hreq := S.rows_eq hE (R0 := rows.set i []) (by rw [List.length_set]) (fun j hj => List.getElem?_set_ne (Ne.symm hj))
    dsimp only at hreq
    have rr : ∀ j, (((((rows.set i []).set (nodeOf rows (twin dp)) (swapR (rows.getD (nodeOf rows (twin dp)) []) (twin dp) [1000 + 2 * (dr / 2), 1000 + (2 * (dq / 2) + 1)])).set (nodeOf rows (twin dq)) (swapR (rows.getD (nodeOf rows (twin dq)) []) (twin dq) [1000 + 2 * (dp / 2), 1000 + (2 * (dr / 2) + 1)])).set (nodeOf rows (twin dr)) (swapR (rows.getD (nodeOf rows (twin dr)) []) (twin dr) [1000 + 2 * (dq / 2), 1000 + (2 * (dp / 2) + 1)])).getD j []).length ≤ 100000 := fun j => by
      rw [List.getD_eq_getElem?_getD]
      cases hj : ((((rows.set i []).set (nodeOf rows (twin dp)) (swapR (rows.getD (nodeOf rows (twin dp)) []) (twin dp) [1000 + 2 * (dr / 2), 1000 + (2 * (dq / 2) + 1)])).set (nodeOf rows (twin dq)) (swapR (rows.getD (nodeOf rows (twin dq)) []) (twin dq) [1000 + 2 * (dp / 2), 1000 + (2 * (dr / 2) + 1)])).set (nodeOf rows (twin dr)) (swapR (rows.getD (nodeOf rows (twin dr)) []) (twin dr) [1000 + 2 * (dq / 2), 1000 + (2 * (dp / 2) + 1)]))[j]? with
      | none => exact Nat.zero_le _
      | some row => have := bset (bset (bset b0 (sw dp _ _)) (sw dq _ _)) (sw dr _ _) row (List.mem_of_getElem? hj); show row.length ≤ _; omega
    generalize ((((rows.set i []).set (nodeOf rows (twin dp)) (swapR (rows.getD (nodeOf rows (twin dp)) []) (twin dp) [1000 + 2 * (dr / 2), 1000 + (2 * (dq / 2) + 1)])).set (nodeOf rows (twin dq)) (swapR (rows.getD (nodeOf rows (twin dq)) []) (twin dq) [1000 + 2 * (dp / 2), 1000 + (2 * (dr / 2) + 1)])).set (nodeOf rows (twin dr)) (swapR (rows.getD (nodeOf rows (twin dr)) []) (twin dr) [1000 + 2 * (dq / 2), 1000 + (2 * (dp / 2) + 1)])) = RR at hR11 hrl hreq rr
    have haa : as[a]? = some (as[a]'(by rw [hN.rats.len]; exact haq)) := List.getElem?_eq_getElem _
    have hbb : as[b]? = some (as[b]'(by rw [hN.rats.len]; exact hbq)) := List.getElem?_eq_getElem _
    have hcc : as[c]? = some (as[c]'(by rw [hN.rats.len]; exact hcq)) := List.getElem?_eq_getElem _
    obtain ⟨xa, hxa⟩ : ∃ x, x = (as[a]'(by rw [hN.rats.len]; exact haq)) := ⟨_, rfl⟩
    obtain ⟨xb, hxb⟩ : ∃ x, x = (as[b]'(by rw [hN.rats.len]; exact hbq)) := ⟨_, rfl⟩
    obtain ⟨xc, hxc⟩ : ∃ x, x = (as[c]'(by rw [hN.rats.len]; exact hcq)) := ⟨_, rfl⟩
    rw [← hxa] at haa
    rw [← hxb] at hbb
    rw [← hxc] at hcc
    have q1 : ∀ {k : Nat} {x : V}, k < qs.length → as[k]? = some x → RatV K H x (qs.getD k 0) ∧ 0 < qs.getD k 0 ∧ Bd 5 (qs.getD k 0) := fun {k x} hk hx => by
      have e : qs[k]? = some (qs.getD k 0) := by rw [List.getD_eq_getElem?_getD, List.getElem?_eq_getElem hk]; rfl
      have := hB _ (List.mem_of_getElem? e)
      exact ⟨hN.rats.at_ k x _ hx e, this.1, this.2⟩
    obtain ⟨ra, pa, ba⟩ := q1 haq haa
    obtain ⟨rb, pb, bb⟩ := q1 hbq hbb
    obtain ⟨rc, pc, bc⟩ := q1 hcq hcc
    rw [ha, hb, hc, Int.toNat_natCast, Int.toNat_natCast, Int.toNat_natCast] at hE1
    generalize hqa : qs.getD a 0 = qa at *
    generalize hqb : qs.getD b 0 = qb at *
    generalize hqc : qs.getD c 0 = qc at *
    have hsum : qa + qb + qc ≠ 0 := fun z => by grind
    -- whole
    refine g_cut (fun σ' H12 => ∃ w', σ' = [some (.ref p), some (.int ((i : Int) + 1)), some (.int dp), some (.int dq), some (.int dr), some (.ref L), u6, some (.ref F), some (.int (a : Int)), some (.int (b : Int)), some (.int (c : Int)), some (.ref M), some w', none, none, none, none, none, none, none] ∧ Same H11 H12 ∧ RatV K H12 w' (qa + qb + qc)) ?_ ?_
    · walk_at "gs"
      refine g_ixT hN11.top rfl ?_
      walk_at "gs"
      refine g_ixT hN11.ams (atI_nat haa) ?_
      walk_at "gs"
      refine g_ixT hN11.top rfl ?_
      walk_at "gs"
      refine g_ixT hN11.ams (atI_nat hbb) ?_
      walk_at "gs"
      refine ⟨xa, xb, qa, qb, 5, 5, rfl, ra.same sm11, rb.same sm11, ba, bb, by decide, fun v1 H12 s12 hv1 => ?_⟩
      walk_at "gs"
      refine g_ixT (hN11.same s12).top rfl ?_
      walk_at "gs"
      refine g_ixT (hN11.same s12).ams (atI_nat hcc) ?_
      walk_at "gs"
      refine ⟨v1, xc, qa + qb, qc, 11, 5, rfl, hv1, rc.same (sm11.trans s12), ba.add bb, bc, by decide, fun v2 H13 s13 hv2 => ?_⟩
      walk_at "gs"
      exact ⟨v2, rfl, s12.trans s13, hv2⟩
    rintro σ' H12 ⟨w', rfl, sm12, hw'⟩
    have bw : Bd 17 (qa + qb + qc) := (ba.add bb).add bc
    -- changed
    have hR12 := hR11.same sm12
    have hN12 := hN11.same sm12
    refine g_cut (fun σ' H13 => ∃ v13, σ' = [some (.ref p), some (.int ((i : Int) + 1)), some (.int dp), some (.int dq), some (.int dr), some (.ref L), u6, some (.ref F), some (.int (a : Int)), some (.int (b : Int)), some (.int (c : Int)), some (.ref M), some w', some v13, none, none, none, none, none, none] ∧ Same H12 H13 ∧ NetV K H13 v13 rim (RR.map fun row => row.map fun d => d % 1000) qs) ?_ ?_
    · walk_at "gs"
      refine g_ixT hN12.top rfl ?_
      walk_at "gs"
      refine rowsL_lc (fun row => row.map fun d => d % 1000) hR12 (by omega) (fun _ => rfl) ?_ ?_
      · intro j r2 H13 Q2 hj s13 er2 kk2
        have hlr : (RR.getD j []).length ≤ 100000 := rr j
        walk_at "gs"
        refine ints_lcL (fun d => d % 1000) (SqL.of er2) hlr (fun _ => rfl) ?_ ?_
        · intro jj d H14 Q3 hd s14 kk3
          walk_at "gs"
          rw [show d.fmod 1000 = d % 1000 from Int.fmod_eq_emod_of_nonneg _ (by decide)]
          exact kk3 _ (Same.refl _)
        · intro l2 H14 s14 hl2 el2
          walk_at "gs"
          refine g_tupleL (SqL.of el2) fun t2 ht2 => ?_
          exact kk2 t2 _ (s14.trans (up_same ht2)) (SqT.of upd_same)
      · intro l2 us H13 s13 hl2 el2 hT
        walk_at "gs"
        refine g_tupleL (SqL.of el2) fun q10 h10 => ?_
        have s10 := up_same (o := .tup (us.map V.ref)) h10
        walk_at "gs"
        refine g_ixT (hN12.same (s13.trans s10)).top rfl ?_
        walk_at "gs"
        refine g_newT (by show 3 ≤ 1000000; decide) fun q11 h11 => ?_
        have s11 := up_same (o := .tup [.int (rim : Int), .ref q10, .ref m]) h11
        have sA := s13.trans (s10.trans s11)
        walk_at "gs"
        exact ⟨_, rfl, sA, netV_of (SqT.of upd_same) (Same.sqt s11 (SqT.of upd_same)) (hT.same (s10.trans s11)) (hN12.same sA).ams (hN12.same sA).rats⟩
    rintro σ' H13 ⟨v13, rfl, sm13, hv13⟩
    -- the amounts
    refine g_cut (fun σ' H14 => ∃ v14 u14 u15 u16, σ' = [some (.ref p), some (.int ((i : Int) + 1)), some (.int dp), some (.int dq), some (.int dr), some (.ref L), u6, some (.ref F), some (.int (a : Int)), some (.int (b : Int)), some (.int (c : Int)), some (.ref M), some w', some v14, u14, u15, u16, none, none, none] ∧ Same H13 H14 ∧ NetV K H14 v14 rim (RR.map fun row => row.map fun d => d % 1000) (ovr3 a b c (qb * qc / (qa + qb + qc)) (qc * qa / (qa + qb + qc)) (qa * qb / (qa + qb + qc)) qs)) ?_ ?_
    · walk_at "gs"
      refine g_newT (by show 3 ≤ 1000000; decide) fun t1 ht1 => ?_
      have s1 := up_same (o := .tup [.int (a : Int), .int (b : Int), .int (c : Int)]) ht1
      walk_at "gs"
      refine g_newT (by show 3 ≤ 1000000; decide) fun t2 ht2 => ?_
      have s2 := up_same (o := .tup [.int (b : Int), .int (c : Int), .int (a : Int)]) ht2
      walk_at "gs"
      refine g_newT (by show 3 ≤ 1000000; decide) fun t3 ht3 => ?_
      have s3 := up_same (o := .tup [.int (c : Int), .int (a : Int), .int (b : Int)]) ht3
      walk_at "gs"
      refine g_newL (by show 3 ≤ 1000000; decide) fun l4 hl4 => ?_
      have s4 := up_same (o := .lst [.ref t1, .ref t2, .ref t3]) hl4
      have s14 := s1.trans (s2.trans (s3.trans s4))
      refine g_itL (SqL.of upd_same) (fun k σ' H' => ∃ v14 u14 u15 u16, σ' = [some (.ref p), some (.int ((i : Int) + 1)), some (.int dp), some (.int dq), some (.int dr), some (.ref L), u6, some (.ref F), some (.int (a : Int)), some (.int (b : Int)), some (.int (c : Int)), some (.ref M), some w', some v14, u14, u15, u16, none, none, none] ∧ Same H13 H' ∧ SqL K H' l4 [.ref t1, .ref t2, .ref t3] ∧ SqT K H' t1 [.int (a : Int), .int (b : Int), .int (c : Int)] ∧ SqT K H' t2 [.int (b : Int), .int (c : Int), .int (a : Int)] ∧ SqT K H' t3 [.int (c : Int), .int (a : Int), .int (b : Int)] ∧ NetV K H' v14 rim (RR.map fun row => row.map fun d => d % 1000) (match k with | 0 => qs | 1 => ovr (fun j => if j = a then some (qb * qc / (qa + qb + qc)) else none) qs | 2 => ovr (fun j => if j = b then some (qc * qa / (qa + qb + qc)) else none) (ovr (fun j => if j = a then some (qb * qc / (qa + qb + qc)) else none) qs) | _ => ovr (fun j => if j = c then some (qa * qb / (qa + qb + qc)) else none) (ovr (fun j => if j = b then some (qc * qa / (qa + qb + qc)) else none) (ovr (fun j => if j = a then some (qb * qc / (qa + qb + qc)) else none) qs))))
        ⟨v13, none, none, none, rfl, s14, SqL.of upd_same, Same.sqt (s2.trans (s3.trans s4)) (SqT.of upd_same), Same.sqt (s3.trans s4) (SqT.of upd_same), Same.sqt s4 (SqT.of upd_same), hv13.same s14⟩ (fun k σ' H' _ h => by obtain ⟨_, _, _, _, _, _, z, _⟩ := h; exact z) ?_ ?_
      · rintro k x σ' H1 hx ⟨v14, u14, u15, u16, rfl, sm1, hl41, ht11, ht21, ht31, hv14⟩
        have sX := sm11.trans (sm12.trans (sm13.trans sm1))
        have hNX := hN.same sX
        have hwX := hw'.same (sm13.trans sm1)
        have hk3 : k < 3 := (List.getElem?_eq_some_iff.mp hx).1
        obtain rfl | rfl | rfl : k = 0 ∨ k = 1 ∨ k = 2 := by omega
        · cases hx
          refine ⟨_, _, rfl, ht11, rfl, _, _, rfl, _, _, rfl, _, _, rfl, rfl, ?_⟩
          walk_at "gs"
          refine g_ixT hNX.top rfl ?_
          walk_at "gs"
          refine g_ixT hNX.ams (atI_nat hbb) ?_
          walk_at "gs"
          refine g_ixT hNX.top rfl ?_
          walk_at "gs"
          refine g_ixT hNX.ams (atI_nat hcc) ?_
          walk_at "gs"
          refine ⟨xb, xc, qb, qc, 5, 5, rfl, rb.same sX, rc.same sX, bb, bc, by decide, fun y1 H2 s2 hy1 => ?_⟩
          walk_at "gs"
          refine ⟨y1, w', qb * qc, qa + qb + qc, 10, 17, rfl, hy1, hwX.same s2, bb.mul bc, bw, by decide, hsum, fun y2 H3 s3 hy2 => ?_⟩
          walk_at "gs"
          have hv14 : NetV K H1 v14 rim (RR.map fun row => row.map fun d => d % 1000) qs := hv14
          refine ⟨v14, y2, a, rim, _, _, _, rfl, hv14.same (s2.trans s3), hy2, haq, by skip; omega, fun y3 H4 s4 hy3 => ?_⟩
          walk_at "gs"
          rw [← ovr_one haq] at hy3
          have sY := s2.trans (s3.trans s4)
          exact ⟨y3, _, _, _, rfl, sm1.trans sY, sY.seq hl41, Same.sqt sY ht11, Same.sqt sY ht21, Same.sqt sY ht31, hy3⟩
        · cases hx
          refine ⟨_, _, rfl, ht21, rfl, _, _, rfl, _, _, rfl, _, _, rfl, rfl, ?_⟩
          walk_at "gs"
          refine g_ixT hNX.top rfl ?_
          walk_at "gs"
          refine g_ixT hNX.ams (atI_nat hcc) ?_
          walk_at "gs"
          refine g_ixT hNX.top rfl ?_
          walk_at "gs"
          refine g_ixT hNX.ams (atI_nat haa) ?_
          walk_at "gs"
          refine ⟨xc, xa, qc, qa, 5, 5, rfl, rc.same sX, ra.same sX, bc, ba, by decide, fun y1 H2 s2 hy1 => ?_⟩
          walk_at "gs"
          refine ⟨y1, w', qc * qa, qa + qb + qc, 10, 17, rfl, hy1, hwX.same s2, bc.mul ba, bw, by decide, hsum, fun y2 H3 s3 hy2 => ?_⟩
          walk_at "gs"
          have hv14 : NetV K H1 v14 rim (RR.map fun row => row.map fun d => d % 1000) (ovr (fun j => if j = a then some (qb * qc / (qa + qb + qc)) else none) qs) := hv14
          refine ⟨v14, y2, b, rim, _, _, _, rfl, hv14.same (s2.trans s3), hy2, (by rw [ovr_len]; exact hbq), by rw [ovr_len]; omega, fun y3 H4 s4 hy3 => ?_⟩
          walk_at "gs"
          rw [← ovr_one (by rw [ovr_len]; exact hbq)] at hy3
          have sY := s2.trans (s3.trans s4)
          exact ⟨y3, _, _, _, rfl, sm1.trans sY, sY.seq hl41, Same.sqt sY ht11, Same.sqt sY ht21, Same.sqt sY ht31, hy3⟩
        · cases hx
          refine ⟨_, _, rfl, ht31, rfl, _, _, rfl, _, _, rfl, _, _, rfl, rfl, ?_⟩
          walk_at "gs"
          refine g_ixT hNX.top rfl ?_
          walk_at "gs"
          refine g_ixT hNX.ams (atI_nat haa) ?_
          walk_at "gs"
          refine g_ixT hNX.top rfl ?_
          walk_at "gs"
          refine g_ixT hNX.ams (atI_nat hbb) ?_
          walk_at "gs"
          refine ⟨xa, xb, qa, qb, 5, 5, rfl, ra.same sX, rb.same sX, ba, bb, by decide, fun y1 H2 s2 hy1 => ?_⟩
          walk_at "gs"
          refine ⟨y1, w', qa * qb, qa + qb + qc, 10, 17, rfl, hy1, hwX.same s2, ba.mul bb, bw, by decide, hsum, fun y2 H3 s3 hy2 => ?_⟩
          walk_at "gs"
          have hv14 : NetV K H1 v14 rim (RR.map fun row => row.map fun d => d % 1000) (ovr (fun j => if j = b then some (qc * qa / (qa + qb + qc)) else none) (ovr (fun j => if j = a then some (qb * qc / (qa + qb + qc)) else none) qs)) := hv14
          refine ⟨v14, y2, c, rim, _, _, _, rfl, hv14.same (s2.trans s3), hy2, (by rw [ovr_len, ovr_len]; exact hcq), by rw [ovr_len, ovr_len]; omega, fun y3 H4 s4 hy3 => ?_⟩
          walk_at "gs"
          rw [← ovr_one (by rw [ovr_len, ovr_len]; exact hcq)] at hy3
          have sY := s2.trans (s3.trans s4)
          exact ⟨y3, _, _, _, rfl, sm1.trans sY, sY.seq hl41, Same.sqt sY ht11, Same.sqt sY ht21, Same.sqt sY ht31, hy3⟩
      · rintro σ' H1 ⟨v14, u14, u15, u16, rfl, sm1, _, _, _, _, hv14⟩
        have hv14 : NetV K H1 v14 rim (RR.map fun row => row.map fun d => d % 1000) (ovr (fun j => if j = c then some (qa * qb / (qa + qb + qc)) else none) (ovr (fun j => if j = b then some (qc * qa / (qa + qb + qc)) else none) (ovr (fun j => if j = a then some (qb * qc / (qa + qb + qc)) else none) qs))) := hv14
        rw [ovr3_puts haq hbq hcq] at hv14
        walk_at "gs"
        exact ⟨v14, u14, u15, u16, rfl, sm1, hv14⟩
    rintro σ' H14 ⟨v14, u14, u15, u16, rfl, sm14, hv14⟩
    walk_at "gs"
    refine ⟨v14, i + 1, rim, _, _, rfl, hv14, by omega, by rw [List.length_map, hrl]; exact hi, by rw [List.length_map, hrl]; exact hl, fun v15 H15 sm15 hv15 => ?_⟩
    refine kk _ _ (sm11.trans (sm12.trans (sm13.trans (sm14.trans sm15)))) ?_
    rw [hE1]
    have hv15 : NetV K H15 v15 rim (((RR.map fun row => row.map fun d => d % 1000).take i ++ (RR.map fun row => row.map fun d => d % 1000).drop (i + 1))) _ := hv15
    rw [hreq] at hv15
    exact hv15
end

section
variable {P : Program} {w : World} {K : PySem.W.Frag} {mg : Str → Option Value} {base : Heap} {A : Ads}
theorem no_fn {k : Nat} {f : Addr} {fd : FuncData} {ps : List Str} : FnOk P w K mg base CX0 k f fd ps (fun _ _ _ _ => False) := fn_false fun _ _ _ _ h => h
theorem ok_l_after (T : Txt K mg A) : FnOk P w K mg base CX0 5 A.f_l_after A.fd_l_after ["net", "move"] (spAfter3 K afterT isStar) := by
  have G_l_after_loop : FnOk P w K mg base CX0 1 A.f_l_after_loop A.fd_l_after_loop ["net", "edge"] (fun _ _ _ _ => False) := no_fn
  have G_l_after_loose : FnOk P w K mg base CX0 1 A.f_l_after_loose A.fd_l_after_loose ["net", "edge"] (fun _ _ _ _ => False) := no_fn
  have G_l_after_number : FnOk P w K mg base CX0 1 A.f_l_after_number A.fd_l_after_number ["net"] (fun _ _ _ _ => False) := no_fn
  have G_l_after_parallel : FnOk P w K mg base CX0 1 A.f_l_after_parallel A.fd_l_after_parallel ["net", "edge", "gone"] (fun _ _ _ _ => False) := no_fn
  have G_l_after_series : FnOk P w K mg base CX0 1 A.f_l_after_series A.fd_l_after_series ["net", "node"] (fun _ _ _ _ => False) := no_fn
  have G_l_after_star := ok_l_after_star (P := P) (w := w) (base := base) T
  have G_l_after_triangle : FnOk P w K mg base CX0 1 A.f_l_after_triangle A.fd_l_after_triangle ["net", "dart"] (fun _ _ _ _ => False) := no_fn
  have nd := sc_l_after.nd
  refine T.F_l_after.ok sc_l_after (fun vs H Q E h => ?_) (fun cdv Ar outer s H vs Q E hr h => ?_)
  · obtain ⟨v, u, rim, rows, qs, En, mv, rfl, _⟩ := h
    rfl
  · obtain ⟨v, u, rim, rows, qs, En, mv, rfl, hv, ⟨up, rfl, hu⟩, hS, hW, hq, hE, hl, hrim, hr1, hB, k⟩ := h
    refine ⟨_, (pss_cons (ps_if (pt_cmpR op_eq (pe_ix (ix_tupK (K := K) rfl) (pv 1) pe_int (fun _ _ => rfl)) pe_str (nomark _)) (pss_one (ps_ret (pe_call (E := E0) G_l_after_number (hr.mono (by decide)) (by rfl) T.g_l_after_number T.F_l_after_number.kp T.b_l_after_number .nil pass0 (pa_cons (pv 0) pa_nil)))) pss_nil) (pss_cons (ps_if (pt_cmpR op_eq (pe_ix (ix_tupK (K := K) rfl) (pv 1) pe_int (fun _ _ => rfl)) pe_str (nomark _)) (pss_one (ps_ret (pe_call (E := E0) G_l_after_loop (hr.mono (by decide)) (by rfl) T.g_l_after_loop T.F_l_after_loop.kp T.b_l_after_loop .nil pass0 (pa_cons (pv 0) (pa_cons (pe_ix (ix_tupK (K := K) rfl) (pv 1) pe_int (fun _ _ => rfl)) pa_nil))))) pss_nil) (pss_cons (ps_if (pt_cmpR op_eq (pe_ix (ix_tupK (K := K) rfl) (pv 1) pe_int (fun _ _ => rfl)) pe_str (nomark _)) (pss_one (ps_ret (pe_call (E := E0) G_l_after_loose (hr.mono (by decide)) (by rfl) T.g_l_after_loose T.F_l_after_loose.kp T.b_l_after_loose .nil pass0 (pa_cons (pv 0) (pa_cons (pe_ix (ix_tupK (K := K) rfl) (pv 1) pe_int (fun _ _ => rfl)) pa_nil))))) pss_nil) (pss_cons (ps_if (pt_cmpR op_eq (pe_ix (ix_tupK (K := K) rfl) (pv 1) pe_int (fun _ _ => rfl)) pe_str (nomark _)) (pss_one (ps_ret (pe_call (E := E0) G_l_after_parallel (hr.mono (by decide)) (by rfl) T.g_l_after_parallel T.F_l_after_parallel.kp T.b_l_after_parallel .nil pass0 (pa_cons (pv 0) (pa_cons (pe_ix (ix_tupK (K := K) rfl) (pv 1) pe_int (fun _ _ => rfl)) (pa_cons (pe_ix (ix_tupK (K := K) rfl) (pv 1) pe_int (fun _ _ => rfl)) pa_nil)))))) pss_nil) (pss_cons (ps_if (pt_cmpR op_eq (pe_ix (ix_tupK (K := K) rfl) (pv 1) pe_int (fun _ _ => rfl)) pe_str (nomark _)) (pss_one (ps_ret (pe_call (E := E0) G_l_after_series (hr.mono (by decide)) (by rfl) T.g_l_after_series T.F_l_after_series.kp T.b_l_after_series .nil pass0 (pa_cons (pv 0) (pa_cons (pe_ix (ix_tupK (K := K) rfl) (pv 1) pe_int (fun _ _ => rfl)) pa_nil))))) pss_nil) (pss_cons (ps_if (pt_cmpR op_eq (pe_ix (ix_tupK (K := K) rfl) (pv 1) pe_int (fun _ _ => rfl)) pe_str (nomark _)) (pss_one (ps_ret (pe_call (E := E0) G_l_after_star (hr.mono (by decide)) (by rfl) T.g_l_after_star T.F_l_after_star.kp T.b_l_after_star .nil pass0 (pa_cons (pv 0) (pa_cons (pe_ix (ix_tupK (K := K) rfl) (pv 1) pe_int (fun _ _ => rfl)) pa_nil))))) pss_nil) (pss_one (ps_ret (pe_call (E := E0) G_l_after_triangle (hr.mono (by decide)) (by rfl) T.g_l_after_triangle T.F_l_after_triangle.kp T.b_l_after_triangle .nil pass0 (pa_cons (pv 0) (pa_cons (pe_ix (ix_tupK (K := K) rfl) (pv 1) pe_int (fun _ _ => rfl)) pa_nil))))))))))), ?_⟩
    obtain ⟨e, rfl⟩ := hS
    have hu1 : SqT K H up [.str "star", .int e] := hu
    walk_at "gs"
    refine if_f (by decide) ?_
    walk_at "gs"
    refine if_f (by decide) ?_
    walk_at "gs"
    refine if_f (by decide) ?_
    walk_at "gs"
    refine if_f (by decide) ?_
    walk_at "gs"
    refine if_f (by decide) ?_
    walk_at "gs"
    refine if_t (by decide) ?_
    walk_at "gs"
    exact ⟨v, e, rim, rows, qs, En, rfl, hv, hW, hq, hE, hl, hr1, hrim, hB, fun v' H' sm h => k v' H' sm h⟩
theorem ok_l_told (T : Txt K mg A) {k : Nat} {spF : Sp} (G_apply_move : FnOk P w K mg base (L2.CX P w) k A.f_apply_move A.fd_apply_move ["net", "move"] spF)
    (mono : ∀ vs H Q Q' E E', (∀ v H, Q v H → Q' v H) → (∀ c d H, E c d H → E' c d H) → spF vs H Q E → spF vs H Q' E') :
    FnOk P w K mg base CX0 (k + 1) A.f_l_told A.fd_l_told ["net", "move"] (spTolds K A.C_MoveError spF) := by
  have nd := sc_l_told.nd
  refine T.F_l_told.ok sc_l_told (fun vs H Q E h => ?_) (fun cdv Ar outer s H vs Q E hr h => ?_)
  · obtain ⟨x, y, rfl, _⟩ := h
    rfl
  · obtain ⟨x, y, rfl, h⟩ := h
    refine ⟨_, (pss_one (ps_try_as (i := 2) (Wout := fun _ _ _ _ => False) rfl rfl nd rfl rfl ⟨rfl, by decide, Or.inl T.g_MoveError⟩ takes0 (fun W pn xe tk _ => (pss_one (ps_ret (pe_tup (pa_cons pe_str (pa_cons (pe_callSD G_apply_move hr (by rfl) T.g_apply_move T.F_apply_move.kp T.b_apply_move .nil (fun σ => passAt tk σ) (pa_cons (pv 0) (pa_cons (pv 1) pa_nil))) pa_nil)))))) (fun a oe cls d pn hz hf => (pss_cons (ps_if (PW.pt (pw_and (pt_val (pe_callB (call_isEG hz hf) (by rfl) T.n_isinstance (by decide +kernel) (pa_cons (pv 2) (pa_cons (pe_glob (v := .ref A.C_RimError) (by rfl) T.g_RimError rfl) pa_nil)))) (pw_and1 (pt_val (pe_callB (call_isEG hz hf) (by rfl) T.n_isinstance (by decide +kernel) (pa_cons (pv 2) (pa_cons (pe_bltn (v := .ty "ValueError") (by rfl) T.n_ValueError (by decide +kernel) rfl) pa_nil))))))) (pss_one (ps_ret (pe_tup (pa_cons pe_str pa_nil)))) pss_nil) (pss_one (ps_ret (pe_tup (pa_cons pe_str pa_nil)))))))), ?_⟩
    walk_at "gs"
    refine g_callSD ?_
    walk_at "gs"
    refine mono _ _ _ _ _ _ (fun v H1 q => ?_) (fun c d H1 q => ?_) h
    · walk_at "gs"
      exact ⟨by show 2 ≤ sizeLine; decide, q⟩
    · obtain ⟨rfl, rfl, q⟩ := q
      refine ⟨true, T.e_MoveError_MoveError, fun _ a0 ha => ?_, fun z => nomatch z⟩
      have EC : ExcC K A.C_MoveError := ⟨T.hg_MoveError, T.hk_MoveError, T.bb_MoveError, T.d_MoveError, T.ha_MoveError, T.hn_, T.ht_, T.hm_MoveError⟩
      walk_at "gs"
      refine g_isE EC (fun u h => h) T.i_RimError_MoveError ?_
      walk_at "gs"
      refine if_t rfl ?_
      walk_at "gs"
      refine g_isE EC (fun u h => h) T.v_MoveError ?_
      walk_at "gs"
      refine if_t rfl ?_
      walk_at "gs"
      exact ⟨by show 1 ≤ sizeLine; decide, q⟩
end

section
variable {P : Program} {w : World} {K : PySem.W.Frag} {mg : Str → Option Value} {base : Heap} {A : Ads}
theorem mvName_in (mv : Mv) : inV (.str (mvName mv)) [.str "star"] = true → isStar mv := by
  cases mv with
  | star j => exact fun _ => ⟨j, rfl⟩
  | loop => exact fun h => absurd (show inV (.str "loop") [.str "star"] = true from h) (by decide)
  | loose => exact fun h => absurd (show inV (.str "loose") [.str "star"] = true from h) (by decide)
  | par => exact fun h => absurd (show inV (.str "parallel") [.str "star"] = true from h) (by decide)
  | series => exact fun h => absurd (show inV (.str "series") [.str "star"] = true from h) (by decide)
  | num => exact fun h => absurd (show inV (.str "number") [.str "star"] = true from h) (by decide)
  | tri => exact fun h => absurd (show inV (.str "triangle") [.str "star"] = true from h) (by decide)
theorem ok_law (T : Txt K mg A) (G_apply_move : FnOk P w K mg base (L2.CX P w) 6 A.f_apply_move A.fd_apply_move ["net", "move"] (spApply K A.C_MoveError afterT (fun mv => isStar mv ∧ mv.small) 10)) : FnOk P w K mg base CX0 8 A.f_law A.fd_law ["script"] (Rz.spLaw K) := by
  have G_l_net := ok_l_net (P := P) (w := w) (base := base) T
  have G_l_all_moves := ok_l_all_moves (P := P) (w := w) (base := base) T
  have G_l_after := ok_l_after (P := P) (w := w) (base := base) T
  have G_l_same := ok_l_same (P := P) (w := w) (base := base) T 6
  have G_l_told := ok_l_told (P := P) (w := w) (base := base) T G_apply_move mono_apply
  have nd := sc_law.nd
  refine T.F_law.ok sc_law (fun vs H Q E h => ?_) (fun cdv Ar outer s H vs Q E hr h => ?_)
  · obtain ⟨a, ns, rfl, _⟩ := h
    rfl
  · obtain ⟨a, ns, rfl, hns, hlen, k⟩ := h
    refine ⟨_, (pss_cutZ (ps_set (i := 1) nd rfl (Or.inl rfl) (pe_lst (pa_cons (pe_callTy (zc_listK (K := K) rfl) (by rfl) T.n_list (by decide +kernel) (pa_cons (pv 0) pa_nil)) (pa_cons pe_int (pa_cons pe_int (pa_cons pe_int pa_nil)))))) (pss_cutZ (ps_set (i := 2) nd rfl (Or.inl rfl) (pe_call (E := E0) G_l_net (hr.mono (by decide)) (by rfl) T.g_l_net T.F_l_net.kp T.b_l_net .nil pass0 (pa_cons (pv 1) (pa_cons pe_int (pa_cons pe_int pa_nil))))) (pss_cutZ (ps_for PassesOwn.never rfl (pi_listK (K := K) rfl (pe_call (E := E0) G_l_all_moves (hr.mono (by decide)) (by rfl) T.g_l_all_moves T.F_l_all_moves.kp T.b_l_all_moves .nil pass0 (pa_cons (pv 2) pa_nil))) (pg_name (i := 3) nd rfl (Or.inl rfl)) (pss_one (ps_if (pt_cmpR (op_inK (K := K) rfl) (pe_ix (ix_tupK (K := K) rfl) (pv 3) pe_int (fun _ _ => rfl)) (pe_lst (pa_cons pe_str pa_nil)) (by rfl)) (pss_cutZ (ps_set (i := 4) nd rfl (Or.inl rfl) (pe_call (E := E0) G_l_after (hr.mono (by decide)) (by rfl) T.g_l_after T.F_l_after.kp T.b_l_after .nil pass0 (pa_cons (pv 2) (pa_cons (pv 3) pa_nil)))) (pss_cutZ (ps_set (i := 5) nd rfl (Or.inl rfl) (pe_tup (pa_cons pe_str (pa_cons (pv 4) pa_nil)))) (pss_cutZ (ps_if (pt_cmpR zo_isN (pv 4) pe_non (nomark _)) (pss_one (ps_set (i := 5) nd rfl (Or.inl rfl) (pe_tup (pa_cons pe_str pa_nil)))) pss_nil) (pss_one (ps_if (pt_not (pt_val (pe_call (E := E0) G_l_same (hr.mono (by decide)) (by rfl) T.g_l_same T.F_l_same.kp T.b_l_same .nil pass0 (pa_cons (pe_call (E := E0) G_l_told (hr.mono (by decide)) (by rfl) T.g_l_told T.F_l_told.kp T.b_l_told .nil pass0 (pa_cons (pv 2) (pa_cons (pv 3) pa_nil))) (pa_cons (pv 5) pa_nil))))) (pss_one (ps_ret pe_bl)) pss_nil))))) pss_nil))) (pss_one (ps_ret pe_bl))))), ?_⟩
    -- state = [list(script), 0, 0, 0]
    refine g_cut (fun σ' H' => ∃ S c, σ' = [some (.ref a), some (.ref S), none, none, none, none] ∧ StAt H' S c) ?_ ?_
    · walk_at "gs"
      refine g_listL hns fun c hc => ?_
      walk_at "gs"
      refine g_newL (by show 4 ≤ 1000000; decide) fun S hS => ?_
      walk_at "gs"
      have ncS : c ≠ S := fun e => by
        rw [← e, upd_same] at hS
        cases hS
      exact ⟨S, c, rfl, ncS, 0, 0, 0, ns, upd_same, by rw [upd_ne ncS]; exact upd_same, by decide, by decide⟩
    rintro σ' H0 ⟨S, c, rfl, hS0⟩
    -- the net
    refine g_cut (fun σ' H' => ∃ v rim rows En qs, σ' = [some (.ref a), some (.ref S), some v, none, none, none] ∧ 1 ≤ rim ∧ rim ≤ 7 ∧ En ≤ 10 ∧ Built rim En rows ∧ qs.length = En ∧ (∀ q ∈ qs, 0 < q ∧ Bd 5 q) ∧ NetV K H' v rim rows qs) ?_ ?_
    · walk_at "gs"
      refine ⟨S, c, 7, 10, rfl, hS0, by decide, by decide, by decide, fun v H1 rim rows En qs h1 h2 h3 hB hq hqs hS1 k1 hv => ?_⟩
      walk_at "gs"
      exact ⟨v, rim, rows, En, qs, rfl, h1, h2, h3, hB, hq, hqs, hv⟩
    rintro σ' H1 ⟨v, rim, rows, En, qs, rfl, h1, h2, h3, hB, hq, hqs, hv⟩
    obtain ⟨hW, hrl, hrl2⟩ := hB.all (by omega)
    have hrow : ∀ row ∈ rows, row.length ≤ 20 := fun row hr => by
      have := (List.sublist_flatten_of_mem hr).length_le
      have := hW.len
      omega
    -- all moves
    refine g_cut (fun σ' H' => True) ?_ ?_
    · walk_at "gs"
      refine ⟨v, rim, rows, qs, rfl, hv, by omega, by omega, fun p us H2 sm2 ep hul hM => ?_⟩
      refine g_itL (SqL.of ep) (fun i σ' H' => ∃ u3 u4 u5, σ' = [some (.ref a), some (.ref S), some v, u3, u4, u5] ∧ Same H2 H') ⟨none, none, none, rfl, Same.refl _⟩ (fun i σ' H' _ h => by
        obtain ⟨_, _, _, _, sm⟩ := h
        exact sm.seq (SqL.of ep)) ?_ ?_
      · rintro i x σ' H3 hx ⟨u3, u4, u5, rfl, sm3⟩
        obtain ⟨mv, ⟨um, rfl, hm2⟩, hms⟩ := hM i x hx
        have hm := Same.sqt sm3 hm2
        walk_at "gs"
        refine g_ixT hm (mvName_at mv) ?_
        walk_at "gs"
        refine g_newL (by show 1 ≤ 1000000; decide) fun l hl => ?_
        refine ⟨l, _, rfl, .inl (SqL.of upd_same), rfl, rfl, ?_⟩
        by_cases hS : inV (.str (mvName mv)) [.str "star"] = true
        · refine ⟨_, rfl, if_t hS ?_⟩
          have hLL := mvName_in mv hS
          have sm4 := sm3.trans (up_same (o := .lst [.str "star"]) hl)
          have hm4 := Same.sqt (up_same (o := .lst [.str "star"]) hl) hm
          have hv4 := hv.same (sm2.trans sm4)
          refine g_cut (fun σ' H' => ∃ r, σ' = [some (.ref a), some (.ref S), some v, some (.ref um), some r, u5] ∧ Same H2 H' ∧ ResV K H' r rim (afterT rim rows qs mv)) ?_ ?_
          · walk_at "gs"
            refine ⟨v, .ref um, rim, rows, qs, En, mv, rfl, hv4, ⟨um, rfl, hm4⟩, hLL, hW, hq, by omega, by omega, hrl, h1, hqs, fun r H5 sm5 hr5 => ?_⟩
            walk_at "gs"
            exact ⟨r, rfl, sm4.trans sm5, hr5⟩
          rintro σ' H5 ⟨r, rfl, sm5, hr5⟩
          refine g_cut (fun σ' H' => ∃ d, σ' = [some (.ref a), some (.ref S), some v, some (.ref um), some r, some (.ref d)] ∧ Same H5 H' ∧ SqT K H' d [.str "told", r]) ?_ ?_
          · walk_at "gs"
            refine g_newT (by show 2 ≤ 1000000; decide) fun d hd => ?_
            walk_at "gs"
            exact ⟨d, rfl, up_same hd, SqT.of upd_same⟩
          rintro σ' H6 ⟨d, rfl, sm6, hd6⟩
          refine g_cut (fun σ' H' => ∃ d, σ' = [some (.ref a), some (.ref S), some v, some (.ref um), some r, some (.ref d)] ∧ Same H5 H' ∧ SqT K H' d (match afterT rim rows qs mv with | none => [.str "refused"] | some _ => [.str "told", r])) ?_ ?_
          · walk_at "gs"
            cases hA : afterT rim rows qs mv with
            | none =>
              rw [hA] at hr5
              obtain rfl : r = .non := hr5
              refine if_t (by decide) ?_
              walk_at "gs"
              refine g_newT (by show 1 ≤ 1000000; decide) fun d hd => ?_
              walk_at "gs"
              exact ⟨d, rfl, sm6.trans (up_same hd), SqT.of upd_same⟩
            | some r' =>
              rw [hA] at hr5
              have hn : r ≠ .non := fun e => by
                subst e
                obtain ⟨_, _, _, _, _, e, _⟩ := hr5
                cases e
              refine if_f (decide_eq_false hn) ?_
              walk_at "gs"
              exact ⟨d, rfl, sm6, hd6⟩
          rintro σ' H7 ⟨d7, rfl, sm7, hd7⟩
          walk_at "gs"
          have sm27 := sm5.trans sm7
          have hv7 := hv.same (sm2.trans sm27)
          have hm7 := Same.sqt sm27 hm2
          refine ⟨v, .ref um, rfl, v, .ref um, rim, rows, qs, En, mv, rfl, hv7, ⟨um, rfl, hm7⟩, ⟨hLL, hms⟩, h1, h2, hB, hq, h3, hqs, fun hN H8 sm8 => ⟨rfl, rfl, fun z hz => ?_⟩, fun r' hR v' H8 sm8 hv8 z hz => ?_⟩
          · have s9 := up_same (o := .tup [.str "refused"]) hz
            rw [hN] at hd7
            walk_at "gs"
            refine ⟨.ref z, .ref d7, rfl, .tup (SqT.of upd_same) (Same.sqt (sm8.trans s9) hd7) rfl (by show 1 < 1000000; decide) (fun i x y e1 e2 => ?_), fun H9 sm9 => ?_⟩
            · match i, e1, e2 with
              | 0, e1, e2 =>
                cases e1
                cases e2
                exact .sc rfl
              | i + 1, e1, e2 => simp at e1
            · refine ⟨_, rfl, if_f rfl ?_⟩
              walk_at "gs"
              exact ⟨_, _, _, rfl, sm27.trans (sm8.trans (s9.trans sm9))⟩
          · have s9 := up_same (o := .tup [.str "told", v']) hz
            obtain ⟨b1, b2, b3⟩ := afterT_small hR hrow
            rw [hR] at hd7 hr5
            have hr9 : NetV K (upd H8 z (.tup [.str "told", v'])) r rim r'.1 r'.2 := hr5.same (sm7.trans (sm8.trans s9))
            walk_at "gs"
            refine ⟨.ref z, .ref d7, rfl, .tup (SqT.of upd_same) (Same.sqt (sm8.trans s9) hd7) rfl (by show 2 < 1000000; decide) (fun i x y e1 e2 => ?_), fun H9 sm9 => ?_⟩
            · match i, e1, e2 with
              | 0, e1, e2 =>
                cases e1
                cases e2
                exact .sc rfl
              | 1, e1, e2 =>
                cases e1
                cases e2
                exact Eqv.net (n := 1) (hv8.same s9) hr9 (by omega) (fun row h => by have := b2 row h; omega) (by omega)
              | i + 2, e1, e2 => simp at e1
            · refine ⟨_, rfl, if_f rfl ?_⟩
              walk_at "gs"
              exact ⟨_, _, _, rfl, sm27.trans (sm8.trans (s9.trans sm9))⟩
        · refine ⟨_, rfl, if_f (Bool.eq_false_iff.mpr hS) ?_⟩
          walk_at "gs"
          exact ⟨_, _, _, rfl, sm3.trans (up_same hl)⟩
      · rintro σ' H3 ⟨u3, u4, u5, rfl, sm3⟩
        trivial
    rintro σ' H3 -
    walk_at "gs"
    exact k _
end

section
variable {P : Program} {w : World} {K : PySem.W.Frag} {mg : Str → Option Value} {base : Heap} {A : Ads}
theorem ok_other_dart (T : Txt K mg A) : FnOk P w K mg base CX0 1 A.f_other_dart A.fd_other_dart ["dart"] spOther := by
  have nd := sc_other_dart.nd
  refine T.F_other_dart.ok sc_other_dart (fun vs H Q E h => ?_) (fun cdv Ar outer s H vs Q E hr h => ?_)
  · obtain ⟨d, rfl, _⟩ := h
    rfl
  · obtain ⟨d, rfl, hd, k⟩ := h
    refine ⟨_, (pss_one (ps_ret (pe_op op_xor (pv 0) pe_int))), ?_⟩
    walk_at "gs"
    rw [xor_twin hd]
    exact k
end

section
variable {P : Program} {w : World} {K : PySem.W.Frag} {mg : Str → Option Value} {base : Heap} {A : Ads}
theorem ok_ratio (T : Txt K mg A) : FnOk P w K mg base (L2.CX P w) 1 A.f_ratio A.fd_ratio ["top", "bottom"] (spRatio K A.C_RatioError) := by
  have nd := sc_ratio.nd
  refine T.F_ratio.okX sc_ratio (fun vs H Q E h => ?_) (fun cdv Ar outer s H vs Q E hr h => ?_)
  · obtain ⟨a, b, rfl, _⟩ := h
    rfl
  · obtain ⟨a, b, rfl, hsz, k0, k1⟩ := h
    refine ⟨_, (pss_cons (ps_if (pt_cmpR op_eq (pv 1) pe_int (nomark _)) (pss_one (ps_raise rfl (takes_of rfl rfl rfl rfl) (pmk_own PySem.F.excBase_ValueError T.x_RatioError T.g_RatioError T.k_RatioError (raises_own T.bb_RatioError T.t_RatioError) (by exact rfl)))) pss_nil) (pss_cons (ps_set (i := 2) nd rfl (Or.inl rfl) (pe_callBfun cr_gcd (by rfl) T.g_gcd (pa_cons (pv 0) (pa_cons (pv 1) pa_nil)))) (pss_cutZ (ps_if (pt_cmpR op_lt (pv 1) pe_int (nomark _)) (pss_one (ps_set (i := 2) nd rfl (Or.inl rfl) (pe_un un_neg (pv 2)))) pss_nil) (pss_one (ps_ret (pe_tup (pa_cons (pe_op op_fdivZ (pv 0) (pv 2)) (pa_cons (pe_op op_fdivZ (pv 1) (pv 2)) pa_nil)))))))), ?_⟩
    walk_at "gs"
    refine if_2 (fun e => ?_) (fun e => ?_)
    · exact k0 (V.int.inj (of_decide_eq_true e))
    · have hb : b ≠ 0 := fun z => by
        rw [z] at e
        cases e
      walk_at "gs"
      refine ⟨_, _, rfl, ?_⟩
      walk_at "gs"
      refine g_cut (fun σ' H' => σ' = [some (.int a), some (.int b), some (.int (comI a b))] ∧ H' = H) ?_ ?_
      · walk_at "gs"
        refine if_2 (fun e => ?_) (fun e => ?_)
        · walk_at "gs"
          refine ⟨?_, rfl⟩
          have := of_decide_eq_true e
          unfold comI
          rw [if_pos this]
          rfl
        · walk_at "gs"
          refine ⟨?_, rfl⟩
          have := of_decide_eq_false e
          unfold comI
          rw [if_neg this]
          rfl
      · rintro σ' H' ⟨rfl, rfl⟩
        have hc : ∀ x, CDivZ x (comI a b) := fun x => ⟨comI_ne hb, by
          rw [comI_abs]
          exact Nat.lt_of_le_of_lt (gcdI_le hb) hsz⟩
        walk_at "gs"
        refine g_I (hc _) ?_
        walk_at "gs"
        refine g_I (hc _) ?_
        walk_at "gs"
        rw [fdiv_num hb, fdiv_den hb]
        refine g_newT (by show 2 ≤ 1000000; decide) fun p hp => ?_
        exact k1 hb _ _ (up_same hp) RatV.new
theorem ok_plus (T : Txt K mg A) : FnOk P w K mg base CX0 2 A.f_plus A.fd_plus ["left", "right"] (spBin K (fun p q => p + q)) := by
  have G_ratio := ok_ratio (P := P) (w := w) (base := base) T
  have nd := sc_plus.nd
  refine T.F_plus.ok sc_plus (fun vs H Q E h => ?_) (fun cdv Ar outer s H vs Q E hr h => ?_)
  · obtain ⟨x, y, p, q, n, m, rfl, _⟩ := h
    rfl
  · obtain ⟨x, y, p, q, n, m, rfl, ⟨px, rfl, hx⟩, ⟨py, rfl, hy⟩, bp, bq, hnm, k⟩ := h
    refine ⟨_, (pss_one (ps_ret (pe_call (E := E0) G_ratio (hr.mono (by decide)) (by rfl) T.g_ratio T.F_ratio.kp T.b_ratio .nil passL (pa_cons (pe_op op_add (pe_op op_mulB (pe_ix (ix_tupK (K := K) rfl) (pv 0) pe_int (fun _ _ => rfl)) (pe_ix (ix_tupK (K := K) rfl) (pv 1) pe_int (fun _ _ => rfl))) (pe_op op_mulB (pe_ix (ix_tupK (K := K) rfl) (pv 1) pe_int (fun _ _ => rfl)) (pe_ix (ix_tupK (K := K) rfl) (pv 0) pe_int (fun _ _ => rfl)))) (pa_cons (pe_op op_mulB (pe_ix (ix_tupK (K := K) rfl) (pv 0) pe_int (fun _ _ => rfl)) (pe_ix (ix_tupK (K := K) rfl) (pv 1) pe_int (fun _ _ => rfl))) pa_nil))))), ?_⟩
    have m0 : CMulB p.num (q.den : Int) := mulB_of (a := n) (b := m) bp.1 bq.2 (by omega)
    have m1 : CMulB q.num (p.den : Int) := mulB_of (a := m) (b := n) bq.1 bp.2 (by omega)
    have m2 : CMulB (p.den : Int) (q.den : Int) := mulB_of (a := n) (b := m) bp.2 bq.2 (by omega)
    walk_at "gs"
    refine ⟨_, _, rfl, lt9000 (n := n + m) (abs_mul_lt (x := (p.den : Int)) (y := (q.den : Int)) bp.2 bq.2) (by omega), fun z => absurd z (den_mul_ne p q), fun _ v H' sm hv => ?_⟩
    rw [rat_plus] at hv
    exact k v H' sm hv
end

section
variable {P : Program} {w : World} {K : PySem.W.Frag} {mg : Str → Option Value} {base : Heap} {A : Ads}
theorem ok_times (T : Txt K mg A) : FnOk P w K mg base CX0 2 A.f_times A.fd_times ["left", "right"] (spBin K (fun p q => p * q)) := by
  have G_ratio := ok_ratio (P := P) (w := w) (base := base) T
  have nd := sc_times.nd
  refine T.F_times.ok sc_times (fun vs H Q E h => ?_) (fun cdv Ar outer s H vs Q E hr h => ?_)
  · obtain ⟨x, y, p, q, n, m, rfl, _⟩ := h
    rfl
  · obtain ⟨x, y, p, q, n, m, rfl, ⟨px, rfl, hx⟩, ⟨py, rfl, hy⟩, bp, bq, hnm, k⟩ := h
    refine ⟨_, (pss_one (ps_ret (pe_call (E := E0) G_ratio (hr.mono (by decide)) (by rfl) T.g_ratio T.F_ratio.kp T.b_ratio .nil passL (pa_cons (pe_op op_mulB (pe_ix (ix_tupK (K := K) rfl) (pv 0) pe_int (fun _ _ => rfl)) (pe_ix (ix_tupK (K := K) rfl) (pv 1) pe_int (fun _ _ => rfl))) (pa_cons (pe_op op_mulB (pe_ix (ix_tupK (K := K) rfl) (pv 0) pe_int (fun _ _ => rfl)) (pe_ix (ix_tupK (K := K) rfl) (pv 1) pe_int (fun _ _ => rfl))) pa_nil))))), ?_⟩
    have m0 : CMulB p.num q.num := mulB_of (a := n) (b := m) bp.1 bq.1 (by omega)
    have m1 : CMulB (p.den : Int) (q.den : Int) := mulB_of (a := n) (b := m) bp.2 bq.2 (by omega)
    walk_at "gs"
    refine ⟨_, _, rfl, lt9000 (n := n + m) (abs_mul_lt (x := (p.den : Int)) (y := (q.den : Int)) bp.2 bq.2) (by omega), fun z => absurd z (den_mul_ne p q), fun _ v H' sm hv => ?_⟩
    rw [rat_times] at hv
    exact k v H' sm hv
end

section
variable {P : Program} {w : World} {K : PySem.W.Frag} {mg : Str → Option Value} {base : Heap} {A : Ads}
theorem ok_over (T : Txt K mg A) : FnOk P w K mg base (L2.CX P w) 2 A.f_over A.fd_over ["left", "right"] (spOver K A.C_RatioError) := by
  have G_ratio := ok_ratio (P := P) (w := w) (base := base) T
  have nd := sc_over.nd
  refine T.F_over.okX sc_over (fun vs H Q E h => ?_) (fun cdv Ar outer s H vs Q E hr h => ?_)
  · obtain ⟨x, y, p, q, n, m, rfl, _⟩ := h
    rfl
  · obtain ⟨x, y, p, q, n, m, rfl, ⟨px, rfl, hx⟩, ⟨py, rfl, hy⟩, bp, bq, hnm, k0, k1⟩ := h
    refine ⟨_, (pss_one (ps_ret (pe_call (E := E) G_ratio (hr.mono (by decide)) (by rfl) T.g_ratio T.F_ratio.kp T.b_ratio .nil (passes_call (takes_of rfl rfl rfl rfl) (fun _ _ _ _ h => h)) (pa_cons (pe_op op_mulB (pe_ix (ix_tupK (K := K) rfl) (pv 0) pe_int (fun _ _ => rfl)) (pe_ix (ix_tupK (K := K) rfl) (pv 1) pe_int (fun _ _ => rfl))) (pa_cons (pe_op op_mulB (pe_ix (ix_tupK (K := K) rfl) (pv 0) pe_int (fun _ _ => rfl)) (pe_ix (ix_tupK (K := K) rfl) (pv 1) pe_int (fun _ _ => rfl))) pa_nil))))), ?_⟩
    have m0 : CMulB p.num (q.den : Int) := mulB_of (a := n) (b := m) bp.1 bq.2 (by omega)
    have m1 : CMulB (p.den : Int) q.num := mulB_of (a := n) (b := m) bp.2 bq.1 (by omega)
    walk_at "gs"
    refine ⟨_, _, rfl, lt9000 (n := n + m) (abs_mul_lt (x := (p.den : Int)) (y := q.num) bp.2 bq.1) (by omega), fun z => ?_, fun z v H' sm hv => ?_⟩
    · refine k0 ?_
      rcases Int.mul_eq_zero.mp z with z | z
      · have := den_pos p
        omega
      · exact Rat.num_eq_zero.mp z
    · rw [rat_over] at hv
      refine k1 (fun z2 => z ?_) v H' sm hv
      rw [z2]
      exact Int.mul_zero _
end

section
variable {P : Program} {w : World} {K : PySem.W.Frag} {mg : Str → Option Value} {base : Heap} {A : Ads}
theorem ok_total (T : Txt K mg A) : FnOk P w K mg base CX0 3 A.f_total A.fd_total ["values"] (spTotal K) := by
  have G_plus := ok_plus (P := P) (w := w) (base := base) T
  have nd := sc_total.nd
  refine T.F_total.ok sc_total (fun vs H Q E h => ?_) (fun cdv Ar outer s H vs Q E hr h => ?_)
  · obtain ⟨a, xs, qs, n, rfl, _⟩ := h
    rfl
  · obtain ⟨a, xs, qs, n, rfl, hxs, hl, hr', hb, hsz, k⟩ := h
    refine ⟨_, (pss_cons (ps_set (i := 1) nd rfl (Or.inl rfl) (pe_glob (v := .ref A.z_ZERO) (by rfl) T.c_ZERO rfl)) (pss_cons (ps_for PassesOwn.never rfl (pi_listK (K := K) rfl (pv 0)) (pg_name (i := 2) nd rfl (Or.inl rfl)) (pss_one (ps_set (i := 1) nd rfl (Or.inl rfl) (pe_call (E := E0) G_plus (hr.mono (by decide)) (by rfl) T.g_plus T.F_plus.kp T.b_plus .nil pass0 (pa_cons (pv 1) (pa_cons (pv 2) pa_nil)))))) (pss_one (ps_ret (pv 1))))), ?_⟩
    walk_at "gs"
    refine g_itL hxs (fun i σ' H' => ∃ v u, σ' = [some (.ref a), some v, u] ∧ Same H H' ∧ RatV K H' v (sumR (qs.take i))) ⟨.ref A.z_ZERO, none, rfl, Same.refl _, A.z_ZERO, rfl, T.q_ZERO H⟩ (fun i σ' H' _ ⟨v, u, _, sm, _⟩ => sm.seq hxs) ?_ ?_
    · rintro i x σ' H' hi ⟨v, u, rfl, sm, hv⟩
      have hlt : i < qs.length := by
        have := (List.getElem?_eq_some_iff.mp hi).1
        omega
      have hq : qs[i]? = some qs[i] := List.getElem?_eq_getElem hlt
      walk_at "gs"
      refine ⟨v, x, sumR (qs.take i), qs[i], 1 + qs.length * (n + 1), n, rfl, hv, (hr' i x _ hi hq).same sm, ?_, hb _ (List.getElem_mem hlt), hsz, fun w H2 sm2 hw => ?_⟩
      · refine (sumR_bd (qs.take i) fun q hq => hb q (List.mem_of_mem_take hq)).mono ?_
        have : (qs.take i).length ≤ qs.length := by
          rw [List.length_take]
          omega
        have := Nat.mul_le_mul_right (n + 1) this
        omega
      · walk_at "gs"
        refine ⟨w, some x, rfl, sm.trans sm2, ?_⟩
        rw [sumR_take hq]
        exact hw
    · rintro σ' H' ⟨v, u, rfl, sm, hv⟩
      walk_at "gs"
      rw [hl, List.take_length] at hv
      exact k v H' sm hv
end

section
variable {P : Program} {w : World} {K : PySem.W.Frag} {mg : Str → Option Value} {base : Heap} {A : Ads}
theorem ok_homes_of (T : Txt K mg A) : FnOk P w K mg base CX0 1 A.f_homes_of A.fd_homes_of ["net"] (spHomes K) := by
  have nd := sc_homes_of.nd
  refine T.F_homes_of.ok sc_homes_of (fun vs H Q E h => ?_) (fun cdv Ar outer s H vs Q E hr h => ?_)
  · obtain ⟨v, rim, rows, qs, En, rfl, _⟩ := h
    rfl
  · obtain ⟨v, rim, rows, qs, En, rfl, ⟨p, t, m, ts, as, rfl, hN⟩, hW, hE, hl, k⟩ := h
    refine ⟨_, (pss_one (ps_ret (pe_dc2 (own := [("node", 1), ("turn", 2), ("dart", 3)]) (fs1 := [3]) rfl nd (pi_enumTk (K := K) rfl (by rfl) T.n_enumerate (pa_cons (pe_ix (ix_tupK (K := K) rfl) (pv 0) pe_int (fun _ _ => rfl)) pa_nil) (pk_cons pe_int pk_nil)) (blkOk_by (N := ["net", "node", "turn", "dart"]) (sc := defScope s_homes_of) (by decide +kernel)) (by decide) (fun _ _ _ _ _ => (pg_tupK (K := K) (n := 2) rfl rfl (pgs_cons (pg_name (i := 1) nd rfl (by first | exact Or.inl rfl | exact Or.inr rfl)) (pgs_cons (pg_name (i := 2) nd rfl (by first | exact Or.inl rfl | exact Or.inr rfl)) pgs_nil)))) (fun _ _ _ _ _ => (pi_tupK (K := K) rfl (pv 2))) (fun _ _ _ _ _ => (pg_name (i := 3) nd rfl (by first | exact Or.inl rfl | exact Or.inr rfl))) (fun _ _ _ _ _ => (pv 3)) (fun _ _ _ _ _ => (pv 1))))), ?_⟩
    walk_at "gs"
    refine g_dc2E ?_
    walk_at "gs"
    refine g_ixT hN.top rfl ?_
    walk_at "gs"
    refine g_enTk (by decide) (by decide) ?_
    refine out_enum hN.turns (fun D i H' => Same H H' ∧ ∃ kvs, H' D = some (.dK kvs) ∧ kvs.length ≤ i * 200 ∧ Home kvs rows fun q => q.1 < i) ?_ ?_ ?_ ?_
    · exact fun D hD => ⟨up_same hD, [], upd_same, by simp, fun y hy hp => absurd hp (Nat.not_lt_zero _)⟩
    · exact fun D i H' _ h => Same.sqt h.1 hN.turns
    · rintro D i x T' H1 hD hx ⟨sm, kvs, eD, hlen, ha⟩ hT
      have sT := up_same (H := H1) (o := .tup [.int (1 + (i : Int)), x]) hT
      obtain ⟨r, rfl, hrow, hr1⟩ := (hN.tns.same (sm.trans sT)).get hx
      have hil := (List.getElem?_eq_some_iff.mp hrow).1
      have hrl : (rows.getD i []).length ≤ 200 := by
        have := hW.row (n := i)
        omega
      refine ⟨T', _, rfl, SqT.of upd_same, rfl, _, _, rfl, _, _, rfl, rfl, rfl, g_inT ?_⟩
      walk_at "gs"
      refine in_tup hr1 (fun j H' => SqT K H' r ((rows.getD i []).map V.int) ∧ Same H H' ∧ ∃ kvs, H' D = some (.dK kvs) ∧ kvs.length ≤ i * 200 + j ∧ Home kvs rows fun q => q.1 < i ∨ q.1 = i ∧ q.2 < j) ⟨hr1, sm.trans sT, kvs, sT _ _ eD, hlen, fun y hy hp => ha y hy (by
        rcases hp with hp | hp
        · exact hp
        · exact absurd hp.2 (Nat.not_lt_zero _))⟩ (fun j H' h => h.1) ?_ ?_
      · rintro j x H2 hx2 ⟨hr2, sm2, kvs2, eD2, hl2, ha2⟩
        obtain ⟨d, hd, rfl⟩ := int_at hx2
        have hjl := (List.getElem?_eq_some_iff.mp hd).1
        refine ⟨rfl, g_put ?_⟩
        walk_at "gs"
        rw [show (1 : Int) + (i : Int) = (i : Int) + 1 by omega]
        refine putN_int eD2 (by omega) ⟨sqt_updD eD2 hr2, fun b o e => ?_, _, upd_same, ?_, ha2.put hW.nd hrow hd⟩
        · rw [upd_ne (ne_of_none e hD)]
          exact sm2 _ _ e
        · have := length_putK kvs2 (.inl d) (.int ((i : Int) + 1))
          omega
      · rintro H2 ⟨hr2, sm2, kvs2, eD2, hl2, ha2⟩
        rw [List.length_map] at hl2 ha2
        exact ⟨sm2, kvs2, eD2, by omega, ha2.row hrow⟩
    · rintro D H1 hD ⟨sm, kvs, eD, hlen, ha⟩
      rw [List.length_map, hN.len] at hlen ha
      exact k D kvs H1 sm hD eD (fun d hm _ => ha d hm (at_lt hm)) (by omega)
end

section
variable {P : Program} {w : World} {K : PySem.W.Frag} {mg : Str → Option Value} {base : Heap} {A : Ads}
theorem ok_without_node (T : Txt K mg A) : FnOk P w K mg base CX0 1 A.f_without_node A.fd_without_node ["net", "node"] (spLDropN K) := by
  have nd := sc_without_node.nd
  refine T.F_without_node.ok sc_without_node (fun vs H Q E h => ?_) (fun cdv Ar outer s H vs Q E hr h => ?_)
  · obtain ⟨v, n, rim, rows, qs, rfl, _⟩ := h
    rfl
  · obtain ⟨v, n, rim, rows, qs, rfl, ⟨p, t, m, ts, as, rfl, hN⟩, hn1, hn2, hl, k⟩ := h
    refine ⟨_, (pss_cons (ps_asg (pv 0) (pg_tupK (K := K) rfl rfl (pgs_cons (pg_name (i := 2) nd rfl (Or.inl rfl)) (pgs_cons (pg_name (i := 3) nd rfl (Or.inl rfl)) (pgs_cons (pg_name (i := 4) nd rfl (Or.inl rfl)) pgs_nil))))) (pss_one (ps_ret (pe_tup (pa_cons (pv 2) (pa_cons (pe_op (op_catAK (K := K) rfl) (pe_slice (sl_tupAK (K := K) rfl) (pv 3) po_none (po_some (pe_op op_sub (pv 1) pe_int))) (pe_slice (sl_tupAK (K := K) rfl) (pv 3) (po_some (pv 1)) po_none)) (pa_cons (pv 4) pa_nil))))))), ?_⟩
    walk_at "gs"
    refine ⟨p, _, rfl, hN.top, rfl, _, _, rfl, _, _, rfl, _, _, rfl, rfl, ?_⟩
    walk_at "gs"
    refine g_slice ?_
    walk_at "gs"
    refine g_pNo (g_pYes ?_)
    walk_at "gs"
    refine ⟨_, rfl, g_slA2 hN.turns fun a1 H3 s3 ha1 => ?_⟩
    refine g_slice ?_
    walk_at "gs"
    refine g_pYes ?_
    walk_at "gs"
    refine ⟨_, rfl, g_pNo (g_slA2 (hN.same s3).turns fun a2 H4 s4 ha2 => ?_)⟩
    have htl : (ts.map V.ref).length = rows.length := by rw [List.length_map, hN.len]
    rw [show (n : Int) - 1 = ((n - 1 : Nat) : Int) by omega, cutV_to (by omega), ← List.map_take] at ha1
    rw [cutV_from (by omega), ← List.map_drop] at ha2
    refine g_catA (Same.sqt s4 ha1) ha2 (by rw [List.length_map, List.length_map, List.length_take, List.length_drop]; have := hN.len; omega) fun a3 H5 s5 ha3 => ?_
    have sA := s3.trans (s4.trans s5)
    walk_at "gs"
    refine g_newT (by show 3 ≤ 1000000; decide) fun pp hpp => ?_
    have s6 := up_same (o := .tup [.int (rim : Int), .ref a3, .ref m]) hpp
    have sB := sA.trans s6
    rw [← List.map_append] at ha3
    exact k _ _ sB (netV_of (SqT.of upd_same) (Same.sqt s6 ha3) (((hN.ts.take (n - 1)).app (hN.ts.drop n)).same sB) (Same.sqt sB hN.ams) (hN.rats.same sB))
end

section
variable {P : Program} {w : World} {K : PySem.W.Frag} {mg : Str → Option Value} {base : Heap} {A : Ads}
theorem ok_with_amounts (T : Txt K mg A) : FnOk P w K mg base CX0 1 A.f_with_amounts A.fd_with_amounts ["net", "changes"] (spWithA K) := by
  have nd := sc_with_amounts.nd
  refine T.F_with_amounts.ok sc_with_amounts (fun vs H Q E h => ?_) (fun cdv Ar outer s H vs Q E hr h => ?_)
  · obtain ⟨v, D, kvs, g, rim, rows, qs, rfl, _⟩ := h
    rfl
  · obtain ⟨v, D, kvs, g, rim, rows, qs, rfl, ⟨p, t, m, ts, as, rfl, hN⟩, eD, hA, hq, k⟩ := h
    have hal : as.length = qs.length := hN.rats.len
    refine ⟨_, (pss_cons (ps_asg (pv 0) (pg_tupK (K := K) rfl rfl (pgs_cons (pg_name (i := 2) nd rfl (Or.inl rfl)) (pgs_cons (pg_name (i := 3) nd rfl (Or.inl rfl)) (pgs_cons (pg_name (i := 4) nd rfl (Or.inl rfl)) pgs_nil))))) (pss_one (ps_ret (pe_tup (pa_cons (pv 2) (pa_cons (pv 3) (pa_cons (pe_callTy (zc_tupleK (K := K) rfl) (by rfl) T.n_tuple (by decide +kernel) (pa_cons (pe_lc (own := [("edge", 5), ("amount", 6)])  (tt := tYes) rfl nd (pi_enumT (K := K) rfl (by rfl) T.n_enumerate (pa_cons (pv 4) pa_nil)) (blkOk_by (N := ["net", "changes", "rim", "turns", "amounts", "edge", "amount"]) (sc := defScope s_with_amounts) (by decide +kernel)) (fun _ _ _ _ _ => (pg_tupK (K := K) (n := 2) rfl rfl (pgs_cons (pg_name (i := 5) nd rfl (by first | exact Or.inl rfl | exact Or.inr rfl)) (pgs_cons (pg_name (i := 6) nd rfl (by first | exact Or.inl rfl | exact Or.inr rfl)) pgs_nil)))) (fun _ _ _ _ _ => pts_nil) (fun _ _ _ _ _ => (pe_dget2 (Rz.room1 hr) (pv 1) (pv 5) (pv 6) ⟨rfl, rfl, rfl, rfl⟩))) pa_nil)) pa_nil))))))), ?_⟩
    walk_at "gs"
    refine ⟨p, _, rfl, hN.top, rfl, _, _, rfl, _, _, rfl, _, _, rfl, rfl, ?_⟩
    walk_at "gs"
    refine g_lcEnT ?_
    walk_at "gs"
    refine lc_enT hN.ams (fun l i acc H' => Same H H' ∧ H' l = some (.lst acc) ∧ acc.length = i ∧ ∀ (j : Nat) x, acc[j]? = some x → RatV K H' x ((g j).getD (qs.getD j 0))) (fun l hl => ⟨up_same hl, upd_same, rfl, fun j x z => by simp at z⟩) (fun l i acc H' _ h => Same.sqt h.1 hN.ams) ?_ ?_
    · rintro l i x T' acc H1 hl hx ⟨sm, el, hlen, hacc⟩ hT
      have hi : i < qs.length := by rw [← hal]; exact (List.getElem?_eq_some_iff.mp hx).1
      have sT := up_same (H := H1) (o := .tup [.int (i : Int), x]) hT
      have hrx : RatV K H x (qs.getD i 0) := by
        rw [List.getD_eq_getElem?_getD, List.getElem?_eq_getElem hi]
        exact hN.rats.at_ i x _ hx (List.getElem?_eq_getElem hi)
      have eD2 := sT _ _ (sm _ _ eD)
      refine ⟨T', _, rfl, SqT.of upd_same, rfl, _, _, rfl, _, _, rfl, rfl, rfl, ?_⟩
      refine g_dget2 ?_
      walk_at "gs"
      refine ⟨_, rfl, isD_of eD2, ?_⟩
      walk_at "gs"
      refine ⟨_, dget_of eD2, ?_⟩
      have hlT := sT _ _ el
      have hnew : ∃ y, (valV kvs (.inl (i : Int))).getD x = y ∧ RatV K H y ((g i).getD (qs.getD i 0)) := by
        have := hA i hi
        cases hg : g i with
        | none =>
          rw [hg] at this
          rw [this]
          exact ⟨x, rfl, hrx⟩
        | some q =>
          rw [hg] at this
          obtain ⟨y, a, b⟩ := this
          rw [a]
          exact ⟨y, rfl, b⟩
      obtain ⟨y, hy, hyr⟩ := hnew
      rw [hy]
      refine lcN_of hlT (by omega) ⟨fun b o h => ?_, upd_same, by rw [List.length_append, hlen]; rfl, fun j z hz => ?_⟩
      · rw [upd_ne (ne_of_none h hl)]
        exact sT _ _ (sm _ _ h)
      · rcases at_snoc hz with ⟨h1, h2⟩ | ⟨h1, rfl⟩
        · exact ((hacc j z h2).same sT).updL hlT
        · rw [h1, hlen]
          exact (hyr.same (sm.trans sT)).updL hlT
    · rintro l acc H1 hl ⟨sm, el, hlen, hacc⟩
      walk_at "gs"
      refine g_tupleL (SqL.of el) fun t2 ht2 => ?_
      have s2 := up_same (o := .tup acc) ht2
      walk_at "gs"
      refine g_newT (by show 3 ≤ 1000000; decide) fun pp hpp => ?_
      have s6 := up_same (o := .tup [.int (rim : Int), .ref t, .ref t2]) hpp
      have sB := sm.trans (s2.trans s6)
      refine k _ _ sB (netV_of (SqT.of upd_same) (Same.sqt sB hN.turns) (hN.ts.same sB) (Same.sqt s6 (SqT.of upd_same)) ⟨by rw [hlen, ovr_len, hal], fun j x q a b => ?_⟩)
      have hj : j < qs.length := by rw [← hal, ← hlen]; exact (List.getElem?_eq_some_iff.mp a).1
      rw [ovr_at hj] at b
      cases b
      exact (hacc j x a).same (s2.trans s6)
end

section
variable {P : Program} {w : World} {K : PySem.W.Frag} {mg : Str → Option Value} {base : Heap} {A : Ads}
theorem ok_with_darts (T : Txt K mg A) : FnOk P w K mg base CX0 1 A.f_with_darts A.fd_with_darts ["net", "changes"] (spWithD K) := by
  have nd := sc_with_darts.nd
  refine T.F_with_darts.ok sc_with_darts (fun vs H Q E h => ?_) (fun cdv Ar outer s H vs Q E hr h => ?_)
  · obtain ⟨v, D, kvs, c, rim, rows, qs, rfl, _⟩ := h
    rfl
  · obtain ⟨v, D, kvs, c, rim, rows, qs, rfl, ⟨p, t, m, ts, as, rfl, hN⟩, eD, hA, hl, hrl, hc, k⟩ := h
    refine ⟨_, (pss_cutZ (ps_asg (pv 0) (pg_tupK (K := K) rfl rfl (pgs_cons (pg_name (i := 2) nd rfl (Or.inl rfl)) (pgs_cons (pg_name (i := 3) nd rfl (Or.inl rfl)) (pgs_cons (pg_name (i := 4) nd rfl (Or.inl rfl)) pgs_nil))))) (pss_cutZ (ps_setLc (i := 5) (own := [("turn", 6)]) (g := gName 6) (tt := tYes) rfl nd rfl rfl (sw_true rfl rfl rfl (by decide +kernel)) (pi_tupK (K := K) rfl (pv 3)) (blkOk_by (N := ["net", "changes", "rim", "turns", "amounts", "changed", "turn", "dart", "new"]) (sc := defScope s_with_darts) (by decide +kernel)) (fun _ _ _ _ _ => pg_name (i := 6) nd rfl (by first | exact Or.inl rfl | exact Or.inr rfl)) (fun _ _ _ _ _ => pts_nil) (fun _ _ _ _ _ => (pe_callTy (zc_tupleK (K := K) rfl) (by rfl) T.n_tuple (by decide +kernel) (pa_cons (pe_lc2 (own := [("dart", 7), ("new", 8)]) (vs1 := [8]) (g := gName 7) (g1 := gName 8) (tt := tYes) (tt1 := tYes) rfl nd (pi_tupK (K := K) rfl (pv 6)) (blkIn (N := ["net", "changes", "rim", "turns", "amounts", "changed", "turn", "dart", "new"]) rfl (blkOk_by (N := ["net", "changes", "rim", "turns", "amounts", "changed", "turn", "dart", "new"]) (by decide +kernel))) (by decide) (fun _ _ _ _ _ => (pg_name (i := 7) nd rfl (by first | exact Or.inl rfl | exact Or.inr rfl))) (fun _ _ _ _ _ => pts_nil) (fun _ _ _ _ _ => (pi_tupK (K := K) rfl (pe_dget2 (Rz.room1 hr) (pv 1) (pv 7) (pe_tup (pa_cons (pv 7) pa_nil)) ⟨rfl, rfl, rfl, rfl⟩))) (fun _ _ _ _ _ => (pg_name (i := 8) nd rfl (by first | exact Or.inl rfl | exact Or.inr rfl))) (fun _ _ _ _ _ => pts_nil) (fun _ _ _ _ _ => (pv 8))) pa_nil)))) (pss_one (ps_ret (pe_tup (pa_cons (pv 2) (pa_cons (pe_callTy (zc_tupleK (K := K) rfl) (by rfl) T.n_tuple (by decide +kernel) (pa_cons (pv 5) pa_nil)) (pa_cons (pv 4) pa_nil)))))))), ?_⟩
    refine g_cut (fun σ' H' => σ' = [some (.ref p), some (.ref D), some (.int (rim : Int)), some (.ref t), some (.ref m), none, none, none, none] ∧ H = H') ?_ ?_
    · walk_at "gs"
      exact ⟨p, _, rfl, hN.top, rfl, _, _, rfl, _, _, rfl, _, _, rfl, rfl, rfl, rfl⟩
    rintro σ' _ ⟨rfl, rfl⟩
    refine g_cut (fun σ' H' => ∃ l us, σ' = [some (.ref p), some (.ref D), some (.int (rim : Int)), some (.ref t), some (.ref m), some (.ref l), none, none, none] ∧ Same H H' ∧ H' l = some (.lst (us.map V.ref)) ∧ TsL K H' us (rows.map fun row => row.flatMap fun d => (c d).getD [d])) ?_ ?_
    · walk_at "gs"
      refine turns_lc (fun row => row.flatMap fun d => (c d).getD [d]) hN.tns (by omega) (fun _ => rfl) ?_ ?_
      · intro i r H1 Q2 hri sm1 hr1 kk
        have hrl2 : (rows.getD i []).length ≤ 1000 := hrl _ (List.mem_of_getElem? hri)
        have hone : ∀ d : Int, ((c d).getD [d]).length ≤ 100 := fun d => by
          cases hcd : c d with
          | none => show 1 ≤ 100; decide
          | some ns => exact hc d ns hcd
        have hflat : ∀ row : List Int, (row.flatMap fun d => (c d).getD [d]).length ≤ row.length * 100 := fun row => by
          induction row with
          | nil => exact Nat.le_refl _
          | cons x row ih =>
            rw [List.flatMap_cons, List.length_append, List.length_cons, Nat.succ_mul]
            have := hone x
            omega
        walk_at "gs"
        refine g_lc2T ?_
        walk_at "gs"
        refine flat_lc2 (fun d => (c d).getD [d]) hr1 (by have := hflat (rows.getD i []); omega) (fun _ => rfl) (fun _ _ => rfl) (fun _ _ => rfl) ?_ ?_
        · intro j d H2 Q3 hd sm2 kk2
          have hdm : d ∈ rows.flatten := mem_flat.mpr ⟨i, _, hri, List.mem_of_getElem? hd⟩
          have eD2 := sm2 _ _ (sm1 _ _ eD)
          refine g_dget2 ?_
          walk_at "gs"
          refine ⟨_, rfl, isD_of eD2, ?_⟩
          walk_at "gs"
          refine g_newT (by show 1 ≤ 1000000; decide) fun o1 ho1 => ?_
          have s3 := up_same (o := .tup [.int d]) ho1
          refine ⟨_, dget_of (s3 _ _ eD2), ?_⟩
          have h1 := hA d hdm
          cases hcd : c d with
          | none =>
            rw [hcd] at h1
            rw [h1]
            refine kk2 o1 _ s3 ?_
            rw [hcd]
            exact SqT.of upd_same
          | some ns =>
            rw [hcd] at h1
            obtain ⟨q, a, b⟩ := h1
            rw [a]
            refine kk2 q _ s3 ?_
            rw [hcd]
            exact Same.sqt (sm1.trans (sm2.trans s3)) b
        · intro l H2 sm2 hl0 el
          walk_at "gs"
          refine g_tupleL (SqL.of el) fun t2 ht2 => ?_
          exact kk t2 _ (sm2.trans (up_same ht2)) (SqT.of upd_same)
      · intro l us H1 sm1 hl0 el hT
        walk_at "gs"
        exact ⟨l, us, rfl, sm1, el, hT⟩
    rintro σ' H1 ⟨l, us, rfl, sm1, el, hT⟩
    walk_at "gs"
    refine g_tupleL (SqL.of el) fun t2 ht2 => ?_
    have s2 := up_same (o := .tup (us.map V.ref)) ht2
    walk_at "gs"
    refine g_newT (by show 3 ≤ 1000000; decide) fun pp hpp => ?_
    have s6 := up_same (o := .tup [.int (rim : Int), .ref t2, .ref m]) hpp
    have sB := sm1.trans (s2.trans s6)
    exact k _ _ sB (netV_of (SqT.of upd_same) (Same.sqt s6 (SqT.of upd_same)) (hT.same (s2.trans s6)) (Same.sqt sB hN.ams) (hN.rats.same sB))
theorem ok_inner_turn (T : Txt K mg A) : FnOk P w K mg base (L2.CX P w) 1 A.f_inner_turn A.fd_inner_turn ["net", "node", "many"] (spInner K A.C_MoveError) := by
  have nd := sc_inner_turn.nd
  refine T.F_inner_turn.okX sc_inner_turn (fun vs H Q E h => ?_) (fun cdv Ar outer s H vs Q E hr h => ?_)
  · obtain ⟨v, n, m, rim, rows, qs, rfl, _⟩ := h
    rfl
  · obtain ⟨v, n, many, rim, rows, qs, rfl, ⟨p, t, m, ts, as, rfl, hN⟩, hn1, hn2, k0, k1⟩ := h
    have htl : ts.length = rows.length := hN.len
    refine ⟨_, (pss_cons (ps_if (PW.pt (pw_or (pt_cmpR op_le (pv 1) (pe_ix (ix_tupK (K := K) rfl) (pv 0) pe_int (fun _ _ => rfl)) (nomark _)) (pw_or1 (pt_cmpR op_gt (pv 1) (pe_callB (zc_lenK (K := K) rfl) (by rfl) T.n_len (by decide +kernel) (pa_cons (pe_ix (ix_tupK (K := K) rfl) (pv 0) pe_int (fun _ _ => rfl)) pa_nil)) (nomark _))))) (pss_one (ps_raise rfl (takes_of rfl rfl rfl rfl) (pmk_own PySem.F.excBase_ValueError T.x_MoveError T.g_MoveError T.k_MoveError (raises_own T.bb_MoveError T.t_MoveError) (by exact rfl)))) pss_nil) (pss_cons (ps_set (i := 3) nd rfl (Or.inl rfl) (pe_ix (ix_tupK (K := K) rfl) (pe_ix (ix_tupK (K := K) rfl) (pv 0) pe_int (fun _ _ => rfl)) (pe_op op_sub (pv 1) pe_int) (fun _ _ => rfl))) (pss_cons (ps_if (pt_cmpR op_ne (pe_callB (zc_lenK (K := K) rfl) (by rfl) T.n_len (by decide +kernel) (pa_cons (pv 3) pa_nil)) (pv 2) (nomark _)) (pss_one (ps_raise rfl (takes_of rfl rfl rfl rfl) (SkE.pmk_own1 PySem.F.excBase_ValueError T.x_MoveError T.g_MoveError T.k_MoveError (raises_own T.bb_MoveError T.t_MoveError) (by exact rfl) (pe_joined (PJ.cons pe_str (PJ.cons (pe_fmt (pv 1)) (PJ.cons pe_str (PJ.cons (pe_fmt (pv 2)) (PJ.cons pe_str PJ.nil))))))))) pss_nil) (pss_one (ps_ret (pv 3)))))), ?_⟩
    walk_at "gs"
    refine g_ixT hN.top rfl ?_
    walk_at "gs"
    refine if_2 (fun z => ?_) (fun z => ?_)
    · have z1 := of_decide_eq_true z
      walk_at "gs"
      exact k0 fun y => by omega
    have z1 := of_decide_eq_false z
    walk_at "gs"
    refine g_ixT hN.top rfl ?_
    walk_at "gs"
    refine g_lenT hN.turns ?_
    walk_at "gs"
    rw [List.length_map, htl]
    refine if_2 (fun z => ?_) (fun z => ?_)
    · have z2 := of_decide_eq_true z
      walk_at "gs"
      exact k0 fun y => by omega
    have z2 := of_decide_eq_false z
    obtain ⟨i, hi⟩ : ∃ i : Nat, n - 1 = (i : Int) := ⟨(n - 1).toNat, by omega⟩
    have hil : i < rows.length := by omega
    have hti : (ts.map V.ref)[i]? = some (.ref (ts[i]'(by omega))) := by rw [List.getElem?_map, List.getElem?_eq_getElem (by omega)]; rfl
    have hri : rows[i]? = some (rows.getD i []) := by rw [List.getD_eq_getElem?_getD, List.getElem?_eq_getElem hil]; rfl
    have hr1 := hN.row i _ _ (List.getElem?_eq_getElem (by omega)) hri
    rw [hi, Int.toNat_natCast] at k0 k1
    walk_at "gs"
    refine g_ixT hN.top rfl ?_
    walk_at "gs"
    rw [hi]
    refine g_ixT hN.turns (atI_nat hti) ?_
    walk_at "gs"
    rw [Rz.dec_int, List.length_map]
    refine if_2 (fun z => ?_) (fun z => ?_)
    · have z3 : ¬ ((rows.getD i []).length : Int) = many := fun y => by
        rw [decide_eq_true y] at z
        cases z
      walk_at "gs"
      refine g_js0 (by decide) fun l1 => ?_
      refine g_jsI rfl hn1 l1 (by decide) fun l2 => ?_
      refine g_jsC l2 (by decide) (by decide) fun l3 => ?_
      refine g_jsI rfl hn2 l3 (by decide) fun l4 => ?_
      refine g_jsC l4 (by decide) (by decide) fun l5 => ?_
      refine g_jsN ?_
      exact k0 fun y => z3 y.2.2
    · have z3 : ((rows.getD i []).length : Int) = many := by
        by_cases y : ((rows.getD i []).length : Int) = many
        · exact y
        · rw [decide_eq_false y] at z
          cases z
      walk_at "gs"
      exact k1 (by omega) (by omega) z3 _ hr1
end

section
variable {P : Program} {w : World} {K : PySem.W.Frag} {mg : Str → Option Value} {base : Heap} {A : Ads}
theorem ok_triangle_amounts (T : Txt K mg A) : FnOk P w K mg base CX0 4 A.f_triangle_amounts A.fd_triangle_amounts ["amounts"] (spTriA K) := by
  have G_total := ok_total (P := P) (w := w) (base := base) T
  have G_times := ok_times (P := P) (w := w) (base := base) T
  have G_over := ok_over (P := P) (w := w) (base := base) T
  have nd := sc_triangle_amounts.nd
  refine T.F_triangle_amounts.ok sc_triangle_amounts (fun vs H Q E h => ?_) (fun cdv Ar outer s H vs Q E hr h => ?_)
  · obtain ⟨l, a, b, c, rfl, _⟩ := h
    rfl
  · obtain ⟨l, a, b, c, rfl, ⟨x, y, z, el, hx, hy, hz⟩, pa, pb, pc, ba, bb, bc, k⟩ := h
    refine ⟨_, (pss_cutZ (ps_asg (pv 0) (pg_lstK (K := K) rfl rfl (pgs_cons (pg_name (i := 1) nd rfl (Or.inl rfl)) (pgs_cons (pg_name (i := 2) nd rfl (Or.inl rfl)) (pgs_cons (pg_name (i := 3) nd rfl (Or.inl rfl)) pgs_nil))))) (pss_cutZ (ps_set (i := 4) nd rfl (Or.inr rfl) (pe_call (E := E0) G_total (hr.mono (by decide)) (by rfl) T.g_total T.F_total.kp T.b_total .nil pass0 (pa_cons (pe_lst (pa_cons (pv 1) (pa_cons (pv 2) (pa_cons (pv 3) pa_nil)))) pa_nil))) (pss_one (ps_ret (pe_lc (own := [("one", 5), ("other", 6)])  (tt := tYes) rfl nd (pi_tupK (K := K) rfl (pe_tup (pa_cons (pe_tup (pa_cons (pv 2) (pa_cons (pv 3) pa_nil))) (pa_cons (pe_tup (pa_cons (pv 3) (pa_cons (pv 1) pa_nil))) (pa_cons (pe_tup (pa_cons (pv 1) (pa_cons (pv 2) pa_nil))) pa_nil))))) (blkOk_by (N := ["amounts", "a", "b", "c", "whole", "one", "other"]) (sc := defScope s_triangle_amounts) (by decide +kernel)) (fun _ _ _ _ _ => (pg_tupK (K := K) (n := 2) rfl rfl (pgs_cons (pg_name (i := 5) nd rfl (by first | exact Or.inl rfl | exact Or.inr rfl)) (pgs_cons (pg_name (i := 6) nd rfl (by first | exact Or.inl rfl | exact Or.inr rfl)) pgs_nil)))) (fun _ _ _ _ _ => pts_nil) (fun _ _ _ _ _ => (pe_call (E := E0) G_over (hr.mono (by decide)) (by rfl) T.g_over T.F_over.kp T.b_over .nil passL (pa_cons (pe_call (E := E0) G_times (hr.mono (by decide)) (by rfl) T.g_times T.F_times.kp T.b_times .nil pass0 (pa_cons (pv 5) (pa_cons (pv 6) pa_nil))) (pa_cons (pv 4) pa_nil))))))))), ?_⟩
    have bs : Bd 17 (a + b + c) := (ba.add bb).add bc
    have hs : a + b + c ≠ 0 := fun z => by grind
    refine g_cut (fun σ' H' => σ' = [some (.ref l), some x, some y, some z, none, none, none] ∧ H = H') ?_ ?_
    · walk_at "gs"
      refine ⟨l, _, rfl, SqL.of el, rfl, _, _, rfl, _, _, rfl, _, _, rfl, rfl, ?_⟩
      exact ⟨rfl, rfl⟩
    rintro σ' _ ⟨rfl, rfl⟩
    refine g_cut (fun σ' H' => ∃ w', σ' = [some (.ref l), some x, some y, some z, some w', none, none] ∧ Same H H' ∧ RatV K H' w' (a + b + c)) ?_ ?_
    · walk_at "gs"
      refine g_newL (by show 3 ≤ 1000000; decide) fun l1 hl1 => ?_
      have s1 := up_same (o := .lst [x, y, z]) hl1
      walk_at "gs"
      refine ⟨l1, [x, y, z], [a, b, c], 5, rfl, SqL.of upd_same, rfl, fun i u q e1 e2 => ?_, fun q hq => ?_, by show 1 + 3 * 6 + 5 ≤ 8000; decide, fun v H1 sm1 hv => ?_⟩
      · match i, e1, e2 with
        | 0, e1, e2 => cases e1; cases e2; exact hx.same s1
        | 1, e1, e2 => cases e1; cases e2; exact hy.same s1
        | 2, e1, e2 => cases e1; cases e2; exact hz.same s1
        | i + 3, e1, e2 => simp at e1
      · simp only [List.mem_cons, List.not_mem_nil, or_false] at hq
        rcases hq with rfl | rfl | rfl
        · exact ba
        · exact bb
        · exact bc
      · rw [sumR3] at hv
        walk_at "gs"
        exact ⟨v, rfl, s1.trans sm1, hv⟩
    rintro σ' H1 ⟨w', rfl, sm1, hw'⟩
    walk_at "gs"
    refine g_newT (by show 2 ≤ 1000000; decide) fun t1 ht1 => ?_
    have s1 := up_same (o := .tup [y, z]) ht1
    walk_at "gs"
    refine g_newT (by show 2 ≤ 1000000; decide) fun t2 ht2 => ?_
    have s2 := up_same (o := .tup [z, x]) ht2
    walk_at "gs"
    refine g_newT (by show 2 ≤ 1000000; decide) fun t3 ht3 => ?_
    have s3 := up_same (o := .tup [x, y]) ht3
    walk_at "gs"
    refine g_newT (by show 3 ≤ 1000000; decide) fun t4 ht4 => ?_
    have s4 := up_same (o := .tup [.ref t1, .ref t2, .ref t3]) ht4
    have sA := s1.trans (s2.trans (s3.trans s4))
    have q1 : SqT K _ t1 [y, z] := Same.sqt (s2.trans (s3.trans s4)) (SqT.of upd_same)
    have q2 : SqT K _ t2 [z, x] := Same.sqt (s3.trans s4) (SqT.of upd_same)
    have q3 : SqT K _ t3 [x, y] := Same.sqt s4 (SqT.of upd_same)
    have hx1 := hx.same (sm1.trans sA)
    have hy1 := hy.same (sm1.trans sA)
    have hz1 := hz.same (sm1.trans sA)
    have hw1 := hw'.same sA
    generalize hG : upd (upd (upd (upd H1 t1 (.tup [y, z])) t2 (.tup [z, x])) t3 (.tup [x, y])) t4 (.tup [.ref t1, .ref t2, .ref t3]) = HG at *
    have q4 : SqT K HG t4 [.ref t1, .ref t2, .ref t3] := by rw [← hG]; exact SqT.of upd_same
    refine lc_tupG q4 (fun p i acc H' => Same HG H' ∧ H' p = some (.lst acc) ∧ acc.length = i ∧ (∀ u, acc[0]? = some u → RatV K H' u (b * c / (a + b + c))) ∧ (∀ u, acc[1]? = some u → RatV K H' u (c * a / (a + b + c))) ∧ (∀ u, acc[2]? = some u → RatV K H' u (a * b / (a + b + c))))
      (fun p hp => ⟨up_same hp, upd_same, rfl, fun u h => by simp at h, fun u h => by simp at h, fun u h => by simp at h⟩) (fun p i acc H' _ h => Same.sqt h.1 q4) ?_ ?_
    · rintro p i u acc H2 hp hu ⟨sm2, ep, hlen, g0, g1, g2⟩
      have hi3 : i < 3 := (List.getElem?_eq_some_iff.mp hu).1
      have upn : ∀ {v : V} {q : Rat} {H3 : Hp} {o : HO} {acc' : List V}, RatV K H3 v q → H3 p = some (.lst acc') → RatV K (upd H3 p o) v q := fun h e => h.updL e
      have fin : ∀ (v : V) (q : Rat) (H3 : Hp), Same H2 H3 → RatV K H3 v q → (i = 0 → q = b * c / (a + b + c)) → (i = 1 → q = c * a / (a + b + c)) → (i = 2 → q = a * b / (a + b + c)) → lcN (fun i acc H' => Same HG H' ∧ H' p = some (.lst acc) ∧ acc.length = i ∧ (∀ u, acc[0]? = some u → RatV K H' u (b * c / (a + b + c))) ∧ (∀ u, acc[1]? = some u → RatV K H' u (c * a / (a + b + c))) ∧ (∀ u, acc[2]? = some u → RatV K H' u (a * b / (a + b + c)))) p i v H3 := fun v q H3 s3 hv e0 e1 e2 => by
        have ep3 := s3 _ _ ep
        refine lcN_of ep3 (by omega) ⟨fun b' o h => ?_, upd_same, by rw [List.length_append, hlen]; rfl, fun u' h' => ?_, fun u' h' => ?_, fun u' h' => ?_⟩
        · rw [upd_ne (ne_of_none h hp)]
          exact s3 _ _ (sm2 _ _ h)
        · rcases at_snoc h' with ⟨_, h'⟩ | ⟨hl, rfl⟩
          · exact ((g0 u' h').same s3).updL ep3
          · rw [← e0 (by omega)]; exact hv.updL ep3
        · rcases at_snoc h' with ⟨_, h'⟩ | ⟨hl, rfl⟩
          · exact ((g1 u' h').same s3).updL ep3
          · rw [← e1 (by omega)]; exact hv.updL ep3
        · rcases at_snoc h' with ⟨_, h'⟩ | ⟨hl, rfl⟩
          · exact ((g2 u' h').same s3).updL ep3
          · rw [← e2 (by omega)]; exact hv.updL ep3
      obtain rfl | rfl | rfl : i = 0 ∨ i = 1 ∨ i = 2 := by omega
      · cases hu
        refine ⟨t1, _, rfl, Same.sqt sm2 q1, rfl, _, _, rfl, _, _, rfl, rfl, rfl, ?_⟩
        walk_at "gs"
        refine ⟨y, z, b, c, 5, 5, rfl, hy1.same sm2, hz1.same sm2, bb, bc, by decide, fun v1 H3 s5 hv1 => ?_⟩
        walk_at "gs"
        refine ⟨v1, w', b * c, a + b + c, 10, 17, rfl, hv1, hw1.same (sm2.trans s5), bb.mul bc, bs, by decide, fun z => absurd z hs, fun _ v2 H4 s6 hv2 => ?_⟩
        exact fin v2 _ H4 (s5.trans s6) hv2 (fun _ => rfl) (fun h => by omega) (fun h => by omega)
      · cases hu
        refine ⟨t2, _, rfl, Same.sqt sm2 q2, rfl, _, _, rfl, _, _, rfl, rfl, rfl, ?_⟩
        walk_at "gs"
        refine ⟨z, x, c, a, 5, 5, rfl, hz1.same sm2, hx1.same sm2, bc, ba, by decide, fun v1 H3 s5 hv1 => ?_⟩
        walk_at "gs"
        refine ⟨v1, w', c * a, a + b + c, 10, 17, rfl, hv1, hw1.same (sm2.trans s5), bc.mul ba, bs, by decide, fun z => absurd z hs, fun _ v2 H4 s6 hv2 => ?_⟩
        exact fin v2 _ H4 (s5.trans s6) hv2 (fun h => by omega) (fun _ => rfl) (fun h => by omega)
      · cases hu
        refine ⟨t3, _, rfl, Same.sqt sm2 q3, rfl, _, _, rfl, _, _, rfl, rfl, rfl, ?_⟩
        walk_at "gs"
        refine ⟨x, y, a, b, 5, 5, rfl, hx1.same sm2, hy1.same sm2, ba, bb, by decide, fun v1 H3 s5 hv1 => ?_⟩
        walk_at "gs"
        refine ⟨v1, w', a * b, a + b + c, 10, 17, rfl, hv1, hw1.same (sm2.trans s5), ba.mul bb, bs, by decide, fun z => absurd z hs, fun _ v2 H4 s6 hv2 => ?_⟩
        exact fin v2 _ H4 (s5.trans s6) hv2 (fun h => by omega) (fun h => by omega) (fun _ => rfl)
    · rintro p acc H2 hp ⟨sm2, ep, hlen, g0, g1, g2⟩
      match acc, hlen with
      | [u0, u1, u2], _ =>
        have sZ := sm1.trans sA
        exact k p H2 (sZ.trans sm2) ((sZ).free hp) ⟨u0, u1, u2, ep, g0 u0 rfl, g1 u1 rfl, g2 u2 rfl⟩
end
section
variable {P : Program} {w : World} {K : PySem.W.Frag} {mg : Str → Option Value} {base : Heap} {A : Ads}
theorem ok_do_star (T : Txt K mg A) {Em : Nat} (hEm : Em ≤ 60) : FnOk P w K mg base (L2.CX P w) 5 A.f_do_star A.fd_do_star ["net", "move"] (spApply K A.C_MoveError afterT (fun mv => isStar mv ∧ mv.small) Em) := by
  have G_inner_turn := ok_inner_turn (P := P) (w := w) (base := base) T
  have G_homes_of := ok_homes_of (P := P) (w := w) (base := base) T
  have G_other_dart := ok_other_dart (P := P) (w := w) (base := base) T
  have G_without_node := ok_without_node (P := P) (w := w) (base := base) T
  have G_with_amounts := ok_with_amounts (P := P) (w := w) (base := base) T
  have G_with_darts := ok_with_darts (P := P) (w := w) (base := base) T
  have G_triangle_amounts := ok_triangle_amounts (P := P) (w := w) (base := base) T
  have nd := sc_do_star.nd
  refine okXc T.F_do_star sc_do_star (fun vs H Q E h => ?_) (fun cdv Ar outer s H vs Q E hcd hr h => ?_)
  · obtain ⟨v, u, rim, rows, qs, En, mv, rfl, _⟩ := h
    rfl
  · obtain ⟨v, u, rim, rows, qs, En, mv, rfl, hv, ⟨up, rfl, hu⟩, ⟨⟨nv, rfl⟩, hsm⟩, hr1, hr2, hB, hq, hE, hqs, k0, k1⟩ := h
    obtain ⟨hW, hrl, hrl2⟩ := hB.all (by omega)
    have hu1 : SqT K H up [.str "star", .int nv] := hu
    have hs1 : nv.natAbs < 2 ^ 60 := hsm
    have k0 : starM rim rows qs nv = none → ∀ H', Same H H' → E (.ref A.C_MoveError) none H' := k0
    have k1 : ∀ r, starM rim rows qs nv = some r → ∀ v' H', Same H H' → NetV K H' v' rim r.1 r.2 → Q v' H' := k1
    obtain ⟨p0, t0, m0, ts, as, rfl, hN⟩ := hv
    have fd2 : ∀ z : Int, z.fdiv 2 = z / 2 := fun z => Int.fdiv_eq_ediv_of_nonneg _ (by decide)
    refine ⟨_, (pss_cutZ (ps_set (i := 2) nd rfl (Or.inl rfl) (pe_ix (ix_tupK (K := K) rfl) (pv 1) pe_int (fun _ _ => rfl))) (pss_cutZ (ps_set (i := 3) nd rfl (Or.inl rfl) (pe_call (E := E) G_inner_turn (hr.mono (by decide)) (by rfl) T.g_inner_turn T.F_inner_turn.kp T.b_inner_turn .nil (passes_call (takes_of rfl rfl rfl rfl) (fun _ _ _ _ h => h)) (pa_cons (pv 0) (pa_cons (pv 2) (pa_cons pe_int pa_nil))))) (pss_cutZ (ps_set (i := 4) nd rfl (Or.inr rfl) (pe_call (E := E0) G_homes_of (hr.mono (by decide)) (by rfl) T.g_homes_of T.F_homes_of.kp T.b_homes_of .nil pass0 (pa_cons (pv 0) pa_nil))) (pss_cutZ (ps_asg (pe_lc (own := [("dart", 17)]) (g := gName 17) (tt := tYes) rfl nd (pi_tupK (K := K) rfl (pv 3)) (blkOk_by (N := ["net", "move", "node", "darts", "home", "x", "y", "z", "p", "q", "r", "edges", "a", "b", "c", "moved", "amounts", "dart", "edge"]) (sc := defScope s_do_star) (by decide +kernel)) (fun _ _ _ _ _ => pg_name (i := 17) nd rfl (by first | exact Or.inl rfl | exact Or.inr rfl)) (fun _ _ _ _ _ => pts_nil) (fun _ _ _ _ _ => (pe_dget (Rz.room1 hr) (pv 4) (pe_call (E := E0) G_other_dart (hr.mono (by decide)) (by rfl) T.g_other_dart T.F_other_dart.kp T.b_other_dart .nil pass0 (pa_cons (pv 17) pa_nil)) (fun _ _ => rfl)))) (pg_lstK (K := K) rfl rfl (pgs_cons (pg_name (i := 5) nd rfl (Or.inl rfl)) (pgs_cons (pg_name (i := 6) nd rfl (Or.inl rfl)) (pgs_cons (pg_name (i := 7) nd rfl (Or.inl rfl)) pgs_nil))))) (pss_cutZ (ps_if (pt_cmpR op_ne (pe_lenSetD hcd (by rfl) T.n_len (PL.cons (pv 2) (PL.cons (pv 5) (PL.cons (pv 6) (PL.cons (pv 7) PL.nil))))) pe_int (nomark _)) (pss_one (ps_raise rfl (takes_of rfl rfl rfl rfl) (SkE.pmk_own1 PySem.F.excBase_ValueError T.x_MoveError T.g_MoveError T.k_MoveError (raises_own T.bb_MoveError T.t_MoveError) (by exact rfl) (pe_joined (PJ.cons pe_str (PJ.cons (pe_fmt (pv 2)) (PJ.cons pe_str PJ.nil))))))) pss_nil) (pss_cutZ (ps_asg (pv 3) (pg_tupK (K := K) rfl rfl (pgs_cons (pg_name (i := 8) nd rfl (Or.inl rfl)) (pgs_cons (pg_name (i := 9) nd rfl (Or.inl rfl)) (pgs_cons (pg_name (i := 10) nd rfl (Or.inl rfl)) pgs_nil))))) (pss_cutZ (ps_setLc (i := 11) (own := [("dart", 17)]) (g := gName 17) (tt := tYes) rfl nd rfl rfl (sw_true rfl rfl rfl (by decide +kernel)) (pi_tupK (K := K) rfl (pv 3)) (blkOk_by (N := ["net", "move", "node", "darts", "home", "x", "y", "z", "p", "q", "r", "edges", "a", "b", "c", "moved", "amounts", "dart", "edge"]) (sc := defScope s_do_star) (by decide +kernel)) (fun _ _ _ _ _ => pg_name (i := 17) nd rfl (by first | exact Or.inl rfl | exact Or.inr rfl)) (fun _ _ _ _ _ => pts_nil) (fun _ _ _ _ _ => (pe_op op_fdivN (pv 17) pe_int))) (pss_cutZ (ps_asg (pe_lc (own := [("edge", 18)]) (g := gName 18) (tt := tYes) rfl nd (pi_listK (K := K) rfl (pv 11)) (blkOk_by (N := ["net", "move", "node", "darts", "home", "x", "y", "z", "p", "q", "r", "edges", "a", "b", "c", "moved", "amounts", "dart", "edge"]) (sc := defScope s_do_star) (by decide +kernel)) (fun _ _ _ _ _ => pg_name (i := 18) nd rfl (by first | exact Or.inl rfl | exact Or.inr rfl)) (fun _ _ _ _ _ => pts_nil) (fun _ _ _ _ _ => (pe_op op_mul pe_int (pv 18)))) (pg_lstK (K := K) rfl rfl (pgs_cons (pg_name (i := 12) nd rfl (Or.inl rfl)) (pgs_cons (pg_name (i := 13) nd rfl (Or.inl rfl)) (pgs_cons (pg_name (i := 14) nd rfl (Or.inl rfl)) pgs_nil))))) (pss_cutZ (ps_set (i := 15) nd rfl (Or.inl rfl) (pe_call (E := E0) G_with_darts (hr.mono (by decide)) (by rfl) T.g_with_darts T.F_with_darts.kp T.b_with_darts .nil pass0 (pa_cons (pv 0) (pa_cons (pe_disp (pps_cons (pv 8) (pe_tup pa_nil) (pps_cons (pv 9) (pe_tup pa_nil) (pps_cons (pv 10) (pe_tup pa_nil) (pps_cons (pe_call (E := E0) G_other_dart (hr.mono (by decide)) (by rfl) T.g_other_dart T.F_other_dart.kp T.b_other_dart .nil pass0 (pa_cons (pv 8) pa_nil)) (pe_tup (pa_cons (pv 14) (pa_cons (pe_op op_add (pv 13) pe_int) pa_nil))) (pps_cons (pe_call (E := E0) G_other_dart (hr.mono (by decide)) (by rfl) T.g_other_dart T.F_other_dart.kp T.b_other_dart .nil pass0 (pa_cons (pv 9) pa_nil)) (pe_tup (pa_cons (pv 12) (pa_cons (pe_op op_add (pv 14) pe_int) pa_nil))) (pps_cons (pe_call (E := E0) G_other_dart (hr.mono (by decide)) (by rfl) T.g_other_dart T.F_other_dart.kp T.b_other_dart .nil pass0 (pa_cons (pv 10) pa_nil)) (pe_tup (pa_cons (pv 13) (pa_cons (pe_op op_add (pv 12) pe_int) pa_nil))) pps_nil)))))) (by rfl) (by rfl) (fun z => by cases z) (by decide)) pa_nil)))) (pss_cutZ (ps_set (i := 16) nd rfl (Or.inl rfl) (pe_call (E := E0) G_triangle_amounts (hr.mono (by decide)) (by rfl) T.g_triangle_amounts T.F_triangle_amounts.kp T.b_triangle_amounts .nil pass0 (pa_cons (pe_lc (own := [("edge", 18)]) (g := gName 18) (tt := tYes) rfl nd (pi_listK (K := K) rfl (pv 11)) (blkOk_by (N := ["net", "move", "node", "darts", "home", "x", "y", "z", "p", "q", "r", "edges", "a", "b", "c", "moved", "amounts", "dart", "edge"]) (sc := defScope s_do_star) (by decide +kernel)) (fun _ _ _ _ _ => pg_name (i := 18) nd rfl (by first | exact Or.inl rfl | exact Or.inr rfl)) (fun _ _ _ _ _ => pts_nil) (fun _ _ _ _ _ => (pe_ix (ix_tupK (K := K) rfl) (pe_ix (ix_tupK (K := K) rfl) (pv 0) pe_int (fun _ _ => rfl)) (pv 18) (fun _ _ => rfl)))) pa_nil))) (pss_one (ps_ret (pe_call (E := E0) G_without_node (hr.mono (by decide)) (by rfl) T.g_without_node T.F_without_node.kp T.b_without_node .nil pass0 (pa_cons (pe_call (E := E0) G_with_amounts (hr.mono (by decide)) (by rfl) T.g_with_amounts T.F_with_amounts.kp T.b_with_amounts .nil pass0 (pa_cons (pv 15) (pa_cons (pe_dictZip (K := K) rfl rfl (by rfl) T.n_dict (by rfl) T.n_zip (pa_cons (pv 11) (pa_cons (pv 16) pa_nil))) pa_nil))) (pa_cons (pv 2) pa_nil))))))))))))))), ?_⟩
    -- node
    refine g_cut (fun σ' H' => σ' = [some (.ref p0), some (.ref up), some (.int nv), none, none, none, none, none, none, none, none, none, none, none, none, none, none, none, none] ∧ H = H') ?_ ?_
    · walk_at "gs"
      exact ⟨rfl, rfl⟩
    rintro σ' _ ⟨rfl, rfl⟩
    -- darts
    refine g_cut (fun σ' H' => ∃ r0, σ' = [some (.ref p0), some (.ref up), some (.int nv), some (.ref r0), none, none, none, none, none, none, none, none, none, none, none, none, none, none, none] ∧ H = H' ∧ starOk rim rows nv ∧ SqT K H' r0 ((rows.getD (nv - 1).toNat []).map V.int)) ?_ ?_
    · walk_at "gs"
      refine ⟨.ref p0, nv, 3, rim, rows, qs, rfl, ⟨p0, t0, m0, ts, as, rfl, hN⟩, hs1, by decide, fun hn => k0 (starM_bad fun y => hn ⟨y.1, y.2.1, by have := y.2.2; omega⟩) _ (Same.refl _), fun g1 g2 g3 r hr3 => ?_⟩
      walk_at "gs"
      exact ⟨r, rfl, rfl, ⟨g1, g2, by omega⟩, hr3⟩
    rintro σ' _ ⟨r0, rfl, rfl, hok, hr3⟩
    obtain ⟨n, hn⟩ : ∃ n : Nat, nv = (n : Int) + 1 := ⟨(nv - 1).toNat, by have := hok.1; omega⟩
    have hn2 : (nv - 1).toNat = n := by omega
    have hnl : n < rows.length := by have := hok.2.1; omega
    have h3 := hok.2.2
    rw [hn2] at h3 hr3
    obtain ⟨dp, dq, dr, hxy⟩ : ∃ x y z, rows.getD n [] = [x, y, z] := by
      match hq : rows.getD n [], h3 with
      | [x, y, z], _ => exact ⟨x, y, z, rfl⟩
    have hrow : rows[n]? = some [dp, dq, dr] := by
      have : rows[n]? = some (rows.getD n []) := by rw [List.getD_eq_getElem?_getD, List.getElem?_eq_getElem hnl]; rfl
      rw [hxy] at this
      exact this
    rw [hxy] at hr3
    have hr3 : SqT K H r0 [.int dp, .int dq, .int dr] := hr3
    have mem : ∀ d ∈ [dp, dq, dr], d ∈ rows.flatten := fun d hd => mem_flat.mpr ⟨n, _, hrow, hd⟩
    have bd : ∀ d ∈ [dp, dq, dr], 0 ≤ d ∧ d < 2 * (En : Int) := fun d hd => (hW.mem d).mp (mem d hd)
    have tw : ∀ d ∈ [dp, dq, dr], twin d ∈ rows.flatten := fun d hd => (hW.mem _).mpr (twin_range (bd d hd))
    have hE1 := starM_row (qs := qs) (by rw [← hn]; exact hok) hrow
    rw [← hn] at hE1
    -- home
    refine g_cut (fun σ' H' => ∃ D0 kvs, σ' = [some (.ref p0), some (.ref up), some (.int nv), some (.ref r0), some (.ref D0), none, none, none, none, none, none, none, none, none, none, none, none, none, none] ∧ Same H H' ∧ H' D0 = some (.dK kvs) ∧ Home kvs rows fun _ => True) ?_ ?_
    · walk_at "gs"
      refine ⟨.ref p0, rim, rows, qs, En, rfl, ⟨p0, t0, m0, ts, as, rfl, hN⟩, hW, by omega, by omega, fun D kvs H1 sm hD eD ha hlen => ?_⟩
      walk_at "gs"
      exact ⟨D, kvs, rfl, sm, eD, ha⟩
    rintro σ' H1 ⟨D0, kvs0, rfl, sm1, eD0, hHome⟩
    -- x, y, z
    refine g_cut (fun σ' H' => σ' = [some (.ref p0), some (.ref up), some (.int nv), some (.ref r0), some (.ref D0), some (.int ((nodeOf rows (twin dp) : Int) + 1)), some (.int ((nodeOf rows (twin dq) : Int) + 1)), some (.int ((nodeOf rows (twin dr) : Int) + 1)), none, none, none, none, none, none, none, none, none, none, none] ∧ Same H1 H') ?_ ?_
    · walk_at "gs"
      refine ints_lcT (ns := [dp, dq, dr]) (fun d => (nodeOf rows (twin d) : Int) + 1) (Same.sqt sm1 hr3) (by show 3 ≤ 100000; decide) (fun _ => rfl) ?_ ?_
      · intro j d H2 Q2 hd sm2 kk2
        have hdm := List.mem_of_getElem? hd
        walk_at "gs"
        refine g_dget ?_
        walk_at "gs"
        refine ⟨d, rfl, (bd d hdm).1, ?_⟩
        refine g_dgetI (sm2 _ _ eD0) (hHome _ (tw d hdm) trivial) ?_
        exact kk2 _ (Same.refl _)
      · intro l2 H2 sm2 hl2 el2
        refine ⟨l2, _, rfl, SqL.of el2, rfl, _, _, rfl, _, _, rfl, _, _, rfl, rfl, ?_⟩
        exact ⟨rfl, sm2⟩
    rintro σ' H2 ⟨rfl, sm2⟩
    -- four nodes
    refine g_cut (fun σ' H' => σ' = [some (.ref p0), some (.ref up), some (.int nv), some (.ref r0), some (.ref D0), some (.int ((nodeOf rows (twin dp) : Int) + 1)), some (.int ((nodeOf rows (twin dq) : Int) + 1)), some (.int ((nodeOf rows (twin dr) : Int) + 1)), none, none, none, none, none, none, none, none, none, none, none] ∧ H2 = H' ∧ (farN rows dp dq dr n).Nodup) ?_ ?_
    · walk_at "gs"
      refine g_lenSetD ?_
      refine g_val ?_
      walk_at "gs"
      refine g_val ?_
      walk_at "gs"
      refine g_val ?_
      walk_at "gs"
      refine g_val ?_
      walk_at "gs"
      refine g_val0 ⟨[nv, (nodeOf rows (twin dp) : Int) + 1, (nodeOf rows (twin dq) : Int) + 1, (nodeOf rows (twin dr) : Int) + 1], rfl, by show 4 ≤ 30; decide, fun mm hm1 hm2 => ?_⟩
      have hnd : mm = 4 ↔ (farN rows dp dq dr n).Nodup := by
        refine hm1.trans ?_
        rw [hn]
        exact far_nd
      walk_at "gs"
      rw [Rz.dec_int]
      refine if_2 (fun z => ?_) (fun z => ?_)
      · have z1 : ¬ (farN rows dp dq dr n).Nodup := fun y => by
          rw [decide_eq_true (by have := hnd.mpr y; omega)] at z
          cases z
        walk_at "gs"
        refine g_js0 (by decide) fun l1 => ?_
        refine g_jsI rfl hs1 l1 (by decide) fun l2 => ?_
        refine g_jsC l2 (by decide) (by decide) fun l3 => ?_
        refine g_jsN ?_
        exact k0 (by rw [hE1, if_neg z1]) _ (sm1.trans sm2)
      · have z1 : (farN rows dp dq dr n).Nodup := by
          by_cases y : (mm : Int) = 4
          · exact hnd.mp (by omega)
          · rw [decide_eq_false y] at z
            cases z
        walk_at "gs"
        exact ⟨rfl, rfl, z1⟩
    rintro σ' _ ⟨rfl, rfl, hfar⟩
    rw [if_pos hfar] at hE1
    have sm02 := sm1.trans sm2
    -- p, q, r
    refine g_cut (fun σ' H' => σ' = [some (.ref p0), some (.ref up), some (.int nv), some (.ref r0), some (.ref D0), some (.int ((nodeOf rows (twin dp) : Int) + 1)), some (.int ((nodeOf rows (twin dq) : Int) + 1)), some (.int ((nodeOf rows (twin dr) : Int) + 1)), some (.int dp), some (.int dq), some (.int dr), none, none, none, none, none, none, none, none] ∧ H2 = H') ?_ ?_
    · walk_at "gs"
      refine ⟨r0, _, rfl, Same.sqt sm02 hr3, rfl, _, _, rfl, _, _, rfl, _, _, rfl, rfl, ?_⟩
      exact ⟨rfl, rfl⟩
    rintro σ' _ ⟨rfl, rfl⟩
    obtain ⟨a, ha⟩ : ∃ a : Nat, dp / 2 = (a : Int) := ⟨(dp / 2).toNat, by have := bd dp (by simp); omega⟩
    obtain ⟨b, hb⟩ : ∃ b : Nat, dq / 2 = (b : Int) := ⟨(dq / 2).toNat, by have := bd dq (by simp); omega⟩
    obtain ⟨c, hc⟩ : ∃ c : Nat, dr / 2 = (c : Int) := ⟨(dr / 2).toNat, by have := bd dr (by simp); omega⟩
    have haq : a < qs.length := by have := bd dp (by simp); omega
    have hbq : b < qs.length := by have := bd dq (by simp); omega
    have hcq : c < qs.length := by have := bd dr (by simp); omega
    -- edges
    refine g_cut (fun σ' H' => ∃ le, σ' = [some (.ref p0), some (.ref up), some (.int nv), some (.ref r0), some (.ref D0), some (.int ((nodeOf rows (twin dp) : Int) + 1)), some (.int ((nodeOf rows (twin dq) : Int) + 1)), some (.int ((nodeOf rows (twin dr) : Int) + 1)), some (.int dp), some (.int dq), some (.int dr), some (.ref le), none, none, none, none, none, none, none] ∧ Same H2 H' ∧ H' le = some (.lst [.int (a : Int), .int (b : Int), .int (c : Int)])) ?_ ?_
    · walk_at "gs"
      refine ints_lcT (ns := [dp, dq, dr]) (fun d => d / 2) (Same.sqt sm02 hr3) (by show 3 ≤ 100000; decide) (fun _ => rfl) ?_ ?_
      · intro j d H3 Q2 hd sm3 kk2
        walk_at "gs"
        rw [fd2]
        exact kk2 _ (Same.refl _)
      · intro l2 H3 sm3 hl2 el2
        refine ⟨l2, rfl, sm3, ?_⟩
        rw [el2]
        show some (HO.lst [.int (dp / 2), .int (dq / 2), .int (dr / 2)]) = _
        rw [ha, hb, hc]
    rintro σ' H3 ⟨le, rfl, sm3, ele⟩
    -- a, b, c
    refine g_cut (fun σ' H' => σ' = [some (.ref p0), some (.ref up), some (.int nv), some (.ref r0), some (.ref D0), some (.int ((nodeOf rows (twin dp) : Int) + 1)), some (.int ((nodeOf rows (twin dq) : Int) + 1)), some (.int ((nodeOf rows (twin dr) : Int) + 1)), some (.int dp), some (.int dq), some (.int dr), some (.ref le), some (.int (2 * (a : Int))), some (.int (2 * (b : Int))), some (.int (2 * (c : Int))), none, none, none, none] ∧ Same H3 H') ?_ ?_
    · walk_at "gs"
      refine ints_lcL (ns := [(a : Int), (b : Int), (c : Int)]) (fun d => 2 * d) (SqL.of ele) (by show 3 ≤ 100000; decide) (fun _ => rfl) ?_ ?_
      · intro j d H4 Q2 hd sm4 kk2
        walk_at "gs"
        exact kk2 _ (Same.refl _)
      · intro l2 H4 sm4 hl2 el2
        refine ⟨l2, _, rfl, SqL.of el2, rfl, _, _, rfl, _, _, rfl, _, _, rfl, rfl, ?_⟩
        exact ⟨rfl, sm4⟩
    rintro σ' H9 ⟨rfl, sm9⟩
    have sm09 := sm02.trans (sm3.trans sm9)
    have hN9 := hN.same sm09
    have ele9 := sm9 _ _ ele
    -- moved
    refine g_cut (fun σ' H' => ∃ mv, σ' = [some (.ref p0), some (.ref up), some (.int nv), some (.ref r0), some (.ref D0), some (.int ((nodeOf rows (twin dp) : Int) + 1)), some (.int ((nodeOf rows (twin dq) : Int) + 1)), some (.int ((nodeOf rows (twin dr) : Int) + 1)), some (.int dp), some (.int dq), some (.int dr), some (.ref le), some (.int (2 * (a : Int))), some (.int (2 * (b : Int))), some (.int (2 * (c : Int))), some mv, none, none, none] ∧ Same H9 H' ∧ NetV K H' mv rim (putC (starC dp dq dr) rows) qs) ?_ ?_
    · walk_at "gs"
      refine g_disp fun D hD => ?_
      have sD := up_same (o := .dK []) hD
      refine g_pair ?_
      walk_at "gs"
      refine g_newT (by show 0 ≤ 1000000; decide) fun e1 he1 => ?_
      have s1 := up_same (o := .tup []) he1
      refine g_pair ?_
      walk_at "gs"
      refine g_newT (by show 0 ≤ 1000000; decide) fun e2 he2 => ?_
      have s2 := up_same (o := .tup []) he2
      refine g_pair ?_
      walk_at "gs"
      refine g_newT (by show 0 ≤ 1000000; decide) fun e3 he3 => ?_
      have s3 := up_same (o := .tup []) he3
      refine g_pair ?_
      walk_at "gs"
      refine ⟨dp, rfl, (bd dp (by simp)).1, ?_⟩
      walk_at "gs"
      refine g_newT (by show 2 ≤ 1000000; decide) fun t1 ht1 => ?_
      have s4 := up_same (o := .tup [.int (2 * (c : Int)), .int (2 * (b : Int) + 1)]) ht1
      refine g_pair ?_
      walk_at "gs"
      refine ⟨dq, rfl, (bd dq (by simp)).1, ?_⟩
      walk_at "gs"
      refine g_newT (by show 2 ≤ 1000000; decide) fun t2 ht2 => ?_
      have s5 := up_same (o := .tup [.int (2 * (a : Int)), .int (2 * (c : Int) + 1)]) ht2
      refine g_pair ?_
      walk_at "gs"
      refine ⟨dr, rfl, (bd dr (by simp)).1, ?_⟩
      walk_at "gs"
      refine g_newT (by show 2 ≤ 1000000; decide) fun t3 ht3 => ?_
      have s6 := up_same (o := .tup [.int (2 * (b : Int)), .int (2 * (a : Int) + 1)]) ht3
      have sE : Same (upd H9 D (.dK [])) (upd (upd (upd (upd (upd (upd (upd H9 D (.dK [])) e1 (.tup [])) e2 (.tup [])) e3 (.tup [])) t1 (.tup [.int (2 * (c : Int)), .int (2 * (b : Int) + 1)])) t2 (.tup [.int (2 * (a : Int)), .int (2 * (c : Int) + 1)])) t3 (.tup [.int (2 * (b : Int)), .int (2 * (a : Int) + 1)])) := s1.trans (s2.trans (s3.trans (s4.trans (s5.trans (s6)))))
      refine g_pair0 ⟨sE _ _ upd_same, [(.inl dp, .ref e1), (.inl dq, .ref e2), (.inl dr, .ref e3), (.inl (twin dp), .ref t1), (.inl (twin dq), .ref t2), (.inl (twin dr), .ref t3)], rfl, by show 6 ≤ 15; decide, ?_⟩
      have qe1 : SqT K (upd (upd (upd (upd (upd (upd (upd H9 D (.dK [])) e1 (.tup [])) e2 (.tup [])) e3 (.tup [])) t1 (.tup [.int (2 * (c : Int)), .int (2 * (b : Int) + 1)])) t2 (.tup [.int (2 * (a : Int)), .int (2 * (c : Int) + 1)])) t3 (.tup [.int (2 * (b : Int)), .int (2 * (a : Int) + 1)])) e1 [] := Same.sqt (s2.trans (s3.trans (s4.trans (s5.trans (s6))))) (SqT.of upd_same)
      have qe2 : SqT K (upd (upd (upd (upd (upd (upd (upd H9 D (.dK [])) e1 (.tup [])) e2 (.tup [])) e3 (.tup [])) t1 (.tup [.int (2 * (c : Int)), .int (2 * (b : Int) + 1)])) t2 (.tup [.int (2 * (a : Int)), .int (2 * (c : Int) + 1)])) t3 (.tup [.int (2 * (b : Int)), .int (2 * (a : Int) + 1)])) e2 [] := Same.sqt (s3.trans (s4.trans (s5.trans (s6)))) (SqT.of upd_same)
      have qe3 : SqT K (upd (upd (upd (upd (upd (upd (upd H9 D (.dK [])) e1 (.tup [])) e2 (.tup [])) e3 (.tup [])) t1 (.tup [.int (2 * (c : Int)), .int (2 * (b : Int) + 1)])) t2 (.tup [.int (2 * (a : Int)), .int (2 * (c : Int) + 1)])) t3 (.tup [.int (2 * (b : Int)), .int (2 * (a : Int) + 1)])) e3 [] := Same.sqt (s4.trans (s5.trans (s6))) (SqT.of upd_same)
      have qt1 : SqT K (upd (upd (upd (upd (upd (upd (upd H9 D (.dK [])) e1 (.tup [])) e2 (.tup [])) e3 (.tup [])) t1 (.tup [.int (2 * (c : Int)), .int (2 * (b : Int) + 1)])) t2 (.tup [.int (2 * (a : Int)), .int (2 * (c : Int) + 1)])) t3 (.tup [.int (2 * (b : Int)), .int (2 * (a : Int) + 1)])) t1 [.int (2 * (c : Int)), .int (2 * (b : Int) + 1)] := Same.sqt (s5.trans (s6)) (SqT.of upd_same)
      have qt2 : SqT K (upd (upd (upd (upd (upd (upd (upd H9 D (.dK [])) e1 (.tup [])) e2 (.tup [])) e3 (.tup [])) t1 (.tup [.int (2 * (c : Int)), .int (2 * (b : Int) + 1)])) t2 (.tup [.int (2 * (a : Int)), .int (2 * (c : Int) + 1)])) t3 (.tup [.int (2 * (b : Int)), .int (2 * (a : Int) + 1)])) t2 [.int (2 * (a : Int)), .int (2 * (c : Int) + 1)] := Same.sqt (s6) (SqT.of upd_same)
      have qt3 : SqT K (upd (upd (upd (upd (upd (upd (upd H9 D (.dK [])) e1 (.tup [])) e2 (.tup [])) e3 (.tup [])) t1 (.tup [.int (2 * (c : Int)), .int (2 * (b : Int) + 1)])) t2 (.tup [.int (2 * (a : Int)), .int (2 * (c : Int) + 1)])) t3 (.tup [.int (2 * (b : Int)), .int (2 * (a : Int) + 1)])) t3 [.int (2 * (b : Int)), .int (2 * (a : Int) + 1)] := SqT.of upd_same
      have eD : (upd (upd (upd (upd (upd (upd (upd H9 D (.dK [])) e1 (.tup [])) e2 (.tup [])) e3 (.tup [])) t1 (.tup [.int (2 * (c : Int)), .int (2 * (b : Int) + 1)])) t2 (.tup [.int (2 * (a : Int)), .int (2 * (c : Int) + 1)])) t3 (.tup [.int (2 * (b : Int)), .int (2 * (a : Int) + 1)])) D = some (.dK []) := sE _ _ upd_same
      have s9E := sD.trans sE
      generalize (upd (upd (upd (upd (upd (upd (upd H9 D (.dK [])) e1 (.tup [])) e2 (.tup [])) e3 (.tup [])) t1 (.tup [.int (2 * (c : Int)), .int (2 * (b : Int) + 1)])) t2 (.tup [.int (2 * (a : Int)), .int (2 * (c : Int) + 1)])) t3 (.tup [.int (2 * (b : Int)), .int (2 * (a : Int) + 1)])) = HE at *
      have skeep : ∀ (kv : List (Key × V)), Same H9 (upd HE D (.dK kv)) := fun kv c o h => by
        rw [upd_ne (ne_of_none h hD)]
        exact s9E _ _ h
      walk_at "gs"
      refine ⟨.ref p0, D, _, starC dp dq dr, rim, rows, qs, rfl, ⟨p0, t0, m0, ts, as, rfl, hN9.same (skeep _)⟩, upd_same, fun d hd => ?_, by omega, fun row hrow => by have := row_le hrow; have := hW.len; omega, fun d ns hns => Nat.le_trans (starC_len d ns hns) (by decide), fun v1 H6 sm6 hv6 => ?_⟩
      · rw [starC_eq]
        unfold starC
        rw [ha, hb, hc]
        by_cases z1 : d = twin dr
        · simp only [if_pos z1]
          exact ⟨t3, rfl, sqt_updD eD qt3⟩
        · by_cases z2 : d = twin dq
          · simp only [if_neg z1, if_pos z2]
            exact ⟨t2, rfl, sqt_updD eD qt2⟩
          · by_cases z3 : d = twin dp
            · simp only [if_neg z1, if_neg z2, if_pos z3]
              exact ⟨t1, rfl, sqt_updD eD qt1⟩
            · by_cases z4 : d = dr
              · simp only [if_neg z1, if_neg z2, if_neg z3, if_pos z4]
                exact ⟨e3, rfl, sqt_updD eD qe3⟩
              · by_cases z5 : d = dq
                · simp only [if_neg z1, if_neg z2, if_neg z3, if_neg z4, if_pos z5]
                  exact ⟨e2, rfl, sqt_updD eD qe2⟩
                · by_cases z6 : d = dp
                  · simp only [if_neg z1, if_neg z2, if_neg z3, if_neg z4, if_neg z5, if_pos z6]
                    exact ⟨e1, rfl, sqt_updD eD qe1⟩
                  · simp only [if_neg z1, if_neg z2, if_neg z3, if_neg z4, if_neg z5, if_neg z6]
      · walk_at "gs"
        exact ⟨v1, rfl, (skeep _).trans sm6, hv6⟩
    rintro σ' H10 ⟨mv, rfl, sm10, hmv⟩
    have hal : as.length = qs.length := hN.rats.len
    obtain ⟨xa, hxa⟩ : ∃ x, x = (as[a]'(by rw [hal]; exact haq)) := ⟨_, rfl⟩
    obtain ⟨xb, hxb⟩ : ∃ x, x = (as[b]'(by rw [hal]; exact hbq)) := ⟨_, rfl⟩
    obtain ⟨xc, hxc⟩ : ∃ x, x = (as[c]'(by rw [hal]; exact hcq)) := ⟨_, rfl⟩
    have haa : as[a]? = some xa := by rw [hxa]; exact List.getElem?_eq_getElem _
    have hbb : as[b]? = some xb := by rw [hxb]; exact List.getElem?_eq_getElem _
    have hcc : as[c]? = some xc := by rw [hxc]; exact List.getElem?_eq_getElem _
    have q1 : ∀ {k : Nat} {x : V}, k < qs.length → as[k]? = some x → RatV K H x (qs.getD k 0) ∧ 0 < qs.getD k 0 ∧ Bd 5 (qs.getD k 0) := fun {k x} hk hx => by
      have e : qs[k]? = some (qs.getD k 0) := by rw [List.getD_eq_getElem?_getD, List.getElem?_eq_getElem hk]; rfl
      have := hqs _ (List.mem_of_getElem? e)
      exact ⟨hN.rats.at_ k x _ hx e, this.1, this.2⟩
    obtain ⟨ra, pa, ba⟩ := q1 haq haa
    obtain ⟨rb, pb, bb⟩ := q1 hbq hbb
    obtain ⟨rc, pc, bc⟩ := q1 hcq hcc
    rw [ha, hb, hc, Int.toNat_natCast, Int.toNat_natCast, Int.toNat_natCast] at hE1
    generalize hqa : qs.getD a 0 = qa at *
    generalize hqb : qs.getD b 0 = qb at *
    generalize hqc : qs.getD c 0 = qc at *
    have sm010 := sm09.trans sm10
    have hN10 := hN.same sm010
    -- amounts
    refine g_cut (fun σ' H' => ∃ la, σ' = [some (.ref p0), some (.ref up), some (.int nv), some (.ref r0), some (.ref D0), some (.int ((nodeOf rows (twin dp) : Int) + 1)), some (.int ((nodeOf rows (twin dq) : Int) + 1)), some (.int ((nodeOf rows (twin dr) : Int) + 1)), some (.int dp), some (.int dq), some (.int dr), some (.ref le), some (.int (2 * (a : Int))), some (.int (2 * (b : Int))), some (.int (2 * (c : Int))), some mv, some (.ref la), none, none] ∧ Same H10 H' ∧ Am3 K H' la (qb * qc / (qa + qb + qc)) (qc * qa / (qa + qb + qc)) (qa * qb / (qa + qb + qc))) ?_ ?_
    · walk_at "gs"
      refine g_lcLst (SqL.of (sm10 _ _ ele9)) (fun l i acc H' => Same H10 H' ∧ H' l = some (.lst acc) ∧ acc = [xa, xb, xc].take i) (fun _ => rfl) (fun l hl => ⟨up_same hl, upd_same, rfl⟩) (fun l i acc H' _ h => h.1.seq (SqL.of (sm10 _ _ ele9))) ?_ ?_
      · rintro l i z acc H11 hl hz ⟨sm11, el, rfl⟩
        have hNX := hN10.same sm11
        have hi3 : i < 3 := (List.getElem?_eq_some_iff.mp hz).1
        obtain rfl | rfl | rfl : i = 0 ∨ i = 1 ∨ i = 2 := by omega
        · cases hz
          walk_at "gs"
          refine g_ixT hNX.top rfl ?_
          walk_at "gs"
          refine g_ixT hNX.ams (atI_nat haa) ?_
          refine lcN_of el (by show 0 ≤ 1000000; decide) ⟨fun c o h => ?_, upd_same, rfl⟩
          rw [upd_ne (ne_of_none h hl)]
          exact sm11 _ _ h
        · cases hz
          walk_at "gs"
          refine g_ixT hNX.top rfl ?_
          walk_at "gs"
          refine g_ixT hNX.ams (atI_nat hbb) ?_
          refine lcN_of el (by show 1 ≤ 1000000; decide) ⟨fun c o h => ?_, upd_same, rfl⟩
          rw [upd_ne (ne_of_none h hl)]
          exact sm11 _ _ h
        · cases hz
          walk_at "gs"
          refine g_ixT hNX.top rfl ?_
          walk_at "gs"
          refine g_ixT hNX.ams (atI_nat hcc) ?_
          refine lcN_of el (by show 2 ≤ 1000000; decide) ⟨fun c o h => ?_, upd_same, rfl⟩
          rw [upd_ne (ne_of_none h hl)]
          exact sm11 _ _ h
      · rintro l acc H11 hl ⟨sm11, el, rfl⟩
        have sX := sm010.trans sm11
        walk_at "gs"
        refine ⟨l, qa, qb, qc, rfl, ⟨xa, xb, xc, el, ra.same sX, rb.same sX, rc.same sX⟩, pa, pb, pc, ba, bb, bc, fun la H12 sm12 hla hA => ?_⟩
        walk_at "gs"
        exact ⟨la, rfl, sm11.trans sm12, hA⟩
    rintro σ' H11 ⟨la, rfl, sm11, ⟨y1, y2, y3, ela, hy1, hy2, hy3⟩⟩
    walk_at "gs"
    refine g_dictZip ?_
    walk_at "gs"
    refine ⟨le, la, [(a : Int), (b : Int), (c : Int)], [y1, y2, y3], rfl, SqL.of (sm11 _ _ (sm10 _ _ ele9)), SqL.of ela, rfl, by show 3 ≤ 1000; decide, fun D hD => ?_⟩
    have s12 := up_same (o := .dK (mergeK [] (zipK [(a : Int), (b : Int), (c : Int)] [y1, y2, y3]))) hD
    walk_at "gs"
    refine ⟨mv, D, _, fun j => if j = c then some (qa * qb / (qa + qb + qc)) else if j = b then some (qc * qa / (qa + qb + qc)) else if j = a then some (qb * qc / (qa + qb + qc)) else none, rim, _, qs, rfl, hmv.same (sm11.trans s12), upd_same, fun j hj => ?_, by omega, fun v1 H13 sm13 hv13 => ?_⟩
    · rw [zip3_eq]
      by_cases z1 : j = c
      · simp only [if_pos z1]
        exact ⟨y3, rfl, hy3.same s12⟩
      · by_cases z2 : j = b
        · simp only [if_neg z1, if_pos z2]
          exact ⟨y2, rfl, hy2.same s12⟩
        · by_cases z3 : j = a
          · simp only [if_neg z1, if_neg z2, if_pos z3]
            exact ⟨y1, rfl, hy1.same s12⟩
          · simp only [if_neg z1, if_neg z2, if_neg z3]
    walk_at "gs"
    have hnv : nv = ((n + 1 : Nat) : Int) := by omega
    refine ⟨v1, n + 1, rim, _, _, congrArg (fun z => [v1, V.int z]) hnv, hv13, by omega, by unfold putC; rw [List.length_map]; omega, by unfold putC; rw [List.length_map]; omega, fun v2 H14 sm14 hv14 => ?_⟩
    exact k1 _ hE1 v2 H14 (sm010.trans (sm11.trans (s12.trans (sm13.trans sm14)))) hv14
theorem ok_apply_move (T : Txt K mg A) (hD : KD K w A.z_ACTIONS) (q1 : PySem.W.nsIn K A.z_ACTIONS "star" = some (some (.ref A.f_do_star))) {Em : Nat} (hEm : Em ≤ 60) :
    FnOk P w K mg base (L2.CX P w) 6 A.f_apply_move A.fd_apply_move ["net", "move"] (spApply K A.C_MoveError afterT (fun mv => isStar mv ∧ mv.small) Em) := by
  have G := ok_do_star (P := P) (w := w) (base := base) T hEm
  have nd := sc_apply_move.nd
  refine T.F_apply_move.okX sc_apply_move (fun vs H Q E h => ?_) (fun cdv Ar outer s H vs Q E hr h => ?_)
  · obtain ⟨v, u, rim, rows, qs, En, mv, rfl, _⟩ := h
    rfl
  · obtain ⟨v, u, rim, rows, qs, En, mv, rfl, hv, ⟨up, rfl, hu⟩, ⟨hS, hsm⟩, hrest⟩ := h
    obtain ⟨j, rfl⟩ := hS
    have hu1 : SqT K H up [.str "star", .int j] := hu
    refine ⟨_, (pss_cons (ps_set (i := 2) nd rfl (Or.inl rfl) (pe_kget1 (w := w) (K := K) rfl rfl (pe_glob (v := .ref A.z_ACTIONS) (by rfl) T.c_ACTIONS rfl) (pe_ix (ix_tupK (K := K) rfl) (pv 1) pe_int (fun _ _ => rfl)) ⟨rfl, rfl, rfl, rfl⟩)) (pss_cons (ps_if (pt_cmpR zo_isN (pv 2) pe_non (nomark _)) (pss_one (ps_raise rfl (takes_of rfl rfl rfl rfl) (pmk_own PySem.F.excBase_ValueError T.x_MoveError T.g_MoveError T.k_MoveError (raises_own T.bb_MoveError T.t_MoveError) (by exact rfl)))) pss_nil) (pss_one (ps_ret (pe_callL (i := 2) (E := E) G hr rfl (Or.inl rfl) T.F_do_star.kp T.b_do_star .nil (passes_call (takes_of rfl rfl rfl rfl) (fun _ _ _ _ h => h)) (pa_cons (pv 0) (pa_cons (pv 1) pa_nil))))))), ?_⟩
    walk_at "gs"
    refine g_kget ?_
    walk_at "gs"
    refine ⟨_, rfl, hD, ?_⟩
    walk_at "gs"
    refine ⟨_, _, .ref A.f_do_star, rfl, q1, rfl, ?_⟩
    walk_at "gs"
    refine if_f rfl ?_
    walk_at "gs"
    refine g_callL rfl ?_
    walk_at "gs"
    exact ⟨v, .ref up, rim, rows, qs, En, _, rfl, hv, ⟨up, rfl, hu⟩, ⟨⟨j, rfl⟩, hsm⟩, hrest⟩
end

theorem all_mk {l : PySem.W.OpenLaw} {w : World} {K : PySem.W.Frag} {h : Heap} {mg : Str → Option Value} {fa f_other_dart f_homes_of f_ratio f_plus f_times f_over f_total f_do_star f_apply_move f_inner_turn f_triangle_amounts f_with_darts f_with_amounts f_without_node f_l_pick f_l_gcd f_l_ratio f_l_add f_l_mul f_l_div f_l_same f_l_amount f_l_at f_l_face f_l_grow f_l_net f_l_ends f_l_other f_l_drop f_l_drop_node f_l_put f_l_swap f_l_after_loop f_l_after_loose f_l_after_parallel f_l_after_series f_l_after_star f_l_after_triangle f_l_after_number f_l_after f_l_all_moves f_l_told f_law C_RimError C_RatioError C_MoveError z_ZERO z_ACTIONS : Addr} (X : K.In h) (G : h.Ns mainGlobals mg) (hfa : mg "law" = some (.ref fa))
    {od0 an0 od1 an1 od2 an2 od3 an3 od4 an4 od5 an5 od6 an6 od7 an7 od8 an8 od9 an9 od10 an10 od11 an11 od12 an12 od13 an13 od14 an14 od15 an15 od16 an16 od17 an17 od18 an18 od19 an19 od20 an20 od21 an21 od22 an22 od23 an23 od24 an24 od25 an25 od26 an26 od27 an27 od28 an28 od29 an29 od30 an30 od31 an31 od32 an32 od33 an33 od34 an34 od35 an35 od36 an36 od37 an37 od38 an38 od39 an39 od40 an40 od41 an41 od42 an42 : Option Addr} {sl0 sl1 sl2 sl3 sl4 sl5 sl6 sl7 sl8 sl9 sl10 sl11 sl12 sl13 sl14 sl15 sl16 sl17 sl18 sl19 sl20 sl21 sl22 sl23 sl24 sl25 sl26 sl27 sl28 sl29 sl30 sl31 sl32 sl33 sl34 sl35 sl36 sl37 sl38 sl39 sl40 sl41 sl42 : Array (Option Value)} {oc0 kV0 dc0 pm0 cd0 ct0 oc1 kV1 dc1 pm1 cd1 ct1 oc2 kV2 dc2 pm2 cd2 ct2 oc3 kV3 dc3 pm3 cd3 ct3 oc4 kV4 dc4 pm4 cd4 ct4 oc5 kV5 dc5 pm5 cd5 ct5 oc6 kV6 dc6 pm6 cd6 ct6 oc7 kV7 dc7 pm7 cd7 ct7 oc8 kV8 dc8 pm8 cd8 ct8 oc9 kV9 dc9 pm9 cd9 ct9 oc10 kV10 dc10 pm10 cd10 ct10 oc11 kV11 dc11 pm11 cd11 ct11 oc12 kV12 dc12 pm12 cd12 ct12 oc13 kV13 dc13 pm13 cd13 ct13 oc14 kV14 dc14 pm14 cd14 ct14 oc15 kV15 dc15 pm15 cd15 ct15 oc16 kV16 dc16 pm16 cd16 ct16 oc17 kV17 dc17 pm17 cd17 ct17 oc18 kV18 dc18 pm18 cd18 ct18 oc19 kV19 dc19 pm19 cd19 ct19 oc20 kV20 dc20 pm20 cd20 ct20 oc21 kV21 dc21 pm21 cd21 ct21 oc22 kV22 dc22 pm22 cd22 ct22 oc23 kV23 dc23 pm23 cd23 ct23 oc24 kV24 dc24 pm24 cd24 ct24 oc25 kV25 dc25 pm25 cd25 ct25 oc26 kV26 dc26 pm26 cd26 ct26 oc27 kV27 dc27 pm27 cd27 ct27 oc28 kV28 dc28 pm28 cd28 ct28 oc29 kV29 dc29 pm29 cd29 ct29 oc30 kV30 dc30 pm30 cd30 ct30 oc31 kV31 dc31 pm31 cd31 ct31 oc32 kV32 dc32 pm32 cd32 ct32 oc33 kV33 dc33 pm33 cd33 ct33 oc34 kV34 dc34 pm34 cd34 ct34 oc35 kV35 dc35 pm35 cd35 ct35 oc36 kV36 dc36 pm36 cd36 ct36 oc37 kV37 dc37 pm37 cd37 ct37 oc38 kV38 dc38 pm38 cd38 ct38 oc39 kV39 dc39 pm39 cd39 ct39 oc40 kV40 dc40 pm40 cd40 ct40 oc41 kV41 dc41 pm41 cd41 ct41 oc42 kV42 dc42 pm42 cd42 ct42 : Value} {tk0_0 tk0_1 : Tok}
    (a_other_dart : PySem.W.nsIn K mainGlobals "other_dart" = some (some (.ref f_other_dart))) (l_other_dart : K.lookup f_other_dart = some ⟨oc0, od0, .func (PySem.W.fnOf "other_dart" "other_dart" (defArgs s_other_dart) (defBody s_other_dart) (defScope s_other_dart) .none kV0 dc0 pm0 an0 cd0 ct0), sl0⟩) (c_other_dart : PySem.W.codeIn K cd0 "other_dart" = true) (k_other_dart : PySem.W.keepIn K (.ref f_other_dart) = true)
    (a_homes_of : PySem.W.nsIn K mainGlobals "homes_of" = some (some (.ref f_homes_of))) (l_homes_of : K.lookup f_homes_of = some ⟨oc1, od1, .func (PySem.W.fnOf "homes_of" "homes_of" (defArgs s_homes_of) (defBody s_homes_of) (defScope s_homes_of) .none kV1 dc1 pm1 an1 cd1 ct1), sl1⟩) (c_homes_of : PySem.W.codeIn K cd1 "homes_of" = true) (k_homes_of : PySem.W.keepIn K (.ref f_homes_of) = true)
    (a_ratio : PySem.W.nsIn K mainGlobals "ratio" = some (some (.ref f_ratio))) (l_ratio : K.lookup f_ratio = some ⟨oc2, od2, .func (PySem.W.fnOf "ratio" "ratio" (defArgs s_ratio) (defBody s_ratio) (defScope s_ratio) .none kV2 dc2 pm2 an2 cd2 ct2), sl2⟩) (c_ratio : PySem.W.codeIn K cd2 "ratio" = true) (k_ratio : PySem.W.keepIn K (.ref f_ratio) = true)
    (a_plus : PySem.W.nsIn K mainGlobals "plus" = some (some (.ref f_plus))) (l_plus : K.lookup f_plus = some ⟨oc3, od3, .func (PySem.W.fnOf "plus" "plus" (defArgs s_plus) (defBody s_plus) (defScope s_plus) .none kV3 dc3 pm3 an3 cd3 ct3), sl3⟩) (c_plus : PySem.W.codeIn K cd3 "plus" = true) (k_plus : PySem.W.keepIn K (.ref f_plus) = true)
    (a_times : PySem.W.nsIn K mainGlobals "times" = some (some (.ref f_times))) (l_times : K.lookup f_times = some ⟨oc4, od4, .func (PySem.W.fnOf "times" "times" (defArgs s_times) (defBody s_times) (defScope s_times) .none kV4 dc4 pm4 an4 cd4 ct4), sl4⟩) (c_times : PySem.W.codeIn K cd4 "times" = true) (k_times : PySem.W.keepIn K (.ref f_times) = true)
    (a_over : PySem.W.nsIn K mainGlobals "over" = some (some (.ref f_over))) (l_over : K.lookup f_over = some ⟨oc5, od5, .func (PySem.W.fnOf "over" "over" (defArgs s_over) (defBody s_over) (defScope s_over) .none kV5 dc5 pm5 an5 cd5 ct5), sl5⟩) (c_over : PySem.W.codeIn K cd5 "over" = true) (k_over : PySem.W.keepIn K (.ref f_over) = true)
    (a_total : PySem.W.nsIn K mainGlobals "total" = some (some (.ref f_total))) (l_total : K.lookup f_total = some ⟨oc6, od6, .func (PySem.W.fnOf "total" "total" (defArgs s_total) (defBody s_total) (defScope s_total) .none kV6 dc6 pm6 an6 cd6 ct6), sl6⟩) (c_total : PySem.W.codeIn K cd6 "total" = true) (k_total : PySem.W.keepIn K (.ref f_total) = true)
    (a_do_star : PySem.W.nsIn K mainGlobals "do_star" = some (some (.ref f_do_star))) (l_do_star : K.lookup f_do_star = some ⟨oc7, od7, .func (PySem.W.fnOf "do_star" "do_star" (defArgs s_do_star) (defBody s_do_star) (defScope s_do_star) .none kV7 dc7 pm7 an7 cd7 ct7), sl7⟩) (c_do_star : PySem.W.codeIn K cd7 "do_star" = true) (k_do_star : PySem.W.keepIn K (.ref f_do_star) = true)
    (a_apply_move : PySem.W.nsIn K mainGlobals "apply_move" = some (some (.ref f_apply_move))) (l_apply_move : K.lookup f_apply_move = some ⟨oc8, od8, .func (PySem.W.fnOf "apply_move" "apply_move" (defArgs s_apply_move) (defBody s_apply_move) (defScope s_apply_move) .none kV8 dc8 pm8 an8 cd8 ct8), sl8⟩) (c_apply_move : PySem.W.codeIn K cd8 "apply_move" = true) (k_apply_move : PySem.W.keepIn K (.ref f_apply_move) = true)
    (a_inner_turn : PySem.W.nsIn K mainGlobals "inner_turn" = some (some (.ref f_inner_turn))) (l_inner_turn : K.lookup f_inner_turn = some ⟨oc9, od9, .func (PySem.W.fnOf "inner_turn" "inner_turn" (defArgs s_inner_turn) (defBody s_inner_turn) (defScope s_inner_turn) .none kV9 dc9 pm9 an9 cd9 ct9), sl9⟩) (c_inner_turn : PySem.W.codeIn K cd9 "inner_turn" = true) (k_inner_turn : PySem.W.keepIn K (.ref f_inner_turn) = true)
    (a_triangle_amounts : PySem.W.nsIn K mainGlobals "triangle_amounts" = some (some (.ref f_triangle_amounts))) (l_triangle_amounts : K.lookup f_triangle_amounts = some ⟨oc10, od10, .func (PySem.W.fnOf "triangle_amounts" "triangle_amounts" (defArgs s_triangle_amounts) (defBody s_triangle_amounts) (defScope s_triangle_amounts) .none kV10 dc10 pm10 an10 cd10 ct10), sl10⟩) (c_triangle_amounts : PySem.W.codeIn K cd10 "triangle_amounts" = true) (k_triangle_amounts : PySem.W.keepIn K (.ref f_triangle_amounts) = true)
    (a_with_darts : PySem.W.nsIn K mainGlobals "with_darts" = some (some (.ref f_with_darts))) (l_with_darts : K.lookup f_with_darts = some ⟨oc11, od11, .func (PySem.W.fnOf "with_darts" "with_darts" (defArgs s_with_darts) (defBody s_with_darts) (defScope s_with_darts) .none kV11 dc11 pm11 an11 cd11 ct11), sl11⟩) (c_with_darts : PySem.W.codeIn K cd11 "with_darts" = true) (k_with_darts : PySem.W.keepIn K (.ref f_with_darts) = true)
    (a_with_amounts : PySem.W.nsIn K mainGlobals "with_amounts" = some (some (.ref f_with_amounts))) (l_with_amounts : K.lookup f_with_amounts = some ⟨oc12, od12, .func (PySem.W.fnOf "with_amounts" "with_amounts" (defArgs s_with_amounts) (defBody s_with_amounts) (defScope s_with_amounts) .none kV12 dc12 pm12 an12 cd12 ct12), sl12⟩) (c_with_amounts : PySem.W.codeIn K cd12 "with_amounts" = true) (k_with_amounts : PySem.W.keepIn K (.ref f_with_amounts) = true)
    (a_without_node : PySem.W.nsIn K mainGlobals "without_node" = some (some (.ref f_without_node))) (l_without_node : K.lookup f_without_node = some ⟨oc13, od13, .func (PySem.W.fnOf "without_node" "without_node" (defArgs s_without_node) (defBody s_without_node) (defScope s_without_node) .none kV13 dc13 pm13 an13 cd13 ct13), sl13⟩) (c_without_node : PySem.W.codeIn K cd13 "without_node" = true) (k_without_node : PySem.W.keepIn K (.ref f_without_node) = true)
    (a_l_pick : PySem.W.nsIn K mainGlobals "_law_pick" = some (some (.ref f_l_pick))) (l_l_pick : K.lookup f_l_pick = some ⟨oc14, od14, .func (PySem.W.fnOf "_law_pick" "_law_pick" (defArgs s_l_pick) (defBody s_l_pick) (defScope s_l_pick) .none kV14 dc14 pm14 an14 cd14 ct14), sl14⟩) (c_l_pick : PySem.W.codeIn K cd14 "_law_pick" = true) (k_l_pick : PySem.W.keepIn K (.ref f_l_pick) = true)
    (a_l_gcd : PySem.W.nsIn K mainGlobals "_law_gcd" = some (some (.ref f_l_gcd))) (l_l_gcd : K.lookup f_l_gcd = some ⟨oc15, od15, .func (PySem.W.fnOf "_law_gcd" "_law_gcd" (defArgs s_l_gcd) (defBody s_l_gcd) (defScope s_l_gcd) .none kV15 dc15 pm15 an15 cd15 ct15), sl15⟩) (c_l_gcd : PySem.W.codeIn K cd15 "_law_gcd" = true) (k_l_gcd : PySem.W.keepIn K (.ref f_l_gcd) = true)
    (a_l_ratio : PySem.W.nsIn K mainGlobals "_law_ratio" = some (some (.ref f_l_ratio))) (l_l_ratio : K.lookup f_l_ratio = some ⟨oc16, od16, .func (PySem.W.fnOf "_law_ratio" "_law_ratio" (defArgs s_l_ratio) (defBody s_l_ratio) (defScope s_l_ratio) .none kV16 dc16 pm16 an16 cd16 ct16), sl16⟩) (c_l_ratio : PySem.W.codeIn K cd16 "_law_ratio" = true) (k_l_ratio : PySem.W.keepIn K (.ref f_l_ratio) = true)
    (a_l_add : PySem.W.nsIn K mainGlobals "_law_add" = some (some (.ref f_l_add))) (l_l_add : K.lookup f_l_add = some ⟨oc17, od17, .func (PySem.W.fnOf "_law_add" "_law_add" (defArgs s_l_add) (defBody s_l_add) (defScope s_l_add) .none kV17 dc17 pm17 an17 cd17 ct17), sl17⟩) (c_l_add : PySem.W.codeIn K cd17 "_law_add" = true) (k_l_add : PySem.W.keepIn K (.ref f_l_add) = true)
    (a_l_mul : PySem.W.nsIn K mainGlobals "_law_mul" = some (some (.ref f_l_mul))) (l_l_mul : K.lookup f_l_mul = some ⟨oc18, od18, .func (PySem.W.fnOf "_law_mul" "_law_mul" (defArgs s_l_mul) (defBody s_l_mul) (defScope s_l_mul) .none kV18 dc18 pm18 an18 cd18 ct18), sl18⟩) (c_l_mul : PySem.W.codeIn K cd18 "_law_mul" = true) (k_l_mul : PySem.W.keepIn K (.ref f_l_mul) = true)
    (a_l_div : PySem.W.nsIn K mainGlobals "_law_div" = some (some (.ref f_l_div))) (l_l_div : K.lookup f_l_div = some ⟨oc19, od19, .func (PySem.W.fnOf "_law_div" "_law_div" (defArgs s_l_div) (defBody s_l_div) (defScope s_l_div) .none kV19 dc19 pm19 an19 cd19 ct19), sl19⟩) (c_l_div : PySem.W.codeIn K cd19 "_law_div" = true) (k_l_div : PySem.W.keepIn K (.ref f_l_div) = true)
    (a_l_same : PySem.W.nsIn K mainGlobals "_law_same" = some (some (.ref f_l_same))) (l_l_same : K.lookup f_l_same = some ⟨oc20, od20, .func (PySem.W.fnOf "_law_same" "_law_same" (defArgs s_l_same) (defBody s_l_same) (defScope s_l_same) .none kV20 dc20 pm20 an20 cd20 ct20), sl20⟩) (c_l_same : PySem.W.codeIn K cd20 "_law_same" = true) (k_l_same : PySem.W.keepIn K (.ref f_l_same) = true)
    (a_l_amount : PySem.W.nsIn K mainGlobals "_law_amount" = some (some (.ref f_l_amount))) (l_l_amount : K.lookup f_l_amount = some ⟨oc21, od21, .func (PySem.W.fnOf "_law_amount" "_law_amount" (defArgs s_l_amount) (defBody s_l_amount) (defScope s_l_amount) .none kV21 dc21 pm21 an21 cd21 ct21), sl21⟩) (c_l_amount : PySem.W.codeIn K cd21 "_law_amount" = true) (k_l_amount : PySem.W.keepIn K (.ref f_l_amount) = true)
    (a_l_at : PySem.W.nsIn K mainGlobals "_law_at" = some (some (.ref f_l_at))) (l_l_at : K.lookup f_l_at = some ⟨oc22, od22, .func (PySem.W.fnOf "_law_at" "_law_at" (defArgs s_l_at) (defBody s_l_at) (defScope s_l_at) .none kV22 dc22 pm22 an22 cd22 ct22), sl22⟩) (c_l_at : PySem.W.codeIn K cd22 "_law_at" = true) (k_l_at : PySem.W.keepIn K (.ref f_l_at) = true)
    (a_l_face : PySem.W.nsIn K mainGlobals "_law_face" = some (some (.ref f_l_face))) (l_l_face : K.lookup f_l_face = some ⟨oc23, od23, .func (PySem.W.fnOf "_law_face" "_law_face" (defArgs s_l_face) (defBody s_l_face) (defScope s_l_face) .none kV23 dc23 pm23 an23 cd23 ct23), sl23⟩) (c_l_face : PySem.W.codeIn K cd23 "_law_face" = true) (k_l_face : PySem.W.keepIn K (.ref f_l_face) = true)
    (a_l_grow : PySem.W.nsIn K mainGlobals "_law_grow" = some (some (.ref f_l_grow))) (l_l_grow : K.lookup f_l_grow = some ⟨oc24, od24, .func (PySem.W.fnOf "_law_grow" "_law_grow" (defArgs s_l_grow) (defBody s_l_grow) (defScope s_l_grow) .none kV24 dc24 pm24 an24 cd24 ct24), sl24⟩) (c_l_grow : PySem.W.codeIn K cd24 "_law_grow" = true) (k_l_grow : PySem.W.keepIn K (.ref f_l_grow) = true)
    (a_l_net : PySem.W.nsIn K mainGlobals "_law_net" = some (some (.ref f_l_net))) (l_l_net : K.lookup f_l_net = some ⟨oc25, od25, .func (PySem.W.fnOf "_law_net" "_law_net" (defArgs s_l_net) (defBody s_l_net) (defScope s_l_net) .none kV25 dc25 pm25 an25 cd25 ct25), sl25⟩) (c_l_net : PySem.W.codeIn K cd25 "_law_net" = true) (k_l_net : PySem.W.keepIn K (.ref f_l_net) = true)
    (a_l_ends : PySem.W.nsIn K mainGlobals "_law_ends" = some (some (.ref f_l_ends))) (l_l_ends : K.lookup f_l_ends = some ⟨oc26, od26, .func (PySem.W.fnOf "_law_ends" "_law_ends" (defArgs s_l_ends) (defBody s_l_ends) (defScope s_l_ends) .none kV26 dc26 pm26 an26 cd26 ct26), sl26⟩) (c_l_ends : PySem.W.codeIn K cd26 "_law_ends" = true) (k_l_ends : PySem.W.keepIn K (.ref f_l_ends) = true)
    (a_l_other : PySem.W.nsIn K mainGlobals "_law_other" = some (some (.ref f_l_other))) (l_l_other : K.lookup f_l_other = some ⟨oc27, od27, .func (PySem.W.fnOf "_law_other" "_law_other" (defArgs s_l_other) (defBody s_l_other) (defScope s_l_other) .none kV27 dc27 pm27 an27 cd27 ct27), sl27⟩) (c_l_other : PySem.W.codeIn K cd27 "_law_other" = true) (k_l_other : PySem.W.keepIn K (.ref f_l_other) = true)
    (a_l_drop : PySem.W.nsIn K mainGlobals "_law_drop" = some (some (.ref f_l_drop))) (l_l_drop : K.lookup f_l_drop = some ⟨oc28, od28, .func (PySem.W.fnOf "_law_drop" "_law_drop" (defArgs s_l_drop) (defBody s_l_drop) (defScope s_l_drop) .none kV28 dc28 pm28 an28 cd28 ct28), sl28⟩) (c_l_drop : PySem.W.codeIn K cd28 "_law_drop" = true) (k_l_drop : PySem.W.keepIn K (.ref f_l_drop) = true)
    (a_l_drop_node : PySem.W.nsIn K mainGlobals "_law_drop_node" = some (some (.ref f_l_drop_node))) (l_l_drop_node : K.lookup f_l_drop_node = some ⟨oc29, od29, .func (PySem.W.fnOf "_law_drop_node" "_law_drop_node" (defArgs s_l_drop_node) (defBody s_l_drop_node) (defScope s_l_drop_node) .none kV29 dc29 pm29 an29 cd29 ct29), sl29⟩) (c_l_drop_node : PySem.W.codeIn K cd29 "_law_drop_node" = true) (k_l_drop_node : PySem.W.keepIn K (.ref f_l_drop_node) = true)
    (a_l_put : PySem.W.nsIn K mainGlobals "_law_put" = some (some (.ref f_l_put))) (l_l_put : K.lookup f_l_put = some ⟨oc30, od30, .func (PySem.W.fnOf "_law_put" "_law_put" (defArgs s_l_put) (defBody s_l_put) (defScope s_l_put) .none kV30 dc30 pm30 an30 cd30 ct30), sl30⟩) (c_l_put : PySem.W.codeIn K cd30 "_law_put" = true) (k_l_put : PySem.W.keepIn K (.ref f_l_put) = true)
    (a_l_swap : PySem.W.nsIn K mainGlobals "_law_swap" = some (some (.ref f_l_swap))) (l_l_swap : K.lookup f_l_swap = some ⟨oc31, od31, .func (PySem.W.fnOf "_law_swap" "_law_swap" (defArgs s_l_swap) (defBody s_l_swap) (defScope s_l_swap) .none kV31 dc31 pm31 an31 cd31 ct31), sl31⟩) (c_l_swap : PySem.W.codeIn K cd31 "_law_swap" = true) (k_l_swap : PySem.W.keepIn K (.ref f_l_swap) = true)
    (a_l_after_loop : PySem.W.nsIn K mainGlobals "_law_after_loop" = some (some (.ref f_l_after_loop))) (l_l_after_loop : K.lookup f_l_after_loop = some ⟨oc32, od32, .func (PySem.W.fnOf "_law_after_loop" "_law_after_loop" (defArgs s_l_after_loop) (defBody s_l_after_loop) (defScope s_l_after_loop) .none kV32 dc32 pm32 an32 cd32 ct32), sl32⟩) (c_l_after_loop : PySem.W.codeIn K cd32 "_law_after_loop" = true) (k_l_after_loop : PySem.W.keepIn K (.ref f_l_after_loop) = true)
    (a_l_after_loose : PySem.W.nsIn K mainGlobals "_law_after_loose" = some (some (.ref f_l_after_loose))) (l_l_after_loose : K.lookup f_l_after_loose = some ⟨oc33, od33, .func (PySem.W.fnOf "_law_after_loose" "_law_after_loose" (defArgs s_l_after_loose) (defBody s_l_after_loose) (defScope s_l_after_loose) .none kV33 dc33 pm33 an33 cd33 ct33), sl33⟩) (c_l_after_loose : PySem.W.codeIn K cd33 "_law_after_loose" = true) (k_l_after_loose : PySem.W.keepIn K (.ref f_l_after_loose) = true)
    (a_l_after_parallel : PySem.W.nsIn K mainGlobals "_law_after_parallel" = some (some (.ref f_l_after_parallel))) (l_l_after_parallel : K.lookup f_l_after_parallel = some ⟨oc34, od34, .func (PySem.W.fnOf "_law_after_parallel" "_law_after_parallel" (defArgs s_l_after_parallel) (defBody s_l_after_parallel) (defScope s_l_after_parallel) .none kV34 dc34 pm34 an34 cd34 ct34), sl34⟩) (c_l_after_parallel : PySem.W.codeIn K cd34 "_law_after_parallel" = true) (k_l_after_parallel : PySem.W.keepIn K (.ref f_l_after_parallel) = true)
    (a_l_after_series : PySem.W.nsIn K mainGlobals "_law_after_series" = some (some (.ref f_l_after_series))) (l_l_after_series : K.lookup f_l_after_series = some ⟨oc35, od35, .func (PySem.W.fnOf "_law_after_series" "_law_after_series" (defArgs s_l_after_series) (defBody s_l_after_series) (defScope s_l_after_series) .none kV35 dc35 pm35 an35 cd35 ct35), sl35⟩) (c_l_after_series : PySem.W.codeIn K cd35 "_law_after_series" = true) (k_l_after_series : PySem.W.keepIn K (.ref f_l_after_series) = true)
    (a_l_after_star : PySem.W.nsIn K mainGlobals "_law_after_star" = some (some (.ref f_l_after_star))) (l_l_after_star : K.lookup f_l_after_star = some ⟨oc36, od36, .func (PySem.W.fnOf "_law_after_star" "_law_after_star" (defArgs s_l_after_star) (defBody s_l_after_star) (defScope s_l_after_star) .none kV36 dc36 pm36 an36 cd36 ct36), sl36⟩) (c_l_after_star : PySem.W.codeIn K cd36 "_law_after_star" = true) (k_l_after_star : PySem.W.keepIn K (.ref f_l_after_star) = true)
    (a_l_after_triangle : PySem.W.nsIn K mainGlobals "_law_after_triangle" = some (some (.ref f_l_after_triangle))) (l_l_after_triangle : K.lookup f_l_after_triangle = some ⟨oc37, od37, .func (PySem.W.fnOf "_law_after_triangle" "_law_after_triangle" (defArgs s_l_after_triangle) (defBody s_l_after_triangle) (defScope s_l_after_triangle) .none kV37 dc37 pm37 an37 cd37 ct37), sl37⟩) (c_l_after_triangle : PySem.W.codeIn K cd37 "_law_after_triangle" = true) (k_l_after_triangle : PySem.W.keepIn K (.ref f_l_after_triangle) = true)
    (a_l_after_number : PySem.W.nsIn K mainGlobals "_law_after_number" = some (some (.ref f_l_after_number))) (l_l_after_number : K.lookup f_l_after_number = some ⟨oc38, od38, .func (PySem.W.fnOf "_law_after_number" "_law_after_number" (defArgs s_l_after_number) (defBody s_l_after_number) (defScope s_l_after_number) .none kV38 dc38 pm38 an38 cd38 ct38), sl38⟩) (c_l_after_number : PySem.W.codeIn K cd38 "_law_after_number" = true) (k_l_after_number : PySem.W.keepIn K (.ref f_l_after_number) = true)
    (a_l_after : PySem.W.nsIn K mainGlobals "_law_after" = some (some (.ref f_l_after))) (l_l_after : K.lookup f_l_after = some ⟨oc39, od39, .func (PySem.W.fnOf "_law_after" "_law_after" (defArgs s_l_after) (defBody s_l_after) (defScope s_l_after) .none kV39 dc39 pm39 an39 cd39 ct39), sl39⟩) (c_l_after : PySem.W.codeIn K cd39 "_law_after" = true) (k_l_after : PySem.W.keepIn K (.ref f_l_after) = true)
    (a_l_all_moves : PySem.W.nsIn K mainGlobals "_law_all_moves" = some (some (.ref f_l_all_moves))) (l_l_all_moves : K.lookup f_l_all_moves = some ⟨oc40, od40, .func (PySem.W.fnOf "_law_all_moves" "_law_all_moves" (defArgs s_l_all_moves) (defBody s_l_all_moves) (defScope s_l_all_moves) .none kV40 dc40 pm40 an40 cd40 ct40), sl40⟩) (c_l_all_moves : PySem.W.codeIn K cd40 "_law_all_moves" = true) (k_l_all_moves : PySem.W.keepIn K (.ref f_l_all_moves) = true)
    (a_l_told : PySem.W.nsIn K mainGlobals "_law_told" = some (some (.ref f_l_told))) (l_l_told : K.lookup f_l_told = some ⟨oc41, od41, .func (PySem.W.fnOf "_law_told" "_law_told" (defArgs s_l_told) (defBody s_l_told) (defScope s_l_told) .none kV41 dc41 pm41 an41 cd41 ct41), sl41⟩) (c_l_told : PySem.W.codeIn K cd41 "_law_told" = true) (k_l_told : PySem.W.keepIn K (.ref f_l_told) = true)
    (a_law : PySem.W.nsIn K mainGlobals "law" = some (some (.ref f_law))) (l_law : K.lookup f_law = some ⟨oc42, od42, .func (PySem.W.fnOf "law" "law" (defArgs s_law) (defBody s_law) (defScope s_law) .none kV42 dc42 pm42 an42 cd42 ct42), sl42⟩) (c_law : PySem.W.codeIn K cd42 "law" = true) (k_law : PySem.W.keepIn K (.ref f_law) = true)
    (a_RimError : PySem.W.nsIn K mainGlobals "RimError" = some (some (.ref C_RimError)))
    (x_RimError : PySem.W.excIn K (C_RimError) [.type "ValueError", .type "Exception", .type "BaseException", .type "object"] "ValueError.__new__" = true)
    (k_RimError : PySem.W.keepIn K (.ref (C_RimError)) = true)
    (bb_RimError : PySem.W.subIn K (.ref (C_RimError)) (.type "BaseException") = some true)
    (t_RimError : PySem.W.typeIn K (.ref (C_RimError)) = some (.type "type"))
    (d_RimError : PySem.W.hasDictIn K (C_RimError) = true)
    (hg_RimError : PySem.W.findIn K (.ref (C_RimError)) "__getattribute__" = some (some (.builtin "BaseException.__getattribute__")))
    (hk_RimError : PySem.W.findIn K (.ref (C_RimError)) "__getattr__" = some none)
    (ha_RimError : PySem.W.findIn K (.ref (C_RimError)) "__class__" = some (some (.builtin "object.__class__")))
    (hm_RimError : PySem.W.mroIn K (C_RimError) (.type "object") = some true)
    (v_RimError : PySem.W.kitOne K (.ref (C_RimError)) (.type "ValueError") = some true)
    (i_RimError_RimError : PySem.W.kitOne K (.ref (C_RimError)) (.ref (C_RimError)) = some true)
    (e_RimError_RimError : PySem.W.exmOne K (.ref (C_RimError)) (.ref (C_RimError)) = some true)
    (i_RatioError_RimError : PySem.W.kitOne K (.ref (C_RimError)) (.ref (C_RatioError)) = some false)
    (e_RatioError_RimError : PySem.W.exmOne K (.ref (C_RimError)) (.ref (C_RatioError)) = some false)
    (i_MoveError_RimError : PySem.W.kitOne K (.ref (C_RimError)) (.ref (C_MoveError)) = some false)
    (e_MoveError_RimError : PySem.W.exmOne K (.ref (C_RimError)) (.ref (C_MoveError)) = some false)
    (a_RatioError : PySem.W.nsIn K mainGlobals "RatioError" = some (some (.ref C_RatioError)))
    (x_RatioError : PySem.W.excIn K (C_RatioError) [.type "ValueError", .type "Exception", .type "BaseException", .type "object"] "ValueError.__new__" = true)
    (k_RatioError : PySem.W.keepIn K (.ref (C_RatioError)) = true)
    (bb_RatioError : PySem.W.subIn K (.ref (C_RatioError)) (.type "BaseException") = some true)
    (t_RatioError : PySem.W.typeIn K (.ref (C_RatioError)) = some (.type "type"))
    (d_RatioError : PySem.W.hasDictIn K (C_RatioError) = true)
    (hg_RatioError : PySem.W.findIn K (.ref (C_RatioError)) "__getattribute__" = some (some (.builtin "BaseException.__getattribute__")))
    (hk_RatioError : PySem.W.findIn K (.ref (C_RatioError)) "__getattr__" = some none)
    (ha_RatioError : PySem.W.findIn K (.ref (C_RatioError)) "__class__" = some (some (.builtin "object.__class__")))
    (hm_RatioError : PySem.W.mroIn K (C_RatioError) (.type "object") = some true)
    (v_RatioError : PySem.W.kitOne K (.ref (C_RatioError)) (.type "ValueError") = some true)
    (i_RimError_RatioError : PySem.W.kitOne K (.ref (C_RatioError)) (.ref (C_RimError)) = some true)
    (e_RimError_RatioError : PySem.W.exmOne K (.ref (C_RatioError)) (.ref (C_RimError)) = some true)
    (i_RatioError_RatioError : PySem.W.kitOne K (.ref (C_RatioError)) (.ref (C_RatioError)) = some true)
    (e_RatioError_RatioError : PySem.W.exmOne K (.ref (C_RatioError)) (.ref (C_RatioError)) = some true)
    (i_MoveError_RatioError : PySem.W.kitOne K (.ref (C_RatioError)) (.ref (C_MoveError)) = some false)
    (e_MoveError_RatioError : PySem.W.exmOne K (.ref (C_RatioError)) (.ref (C_MoveError)) = some false)
    (a_MoveError : PySem.W.nsIn K mainGlobals "MoveError" = some (some (.ref C_MoveError)))
    (x_MoveError : PySem.W.excIn K (C_MoveError) [.type "ValueError", .type "Exception", .type "BaseException", .type "object"] "ValueError.__new__" = true)
    (k_MoveError : PySem.W.keepIn K (.ref (C_MoveError)) = true)
    (bb_MoveError : PySem.W.subIn K (.ref (C_MoveError)) (.type "BaseException") = some true)
    (t_MoveError : PySem.W.typeIn K (.ref (C_MoveError)) = some (.type "type"))
    (d_MoveError : PySem.W.hasDictIn K (C_MoveError) = true)
    (hg_MoveError : PySem.W.findIn K (.ref (C_MoveError)) "__getattribute__" = some (some (.builtin "BaseException.__getattribute__")))
    (hk_MoveError : PySem.W.findIn K (.ref (C_MoveError)) "__getattr__" = some none)
    (ha_MoveError : PySem.W.findIn K (.ref (C_MoveError)) "__class__" = some (some (.builtin "object.__class__")))
    (hm_MoveError : PySem.W.mroIn K (C_MoveError) (.type "object") = some true)
    (v_MoveError : PySem.W.kitOne K (.ref (C_MoveError)) (.type "ValueError") = some true)
    (i_RimError_MoveError : PySem.W.kitOne K (.ref (C_MoveError)) (.ref (C_RimError)) = some true)
    (e_RimError_MoveError : PySem.W.exmOne K (.ref (C_MoveError)) (.ref (C_RimError)) = some true)
    (i_RatioError_MoveError : PySem.W.kitOne K (.ref (C_MoveError)) (.ref (C_RatioError)) = some false)
    (e_RatioError_MoveError : PySem.W.exmOne K (.ref (C_MoveError)) (.ref (C_RatioError)) = some false)
    (i_MoveError_MoveError : PySem.W.kitOne K (.ref (C_MoveError)) (.ref (C_MoveError)) = some true)
    (e_MoveError_MoveError : PySem.W.exmOne K (.ref (C_MoveError)) (.ref (C_MoveError)) = some true)
    (hn_ : PySem.W.specialIn K (.builtin "object.__class__") "__get__" = some (some (.builtin "getset_descriptor.__get__"))) (ht_ : PySem.W.takesIn K (.builtin "object.__class__") = some true)
    {odz0 : Option Addr} {nz0 : Nat} {slz0 : Array (Option Value)} (a_ZERO : PySem.W.nsIn K mainGlobals "ZERO" = some (some (.ref z_ZERO))) (l_ZERO : K.lookup z_ZERO = some ⟨.type "tuple", odz0, .seq #[.int 0 tk0_0, .int 1 tk0_1] nz0, slz0⟩)
    {esz1 : Array DictEntry} {nz1 : Nat} (a_ACTIONS : PySem.W.nsIn K mainGlobals "ACTIONS" = some (some (.ref z_ACTIONS))) (l_ACTIONS : K.lookup z_ACTIONS = some ⟨.type "dict", none, .dict esz1 nz1, #[]⟩) (kl_ACTIONS : PySem.W.KeysLit w.params esz1.toList) (zs_ACTIONS : (z_ACTIONS == sysModules) = false)
    (q_ACTIONS_star : PySem.W.nsIn K z_ACTIONS "star" = some (some (.ref f_do_star)))
    (n_ValueError : PySem.W.nsIn K mainGlobals "ValueError" = some none)
    (n_abs : PySem.W.nsIn K mainGlobals "abs" = some none)
    (n_all : PySem.W.nsIn K mainGlobals "all" = some none)
    (n_bool : PySem.W.nsIn K mainGlobals "bool" = some none)
    (n_dict : PySem.W.nsIn K mainGlobals "dict" = some none)
    (n_enumerate : PySem.W.nsIn K mainGlobals "enumerate" = some none)
    (n_int : PySem.W.nsIn K mainGlobals "int" = some none)
    (n_isinstance : PySem.W.nsIn K mainGlobals "isinstance" = some none)
    (n_len : PySem.W.nsIn K mainGlobals "len" = some none)
    (n_list : PySem.W.nsIn K mainGlobals "list" = some none)
    (n_range : PySem.W.nsIn K mainGlobals "range" = some none)
    (n_set : PySem.W.nsIn K mainGlobals "set" = some none)
    (n_str : PySem.W.nsIn K mainGlobals "str" = some none)
    (n_tuple : PySem.W.nsIn K mainGlobals "tuple" = some none)
    (n_zip : PySem.W.nsIn K mainGlobals "zip" = some none)
    (g_gcd : PySem.W.nsIn K mainGlobals "gcd" = some (some (.builtin "math.gcd")))
    : ∃ fd : FuncData, (∀ (s : Shared) (v : Value), BindsTo s fd ⟨[v], []⟩ [("script", v)]) ∧ ∀ base : Heap, K.In base → base.Ns mainGlobals mg → FnOk l.prog w K mg base CX0 8 fa fd ["script"] (spLaw K) := by
  have e := hfa.symm.trans (PySem.W.mg_of X G a_law)
  cases e
  have F0 := fun_mk (st := s_other_dart) l_other_dart c_other_dart k_other_dart
  have b0 := F0.binds (ps := ["dart"]) fun _ _ _ _ _ _ us hl => match us, hl with | [_], _ => rfl
  have F1 := fun_mk (st := s_homes_of) l_homes_of c_homes_of k_homes_of
  have b1 := F1.binds (ps := ["net"]) fun _ _ _ _ _ _ us hl => match us, hl with | [_], _ => rfl
  have F2 := fun_mk (st := s_ratio) l_ratio c_ratio k_ratio
  have b2 := F2.binds (ps := ["top", "bottom"]) fun _ _ _ _ _ _ us hl => match us, hl with | [_, _], _ => rfl
  have F3 := fun_mk (st := s_plus) l_plus c_plus k_plus
  have b3 := F3.binds (ps := ["left", "right"]) fun _ _ _ _ _ _ us hl => match us, hl with | [_, _], _ => rfl
  have F4 := fun_mk (st := s_times) l_times c_times k_times
  have b4 := F4.binds (ps := ["left", "right"]) fun _ _ _ _ _ _ us hl => match us, hl with | [_, _], _ => rfl
  have F5 := fun_mk (st := s_over) l_over c_over k_over
  have b5 := F5.binds (ps := ["left", "right"]) fun _ _ _ _ _ _ us hl => match us, hl with | [_, _], _ => rfl
  have F6 := fun_mk (st := s_total) l_total c_total k_total
  have b6 := F6.binds (ps := ["values"]) fun _ _ _ _ _ _ us hl => match us, hl with | [_], _ => rfl
  have F7 := fun_mk (st := s_do_star) l_do_star c_do_star k_do_star
  have b7 := F7.binds (ps := ["net", "move"]) fun _ _ _ _ _ _ us hl => match us, hl with | [_, _], _ => rfl
  have F8 := fun_mk (st := s_apply_move) l_apply_move c_apply_move k_apply_move
  have b8 := F8.binds (ps := ["net", "move"]) fun _ _ _ _ _ _ us hl => match us, hl with | [_, _], _ => rfl
  have F9 := fun_mk (st := s_inner_turn) l_inner_turn c_inner_turn k_inner_turn
  have b9 := F9.binds (ps := ["net", "node", "many"]) fun _ _ _ _ _ _ us hl => match us, hl with | [_, _, _], _ => rfl
  have F10 := fun_mk (st := s_triangle_amounts) l_triangle_amounts c_triangle_amounts k_triangle_amounts
  have b10 := F10.binds (ps := ["amounts"]) fun _ _ _ _ _ _ us hl => match us, hl with | [_], _ => rfl
  have F11 := fun_mk (st := s_with_darts) l_with_darts c_with_darts k_with_darts
  have b11 := F11.binds (ps := ["net", "changes"]) fun _ _ _ _ _ _ us hl => match us, hl with | [_, _], _ => rfl
  have F12 := fun_mk (st := s_with_amounts) l_with_amounts c_with_amounts k_with_amounts
  have b12 := F12.binds (ps := ["net", "changes"]) fun _ _ _ _ _ _ us hl => match us, hl with | [_, _], _ => rfl
  have F13 := fun_mk (st := s_without_node) l_without_node c_without_node k_without_node
  have b13 := F13.binds (ps := ["net", "node"]) fun _ _ _ _ _ _ us hl => match us, hl with | [_, _], _ => rfl
  have F14 := fun_mk (st := s_l_pick) l_l_pick c_l_pick k_l_pick
  have b14 := F14.binds (ps := ["state", "limit"]) fun _ _ _ _ _ _ us hl => match us, hl with | [_, _], _ => rfl
  have F15 := fun_mk (st := s_l_gcd) l_l_gcd c_l_gcd k_l_gcd
  have b15 := F15.binds (ps := ["left", "right"]) fun _ _ _ _ _ _ us hl => match us, hl with | [_, _], _ => rfl
  have F16 := fun_mk (st := s_l_ratio) l_l_ratio c_l_ratio k_l_ratio
  have b16 := F16.binds (ps := ["top", "bottom"]) fun _ _ _ _ _ _ us hl => match us, hl with | [_, _], _ => rfl
  have F17 := fun_mk (st := s_l_add) l_l_add c_l_add k_l_add
  have b17 := F17.binds (ps := ["left", "right"]) fun _ _ _ _ _ _ us hl => match us, hl with | [_, _], _ => rfl
  have F18 := fun_mk (st := s_l_mul) l_l_mul c_l_mul k_l_mul
  have b18 := F18.binds (ps := ["left", "right"]) fun _ _ _ _ _ _ us hl => match us, hl with | [_, _], _ => rfl
  have F19 := fun_mk (st := s_l_div) l_l_div c_l_div k_l_div
  have b19 := F19.binds (ps := ["left", "right"]) fun _ _ _ _ _ _ us hl => match us, hl with | [_, _], _ => rfl
  have F20 := fun_mk (st := s_l_same) l_l_same c_l_same k_l_same
  have b20 := F20.binds (ps := ["actual", "due"]) fun _ _ _ _ _ _ us hl => match us, hl with | [_, _], _ => rfl
  have F21 := fun_mk (st := s_l_amount) l_l_amount c_l_amount k_l_amount
  have b21 := F21.binds (ps := ["state"]) fun _ _ _ _ _ _ us hl => match us, hl with | [_], _ => rfl
  have F22 := fun_mk (st := s_l_at) l_l_at c_l_at k_l_at
  have b22 := F22.binds (ps := ["turns", "dart"]) fun _ _ _ _ _ _ us hl => match us, hl with | [_, _], _ => rfl
  have F23 := fun_mk (st := s_l_face) l_l_face c_l_face k_l_face
  have b23 := F23.binds (ps := ["turns", "rim", "dart"]) fun _ _ _ _ _ _ us hl => match us, hl with | [_, _, _], _ => rfl
  have F24 := fun_mk (st := s_l_grow) l_l_grow c_l_grow k_l_grow
  have b24 := F24.binds (ps := ["state", "rim", "turns", "edges", "choice"]) fun _ _ _ _ _ _ us hl => match us, hl with | [_, _, _, _, _], _ => rfl
  have F25 := fun_mk (st := s_l_net) l_l_net c_l_net k_l_net
  have b25 := F25.binds (ps := ["state", "most_rim", "most_edges"]) fun _ _ _ _ _ _ us hl => match us, hl with | [_, _, _], _ => rfl
  have F26 := fun_mk (st := s_l_ends) l_l_ends c_l_ends k_l_ends
  have b26 := F26.binds (ps := ["net"]) fun _ _ _ _ _ _ us hl => match us, hl with | [_], _ => rfl
  have F27 := fun_mk (st := s_l_other) l_l_other c_l_other k_l_other
  have b27 := F27.binds (ps := ["dart"]) fun _ _ _ _ _ _ us hl => match us, hl with | [_], _ => rfl
  have F28 := fun_mk (st := s_l_drop) l_l_drop c_l_drop k_l_drop
  have b28 := F28.binds (ps := ["net", "edge"]) fun _ _ _ _ _ _ us hl => match us, hl with | [_, _], _ => rfl
  have F29 := fun_mk (st := s_l_drop_node) l_l_drop_node c_l_drop_node k_l_drop_node
  have b29 := F29.binds (ps := ["net", "node"]) fun _ _ _ _ _ _ us hl => match us, hl with | [_, _], _ => rfl
  have F30 := fun_mk (st := s_l_put) l_l_put c_l_put k_l_put
  have b30 := F30.binds (ps := ["net", "edge", "amount"]) fun _ _ _ _ _ _ us hl => match us, hl with | [_, _, _], _ => rfl
  have F31 := fun_mk (st := s_l_swap) l_l_swap c_l_swap k_l_swap
  have b31 := F31.binds (ps := ["turns", "node", "dart", "row"]) fun _ _ _ _ _ _ us hl => match us, hl with | [_, _, _, _], _ => rfl
  have F32 := fun_mk (st := s_l_after_loop) l_l_after_loop c_l_after_loop k_l_after_loop
  have b32 := F32.binds (ps := ["net", "edge"]) fun _ _ _ _ _ _ us hl => match us, hl with | [_, _], _ => rfl
  have F33 := fun_mk (st := s_l_after_loose) l_l_after_loose c_l_after_loose k_l_after_loose
  have b33 := F33.binds (ps := ["net", "edge"]) fun _ _ _ _ _ _ us hl => match us, hl with | [_, _], _ => rfl
  have F34 := fun_mk (st := s_l_after_parallel) l_l_after_parallel c_l_after_parallel k_l_after_parallel
  have b34 := F34.binds (ps := ["net", "edge", "gone"]) fun _ _ _ _ _ _ us hl => match us, hl with | [_, _, _], _ => rfl
  have F35 := fun_mk (st := s_l_after_series) l_l_after_series c_l_after_series k_l_after_series
  have b35 := F35.binds (ps := ["net", "node"]) fun _ _ _ _ _ _ us hl => match us, hl with | [_, _], _ => rfl
  have F36 := fun_mk (st := s_l_after_star) l_l_after_star c_l_after_star k_l_after_star
  have b36 := F36.binds (ps := ["net", "node"]) fun _ _ _ _ _ _ us hl => match us, hl with | [_, _], _ => rfl
  have F37 := fun_mk (st := s_l_after_triangle) l_l_after_triangle c_l_after_triangle k_l_after_triangle
  have b37 := F37.binds (ps := ["net", "dart"]) fun _ _ _ _ _ _ us hl => match us, hl with | [_, _], _ => rfl
  have F38 := fun_mk (st := s_l_after_number) l_l_after_number c_l_after_number k_l_after_number
  have b38 := F38.binds (ps := ["net"]) fun _ _ _ _ _ _ us hl => match us, hl with | [_], _ => rfl
  have F39 := fun_mk (st := s_l_after) l_l_after c_l_after k_l_after
  have b39 := F39.binds (ps := ["net", "move"]) fun _ _ _ _ _ _ us hl => match us, hl with | [_, _], _ => rfl
  have F40 := fun_mk (st := s_l_all_moves) l_l_all_moves c_l_all_moves k_l_all_moves
  have b40 := F40.binds (ps := ["net"]) fun _ _ _ _ _ _ us hl => match us, hl with | [_], _ => rfl
  have F41 := fun_mk (st := s_l_told) l_l_told c_l_told k_l_told
  have b41 := F41.binds (ps := ["net", "move"]) fun _ _ _ _ _ _ us hl => match us, hl with | [_, _], _ => rfl
  have F42 := fun_mk (st := s_law) l_law c_law k_law
  have b42 := F42.binds (ps := ["script"]) fun _ _ _ _ _ _ us hl => match us, hl with | [_], _ => rfl
  have T : Txt K mg { f_other_dart := f_other_dart, fd_other_dart := _, f_homes_of := f_homes_of, fd_homes_of := _, f_ratio := f_ratio, fd_ratio := _, f_plus := f_plus, fd_plus := _, f_times := f_times, fd_times := _, f_over := f_over, fd_over := _, f_total := f_total, fd_total := _, f_do_star := f_do_star, fd_do_star := _, f_apply_move := f_apply_move, fd_apply_move := _, f_inner_turn := f_inner_turn, fd_inner_turn := _, f_triangle_amounts := f_triangle_amounts, fd_triangle_amounts := _, f_with_darts := f_with_darts, fd_with_darts := _, f_with_amounts := f_with_amounts, fd_with_amounts := _, f_without_node := f_without_node, fd_without_node := _, f_l_pick := f_l_pick, fd_l_pick := _, f_l_gcd := f_l_gcd, fd_l_gcd := _, f_l_ratio := f_l_ratio, fd_l_ratio := _, f_l_add := f_l_add, fd_l_add := _, f_l_mul := f_l_mul, fd_l_mul := _, f_l_div := f_l_div, fd_l_div := _, f_l_same := f_l_same, fd_l_same := _, f_l_amount := f_l_amount, fd_l_amount := _, f_l_at := f_l_at, fd_l_at := _, f_l_face := f_l_face, fd_l_face := _, f_l_grow := f_l_grow, fd_l_grow := _, f_l_net := f_l_net, fd_l_net := _, f_l_ends := f_l_ends, fd_l_ends := _, f_l_other := f_l_other, fd_l_other := _, f_l_drop := f_l_drop, fd_l_drop := _, f_l_drop_node := f_l_drop_node, fd_l_drop_node := _, f_l_put := f_l_put, fd_l_put := _, f_l_swap := f_l_swap, fd_l_swap := _, f_l_after_loop := f_l_after_loop, fd_l_after_loop := _, f_l_after_loose := f_l_after_loose, fd_l_after_loose := _, f_l_after_parallel := f_l_after_parallel, fd_l_after_parallel := _, f_l_after_series := f_l_after_series, fd_l_after_series := _, f_l_after_star := f_l_after_star, fd_l_after_star := _, f_l_after_triangle := f_l_after_triangle, fd_l_after_triangle := _, f_l_after_number := f_l_after_number, fd_l_after_number := _, f_l_after := f_l_after, fd_l_after := _, f_l_all_moves := f_l_all_moves, fd_l_all_moves := _, f_l_told := f_l_told, fd_l_told := _, f_law := fa, fd_law := _, C_RimError := C_RimError, C_RatioError := C_RatioError, C_MoveError := C_MoveError, z_ZERO := z_ZERO, z_ACTIONS := z_ACTIONS } := { g_other_dart := PySem.W.mg_of X G a_other_dart, F_other_dart := F0, b_other_dart := b0, g_homes_of := PySem.W.mg_of X G a_homes_of, F_homes_of := F1, b_homes_of := b1, g_ratio := PySem.W.mg_of X G a_ratio, F_ratio := F2, b_ratio := b2, g_plus := PySem.W.mg_of X G a_plus, F_plus := F3, b_plus := b3, g_times := PySem.W.mg_of X G a_times, F_times := F4, b_times := b4, g_over := PySem.W.mg_of X G a_over, F_over := F5, b_over := b5, g_total := PySem.W.mg_of X G a_total, F_total := F6, b_total := b6, g_do_star := PySem.W.mg_of X G a_do_star, F_do_star := F7, b_do_star := b7, g_apply_move := PySem.W.mg_of X G a_apply_move, F_apply_move := F8, b_apply_move := b8, g_inner_turn := PySem.W.mg_of X G a_inner_turn, F_inner_turn := F9, b_inner_turn := b9, g_triangle_amounts := PySem.W.mg_of X G a_triangle_amounts, F_triangle_amounts := F10, b_triangle_amounts := b10, g_with_darts := PySem.W.mg_of X G a_with_darts, F_with_darts := F11, b_with_darts := b11, g_with_amounts := PySem.W.mg_of X G a_with_amounts, F_with_amounts := F12, b_with_amounts := b12, g_without_node := PySem.W.mg_of X G a_without_node, F_without_node := F13, b_without_node := b13, g_l_pick := PySem.W.mg_of X G a_l_pick, F_l_pick := F14, b_l_pick := b14, g_l_gcd := PySem.W.mg_of X G a_l_gcd, F_l_gcd := F15, b_l_gcd := b15, g_l_ratio := PySem.W.mg_of X G a_l_ratio, F_l_ratio := F16, b_l_ratio := b16, g_l_add := PySem.W.mg_of X G a_l_add, F_l_add := F17, b_l_add := b17, g_l_mul := PySem.W.mg_of X G a_l_mul, F_l_mul := F18, b_l_mul := b18, g_l_div := PySem.W.mg_of X G a_l_div, F_l_div := F19, b_l_div := b19, g_l_same := PySem.W.mg_of X G a_l_same, F_l_same := F20, b_l_same := b20, g_l_amount := PySem.W.mg_of X G a_l_amount, F_l_amount := F21, b_l_amount := b21, g_l_at := PySem.W.mg_of X G a_l_at, F_l_at := F22, b_l_at := b22, g_l_face := PySem.W.mg_of X G a_l_face, F_l_face := F23, b_l_face := b23, g_l_grow := PySem.W.mg_of X G a_l_grow, F_l_grow := F24, b_l_grow := b24, g_l_net := PySem.W.mg_of X G a_l_net, F_l_net := F25, b_l_net := b25, g_l_ends := PySem.W.mg_of X G a_l_ends, F_l_ends := F26, b_l_ends := b26, g_l_other := PySem.W.mg_of X G a_l_other, F_l_other := F27, b_l_other := b27, g_l_drop := PySem.W.mg_of X G a_l_drop, F_l_drop := F28, b_l_drop := b28, g_l_drop_node := PySem.W.mg_of X G a_l_drop_node, F_l_drop_node := F29, b_l_drop_node := b29, g_l_put := PySem.W.mg_of X G a_l_put, F_l_put := F30, b_l_put := b30, g_l_swap := PySem.W.mg_of X G a_l_swap, F_l_swap := F31, b_l_swap := b31, g_l_after_loop := PySem.W.mg_of X G a_l_after_loop, F_l_after_loop := F32, b_l_after_loop := b32, g_l_after_loose := PySem.W.mg_of X G a_l_after_loose, F_l_after_loose := F33, b_l_after_loose := b33, g_l_after_parallel := PySem.W.mg_of X G a_l_after_parallel, F_l_after_parallel := F34, b_l_after_parallel := b34, g_l_after_series := PySem.W.mg_of X G a_l_after_series, F_l_after_series := F35, b_l_after_series := b35, g_l_after_star := PySem.W.mg_of X G a_l_after_star, F_l_after_star := F36, b_l_after_star := b36, g_l_after_triangle := PySem.W.mg_of X G a_l_after_triangle, F_l_after_triangle := F37, b_l_after_triangle := b37, g_l_after_number := PySem.W.mg_of X G a_l_after_number, F_l_after_number := F38, b_l_after_number := b38, g_l_after := PySem.W.mg_of X G a_l_after, F_l_after := F39, b_l_after := b39, g_l_all_moves := PySem.W.mg_of X G a_l_all_moves, F_l_all_moves := F40, b_l_all_moves := b40, g_l_told := PySem.W.mg_of X G a_l_told, F_l_told := F41, b_l_told := b41, g_law := PySem.W.mg_of X G a_law, F_law := F42, b_law := b42, g_RimError := PySem.W.mg_of X G a_RimError, x_RimError := x_RimError, k_RimError := k_RimError, bb_RimError := bb_RimError, t_RimError := t_RimError, d_RimError := d_RimError, hg_RimError := hg_RimError, hk_RimError := hk_RimError, ha_RimError := ha_RimError, hm_RimError := hm_RimError, v_RimError := v_RimError, i_RimError_RimError := i_RimError_RimError, e_RimError_RimError := e_RimError_RimError, i_RatioError_RimError := i_RatioError_RimError, e_RatioError_RimError := e_RatioError_RimError, i_MoveError_RimError := i_MoveError_RimError, e_MoveError_RimError := e_MoveError_RimError, g_RatioError := PySem.W.mg_of X G a_RatioError, x_RatioError := x_RatioError, k_RatioError := k_RatioError, bb_RatioError := bb_RatioError, t_RatioError := t_RatioError, d_RatioError := d_RatioError, hg_RatioError := hg_RatioError, hk_RatioError := hk_RatioError, ha_RatioError := ha_RatioError, hm_RatioError := hm_RatioError, v_RatioError := v_RatioError, i_RimError_RatioError := i_RimError_RatioError, e_RimError_RatioError := e_RimError_RatioError, i_RatioError_RatioError := i_RatioError_RatioError, e_RatioError_RatioError := e_RatioError_RatioError, i_MoveError_RatioError := i_MoveError_RatioError, e_MoveError_RatioError := e_MoveError_RatioError, g_MoveError := PySem.W.mg_of X G a_MoveError, x_MoveError := x_MoveError, k_MoveError := k_MoveError, bb_MoveError := bb_MoveError, t_MoveError := t_MoveError, d_MoveError := d_MoveError, hg_MoveError := hg_MoveError, hk_MoveError := hk_MoveError, ha_MoveError := ha_MoveError, hm_MoveError := hm_MoveError, v_MoveError := v_MoveError, i_RimError_MoveError := i_RimError_MoveError, e_RimError_MoveError := e_RimError_MoveError, i_RatioError_MoveError := i_RatioError_MoveError, e_RatioError_MoveError := e_RatioError_MoveError, i_MoveError_MoveError := i_MoveError_MoveError, e_MoveError_MoveError := e_MoveError_MoveError, c_ZERO := PySem.W.mg_of X G a_ZERO, q_ZERO := fun _ => .inr ⟨_, _, _, l_ZERO, rfl, rfl, (by show 2 ≤ sizeLine; decide), (.cons ⟨_, rfl⟩ (.cons ⟨_, rfl⟩ (.nil)))⟩, c_ACTIONS := PySem.W.mg_of X G a_ACTIONS, n_ValueError := PySem.W.mg_none_of X G n_ValueError, n_abs := PySem.W.mg_none_of X G n_abs, n_all := PySem.W.mg_none_of X G n_all, n_bool := PySem.W.mg_none_of X G n_bool, n_dict := PySem.W.mg_none_of X G n_dict, n_enumerate := PySem.W.mg_none_of X G n_enumerate, n_int := PySem.W.mg_none_of X G n_int, n_isinstance := PySem.W.mg_none_of X G n_isinstance, n_len := PySem.W.mg_none_of X G n_len, n_list := PySem.W.mg_none_of X G n_list, n_range := PySem.W.mg_none_of X G n_range, n_set := PySem.W.mg_none_of X G n_set, n_str := PySem.W.mg_none_of X G n_str, n_tuple := PySem.W.mg_none_of X G n_tuple, n_zip := PySem.W.mg_none_of X G n_zip, g_gcd := PySem.W.mg_of X G g_gcd, hn_ := hn_, ht_ := ht_ }
  exact ⟨_, fun s v => .of_eq rfl, fun base _ _ => ok_law T (ok_apply_move T ⟨_, _, ⟨l_ACTIONS, kl_ACTIONS, zs_ACTIONS⟩⟩ q_ACTIONS_star (Em := 10) (by decide))⟩
end K17
open PySem PySem.W PyProof.Rows
set_option maxRecDepth 100000 in
set_option maxHeartbeats 0 in
theorem PySem.Challenge.cw_rimohms_k17_stars_holds : PySem.Challenge.rw_rimohms_k17_stars.Holds := by
  w_on; o_law; k_head; (case hw => w_witness2)
  k_fill
  refine L2.walk_of (l := PySem.Challenge.rw_rimohms_k17_stars) (n := 63) (k := 8) (x := "script") (CX := fun _ => L2.CX0) (sp := fun w => Rz.spLaw _) rfl (by decide) rfl ⟨rfl, by decide, by decide⟩ (fun w h Y => PySem.W.kIn_of Y) ?F (fun _ _ a ns hl _ hS => ⟨a, ns, rfl, hS, hl, fun _ => rfl⟩) (fun _ _ _ _ _ h => h)
  case F =>
    intro w mg fa h KX G hmg
    refine' K17.all_mk KX G hmg ?a_other_dart ?l_other_dart ?c_other_dart ?k_other_dart ?a_homes_of ?l_homes_of ?c_homes_of ?k_homes_of ?a_ratio ?l_ratio ?c_ratio ?k_ratio ?a_plus ?l_plus ?c_plus ?k_plus ?a_times ?l_times ?c_times ?k_times ?a_over ?l_over ?c_over ?k_over ?a_total ?l_total ?c_total ?k_total ?a_do_star ?l_do_star ?c_do_star ?k_do_star ?a_apply_move ?l_apply_move ?c_apply_move ?k_apply_move ?a_inner_turn ?l_inner_turn ?c_inner_turn ?k_inner_turn ?a_triangle_amounts ?l_triangle_amounts ?c_triangle_amounts ?k_triangle_amounts ?a_with_darts ?l_with_darts ?c_with_darts ?k_with_darts ?a_with_amounts ?l_with_amounts ?c_with_amounts ?k_with_amounts ?a_without_node ?l_without_node ?c_without_node ?k_without_node ?a_l_pick ?l_l_pick ?c_l_pick ?k_l_pick ?a_l_gcd ?l_l_gcd ?c_l_gcd ?k_l_gcd ?a_l_ratio ?l_l_ratio ?c_l_ratio ?k_l_ratio ?a_l_add ?l_l_add ?c_l_add ?k_l_add ?a_l_mul ?l_l_mul ?c_l_mul ?k_l_mul ?a_l_div ?l_l_div ?c_l_div ?k_l_div ?a_l_same ?l_l_same ?c_l_same ?k_l_same ?a_l_amount ?l_l_amount ?c_l_amount ?k_l_amount ?a_l_at ?l_l_at ?c_l_at ?k_l_at ?a_l_face ?l_l_face ?c_l_face ?k_l_face ?a_l_grow ?l_l_grow ?c_l_grow ?k_l_grow ?a_l_net ?l_l_net ?c_l_net ?k_l_net ?a_l_ends ?l_l_ends ?c_l_ends ?k_l_ends ?a_l_other ?l_l_other ?c_l_other ?k_l_other ?a_l_drop ?l_l_drop ?c_l_drop ?k_l_drop ?a_l_drop_node ?l_l_drop_node ?c_l_drop_node ?k_l_drop_node ?a_l_put ?l_l_put ?c_l_put ?k_l_put ?a_l_swap ?l_l_swap ?c_l_swap ?k_l_swap ?a_l_after_loop ?l_l_after_loop ?c_l_after_loop ?k_l_after_loop ?a_l_after_loose ?l_l_after_loose ?c_l_after_loose ?k_l_after_loose ?a_l_after_parallel ?l_l_after_parallel ?c_l_after_parallel ?k_l_after_parallel ?a_l_after_series ?l_l_after_series ?c_l_after_series ?k_l_after_series ?a_l_after_star ?l_l_after_star ?c_l_after_star ?k_l_after_star ?a_l_after_triangle ?l_l_after_triangle ?c_l_after_triangle ?k_l_after_triangle ?a_l_after_number ?l_l_after_number ?c_l_after_number ?k_l_after_number ?a_l_after ?l_l_after ?c_l_after ?k_l_after ?a_l_all_moves ?l_l_all_moves ?c_l_all_moves ?k_l_all_moves ?a_l_told ?l_l_told ?c_l_told ?k_l_told ?a_law ?l_law ?c_law ?k_law ?a_RimError ?x_RimError ?k_RimError ?bb_RimError ?t_RimError ?d_RimError ?hg_RimError ?hk_RimError ?ha_RimError ?hm_RimError ?v_RimError ?i_RimError_RimError ?e_RimError_RimError ?i_RatioError_RimError ?e_RatioError_RimError ?i_MoveError_RimError ?e_MoveError_RimError ?a_RatioError ?x_RatioError ?k_RatioError ?bb_RatioError ?t_RatioError ?d_RatioError ?hg_RatioError ?hk_RatioError ?ha_RatioError ?hm_RatioError ?v_RatioError ?i_RimError_RatioError ?e_RimError_RatioError ?i_RatioError_RatioError ?e_RatioError_RatioError ?i_MoveError_RatioError ?e_MoveError_RatioError ?a_MoveError ?x_MoveError ?k_MoveError ?bb_MoveError ?t_MoveError ?d_MoveError ?hg_MoveError ?hk_MoveError ?ha_MoveError ?hm_MoveError ?v_MoveError ?i_RimError_MoveError ?e_RimError_MoveError ?i_RatioError_MoveError ?e_RatioError_MoveError ?i_MoveError_MoveError ?e_MoveError_MoveError ?hn_ ?ht_ ?a_ZERO ?l_ZERO ?a_ACTIONS ?l_ACTIONS ?kl_ACTIONS ?zs_ACTIONS ?q_ACTIONS_star ?n_ValueError ?n_abs ?n_all ?n_bool ?n_dict ?n_enumerate ?n_int ?n_isinstance ?n_len ?n_list ?n_range ?n_set ?n_str ?n_tuple ?n_zip ?g_gcd
    (case a_RimError => first | k_is | rfl)
    (case a_RatioError => first | k_is | rfl)
    (case a_MoveError => first | k_is | rfl)
    (case a_other_dart => first | k_is | rfl)
    (case l_other_dart => first | k_is | rfl)
    (case c_other_dart => first | k_is | rfl)
    (case k_other_dart => first | k_is | rfl)
    (case a_homes_of => first | k_is | rfl)
    (case l_homes_of => first | k_is | rfl)
    (case c_homes_of => first | k_is | rfl)
    (case k_homes_of => first | k_is | rfl)
    (case a_ratio => first | k_is | rfl)
    (case l_ratio => first | k_is | rfl)
    (case c_ratio => first | k_is | rfl)
    (case k_ratio => first | k_is | rfl)
    (case a_plus => first | k_is | rfl)
    (case l_plus => first | k_is | rfl)
    (case c_plus => first | k_is | rfl)
    (case k_plus => first | k_is | rfl)
    (case a_times => first | k_is | rfl)
    (case l_times => first | k_is | rfl)
    (case c_times => first | k_is | rfl)
    (case k_times => first | k_is | rfl)
    (case a_over => first | k_is | rfl)
    (case l_over => first | k_is | rfl)
    (case c_over => first | k_is | rfl)
    (case k_over => first | k_is | rfl)
    (case a_total => first | k_is | rfl)
    (case l_total => first | k_is | rfl)
    (case c_total => first | k_is | rfl)
    (case k_total => first | k_is | rfl)
    (case a_do_star => first | k_is | rfl)
    (case l_do_star => first | k_is | rfl)
    (case c_do_star => first | k_is | rfl)
    (case k_do_star => first | k_is | rfl)
    (case a_apply_move => first | k_is | rfl)
    (case l_apply_move => first | k_is | rfl)
    (case c_apply_move => first | k_is | rfl)
    (case k_apply_move => first | k_is | rfl)
    (case a_inner_turn => first | k_is | rfl)
    (case l_inner_turn => first | k_is | rfl)
    (case c_inner_turn => first | k_is | rfl)
    (case k_inner_turn => first | k_is | rfl)
    (case a_triangle_amounts => first | k_is | rfl)
    (case l_triangle_amounts => first | k_is | rfl)
    (case c_triangle_amounts => first | k_is | rfl)
    (case k_triangle_amounts => first | k_is | rfl)
    (case a_with_darts => first | k_is | rfl)
    (case l_with_darts => first | k_is | rfl)
    (case c_with_darts => first | k_is | rfl)
    (case k_with_darts => first | k_is | rfl)
    (case a_with_amounts => first | k_is | rfl)
    (case l_with_amounts => first | k_is | rfl)
    (case c_with_amounts => first | k_is | rfl)
    (case k_with_amounts => first | k_is | rfl)
    (case a_without_node => first | k_is | rfl)
    (case l_without_node => first | k_is | rfl)
    (case c_without_node => first | k_is | rfl)
    (case k_without_node => first | k_is | rfl)
    (case a_l_pick => first | k_is | rfl)
    (case l_l_pick => first | k_is | rfl)
    (case c_l_pick => first | k_is | rfl)
    (case k_l_pick => first | k_is | rfl)
    (case a_l_gcd => first | k_is | rfl)
    (case l_l_gcd => first | k_is | rfl)
    (case c_l_gcd => first | k_is | rfl)
    (case k_l_gcd => first | k_is | rfl)
    (case a_l_ratio => first | k_is | rfl)
    (case l_l_ratio => first | k_is | rfl)
    (case c_l_ratio => first | k_is | rfl)
    (case k_l_ratio => first | k_is | rfl)
    (case a_l_add => first | k_is | rfl)
    (case l_l_add => first | k_is | rfl)
    (case c_l_add => first | k_is | rfl)
    (case k_l_add => first | k_is | rfl)
    (case a_l_mul => first | k_is | rfl)
    (case l_l_mul => first | k_is | rfl)
    (case c_l_mul => first | k_is | rfl)
    (case k_l_mul => first | k_is | rfl)
    (case a_l_div => first | k_is | rfl)
    (case l_l_div => first | k_is | rfl)
    (case c_l_div => first | k_is | rfl)
    (case k_l_div => first | k_is | rfl)
    (case a_l_same => first | k_is | rfl)
    (case l_l_same => first | k_is | rfl)
    (case c_l_same => first | k_is | rfl)
    (case k_l_same => first | k_is | rfl)
    (case a_l_amount => first | k_is | rfl)
    (case l_l_amount => first | k_is | rfl)
    (case c_l_amount => first | k_is | rfl)
    (case k_l_amount => first | k_is | rfl)
    (case a_l_at => first | k_is | rfl)
    (case l_l_at => first | k_is | rfl)
    (case c_l_at => first | k_is | rfl)
    (case k_l_at => first | k_is | rfl)
    (case a_l_face => first | k_is | rfl)
    (case l_l_face => first | k_is | rfl)
    (case c_l_face => first | k_is | rfl)
    (case k_l_face => first | k_is | rfl)
    (case a_l_grow => first | k_is | rfl)
    (case l_l_grow => first | k_is | rfl)
    (case c_l_grow => first | k_is | rfl)
    (case k_l_grow => first | k_is | rfl)
    (case a_l_net => first | k_is | rfl)
    (case l_l_net => first | k_is | rfl)
    (case c_l_net => first | k_is | rfl)
    (case k_l_net => first | k_is | rfl)
    (case a_l_ends => first | k_is | rfl)
    (case l_l_ends => first | k_is | rfl)
    (case c_l_ends => first | k_is | rfl)
    (case k_l_ends => first | k_is | rfl)
    (case a_l_other => first | k_is | rfl)
    (case l_l_other => first | k_is | rfl)
    (case c_l_other => first | k_is | rfl)
    (case k_l_other => first | k_is | rfl)
    (case a_l_drop => first | k_is | rfl)
    (case l_l_drop => first | k_is | rfl)
    (case c_l_drop => first | k_is | rfl)
    (case k_l_drop => first | k_is | rfl)
    (case a_l_drop_node => first | k_is | rfl)
    (case l_l_drop_node => first | k_is | rfl)
    (case c_l_drop_node => first | k_is | rfl)
    (case k_l_drop_node => first | k_is | rfl)
    (case a_l_put => first | k_is | rfl)
    (case l_l_put => first | k_is | rfl)
    (case c_l_put => first | k_is | rfl)
    (case k_l_put => first | k_is | rfl)
    (case a_l_swap => first | k_is | rfl)
    (case l_l_swap => first | k_is | rfl)
    (case c_l_swap => first | k_is | rfl)
    (case k_l_swap => first | k_is | rfl)
    (case a_l_after_loop => first | k_is | rfl)
    (case l_l_after_loop => first | k_is | rfl)
    (case c_l_after_loop => first | k_is | rfl)
    (case k_l_after_loop => first | k_is | rfl)
    (case a_l_after_loose => first | k_is | rfl)
    (case l_l_after_loose => first | k_is | rfl)
    (case c_l_after_loose => first | k_is | rfl)
    (case k_l_after_loose => first | k_is | rfl)
    (case a_l_after_parallel => first | k_is | rfl)
    (case l_l_after_parallel => first | k_is | rfl)
    (case c_l_after_parallel => first | k_is | rfl)
    (case k_l_after_parallel => first | k_is | rfl)
    (case a_l_after_series => first | k_is | rfl)
    (case l_l_after_series => first | k_is | rfl)
    (case c_l_after_series => first | k_is | rfl)
    (case k_l_after_series => first | k_is | rfl)
    (case a_l_after_star => first | k_is | rfl)
    (case l_l_after_star => first | k_is | rfl)
    (case c_l_after_star => first | k_is | rfl)
    (case k_l_after_star => first | k_is | rfl)
    (case a_l_after_triangle => first | k_is | rfl)
    (case l_l_after_triangle => first | k_is | rfl)
    (case c_l_after_triangle => first | k_is | rfl)
    (case k_l_after_triangle => first | k_is | rfl)
    (case a_l_after_number => first | k_is | rfl)
    (case l_l_after_number => first | k_is | rfl)
    (case c_l_after_number => first | k_is | rfl)
    (case k_l_after_number => first | k_is | rfl)
    (case a_l_after => first | k_is | rfl)
    (case l_l_after => first | k_is | rfl)
    (case c_l_after => first | k_is | rfl)
    (case k_l_after => first | k_is | rfl)
    (case a_l_all_moves => first | k_is | rfl)
    (case l_l_all_moves => first | k_is | rfl)
    (case c_l_all_moves => first | k_is | rfl)
    (case k_l_all_moves => first | k_is | rfl)
    (case a_l_told => first | k_is | rfl)
    (case l_l_told => first | k_is | rfl)
    (case c_l_told => first | k_is | rfl)
    (case k_l_told => first | k_is | rfl)
    (case a_law => first | k_is | rfl)
    (case l_law => first | k_is | rfl)
    (case c_law => first | k_is | rfl)
    (case k_law => first | k_is | rfl)
    (case x_RimError => k_exc)
    (case k_RimError => first | k_is | rfl)
    (case bb_RimError => first | k_is | rfl)
    (case t_RimError => first | k_is | rfl)
    (case d_RimError => first | k_is | rfl)
    (case hg_RimError => first | k_is | rfl)
    (case hk_RimError => first | k_is | rfl)
    (case ha_RimError => first | k_is | rfl)
    (case hm_RimError => first | k_is | rfl)
    (case v_RimError => first | k_is | rfl)
    (case i_RimError_RimError => first | k_is | rfl)
    (case e_RimError_RimError => first | k_is | rfl)
    (case i_RatioError_RimError => first | k_is | rfl)
    (case e_RatioError_RimError => first | k_is | rfl)
    (case i_MoveError_RimError => first | k_is | rfl)
    (case e_MoveError_RimError => first | k_is | rfl)
    (case x_RatioError => k_exc)
    (case k_RatioError => first | k_is | rfl)
    (case bb_RatioError => first | k_is | rfl)
    (case t_RatioError => first | k_is | rfl)
    (case d_RatioError => first | k_is | rfl)
    (case hg_RatioError => first | k_is | rfl)
    (case hk_RatioError => first | k_is | rfl)
    (case ha_RatioError => first | k_is | rfl)
    (case hm_RatioError => first | k_is | rfl)
    (case v_RatioError => first | k_is | rfl)
    (case i_RimError_RatioError => first | k_is | rfl)
    (case e_RimError_RatioError => first | k_is | rfl)
    (case i_RatioError_RatioError => first | k_is | rfl)
    (case e_RatioError_RatioError => first | k_is | rfl)
    (case i_MoveError_RatioError => first | k_is | rfl)
    (case e_MoveError_RatioError => first | k_is | rfl)
    (case x_MoveError => k_exc)
    (case k_MoveError => first | k_is | rfl)
    (case bb_MoveError => first | k_is | rfl)
    (case t_MoveError => first | k_is | rfl)
    (case d_MoveError => first | k_is | rfl)
    (case hg_MoveError => first | k_is | rfl)
    (case hk_MoveError => first | k_is | rfl)
    (case ha_MoveError => first | k_is | rfl)
    (case hm_MoveError => first | k_is | rfl)
    (case v_MoveError => first | k_is | rfl)
    (case i_RimError_MoveError => first | k_is | rfl)
    (case e_RimError_MoveError => first | k_is | rfl)
    (case i_RatioError_MoveError => first | k_is | rfl)
    (case e_RatioError_MoveError => first | k_is | rfl)
    (case i_MoveError_MoveError => first | k_is | rfl)
    (case e_MoveError_MoveError => first | k_is | rfl)
    (case hn_ => first | k_is | rfl)
    (case ht_ => first | k_is | rfl)
    (case a_ZERO => first | k_is | rfl)
    (case l_ZERO => first | k_is | rfl)
    (case a_ACTIONS => first | k_is | rfl)
    (case l_ACTIONS => first | k_is | rfl)
    (case kl_ACTIONS => first | k_is | (repeat' first | exact trivial | refine ⟨⟨_, _, rfl, rfl⟩, ?_⟩))
    (case zs_ACTIONS => first | k_is | rfl)
    (case q_ACTIONS_star => first | k_is | rfl)
    (case n_ValueError => first | k_is | rfl)
    (case n_abs => first | k_is | rfl)
    (case n_all => first | k_is | rfl)
    (case n_bool => first | k_is | rfl)
    (case n_dict => first | k_is | rfl)
    (case n_enumerate => first | k_is | rfl)
    (case n_int => first | k_is | rfl)
    (case n_isinstance => first | k_is | rfl)
    (case n_len => first | k_is | rfl)
    (case n_list => first | k_is | rfl)
    (case n_range => first | k_is | rfl)
    (case n_set => first | k_is | rfl)
    (case n_str => first | k_is | rfl)
    (case n_tuple => first | k_is | rfl)
    (case n_zip => first | k_is | rfl)
    (case g_gcd => first | k_is | rfl)
#print axioms PySem.Challenge.cw_rimohms_k17_stars_holds
